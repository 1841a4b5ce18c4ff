/-
  The contracts of Append.
-/
import Derived.Test.YtehghjakggdnpaaWPutR
import Derived.StillTailTactics
namespace Go.Proofs.Ytehghjakggdnpaa
open Go.RowKit Go.Lib

theorem pcs_secs (n : Nat) : pcs (2 + n) = secsOf n := by unfold pcs secsOf; omega

section
variable {w : World} {g l : Nat} {F : Nat → Prop} {s : DS} {gen area next : Int} {u : Nat}

theorem put_at (x : Int) (sec : Nat) (hxs : x = (sec : Int)) {used : Int} (h : DiskAt w g F s) (hl : LogAt w l g gen area used next) (hn : ¬ F l) (A : Option Addr) (n c : Nat) (r : List Int) (hr : Rd w w.heap.size A n (cells r)) (hn4 : n ≤ 4096)
    (hx : 0 ≤ next ∧ next + 100 < 4294967296) (hs : sec + pcs (2 + n) ≤ s.last.length) (few : s.wr.length + 100 < 1000000) :
    Calls Try.prog 46 #[.pointer (some ⟨l, 0, none⟩), .int .i64 x, .slice A n c] w fun e w' => e = .returned (.int .i64 (sec + pcs (2 + n) : Nat)) ∧
      DiskAt w' g (Ext F w w') ⟨s.last, s.wr ++ putWs (recBody r) sec next (List.range (pcs (2 + n)))⟩ ∧ LogAt w' l g gen area used (next + (pcs (2 + n) : Nat)) ∧ Chg (FL F l) w w' := by
  subst hxs
  exact put_any h hl hn sec A n c r hr hn4 hx hs few

set_option maxRecDepth 100000 in
theorem append_range (A : Option Addr) (n c : Nat) (hn : 4096 < n) :
    Calls Try.prog 15 #[.pointer (some ⟨l, 0, none⟩), .slice A n c] w fun e w' => e = .returned (.int .i64 41) ∧ w = w' := by
  have hi : (4096 : Int) < (n : Int) := by omega
  go_enter Try.func15, Try.ntmps15
  go_wp2
  go_ret
  exact ⟨rfl, rfl⟩

/-- what is there is not enough -/
def isFull (s : DS) (u n : Nat) (next : Int) : Prop := s.half - u < secsOf n ∨ 2147483648 < next + (secsOf n : Nat)

set_option maxRecDepth 100000 in
theorem append_full (h : DiskAt w g F s) (hl : LogAt w l g gen area u next) (h2 : 2 ≤ s.last.length) (hu : u ≤ s.half) (hx : 0 ≤ next ∧ next ≤ 4294967296) (A : Option Addr) (n c : Nat) (hn : n ≤ 4096) (hf : isFull s u n next) :
    Calls Try.prog 15 #[.pointer (some ⟨l, 0, none⟩), .slice A n c] w (Quiet (.int .i64 36) w) := by
  have hh := h.half_le
  obtain ⟨rm, hrm⟩ : ∃ rm, rm = s.half - u := ⟨_, rfl⟩
  have hur : u + rm = s.half := by omega
  obtain ⟨need, hne⟩ : ∃ need, need = secsOf n := ⟨_, rfl⟩
  unfold isFull at hf
  rw [← hrm, ← hne] at hf
  have hneb : 1 ≤ need ∧ need ≤ 74 := by rw [hne]; unfold secsOf; omega
  have H := Lib.hid (And.intro h (And.intro hl (And.intro hur hne)))
  clear h hl hur hrm hne
  go_enter Try.func15, Try.ntmps15
  go_wp2_with fail
  refine (sectorsOf_any n (by omega) _).mono ?_
  rw [show (n + 57) / 56 = need from H.out.2.2.2.symm]
  rintro e w1 ⟨rfl, rfl⟩
  go_wp2_with fail
  refine (room_r rm H.out.1 H.out.2.1 h2 H.out.2.2.1).mono ?_
  rintro e w2 ⟨rfl, p, rfl⟩
  by_cases g1 : rm < need
  · go_wp2
    go_ret
    exact ⟨rfl, _, rfl⟩
  · have hst : hasSt next need = false := by
      unfold hasSt
      rw [decide_eq_false (by omega), decide_eq_false (by omega)]
      rfl
    go_wp2_with fail
    refine (hasStamps_any (hl := by exact H.out.2.1) need (by omega) ⟨by omega, by omega⟩).mono ?_
    rw [hst]
    rintro e w3 ⟨rfl, rfl⟩
    go_wp2
    go_ret
    exact ⟨rfl, _, rfl⟩

/-- a record more -/
def appS (s : DS) (area : Int) (u : Nat) (next : Int) (r : List Int) : DS := ⟨s.last, s.wr ++ putWs (recBody r) (2 + area.toNat * s.half + u) next (List.range (secsOf r.length))⟩

set_option maxRecDepth 100000 in
set_option maxHeartbeats 1600000 in
theorem append_ok (h : DiskAt w g F s) (hl : LogAt w l g gen area u next) (hnf : ¬ F l) (h2 : 2 ≤ s.last.length) (ha : area = 0 ∨ area = 1) (hu : u ≤ s.half) (hx : 0 ≤ next ∧ next ≤ 4294967296) (A : Option Addr) (n c : Nat) (r : List Int) (hr : Rd w w.heap.size A n (cells r)) (hn : n ≤ 4096) (hf : ¬ isFull s u n next) (few : s.wr.length + 100 < 1000000) :
    Calls Try.prog 15 #[.pointer (some ⟨l, 0, none⟩), .slice A n c] w fun e w' => e = .returned (.int .i64 0) ∧ DiskAt w' g (Ext F w w') (appS s area u next r) ∧ LogAt w' l g gen area ((u + secsOf n : Nat) : Int) (next + (secsOf n : Nat)) ∧ Chg (FL F l) w w' := by
  have hh := h.half_le
  have hlw := hl.lt
  have hnl : r.length = n := by have := hr.len; rwa [cells_len] at this
  obtain ⟨rm, hrm⟩ : ∃ rm, rm = s.half - u := ⟨_, rfl⟩
  have hur : u + rm = s.half := by omega
  obtain ⟨need, hne⟩ : ∃ need, need = secsOf n := ⟨_, rfl⟩
  unfold isFull at hf
  rw [← hrm, ← hne] at hf
  have hneb : 1 ≤ need ∧ need ≤ 74 := by rw [hne]; unfold secsOf; omega
  obtain ⟨st, hst⟩ : ∃ st : Nat, st = 2 + area.toNat * s.half := ⟨_, rfl⟩
  have hsi : 2 + area * (s.half : Int) = (st : Int) := by
    rcases ha with rfl | rfl
    · simp at hst ⊢; omega
    · simp at hst ⊢; omega
  have hhl : 2 + 2 * s.half ≤ s.last.length := by unfold DS.half; omega
  have hstb : st + s.half ≤ s.last.length := by rcases ha with rfl | rfl <;> simp at hst <;> omega
  have happ : appS s area u next r = ⟨s.last, s.wr ++ putWs (recBody r) (st + u) next (List.range (pcs (2 + n)))⟩ := by
    unfold appS; rw [pcs_secs, hst, hnl]
  rw [happ]
  have hpn : pcs (2 + n) = need := by rw [pcs_secs, hne]
  rw [← hne]
  have hlen := h.ok.le
  have hs : st + u + pcs (2 + n) ≤ s.last.length := by omega
  obtain ⟨S', hS'⟩ : ∃ S' : DS, S' = ⟨s.last, s.wr ++ putWs (recBody r) (st + u) next (List.range (pcs (2 + n)))⟩ := ⟨_, rfl⟩
  rw [← hS']
  have H := Lib.hid (And.intro h (And.intro hl (And.intro hur (And.intro hne (And.intro hr (And.intro hsi (And.intro hS' (And.intro hpn hs))))))))
  obtain ⟨c0, c1, c2, c3, c4⟩ := hl.c
  clear h hl hur hrm hne hr happ hsi hst hS' hpn hs hnl
  go_enter Try.func15, Try.ntmps15
  go_wp2_with fail
  refine (sectorsOf_any n (by omega) _).mono ?_
  rw [show (n + 57) / 56 = need from H.out.2.2.2.1.symm]
  rintro e w1 ⟨rfl, rfl⟩
  go_wp2_with fail
  refine (room_r rm H.out.1 H.out.2.1 h2 H.out.2.2.1).mono ?_
  rintro e w2 ⟨rfl, p, rfl⟩
  have g1 : ¬ rm < need := by omega
  have hstt : hasSt next need = true := by
    unfold hasSt
    rw [decide_eq_true (show next + (need : Int) ≤ 2147483648 by omega), Bool.or_true]
  go_wp2_with fail
  refine (hasStamps_any (hl := by exact H.out.2.1) need (by omega) ⟨by omega, by omega⟩).mono ?_
  rw [hstt]
  rintro e w3 ⟨rfl, rfl⟩
  go_wp2_with fail
  obtain ⟨wq, hwq⟩ : ∃ wq, wq = w.drewN p := ⟨_, rfl⟩
  have hq : DiskAt wq g F s ∧ LogAt wq l g gen area u next ∧ Rd wq wq.heap.size A n (cells r) ∧ wq.heap.size = w.heap.size ∧ Chg Non w wq := by
    rw [hwq]; exact ⟨H.out.1, H.out.2.1, H.out.2.2.2.2.1, rfl, (Chg.refl _ _).drewN p⟩
  rw [← hwq]
  clear hwq c0 c1 c2 c3 c4
  obtain ⟨c0, c1, c2, c3, c4⟩ := hq.2.1.c
  have HQ := Lib.hid hq
  have hsc := start_any (w := wq.drew) (h := hq.1) (hl := hq.2.1) h2 area ha
  rw [H.out.2.2.2.2.2.1] at hsc
  have HS := Lib.hid hsc
  clear hq hsc
  go_still_tail 13, (by kernel_rfl)
  still_call (HS.out.mono fun e w' h => ⟨h.1, h.2.symm⟩)
  repeat still_step
  refine wpStill_nil ?_
  change wpList _ _ _ _ _ wq.drew
  go_wp2_with fail
  refine (put_at _ (st + u) (by omega) (h := by exact HQ.out.1) (hl := by exact HQ.out.2.1) hnf A n c r (by exact HQ.out.2.2.1) hn ⟨by omega, by omega⟩ H.out.2.2.2.2.2.2.2.2 few).mono ?_
  rintro e w5 ⟨rfl, hd5, hlg5, hc5⟩
  rw [← H.out.2.2.2.2.2.2.1] at hd5
  rw [H.out.2.2.2.2.2.2.2.1] at hlg5
  obtain ⟨d0, d1, d2, d3, d4⟩ := hlg5.c
  have f3 := hlg5.frozen 3
  have H5 := Lib.hid (And.intro hd5 (And.intro hlg5 (show Chg (FL F l) wq w5 from ⟨hc5.os, hc5.tape, hc5.output, hc5.size, hc5.block⟩)))
  have s5 : wq.heap.size ≤ w5.heap.size := hc5.size
  have hsq := HQ.out.2.2.2.1
  have HF : Hid (DiskAt (w5.setCell ⟨l, 3, none⟩ (.int .i64 ((u : Int) + (need : Int)))) g (Ext F w (w5.setCell ⟨l, 3, none⟩ (.int .i64 ((u : Int) + (need : Int))))) S' ∧ LogAt (w5.setCell ⟨l, 3, none⟩ (.int .i64 ((u : Int) + (need : Int)))) l g gen area ((u + need : Nat) : Int) (next + (need : Nat)) ∧ Chg (FL F l) w (w5.setCell ⟨l, 3, none⟩ (.int .i64 ((u : Int) + (need : Int))))) := by
    have sz : (w5.setCell ⟨l, 3, none⟩ (.int .i64 ((u : Int) + (need : Int)))).heap.size = w5.heap.size := by simp [World.setCell]
    have hne' : ∀ k, Ext F wq.drew w5 k → k ≠ l := by
      rintro k (h | h) e
      · exact hnf (e ▸ h)
      · have h1 : wq.heap.size ≤ k := h.1
        omega
    refine Lib.hid ⟨(H5.out.1.chg ((Chg.refl (fun k => k = l) w5).setCell (p := ⟨l, 3, none⟩) (fun _ => rfl) _) hne').ext (fun k hk => ?_) (fun k hk => ?_), ?_, ((HQ.out.2.2.2.2.mono fun k _ h => h.elim).trans H5.out.2.2).setCell (p := ⟨l, 3, none⟩) (fun _ => .inr rfl) _⟩
    · rcases hk with h | h
      · exact .inl h
      · have h1 : wq.heap.size ≤ k := h.1
        exact .inr ⟨by omega, by rw [sz]; exact h.2⟩
    · rcases hk with h | h
      · have := H.out.1.foot k h; omega
      · exact h.2
    · rw [show ((u + need : Nat) : Int) = (u : Int) + (need : Int) by omega]
      exact Blk.put H5.out.2.1 3 _
  clear hd5 hlg5 hc5
  go_wp2
  go_ret
  exact ⟨rfl, HF.out⟩
end
end Go.Proofs.Ytehghjakggdnpaa
