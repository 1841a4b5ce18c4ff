/-
  The queue's Pop; the queue keeps the contract of container/heap.
-/
import Derived.Test.YtcjhkafdfeopfaaQPush
import Derived.Test.YtcjhkafdfeopfaaHpF
namespace Go.Proofs.Ytcjhkafdfeopfaa
open Go.RowKit Go.Lib Go.Maps

section
variable {B tb mb n c : Nat} {D F : Nat → Prop} {w w' : World} {A : Option Addr} {f : Nat → Of}
theorem QX.pop (h : QX B D w tb mb A c (n + 1) f) {w5 w6 : World} (hR : RowTo B 50 1 (.slice A (n + 1) c) w (.slice A n c) n (ptrs n f) w5) (hw6 : w6 = w5.setCell ⟨tb, 0, none⟩ (.slice A n c)) : QX B D w6 tb mb A c n f ∧ Chg D w w6 := by
  have hbt5 : Blk w5 tb 49 #[.slice A (n + 1) c, .map (some mb)] := h.blk.chg hR.chg fun e => own_ne h.row h.blk (by decide) e
  have hc6 : Chg (fun q => q = tb) w5 w6 := by rw [hw6]; exact (Chg.refl (fun q => q = tb) w5).setCell (p := ⟨tb, 0, none⟩) (fun _ => rfl) _
  have hc : Chg D w w6 := (hR.chg.mono (G := D) fun k _ hk => h.rd k hk).trans' hc6 fun k _ e => e ▸ h.td
  refine ⟨⟨by rw [hw6]; exact hbt5.put 0 _, own_chg hR.own hc6 fun k hk e => own_ne hR.own hbt5 (by decide) (e ▸ hk), fun k hk => ?_, fun g hg => h.rd g (by cases A with | none => exact hg | some a => exact hg), fun k hk => h.od k (by omega), h.td, fun k hk => ⟨(h.foot k hk).1, Nat.lt_of_lt_of_le (h.foot k hk).2 hc.size⟩⟩, hc⟩
  exact ((h.one k (by omega)).chg hR.chg fun e => own_ne h.row (h.one k (by omega)) (by decide) e).chg hc6 (h.ne_tb (by omega))
set_option maxRecDepth 100000 in
set_option maxHeartbeats 12800000 in
theorem pop_any (h : QX B D w tb mb A c (n + 1) f) (hn : n < 999999) :
    Calls Try.prog 45 #[.pointer (some ⟨tb, 0, none⟩)] w fun e w' => e = .returned (.iface 50 (ptrT (f n).2)) ∧ QX B D w' tb mb A c n f ∧ Chg D w w' := by
  have c0 := h.cell0
  obtain ⟨g, rfl, hg, cn⟩ := h.at_ (k := n) (by omega)
  unfold ptrT at cn
  have hdel := qdel_any h.row (ptrs_one _ _) (i := n) (j := n + 1) (by omega) (Nat.le_refl _) (by omega)
  have e1 : n + 1 - (n + 1 - n) = n := by omega
  have e2 : (ptrs (n + 1) f).take (n * 1) ++ (ptrs (n + 1) f).drop ((n + 1) * 1) = ptrs n f := by
    rw [List.drop_eq_nil_of_le (by rw [ptrs_len]; omega), List.append_nil, Nat.mul_one, ptrs_succ]
    exact List.take_left' (ptrs_len n f)
  rw [e1, e2] at hdel
  obtain ⟨q, hq⟩ : ∃ q, q = n + 1 := ⟨_, rfl⟩
  have hqn : (q : Int) - 1 = (n : Int) := by omega
  have hqn1 : (n : Int) + 1 = (q : Int) := by omega
  have hn0 : (0 : Int) ≤ (n : Int) := Int.natCast_nonneg _
  have hq0 : (0 : Int) ≤ (q : Int) := Int.natCast_nonneg _
  have hqm : (q : Int) < 1000000 := by omega
  have hnq : (n : Int) < (q : Int) := by omega
  have hwn : wrap64 (n : Int) = (n : Int) := by unfold wrap64; omega
  have hwq : wrap64 (q : Int) = (q : Int) := by unfold wrap64; omega
  rw [← hq] at c0 hdel h
  obtain ⟨b, hb⟩ : ∃ b, b = (f n).2 := ⟨_, rfl⟩
  rw [← hb] at cn ⊢
  have H := Lib.hid (And.intro h hq)
  have HDL := Lib.hid hdel
  clear h hq hdel hg e1 e2 hb
  unfold ptrT
  go_enter Try.func45, Try.ntmps45
  go_wp2_with fail
  refine HDL.out.mono ?_
  rintro e w5 ⟨rfl, hR⟩
  have hbt5 : Blk w5 tb 49 #[.slice (some ⟨g, 0, none⟩) q c, .map (some mb)] := H.out.1.blk.chg hR.chg fun e => own_ne H.out.1.row H.out.1.blk (by decide) e
  have e5 : w5.cell? ⟨tb, 0, none⟩ = some (.slice (some ⟨g, 0, none⟩) q c) := hbt5.cell 0
  have f5 := hbt5.frozen 0
  have hh := H.out.1
  have HRR := hR
  rw [H.out.2] at hh HRR
  have hf := hh.pop HRR rfl
  have HF := Lib.hid hf
  clear hbt5 hR hh HRR hf
  go_wp2_with fail
  go_ret
  exact ⟨rfl, HF.out⟩
end
abbrev qS (B : Nat) (F : Nat → Prop) (w0 : World) (tb mb : Nat) (w : World) (n : Nat) (f : Nat → Of) : Prop := SQ B F w0 tb mb w n f ∧ n < 999999
/-- what is pushed: a timer of its own -/
def qPre (B : Nat) (F : Nat → Prop) (w0 : World) (tb mb : Nat) (w : World) (n : Nat) (f : Nat → Of) (v : Value) (x : Of) : Prop :=
  SQ B F w0 tb mb w n f ∧ n < 999998 ∧ v = .iface 50 (ptrT x.2) ∧ (∃ p0, Blk w x.2 53 #[.int .i64 x.1.i, .int .i64 x.1.t, p0]) ∧ Ext F w0 w x.2 ∧ ∀ k, k < n → (f k).2 ≠ x.2
section
variable {B tb mb n c : Nat} {D F : Nat → Prop} {w0 w w' : World} {A : Option Addr} {f : Nat → Of}
theorem Ext.turn (h : Chg F w0 w) (hc : Chg (Ext F w0 w) w w') (_ : ∀ k, w.heap.size ≤ k → k < w'.heap.size → w0.heap.size ≤ k) {k : Nat} (hk : Ext (Ext F w0 w) w w' k) : Ext F w0 w' k := by
  have h1 := h.size
  have h2 := hc.size
  rcases hk with (hk | hk) | hk
  · exact .inl hk
  · exact .inr ⟨hk.1, by omega⟩
  · exact .inr ⟨by omega, hk.2⟩
theorem SQ.turn {A' : Option Addr} {c' n' : Nat} {g : Nat → Of} (h : Chg F w0 w) (hq : QX B (Ext (Ext F w0 w) w w') w' tb mb A' c' n' g) (hc : Chg (Ext F w0 w) w w') : SQ B F w0 tb mb w' n' g := by
  have h1 := h.size
  have h2 := hc.size
  refine ⟨A', c', hq.more (fun k hk => Ext.turn h hc (fun k h3 _ => by omega) hk) fun k hk => ?_, h.ext hc⟩
  refine hq.foot k ?_
  rcases hk with hk | hk
  · exact .inl (.inl hk)
  · by_cases h3 : k < w.heap.size
    · exact .inl (.inr ⟨hk.1, h3⟩)
    · exact .inr ⟨by omega, hk.2⟩
theorem QX.ext (h : QX B D w' tb mb A c n f) (_ : ∀ k, D k → k < w.heap.size) (hB : B ≤ w.heap.size) : QX B (Ext D w w') w' tb mb A c n f :=
  h.more (fun _ hk => .inl hk) fun k hk => hk.elim (fun hk => h.foot k hk) fun hk => ⟨by omega, hk.2⟩
theorem heapJ (B : Nat) (F : Nat → Prop) (w0 : World) (tb mb : Nat) : HpJ 55 (.pointer (some ⟨tb, 0, none⟩)) ltF (qS B F w0 tb mb) (qPre B F w0 tb mb) (fun w n f _ _ => qS B F w0 tb mb w n f) where
  less := by
    rintro w n f i j ⟨⟨A, c, hq, hc⟩, hn⟩ hi hj
    exact ⟨_, _, meth_less hq.cell0, fun args _ => call_less args, (less_any hq hi hj (by omega)).mono fun e w' ⟨he, hb⟩ => ⟨he, SQ.below ⟨A, c, hq, hc⟩ hb, hn⟩⟩
  swap := by
    rintro w n f i j ⟨⟨A, c, hq, hc⟩, hn⟩ hi hj hij
    refine ⟨_, _, meth_swap hq.cell0, fun args _ => call_swap args, (swap_any hq hi hj hij (by omega)).mono fun e w' ⟨he, hb, hd⟩ => ⟨he, SQ.turn hc (hb.ext (fun k hk => (hq.foot k hk).2) ?_) hd, hn⟩⟩
    have := hq.foot tb hq.td
    omega
  len := by
    rintro w n f ⟨⟨A, c, hq, hc⟩, hn⟩
    exact ⟨_, _, meth_len hq.cell0, fun args _ => call_len args, (len_any A n c w).mono fun e w' ⟨he, hb⟩ => ⟨he, SQ.below ⟨A, c, hq, hc⟩ hb, hn⟩⟩
  push := by
    rintro w n f v x ⟨⟨A, c, hq, hc⟩, hn, rfl, ⟨p0, hb⟩, hx, hne⟩
    exact ⟨_, _, meth_push _, fun args _ => call_push args, (push_any hq (x := x.1) (b := x.2) hb hx hne (by omega)).mono fun e w' ⟨he, A', c', h1, h2⟩ => ⟨he, SQ.turn hc h1 h2, by omega⟩⟩
  pop := by
    rintro w n f ⟨⟨A, c, hq, hc⟩, hn⟩
    refine ⟨_, _, meth_pop _, fun args _ => call_pop args, (pop_any hq (by omega)).mono fun e w' ⟨he, h1, h2⟩ => ⟨_, he, SQ.turn hc (h1.ext (fun k hk => (hq.foot k hk).2) ?_) h2, by omega⟩⟩
    have := hq.foot tb hq.td
    omega
end
end Go.Proofs.Ytcjhkafdfeopfaa
