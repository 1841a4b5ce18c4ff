/-
  DiskReads returns true for every row of calls, and leaves them as they were: without crashes a sector has what was written to it last, flushed or not.
  No condition but the reach of the statement's form (a slice that is read takes fewer than 2^47 bytes).
-/
import Derived.Test.YtbfgnjkkelknmaaLift
import Derived.Test.YtbfgnjkkelknmaaFlat
namespace Go.Proofs.Ytbfgnjkkelknmaa
open Go.RowKit Go.Lib

theorem Live.other {w0 w w' : World} {g : Nat} {F F2 : Nat → Prop} {s : DS} (h : Live w0 w g F2 s) (hc : Chg F w w') (hd : ∀ k, F2 k → ¬ F k) (lo : ∀ k, F k → w0.heap.size ≤ k) : Live w0 w' g F2 s :=
  ⟨h.d.chg hc hd, h.lo, h.b.trans (hc.below lo h.b.size)⟩
theorem dis_l {w w' : World} {F F2 : Nat → Prop} (hd : ∀ k, F2 k → ¬ F k) (hf : ∀ k, F2 k → k < w.heap.size) : ∀ k, F2 k → ¬ Ext F w w' k := fun k h2 h => h.elim (hd k h2) fun h => by have := hf k h2; omega
theorem dis_r {w w' : World} {F F2 : Nat → Prop} (hd : ∀ k, F2 k → ¬ F k) (hf : ∀ k, F k → k < w.heap.size) : ∀ k, Ext F2 w w' k → ¬ F k := fun k h2 h => h2.elim (fun h2 => hd k h2 h) fun h2 => by have := hf k h; omega
theorem try_ok {s : DS} {k : Int} {b : List Int} (h : (0 ≤ k ∧ k < s.last.length) ∧ b.length = 64) : s.tryWrite k b = (0, s.write k.toNat b) := by unfold DS.tryWrite; rw [if_pos h.1, if_pos h.2]
theorem try_no {s : DS} {k : Int} {b : List Int} (h : ¬ ((0 ≤ k ∧ k < s.last.length) ∧ b.length = 64)) : ∃ e, s.tryWrite k b = (e, s) ∧ (e == 0) = false ∧ ¬ e = 0 := by
  unfold DS.tryWrite
  by_cases h1 : 0 ≤ k ∧ k < s.last.length
  · rw [if_pos h1, if_neg fun h2 => h ⟨h1, h2⟩]; exact ⟨41, rfl, rfl, by omega⟩
  · rw [if_neg h1]; exact ⟨40, rfl, rfl, by omega⟩
theorem write_ok {w : World} {g : Nat} {F : Nat → Prop} {s : DS} (h : DiskAt w g F s) (k : Int) (A : Option Addr) (n c : Nat) (b : List Int) (hr : Rd w w.heap.size A n (cells b)) (few : s.wr.length < 1000000) (hok : (0 ≤ k ∧ k < s.last.length) ∧ b.length = 64) :
    Calls Try.prog 19 #[.pointer (some ⟨g, 0, none⟩), .int .i64 k, .slice A n c] w fun e w' => e = .returned (.int .i64 0) ∧ DiskAt w' g (Ext F w w') (s.write k.toNat b) ∧ Chg F w w' :=
  (write_any h k A n c b hr few).mono fun e w' ⟨h1, h2, h3⟩ => by rw [try_ok hok] at h1 h2; exact ⟨h1, h2, h3⟩
theorem write_bad {w : World} {g : Nat} {F : Nat → Prop} {s : DS} (h : DiskAt w g F s) (k : Int) (A : Option Addr) (n c : Nat) (b : List Int) (hr : Rd w w.heap.size A n (cells b)) (few : s.wr.length < 1000000) (hno : ¬ ((0 ≤ k ∧ k < s.last.length) ∧ b.length = 64)) :
    Calls Try.prog 19 #[.pointer (some ⟨g, 0, none⟩), .int .i64 k, .slice A n c] w fun e w' => ∃ q : Int, e = .returned (.int .i64 q) ∧ (q == 0) = false ∧ ¬ q = 0 ∧ DiskAt w' g (Ext F w w') s ∧ Chg F w w' := by
  obtain ⟨q, h1, h2, h3⟩ := try_no hno
  exact (write_any h k A n c b hr few).mono fun e w' ⟨h4, h5, h6⟩ => by rw [h1] at h4 h5; exact ⟨q, h4, h2, h3, h5, h6⟩

theorem read_write (s : DS) (m : Nat) (b : List Int) (q : Nat) : (s.write m b).read q = if m = q then b else s.read q := by
  unfold DS.read DS.write
  simp only [lastWr_snoc]
  split <;> rfl
theorem read_flush (s : DS) {q : Nat} (hq : q < s.last.length) : s.flush.read q = s.read q := by
  have h1 : s.flush.read q = s.flush.last.getD q [] := rfl
  rw [h1]
  exact (read_lay s.last s.wr hq).symm

/-- one call on the disk; the last call that wrote each sector -/
def stepR (s : DS) (x : Cl) : DS := if x.what = 1 then (s.tryWrite x.at' x.data).2 else if x.what = 2 then s.flush else s
def hit (s : DS) (x : Cl) : Prop := x.what = 1 ∧ (0 ≤ x.at' ∧ x.at' < s.last.length) ∧ x.data.length = 64
/-- f tells, for each sector, the slice of the last call that wrote it -/
def Tells (cl : List Cl) (s : DS) (f : Int → Option Value) : Prop :=
  s.last.length = 6 ∧ ∀ q : Nat, q < 6 → (f q = none ∧ s.read q = List.replicate 64 0) ∨ ∃ x ∈ cl, f q = some (.slice x.A x.n x.c) ∧ s.read q = x.data
theorem Tells.flush {cl : List Cl} {s : DS} {f : Int → Option Value} (h : Tells cl s f) : Tells cl s.flush f := by
  refine ⟨?_, fun q hq => ?_⟩
  · show (lay s.last s.wr).length = 6
    rw [lay_len]; exact h.1
  · rw [read_flush s (by rw [h.1]; exact hq)]; exact h.2 q hq
theorem Tells.write {cl : List Cl} {s : DS} {f : Int → Option Value} (h : Tells cl s f) {x : Cl} (hx : x ∈ cl) (m : Nat) (hm : x.at' = m) : Tells cl (s.write m x.data) (fun q => if q = x.at' then some (.slice x.A x.n x.c) else f q) := by
  refine ⟨h.1, fun q hq => ?_⟩
  rw [read_write]
  by_cases hqm : m = q
  · subst hqm
    exact .inr ⟨x, hx, if_pos hm.symm, by rw [if_pos rfl]⟩
  · have e : (fun q => if q = x.at' then some (.slice x.A x.n x.c) else f q) (q : Int) = f q := if_neg (by omega)
    rw [if_neg hqm, e]
    exact h.2 q hq
theorem Tells.more {cl cl' : List Cl} {s : DS} {f : Int → Option Value} (h : Tells cl s f) (hs : ∀ x ∈ cl, x ∈ cl') : Tells cl' s f :=
  ⟨h.1, fun q hq => (h.2 q hq).imp id fun ⟨x, hx, h2⟩ => ⟨x, hs x hx, h2⟩⟩
theorem zero33 (w : World) : (zeroValue 33).run Try.prog w = .ok (.slice none 0 0) w := by kernel_rfl

def RdRel (w0 : World) (g gm : Nat) (cl : List Cl) (i : Value) (wr : World) : Prop :=
  ∃ (k n : Nat) (F : Nat → Prop) (s : DS) (f : Int → Option Value), k ≤ cl.length ∧ i = .int .i64 k ∧ Live w0 wr g F s ∧ IMap Try.prog 3 wr gm n f ∧ n ≤ k ∧ s.wr.length ≤ k ∧ Tells cl s f ∧ ¬ F gm ∧ w0.heap.size ≤ gm
def RdRel2 (w0 : World) (g gm n : Nat) (F : Nat → Prop) (s : DS) (f : Int → Option Value) (i : Value) (wr : World) : Prop :=
  ∃ k : Nat, k ≤ 6 ∧ i = .int .i64 k ∧ Live w0 wr g F s ∧ IMap Try.prog 3 wr gm n f
theorem IMap.below {P : Program} {k : TypeId} {w w' : World} {b n : Nat} {f : Int → Option Value} (h : IMap P k w b n f) (hb : Below w.heap.size w w') : IMap P k w' b n f := h.keep (hb.block b h.lt)

set_option maxRecDepth 100000 in
set_option maxHeartbeats 6400000 in
theorem diskReads_walk (A : Option Addr) (c : Nat) (cl : List Cl) (w : World) (h : CallsIn w w.heap.size A cl) (_hlc : cl.length ≤ c) (hcm : c ≤ maxLen) :
    Calls Try.prog 8 #[.slice A cl.length c] w (YesBelow w) := by
  have HC := Lib.hid h
  clear h
  have hmm := @run_makeMap Try.prog
  go_enter Try.func8, Try.ntmps8
  go_wp2_with fail
  refine (alive_any w).mono ?_
  rintro e w1 ⟨rfl, h1⟩
  have HA := Lib.hid h1
  clear h1
  go_wp2_with fail
  refine (great_any A c cl w1 _ (HC.out.below HA.out (Nat.le_refl _)) (by omega)).mono ?_
  rintro e w1' ⟨rfl, hgr⟩
  rcases hgr with rfl | ⟨rfl, h200, h20⟩
  · go_wp2
    go_ret
    exact ⟨rfl, HA.out⟩
  · go_wp2_with fail
    refine (new_any w1 6 (by omega) (by omega)).mono ?_
    rintro e w2 ⟨g, rfl, hd, hb⟩
    have H2 := Lib.hid (Live.new HA.out hd hb)
    clear hd hb
    go_wp2_with fail
    go_loopw [6] (fun i wr => RdRel w g w2.heap.size cl i wr) (fun i _ => cl.length - (intOf i).toNat)
    case atStart =>
      have hl := H2.out.below ((Below.refl _ _).alloc (Nat.le_refl _) (.map #[] 0))
      refine ⟨0, 0, _, _, fun _ => none, by omega, rfl, hl, IMap.made w2, by omega, by simp, ⟨by simp [secs_len], fun q hq => .inl ⟨rfl, ?_⟩⟩, ?_, H2.out.b.size⟩
      · rw [show (DS.mk (secs [] 6) []).read q = (secs [] 6).getD q [] from rfl, secs_nil, getD_lt (by rw [List.length_replicate]; exact hq), List.getElem_replicate]
      · intro hF
        have := H2.out.d.foot _ hF
        omega
    case round =>
      obtain ⟨k, n, F, s, f, hk, rfl, hlive, him, hnk, hsk, htl, hap, hgm⟩ := hrel
      clear hmm
      by_cases hlt : k < cl.length
      · have hci := HC.out.below hlive.b (Nat.le_refl _)
        obtain ⟨ad, rfl, _, c0, c1, c2, c3⟩ := hci.at_ hlt
        have hn := HC.out.num cl[k] (List.getElem_mem hlt)
        obtain ⟨x, hx⟩ : ∃ x, x = cl[k]'hlt := ⟨_, rfl⟩
        rw [← hx] at c0 c1 c2 c3 hn
        have hk0 : (0 : Int) ≤ (k : Int) := Int.natCast_nonneg _
        have hk1 : (k : Int) < (cl.length : Int) := by omega
        have HX := Lib.hid (And.intro hx (And.intro hlive (And.intro him (And.intro hap (And.intro (hci.rd x (by rw [hx]; exact List.getElem_mem hlt)) (And.intro htl hn))))))
        have hgl := him.lt
        clear hx hlive him hap hn hci htl
        have live' := HX.out.2.1.below ((Below.refl wr.heap.size wr).alloc (Nat.le_refl _) (.cells #[.int .i64 x.what, .int .i64 x.at', .int .i64 x.torn, .slice x.A x.n x.c] 35))
        have im' := HX.out.2.2.1.below ((Below.refl wr.heap.size wr).alloc (Nat.le_refl _) (.cells #[.int .i64 x.what, .int .i64 x.at', .int .i64 x.torn, .slice x.A x.n x.c] 35))
        have HY := Lib.hid (And.intro live' (And.intro im' (Blk.new wr 35 #[.int .i64 x.what, .int .i64 x.at', .int .i64 x.torn, .slice x.A x.n x.c])))
        have hFb : ∀ q, F q → q < wr.heap.size := HX.out.2.1.d.foot
        have HFB := Lib.hid hFb
        clear live' im' hFb
        by_cases hw : x.what = 1
        · rw [hw] at c0 HY
          by_cases hok : (0 ≤ x.at' ∧ x.at' < s.last.length) ∧ x.data.length = 64
          · have HOK := Lib.hid (And.intro hok hw)
            clear hok hw
            have hrd : Rd (wr.alloc (.cells #[.int .i64 1, .int .i64 x.at', .int .i64 x.torn, .slice x.A x.n x.c] 35)) (wr.alloc (.cells #[.int .i64 1, .int .i64 x.at', .int .i64 x.torn, .slice x.A x.n x.c] 35)).heap.size x.A x.n (cells x.data) :=
              (HX.out.2.2.2.2.1.alloc HX.out.2.1.b.size _).more (by have := HX.out.2.1.b.size; simp; omega)
            have HRD := Lib.hid hrd
            clear hrd
            go_wp2_with fail
            refine (write_ok HY.out.1.d x.at' x.A x.n x.c x.data HRD.out (by omega) HOK.out.1).mono ?_
            rintro e w4 ⟨rfl, hd4, hc4⟩
            have b4 : Blk w4 wr.heap.size 35 #[.int .i64 1, .int .i64 x.at', .int .i64 x.torn, .slice x.A x.n x.c] := HY.out.2.2.chg hc4 (fun h => by have := HFB.out _ h; omega)
            have d0 := b4.cell 0
            have d1 := b4.cell 1
            have d3 := b4.cell 3
            simp only [List.getElem?_toArray, List.getElem?_cons_zero, List.getElem?_cons_succ] at d0 d1 d3
            have im4 := HY.out.2.1.chg hc4 HX.out.2.2.2.1
            have H4 := Lib.hid (And.intro im4 (And.intro b4 (And.intro (HY.out.1.step hd4 hc4) (show ¬ Ext F (wr.alloc (.cells #[.int .i64 1, .int .i64 x.at', .int .i64 x.torn, .slice x.A x.n x.c] 35)) w4 w2.heap.size from fun h => h.elim HX.out.2.2.2.1 fun h => by have := h.1; simp at this; omega))))
            clear im4 b4 hd4 hc4 HRD c0 c1 c2 c3
            go_wp2_with (refine wpList_store_imap rfl (.tmp 50) (.tmp 52) (.tmp 54) rfl Try.underlying3 Try.underlying52 rfl H4.out.1 ?m1 x.at' rfl ?m2 _ rfl ?_)
            case m1 => simp [maxLen]; omega
            case m2 => exact WalkArith.wf_i64 (by have := HX.out.2.2.2.2.2.2; omega)
            intro w5 im5 ch5 hs5
            have b5 : Blk w5 wr.heap.size 35 #[.int .i64 1, .int .i64 x.at', .int .i64 x.torn, .slice x.A x.n x.c] := H4.out.2.1.chg ch5 (fun h => by omega)
            have e0 := b5.cell 0
            simp only [List.getElem?_toArray, List.getElem?_cons_zero] at e0
            have HL : Hid (RdRel w g w2.heap.size cl (.int .i64 ((k : Int) + 1)) w5) := by
              obtain ⟨m, hm⟩ : ∃ m : Nat, x.at' = m := ⟨x.at'.toNat, by have := HOK.out.1.1.1; omega⟩
              have hmt : x.at'.toNat = m := by omega
              refine Lib.hid ⟨k + 1, n + 1, _, s.write m x.data, _, by omega, by go_num, (hmt ▸ H4.out.2.2.1).other ch5 (fun q h e => H4.out.2.2.2 (e ▸ h)) (fun q e => by subst e; exact hgm), im5, by omega, by simp [DS.write]; omega,
                HX.out.2.2.2.2.2.1.write (by rw [HX.out.1]; exact List.getElem_mem _) m hm, H4.out.2.2.2, hgm⟩
            clear im5 ch5 hs5 b5 d0 d1 d3
            go_wp2
            go_roundw
            case rel => exact HL.out
            case measure => simp [intOf]; omega
          · have HOK := Lib.hid (And.intro hok hw)
            clear hok hw
            have hrd : Rd (wr.alloc (.cells #[.int .i64 1, .int .i64 x.at', .int .i64 x.torn, .slice x.A x.n x.c] 35)) (wr.alloc (.cells #[.int .i64 1, .int .i64 x.at', .int .i64 x.torn, .slice x.A x.n x.c] 35)).heap.size x.A x.n (cells x.data) :=
              (HX.out.2.2.2.2.1.alloc HX.out.2.1.b.size _).more (by have := HX.out.2.1.b.size; simp; omega)
            have HRD := Lib.hid hrd
            clear hrd
            go_wp2_with fail
            refine (write_bad HY.out.1.d x.at' x.A x.n x.c x.data HRD.out (by omega) HOK.out.1).mono ?_
            rintro e w4 ⟨q4, rfl, hq4, hq5, hd4, hc4⟩
            have b4 : Blk w4 wr.heap.size 35 #[.int .i64 1, .int .i64 x.at', .int .i64 x.torn, .slice x.A x.n x.c] := HY.out.2.2.chg hc4 (fun h => by have := HFB.out _ h; omega)
            have d0 := b4.cell 0
            simp only [List.getElem?_toArray, List.getElem?_cons_zero] at d0
            have HL : Hid (RdRel w g w2.heap.size cl (.int .i64 ((k : Int) + 1)) w4) := by
              refine Lib.hid ⟨k + 1, n, _, s, f, by omega, by go_num, HY.out.1.step hd4 hc4, HY.out.2.1.chg hc4 HX.out.2.2.2.1, by omega, by omega, HX.out.2.2.2.2.2.1, fun h => h.elim HX.out.2.2.2.1 fun h => by have := h.1; simp at this; omega, hgm⟩
            clear b4 hd4 hc4 HRD c0 c1 c2 c3
            go_wp2
            go_roundw
            case rel => exact HL.out
            case measure => simp [intOf]; omega
        · by_cases hw2 : x.what = 2
          · rw [hw2] at c0 HY
            have HW := Lib.hid (And.intro hw hw2)
            clear hw hw2
            go_wp2_with fail
            refine (flush_any HY.out.1.d).mono ?_
            rintro e w4 ⟨rfl, hd4, hc4⟩
            have HL : Hid (RdRel w g w2.heap.size cl (.int .i64 ((k : Int) + 1)) w4) := by
              refine Lib.hid ⟨k + 1, n, _, s.flush, f, by omega, by go_num, HY.out.1.step hd4 hc4, HY.out.2.1.chg hc4 HX.out.2.2.2.1, by omega, by simp [DS.flush], HX.out.2.2.2.2.2.1.flush, fun h => h.elim HX.out.2.2.2.1 fun h => by have := h.1; simp at this; omega, hgm⟩
            clear hd4 hc4
            go_wp2
            go_roundw
            case rel => exact HL.out
            case measure => simp [intOf]; omega
          · have HL : Hid (RdRel w g w2.heap.size cl (.int .i64 ((k : Int) + 1)) (wr.alloc (.cells #[.int .i64 x.what, .int .i64 x.at', .int .i64 x.torn, .slice x.A x.n x.c] 35))) := by
              refine Lib.hid ⟨k + 1, n, F, s, f, by omega, by go_num, HY.out.1, HY.out.2.1, by omega, by omega, HX.out.2.2.2.2.2.1, HX.out.2.2.2.1, hgm⟩
            go_wp2
            go_roundw
            case rel => exact HL.out
            case measure => simp [intOf]; omega
      · have hkn : k = cl.length := by omega
        have HX := Lib.hid (And.intro hlive (And.intro him (And.intro hap htl)))
        have hmk := make64
        have hz33 := zero33
        clear hlive him hap htl H2 hkn
        go_wp2_with fail
        go_loopw [8] (fun i wr => RdRel2 w g w2.heap.size n F s f i wr) (fun i _ => (6 - intOf i).toNat)
        case atStart => exact ⟨0, by omega, rfl, HX.out.1, HX.out.2.1⟩
        case round =>
          obtain ⟨k', hk', rfl, hlive, him⟩ := hrel
          by_cases hlt' : k' < 6
          · have hk0 : (0 : Int) ≤ (k' : Int) := Int.natCast_nonneg _
            have hk1 : (k' : Int) < 6 := by omega
            have hs6 := HX.out.2.2.2.1
            have htells := HX.out.2.2.2.2 k' hlt'
            have HH := Lib.hid (And.intro hlive (And.intro him (And.intro htells hs6)))
            have H64 := Lib.hid (hlive.d.ok.read_len (k := k') (by rw [hs6]; exact hlt'))
            clear hlive him htells hs6 hmk hz33
            go_wp2_with fail
            refine (read_any HH.out.1.d k' (by rw [HH.out.2.2.2]; exact hlt')).mono ?_
            rintro e w5 ⟨g5, rfl, hb5, hg5, hl5⟩
            have im5 := HH.out.2.1.below hl5
            have hlk := im5.look Try.underlying3 Try.underlying52 (zero33 w5) (k' : Int) (WalkArith.wf_i64 (by omega))
            have H5 := Lib.hid (And.intro hb5 (And.intro (HH.out.1.below hl5) im5))
            clear hb5 hg5 hl5 im5
            rcases HH.out.2.2.1 with ⟨hf, hrd⟩ | ⟨x, hx, hf, hrd⟩
            · rw [hf] at hlk
              simp only [Option.getD_none, Option.isSome_none] at hlk
              have HR := Lib.hid hrd
              clear hf hrd
              have hmk := make64
              go_wp2_with fail
              have hbb : Blk (w5.alloc (.cells zarr 5)) w5.heap.size 5 (cells (s.read k')).toArray := by
                rw [HR.out, show (cells (List.replicate 64 0)).toArray = zarr from by unfold zarr zeros64 cells; rw [List.map_replicate]]
                exact Blk.new _ _ _
              have hbb5 : Blk (w5.alloc (.cells zarr 5)) g5 5 (cells (s.read k')).toArray := H5.out.1.alloc _
              refine (sameBytes_below _ _ _ _ _ (s.read k') _ _ _ (hbb5.rd (by rw [cells_len]; exact H64.out)) (hbb.rd (by rw [cells_len]; exact H64.out)) (by omega)).mono ?_
              rintro e w6 ⟨rfl, h6⟩
              have hbel : Below w5.heap.size w5 w6 := ((Below.refl _ _).alloc (Nat.le_refl _) _).trans (h6.mono (by simp))
              have HL : Hid (RdRel2 w g w2.heap.size n F s f (.int .i64 ((k' : Int) + 1)) w6) := Lib.hid ⟨k' + 1, by omega, by go_num, H5.out.2.1.below hbel, H5.out.2.2.below hbel⟩
              clear hbb hbb5 h6 hbel hlk hmk
              go_wp2
              go_roundw
              case rel => exact HL.out
              case measure => simp [intOf]; omega
            · rw [hf] at hlk
              simp only [Option.getD_some, Option.isSome_some] at hlk
              have HR := Lib.hid (And.intro hrd (And.intro hx ((HC.out.rd x hx).below H5.out.2.1.b (Nat.le_refl _))))
              have hxn : x.n = 64 := by
                have h1 := (HC.out.rd x hx).len
                rw [cells_len, ← hrd, H64.out] at h1
                exact h1.symm
              rw [hxn] at hlk
              have HN := Lib.hid hxn
              clear hf hrd hx hxn
              go_wp2_with fail
              refine (sameBytes_below _ _ _ _ _ (s.read k') _ _ _ (H5.out.1.rd (by rw [cells_len]; exact H64.out)) (by have h2 := HR.out.2.2; rw [← HR.out.1, HN.out] at h2; exact h2) (by omega)).mono ?_
              rintro e w6 ⟨rfl, h6⟩
              have HL : Hid (RdRel2 w g w2.heap.size n F s f (.int .i64 ((k' : Int) + 1)) w6) := Lib.hid ⟨k' + 1, by omega, by go_num, H5.out.2.1.below h6, H5.out.2.2.below h6⟩
              clear h6 hlk
              go_wp2
              go_roundw
              case rel => exact HL.out
              case measure => simp [intOf]; omega
          · have HE := Lib.hid hlive.b
            clear hlive him
            go_wp2
            go_ret
            exact ⟨rfl, HE.out⟩

section
open Go.ChangeShapes Go.WideShapes Go.ChangeAt
open Go.ChangeMaps (open_string shut_string)
set_option linter.unusedVariables false
set_option maxRecDepth 100000 in
theorem diskReads_lifted (os : Os) (started : os.Started) (H : Type) (enc : TypeId × Value → H) :
    ReturnsInHanded {} Try.checked os 8 .any (Rows.diskReadsSpec.pre6 enc Try.prog Try.f8 Rows.diskReadsRow.domain false) (Rows.diskReadsSpec.post enc Try.prog Try.f8 false true false false) := by
  refine returnsInHanded_of_change_sized (C := Try.checked) own started (by kernel_rfl) Try.func8
    (ChangeSpec.witness6 (enc := enc) (C := Try.checked) false ⟨#[], #[.slice none 0 0], []⟩ 8 (by kernel_rfl) (by kernel_rfl) (by kernel_rfl) (by kernel_rfl)) ?_
  intro W base args ds gs before hval0 hW hcnd hsz _
  have hval : ∀ (j : Nat) t v, Try.f8.params[j]? = some t → args[j]? = some v → Value.okWide Try.prog W .any base t v := hval0
  have hW' := hW
  obtain ⟨p, q, hA0, hV, rfl, hfz, hnd⟩ := hW
  have hA : DataW.TrodAll enc Try.prog W 0 (fun _ => true) true Try.f8.params.toList args.toList ds p := hA0
  rw [Try.params8] at hA hval
  obtain ⟨v0, vs0, d0, ds0, p0, q0, hargs, rfl, rfl, h0, r0⟩ := trodAll_cons hA
  obtain ⟨rfl, rfl, rfl⟩ := trodAll_nil r0
  obtain rfl : args = #[v0] := by cases args; simp_all
  obtain ⟨rfl, rfl⟩ := trodVars_none hV
  have k0 := h0
  have lt0 : ∀ x ∈ p0, x.block < W.heap.size := by obtain ⟨m, hm⟩ := k0; exact DataW.trod_lt m _ _ _ hm
  obtain ⟨a0, len0, cap0, rfl⟩ := okWide_slice Try.underlying22 (hval 0 22 v0 rfl rfl)
  obtain ⟨z0, rfl, l0, m0, o0, q0x, r0x⟩ := rd_of_calls Try.underlying22 Try.underlying35 (by kernel_rfl) ⟨rfl, by kernel_rfl, Try.underlying3⟩ ⟨rfl, by kernel_rfl, Try.underlying3⟩ ⟨rfl, by kernel_rfl, Try.underlying3⟩ ⟨rfl, by kernel_rfl, Try.underlying33⟩ Try.underlying5 (by kernel_rfl) (by kernel_rfl) h0
  have c0x := CallsIn.of o0 q0x r0x (fun y hy => by have := List.all_eq_true.1 hsz _ (DataW.weights_mem_each (j := 0) (t := 22) rfl rfl y hy); simpa using this)
  clear hA0 hval0
  refine (diskReads_walk a0 cap0 z0 W c0x l0 m0).mono fun e W' ⟨he, bel⟩ => ?_
  subst he
  exact ⟨_, rfl, _, _, _, [], _, [], hW', trodAll_mk1 (shut_bool Try.underlying4 _), (trodAll_cons_mk (Below.trod laidOut (by kernel_rfl) (of_decide_eq_true (by kernel_rfl)) k0 bel lt0) trodAll_mk0), rfl, bel.frame _, fun h => by cases h⟩

theorem diskReads_over : Rows.diskReadsRow.holds Try.pinned (OpenSpec.ofChange Rows.diskReadsSpec) :=
  OpenClaim.holds_of_wide 8 Try.f8 rfl rfl rfl rfl rfl rfl rfl ⟨rfl, rfl, rfl, rfl, rfl⟩ rfl rfl rfl rfl rfl (by kernel_rfl) Try.func8 (by kernel_rfl)
    (of_decide_eq_true (by kernel_rfl)) (by unfold Func.isWrapper; first | (rw [if_pos (by decide +kernel)]; kernel_rfl) | (rw [if_neg (by decide +kernel)]; exact ⟨rfl, rfl⟩))
    (fun os started H enc _ => diskReads_lifted os started H enc)

theorem diskReads_holds : Rows.DiskReadsSaid := diskReads_over
end
#print axioms diskReads_holds
end Go.Proofs.Ytbfgnjkkelknmaa
