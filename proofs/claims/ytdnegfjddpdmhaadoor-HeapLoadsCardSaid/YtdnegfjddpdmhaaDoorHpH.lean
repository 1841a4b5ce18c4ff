/-
  The contracts of set, Put and Restore.
-/
import Derived.Test.YtdnegfjddpdmhaaDoorHpG
namespace Go.Proofs.YtdnegfjddpdmhaaDoor
open Go.RowKit Go.Lib

def ErrRet (B hb : Nat) (D : Nat → Prop) (w : World) (er : Int) (ps : Pgs) (e : Ending) (w' : World) : Prop := e = .returned (.int .i64 er) ∧ HpTo B hb D w ps w'
def setE (ps : Pgs) (p : Nat) (k : Int) (b : List Int) : Int := if (putS (pgAt ps p) k b).isSome then 0 else 36
section
variable (w : World) (B hb : Nat) (D : Nat → Prop) (ps : Pgs) (h : HpV B D w hb ps) (hfew : ps.length ≤ 256) (hB : B ≤ w.heap.size)
include h hfew hB
set_option maxRecDepth 100000 in
set_option maxHeartbeats 1600000 in
theorem hset_any (p : Nat) (hp : p ≤ 255) (k : Int) (A2 : Option Addr) (n2 c2 : Nat) (b : List Int) (hr : RdX D w A2 n2 (cells b)) (hb2 : IsBytes b) :
    Calls Tryd.prog 57 #[.pointer (some ⟨hb, 0, none⟩), .agg #[.int .i64 p, .int .i64 k], .slice A2 n2 c2] w (ErrRet B hb D w (setE ps p k b) (chgN ps p (putS (pgAt ps p) k b))) := by
  have hft : ∀ k, D k → B ≤ k ∧ k < w.heap.size := fun k hk => h.foot hk
  obtain ⟨w1, hw1⟩ : ∃ w1, w1 = (w.alloc (.cells #[.int .i64 (p : Int), .int .i64 k] 32)).alloc (.cells #[.slice A2 n2 c2] 33) := ⟨_, rfl⟩
  have k1 : Blk w1 w.heap.size 32 #[.int .i64 (p : Int), .int .i64 k] := by rw [hw1]; exact (Blk.new _ _ _).alloc _
  have k2 : Blk w1 (w.heap.size + 1) 33 #[.slice A2 n2 c2] := by
    rw [hw1]
    have h1 := Blk.new (w.alloc (.cells #[.int .i64 (p : Int), .int .i64 k] 32)) 33 #[.slice A2 n2 c2]
    rw [World.size_alloc] at h1
    exact h1
  have hl1 : Below w.heap.size w w1 := by rw [hw1]; exact ((Below.refl _ w).alloc (Nat.le_refl _) _).alloc (by simp) _
  have hs1 : w1.heap.size = w.heap.size + 2 := by rw [hw1]; simp
  have h1 := h.below hl1
  have hr1 := hr.below hl1
  have hd0 : ¬ D w.heap.size := fun he => by have := (hft _ he).2; omega
  have hd1 : ¬ D (w.heap.size + 1) := fun he => by have := (hft _ he).2; omega
  have HCH := Lib.hid (change_set w1 B hb D ps h1 hfew p hp (by omega) w.heap.size (w.heap.size + 1) Non (fun j hj => hj.elim) (fun _ => True) (fun _ _ _ h => h) (putS (pgAt ps p) k b)
    (fun w2 x hc2 hx hxs => by rw [← hxs]; exact mkSet_any w2 x hx _ _ (p : Int) k A2 n2 c2 b (k1.chg hc2 hd0) (k2.chg hc2 hd1) (hr1.chg hc2 hr1.off).rd hb2))
  have hc0 := k1.cell 0
  simp only [List.getElem?_toArray, List.getElem?_cons_zero] at hc0
  have H := Lib.hid (And.intro hft (And.intro hl1 hs1))
  have HW1 := Lib.hid hw1
  rw [hw1] at hc0
  clear h hr hb2 hft k1 k2 hl1 hs1 h1 hr1 hd0 hd1 hw1
  go_enter Tryd.func57, Tryd.ntmps57
  go_wp2_with fail
  rw [← HW1.out]
  refine HCH.out.mono ?_
  rintro e w2 ⟨rfl, hpv, hch, _⟩
  have hto : HpTo B hb D w (chgN ps p (putS (pgAt ps p) k b)) w2 := HpTo.of hpv hch H.out.2.1 hB H.out.1 (fun j hj => hj.elim .inl fun h => .inr (by have := H.out.2.2; omega)) (fun j _ hj => hj.elim id fun h => h.elim)
  have HF := Lib.hid hto
  clear hpv hch hto
  cases hs : (putS (pgAt ps p) k b).isSome with
  | true =>
    have HE := Lib.hid (show setE ps p k b = 0 by rw [setE, if_pos hs])
    clear hs
    go_wp2_with fail
    go_ret
    exact ⟨by rw [HE.out]; rfl, HF.out⟩
  | false =>
    have HE := Lib.hid (show setE ps p k b = 36 by rw [setE, if_neg (by rw [hs]; simp)])
    clear hs
    go_wp2_with fail
    go_ret
    exact ⟨by rw [HE.out]; rfl, HF.out⟩
end
/-- one step, then one that changes the heap -/
theorem HpTo.after {B hb : Nat} {D : Nat → Prop} {w w1 w' : World} {ps : Pgs} (h1 : Below w.heap.size w w1) (h : HpTo B hb D w1 ps w') (hB : B ≤ w.heap.size) (hD : ∀ k, D k → B ≤ k ∧ k < w.heap.size) : HpTo B hb D w ps w' :=
  HpTo.of h.1 h.2 h1 hB hD (fun k hk => hk.elim .inl fun hk => .inr (by have := h1.size; omega)) fun _ _ hk => hk
theorem HpTo.then {B hb : Nat} {D : Nat → Prop} {w w1 w' : World} {ps : Pgs} (h : HpTo B hb D w ps w1) (h1 : Below w1.heap.size w1 w') : HpTo B hb D w ps w' := by
  refine ⟨(h.1.below h1).mono (fun k hk => hk.elim .inl fun hk => .inr ⟨hk.1, Nat.lt_of_lt_of_le hk.2 h1.size⟩) (fun k hk => ?_), h.2.trans' (G := Non) (Chg.of_below h1) fun _ _ hk => hk.elim⟩
  rcases hk with hk | hk
  · have := h.1.foot (.inl hk); have := h1.size; omega
  · by_cases hk2 : k < w1.heap.size
    · have := h.1.foot (.inr ⟨hk.1, hk2⟩); omega
    · have h5 := h.1.lt
      obtain ⟨v, xs, hx, _⟩ := h.1
      have := (hx.foot hb hx.domh).1
      have := h.2.size
      exact ⟨by omega, hk.2⟩
section
variable (w : World) (B hb : Nat) (D : Nat → Prop) (ps : Pgs) (h : HpV B D w hb ps) (hok : HOk ps) (hB : B ≤ w.heap.size)
include h hok hB
set_option maxRecDepth 100000 in
set_option maxHeartbeats 1600000 in
theorem hput_any (p k : Int) (A2 : Option Addr) (n2 c2 : Nat) (b : List Int) (hr : RdX D w A2 n2 (cells b)) (hb2 : IsBytes b) :
    Calls Tryd.prog 28 #[.pointer (some ⟨hb, 0, none⟩), .agg #[.int .i64 p, .int .i64 k], .slice A2 n2 c2] w (ErrRet B hb D w (putE ps p k b) (putN ps p k b)) := by
  have hft : ∀ k, D k → B ≤ k ∧ k < w.heap.size := fun k hk => h.foot hk
  obtain ⟨w1, hw1⟩ : ∃ w1, w1 = w.alloc (.cells #[.int .i64 p, .int .i64 k] 32) := ⟨_, rfl⟩
  have k1 : Blk w1 w.heap.size 32 #[.int .i64 p, .int .i64 k] := by rw [hw1]; exact Blk.new _ _ _
  have hl1 : Below w.heap.size w w1 := by rw [hw1]; exact (Below.refl _ w).alloc (Nat.le_refl _) _
  have hs1 : w1.heap.size = w.heap.size + 1 := by rw [hw1]; simp
  have HHS := Lib.hid (has_any (h.below hl1) p k)
  have hc0 := k1.cell 0
  have hc1 := k1.cell 1
  simp only [List.getElem?_toArray, List.getElem?_cons_zero, List.getElem?_cons_succ] at hc0 hc1
  have HW1 := Lib.hid hw1
  rw [hw1] at hc0 hc1
  have H := Lib.hid (And.intro h (And.intro hr (And.intro hb2 (And.intro hft (And.intro hl1 (And.intro hs1 k1))))))
  clear h hr hb2 hft k1 hl1 hs1 hw1
  go_enter Tryd.func28, Tryd.ntmps28
  go_wp2_with fail
  rw [← HW1.out]
  refine HHS.out.mono ?_
  rintro e w2 ⟨rfl, hb12⟩
  have hb2 := below_le H.out.2.2.2.2.1 hb12
  cases hg : (getH ps p k).isSome with
  | false =>
    have HE := Lib.hid (show putE ps p k b = 13 ∧ putN ps p k b = ps from ⟨by rw [putE, if_neg (by rw [hg]; simp)], by rw [putN, if_neg (by rw [hg]; simp)]⟩)
    have HB2 := Lib.hid hb2
    clear hg hb12 hb2
    go_wp2_with fail
    go_ret
    exact ⟨by rw [HE.out.1]; rfl, by rw [HE.out.2]; exact HpTo.same H.out.1 HB2.out hB⟩
  | true =>
    obtain ⟨h0, h1, _⟩ := getH_some hg
    obtain ⟨q, rfl⟩ : ∃ q : Nat, p = (q : Int) := ⟨p.toNat, by omega⟩
    rw [Int.toNat_natCast] at h1
    have HE := Lib.hid (show putE ps (q : Int) k b = setE ps q k b ∧ putN ps (q : Int) k b = chgN ps q (putS (pgAt ps q) k b) from
      ⟨by rw [putE, if_pos hg, Int.toNat_natCast]; rfl, by rw [putN, if_pos hg, Int.toNat_natCast]; cases putS (pgAt ps q) k b <;> rfl⟩)
    have hk2 := H.out.2.2.2.2.2.2.below hb12 (by have := H.out.2.2.2.2.2.1; omega)
    have hd0 := hk2.cell 0
    have hd1 := hk2.cell 1
    simp only [List.getElem?_toArray, List.getElem?_cons_zero, List.getElem?_cons_succ] at hd0 hd1
    have HS := Lib.hid (hset_any w2 B hb D ps (H.out.1.below hb2) hok.few (by have := hb2.size; omega) q (by have := hok.few; omega) k A2 n2 c2 b (H.out.2.1.below hb2) H.out.2.2.1)
    have HB2 := Lib.hid hb2
    clear hg hb12 hb2 h0 h1 hk2
    go_wp2_with fail
    refine HS.out.mono ?_
    rintro e w3 ⟨rfl, hto⟩
    have HF := Lib.hid (hto.after HB2.out hB H.out.2.2.2.1)
    clear hto
    go_wp2_with fail
    go_ret
    exact ⟨by rw [HE.out.1]; rfl, by rw [HE.out.2]; exact HF.out⟩

set_option maxRecDepth 100000 in
set_option maxHeartbeats 3200000 in
theorem hres_any (p k : Int) (A2 : Option Addr) (n2 c2 : Nat) (b : List Int) (hr : RdX D w A2 n2 (cells b)) (hb2 : IsBytes b) :
    Calls Tryd.prog 29 #[.pointer (some ⟨hb, 0, none⟩), .agg #[.int .i64 p, .int .i64 k], .slice A2 n2 c2] w (ErrRet B hb D w (resE ps p k b) (resN ps p k b)) := by
  have hft : ∀ k, D k → B ≤ k ∧ k < w.heap.size := fun k hk => h.foot hk
  obtain ⟨w1, hw1⟩ : ∃ w1, w1 = w.alloc (.cells #[.int .i64 p, .int .i64 k] 32) := ⟨_, rfl⟩
  have k1 : Blk w1 w.heap.size 32 #[.int .i64 p, .int .i64 k] := by rw [hw1]; exact Blk.new _ _ _
  have hl1 : Below w.heap.size w w1 := by rw [hw1]; exact (Below.refl _ w).alloc (Nat.le_refl _) _
  have hs1 : w1.heap.size = w.heap.size + 1 := by rw [hw1]; simp
  have HHS := Lib.hid (has_any (h.below hl1) p k)
  have hc0 := k1.cell 0
  have hc1 := k1.cell 1
  simp only [List.getElem?_toArray, List.getElem?_cons_zero, List.getElem?_cons_succ] at hc0 hc1
  have HW1 := Lib.hid hw1
  rw [hw1] at hc0 hc1
  have H := Lib.hid (And.intro h (And.intro hr (And.intro hb2 (And.intro hft (And.intro hl1 (And.intro hs1 k1))))))
  clear h hr hb2 hft k1 hl1 hs1 hw1
  go_enter Tryd.func29, Tryd.ntmps29
  go_wp2_with fail
  rw [← HW1.out]
  refine HHS.out.mono ?_
  rintro e w2 ⟨rfl, hb12⟩
  have hb2 := below_le H.out.2.2.2.2.1 hb12
  have HB2 := Lib.hid hb2
  have hk2 := H.out.2.2.2.2.2.2.below hb12 (by have := H.out.2.2.2.2.2.1; omega)
  have hd0 := hk2.cell 0
  have hd1 := hk2.cell 1
  simp only [List.getElem?_toArray, List.getElem?_cons_zero, List.getElem?_cons_succ] at hd0 hd1
  clear hb12 hk2 hc0 hc1
  cases hg : (getH ps p k).isSome with
  | true =>
    have HE := Lib.hid (show resE ps p k b = 12 ∧ resN ps p k b = ps from by
      have h1 : resE ps p k b = 12 := by rw [resE, if_pos hg]
      exact ⟨h1, by rw [resN, if_neg (by rw [h1]; decide)]⟩)
    clear hg hb2
    go_wp2_with fail
    go_ret
    exact ⟨by rw [HE.out.1]; rfl, by rw [HE.out.2]; exact HpTo.same H.out.1 HB2.out hB⟩
  | false =>
    by_cases hbad : p < 0 ∨ 255 < p ∨ k < 0 ∨ 250 < k
    · have HE := Lib.hid (show resE ps p k b = 41 ∧ resN ps p k b = ps from by
        have h1 : resE ps p k b = 41 := by rw [resE, if_neg (by rw [hg]; simp), if_pos hbad]
        exact ⟨h1, by rw [resN, if_neg (by rw [h1]; decide)]⟩)
      clear hg hb2
      by_cases b1 : p < 0
      · clear hbad
        go_wp2_with fail
        go_ret
        exact ⟨by rw [HE.out.1]; rfl, by rw [HE.out.2]; exact HpTo.same H.out.1 HB2.out hB⟩
      · by_cases b2 : 256 ≤ p
        · clear hbad
          go_wp2_with fail
          go_ret
          exact ⟨by rw [HE.out.1]; rfl, by rw [HE.out.2]; exact HpTo.same H.out.1 HB2.out hB⟩
        · by_cases b3 : k < 0
          · clear hbad
            go_wp2_with fail
            go_ret
            exact ⟨by rw [HE.out.1]; rfl, by rw [HE.out.2]; exact HpTo.same H.out.1 HB2.out hB⟩
          · have b4 : 250 < k := by omega
            clear hbad
            go_wp2_with fail
            go_ret
            exact ⟨by rw [HE.out.1]; rfl, by rw [HE.out.2]; exact HpTo.same H.out.1 HB2.out hB⟩
    · obtain ⟨q, rfl⟩ : ∃ q : Nat, p = (q : Int) := ⟨p.toNat, by omega⟩
      have hq : q ≤ 255 := by omega
      have b1 : ¬ ((q : Int) < 0) := by omega
      have b2 : ¬ (256 ≤ (q : Int)) := by omega
      have b3 : ¬ (k < 0) := by omega
      have b4 : ¬ (250 < k) := by omega
      have HE := Lib.hid (show resE ps (q : Int) k b = setE ps q k b ∧ resN ps (q : Int) k b = chgN ps q (putS (pgAt ps q) k b) from by
        have h1 : resE ps (q : Int) k b = setE ps q k b := by rw [resE, if_neg (by rw [hg]; simp), if_neg hbad, Int.toNat_natCast]; rfl
        refine ⟨h1, ?_⟩
        rw [resN, h1, setE, Int.toNat_natCast]
        cases putS (pgAt ps q) k b <;> rfl)
      have HS := Lib.hid (hset_any w2 B hb D ps (H.out.1.below hb2) hok.few (by have := hb2.size; omega) q hq k A2 n2 c2 b (H.out.2.1.below hb2) H.out.2.2.1)
      clear hg hb2 hbad
      go_wp2_with fail
      refine HS.out.mono ?_
      rintro e w3 ⟨rfl, hto⟩
      have HF := Lib.hid (hto.after HB2.out hB H.out.2.2.2.1)
      clear hto
      go_wp2_with fail
      go_ret
      exact ⟨by rw [HE.out.1]; rfl, by rw [HE.out.2]; exact HF.out⟩
end
end Go.Proofs.YtdnegfjddpdmhaaDoor
