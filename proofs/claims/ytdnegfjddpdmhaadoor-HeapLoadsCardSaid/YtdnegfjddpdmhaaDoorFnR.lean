/-
  The contract of Right.
-/
import Derived.Test.YtdnegfjddpdmhaaDoorLibB
namespace Go.Proofs.YtdnegfjddpdmhaaDoor
open Go.RowKit Go.Lib

/-- it is told whether bytes are a page; all that lay is as it was -/
def RtRet (p : List Int) (w : World) (e : Ending) (w' : World) : Prop :=
  ∃ b : Bool, e = .returned (.bool b) ∧ (b = true ↔ ∃ s, IsPg p s) ∧ Below w.heap.size w w'

theorem not_pg_len {p : List Int} (h : p.length ≠ 256) : ¬ ∃ s, IsPg p s := fun ⟨_, hs⟩ => h hs.len

theorem rt_no {p : List Int} {w w' : World} (h : ¬ ∃ s, IsPg p s) (hb : Below w.heap.size w w') : RtRet p w (.returned (.bool false)) w' :=
  ⟨false, rfl, ⟨fun h => (by cases h), fun h' => absurd h' h⟩, hb⟩

theorem right_len (w : World) (A : Option Addr) (n c : Nat) (p : List Int) (hp : p.length = n) (hn : n ≠ 256) :
    Calls Tryd.prog 41 #[.slice A n c] w (RtRet p w) := by
  have hni : ((n : Int) != 256) = true := by simp; omega
  have HF := Lib.hid (show RtRet p w (.returned (.bool false)) w from rt_no (not_pg_len (by omega)) (Below.refl _ _))
  go_enter Tryd.func41, Tryd.ntmps41
  go_wp2
  go_ret
  exact HF.out

set_option maxRecDepth 100000 in
set_option maxHeartbeats 6400000 in
theorem right_at (w : World) (g c : Nat) (p : List Int) (n : Nat) (h : PAt w w.heap.size g c p n) :
    Calls Tryd.prog 41 #[.slice (some ⟨g, 0, none⟩) 256 c] w (RtRet p w) := by
  have hn := h.n_le
  have hc := h.cap
  have hc1 := h.top
  have hml := h.mk_len
  have hmb := h.mk_bytes
  have HM := Lib.hid (marks_any w w.heap.size g c p n h)
  have HCF := Lib.hid (containsFunc_any w w.heap.size (some ⟨g, 1, none⟩) n (c - 1) (mkL p n) hml (by omega) h.marks)
  obtain ⟨w1, hw1⟩ : ∃ w1, w1 = w.alloc (.cells #[.int .u8 0] 5) := ⟨_, rfl⟩
  have hb1 : Below w.heap.size w w1 := by rw [hw1]; exact (Below.refl _ _).alloc (Nat.le_refl _) _
  have hlit : Rd w1 w1.heap.size (some ⟨w.heap.size, 0, none⟩) 1 (cells [0]) := by
    rw [hw1]
    exact Rd.of_own (base := w.heap.size) (e := 5) (c := 1) (World.ownsRow_lit w #[.int .u8 0] 1 (Nat.le_refl _) (by simp [maxLen]) (by simp))
  have h1 := h.below hb1 (Nat.le_refl _)
  have HSX := Lib.hid (hasSuffix_any w1 w.heap.size w1.heap.size g n (c - 1) (mkL p n) (some ⟨w.heap.size, 0, none⟩) hml (by omega) (by unfold maxLen at hc1 ⊢; omega) h1.marks hlit hmb)
  have HBG := Lib.hid (begin_any w1 w.heap.size g c p n h1 n (by omega))
  have hW := Lib.hid hw1
  have HB1 := Lib.hid hb1
  have H1 := Lib.hid h1
  have H := Lib.hid h
  clear hw1 hb1 hlit h1 h
  rw [show (mkL p n).take n = mkL p n from List.take_of_length_le (by omega)] at HBG
  by_cases g1 : ∃ x ∈ mkL p n, 201 < x
  · have HF := Lib.hid (show RtRet p w (.returned (.bool false)) w from rt_no (fun ⟨s, hs⟩ => by
      have e : n = s.length := by
        have e1 := hs.head
        rw [H.out.head] at e1
        have := Option.some.inj e1
        omega
      obtain ⟨x, hx, hx2⟩ := g1
      rw [mkL, e, hs.marks] at hx
      have := (right_only hs).1 x hx
      omega) (Below.refl _ _))
    have E1 := Lib.hid (show decide (∃ x ∈ mkL p n, 201 < x) = true from decide_eq_true g1)
    clear g1
    go_enter Tryd.func41, Tryd.ntmps41
    go_wp2_with fail
    refine HM.out.mono ?_
    rintro e w' ⟨rfl, rfl⟩
    go_wp2_with fail
    refine HCF.out.mono ?_
    rintro e w' ⟨rfl, rfl⟩
    rw [E1.out]
    go_wp2
    go_ret
    exact HF.out
  have E1 := Lib.hid (show decide (∃ x ∈ mkL p n, 201 < x) = false from decide_eq_false g1)
  by_cases g2 : (mkL p n).getLast? = some 0
  · have HF := Lib.hid (show RtRet p w (.returned (.bool false)) w1 from rt_no (fun ⟨s, hs⟩ => by
      have e : n = s.length := by
        have e1 := hs.head
        rw [H.out.head] at e1
        have := Option.some.inj e1
        omega
      rw [mkL, e, hs.marks] at g2
      exact (right_only hs).2.1 g2) HB1.out)
    have E2 := Lib.hid (show decide ((mkL p n).getLast? = some 0) = true from decide_eq_true g2)
    clear g1 g2
    go_enter Tryd.func41, Tryd.ntmps41
    go_wp2_with fail
    refine HM.out.mono ?_
    rintro e w' ⟨rfl, rfl⟩
    go_wp2_with fail
    refine HCF.out.mono ?_
    rintro e w' ⟨rfl, rfl⟩
    rw [E1.out]
    go_wp2_with fail
    rw [← hW.out]
    refine HSX.out.mono ?_
    rintro e w' ⟨rfl, rfl⟩
    rw [E2.out]
    go_wp2
    go_ret
    exact HF.out
  have E2 := Lib.hid (show decide ((mkL p n).getLast? = some 0) = false from decide_eq_false g2)
  have hsn0 : (0 : Int) ≤ ((sumN (mkL p n) : Nat) : Int) := Int.natCast_nonneg _
  by_cases g3 : 1 + n + sumN (mkL p n) ≤ 256
  · obtain ⟨q, hq⟩ : ∃ q, q = sumN (mkL p n) := ⟨_, rfl⟩
    rw [← hq] at g3 hsn0 HBG
    obtain ⟨z, hz⟩ : ∃ z, z = 256 - q := ⟨_, rfl⟩
    rw [show (256 : Int) - (q : Int) = (z : Int) by omega] at HBG
    have hz0 : (0 : Int) ≤ (z : Int) := Int.natCast_nonneg _
    have hn0 : (0 : Int) ≤ (n : Int) := Int.natCast_nonneg _
    have hi1 : (1 : Int) + (n : Int) ≤ (z : Int) := by omega
    have hi2 : (z : Int) ≤ (c : Int) := by omega
    have hz1 : 1 + n ≤ z := by omega
    have hz2 : z ≤ c := by omega
    have HR := Lib.hid (show (∃ s, IsPg p s) ↔ ∀ x ∈ (p.drop (1 + n)).take (z - (1 + n)), x = 0 from by
      constructor
      · rintro ⟨s, hs⟩ x hx
        have e : n = s.length := by
          have e1 := hs.head
          rw [H.out.head] at e1
          have := Option.some.inj e1
          omega
        have hqs : q = wtP s := by rw [hq, mkL, e, hs.marks, sum_marks]
        obtain ⟨j, hj⟩ := List.mem_iff_getElem?.1 hx
        rw [List.getElem?_take] at hj
        split at hj
        · rw [List.getElem?_drop] at hj
          have := (right_only hs).2.2 (1 + n + j) (by omega) (by omega)
          rw [this] at hj
          exact (Option.some.inj hj).symm
        · cases hj
      · intro hz
        refine ⟨_, right_of H.out.len H.out.byt n H.out.head (fun m hm => ?_) g2 (by rw [← mkL, ← hq]; omega) (fun j hj1 hj2 => ?_)⟩
        · have : ¬ 201 < m := fun h => g1 ⟨m, hm, h⟩
          omega
        · rw [← mkL, ← hq] at hj2
          have hjl : j < p.length := by have := H.out.len; omega
          have hx := hz p[j] (by
            refine List.mem_iff_getElem?.2 ⟨j - (1 + n), ?_⟩
            rw [List.getElem?_take, if_pos (by omega), List.getElem?_drop, show 1 + n + (j - (1 + n)) = j by omega, List.getElem?_eq_getElem hjl])
          rw [List.getElem?_eq_getElem hjl, hx])
    have HFB := Lib.hid (show ∀ r : Nat, (r = 0 ↔ ∃ s, IsPg p s) → RtRet p w (.returned (.bool ((r : Int) == 0))) w1 from fun r h => ⟨_, rfl, by rw [← h, beq_iff_eq]; omega, HB1.out⟩)
    clear g1 g2 hq g3 hsn0
    by_cases hcn : c = 1 + n
    · obtain rfl : n = 255 := by omega
      obtain rfl : c = 256 := by omega
      obtain rfl : z = 256 := by omega
      have hrm : Rd w1 w.heap.size (some ⟨g, 0, none⟩) 0 (cells ((p.drop (1 + 255)).take (256 - (1 + 255)))) := ⟨by simp [cells], fun h => absurd h (by omega)⟩
      have HTL := Lib.hid (trimLeft_any w1 w.heap.size _ 0 0 _ (by simp) hrm (by omega) (by simp [maxLen]))
      clear hrm
      clear hz hz0 hn0 hi1 hi2 hz1 hz2 hcn
      go_enter Tryd.func41, Tryd.ntmps41
      go_wp2_with fail
      refine HM.out.mono ?_
      rintro e w' ⟨rfl, rfl⟩
      go_wp2_with fail
      refine HCF.out.mono ?_
      rintro e w' ⟨rfl, rfl⟩
      rw [E1.out]
      go_wp2_with fail
      rw [← hW.out]
      refine HSX.out.mono ?_
      rintro e w' ⟨rfl, rfl⟩
      rw [E2.out]
      go_wp2_with fail
      refine HBG.out.mono ?_
      rintro e w' ⟨rfl, rfl⟩
      go_wp2_with fail
      refine HTL.out.mono ?_
      rintro e w' ⟨⟨A', r, c', rfl, hr1, hr2⟩, rfl⟩
      have HF := Lib.hid (HFB.out r (hr2.trans HR.out.symm))
      clear hr2
      go_wp2
      go_ret
      exact HF.out
    · skip
      have hrm := (H1.out.rd.cutl (k := 1 + n) (cap := c) (by omega) hc).cuth (k := z - (1 + n)) (by omega)
      rw [if_neg hcn] at hrm
      simp only [Option.map_some, Addr.add_lit, Nat.zero_add] at hrm
      rw [show List.take (z - (1 + n)) (List.drop (1 + n) (cells p)) = cells ((p.drop (1 + n)).take (z - (1 + n))) by simp [cells]] at hrm
      have HTL := Lib.hid (trimLeft_any w1 w.heap.size _ (z - (1 + n)) (c - (1 + n)) _ (by simp [H1.out.len]; omega) hrm (by omega) (by unfold maxLen at hc1 ⊢; omega))
      clear hrm
      clear hz
      go_enter Tryd.func41, Tryd.ntmps41
      go_wp2_with fail
      refine HM.out.mono ?_
      rintro e w' ⟨rfl, rfl⟩
      go_wp2_with fail
      refine HCF.out.mono ?_
      rintro e w' ⟨rfl, rfl⟩
      rw [E1.out]
      go_wp2_with fail
      rw [← hW.out]
      refine HSX.out.mono ?_
      rintro e w' ⟨rfl, rfl⟩
      rw [E2.out]
      go_wp2_with fail
      refine HBG.out.mono ?_
      rintro e w' ⟨rfl, rfl⟩
      go_wp2_with fail
      refine HTL.out.mono ?_
      rintro e w' ⟨⟨A', r, c', rfl, hr1, hr2⟩, rfl⟩
      have HF := Lib.hid (HFB.out r (hr2.trans HR.out.symm))
      clear hr2
      go_wp2
      go_ret
      exact HF.out
  · have HF := Lib.hid (show RtRet p w (.returned (.bool false)) w1 from rt_no (fun ⟨s, hs⟩ => by
      have e : n = s.length := by
        have e1 := hs.head
        rw [H.out.head] at e1
        have := Option.some.inj e1
        omega
      have hqs : sumN (mkL p n) = wtP s := by rw [mkL, e, hs.marks, sum_marks]
      have := hs.slots
      omega) HB1.out)
    have hi1 : ¬ ((1 : Int) + (n : Int) ≤ 256 - ((sumN (mkL p n) : Nat) : Int)) := by omega
    clear g1 g2
    go_enter Tryd.func41, Tryd.ntmps41
    go_wp2_with fail
    refine HM.out.mono ?_
    rintro e w' ⟨rfl, rfl⟩
    go_wp2_with fail
    refine HCF.out.mono ?_
    rintro e w' ⟨rfl, rfl⟩
    rw [E1.out]
    go_wp2_with fail
    rw [← hW.out]
    refine HSX.out.mono ?_
    rintro e w' ⟨rfl, rfl⟩
    rw [E2.out]
    go_wp2_with fail
    refine HBG.out.mono ?_
    rintro e w' ⟨rfl, rfl⟩
    go_wp2
    go_ret
    exact HF.out
end Go.Proofs.YtdnegfjddpdmhaaDoor
