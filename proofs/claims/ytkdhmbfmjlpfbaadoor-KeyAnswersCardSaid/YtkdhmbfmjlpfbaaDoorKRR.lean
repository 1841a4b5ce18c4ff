/-
  The document's own RightRow.
-/
import Derived.Test.YtkdhmbfmjlpfbaaDoorKOr
namespace Go.Proofs.YtkdhmbfmjlpfbaaDoor
open Go.RowKit Go.Lib

set_option maxRecDepth 100000 in
set_option maxHeartbeats 1600000 in
theorem refRightRow_any (A : Option Addr) (c : Nat) (vs : List Va) (w : World) (h : RowIn w w.heap.size A vs) (hm : vs.length ≤ maxLen) :
    Calls Tryd.prog 24 #[.slice A vs.length c] w fun e w' => e = .returned (.bool (rightR vs)) ∧ Below w.heap.size w w' := by
  have H := Lib.hid h
  clear h
  unfold maxLen at hm
  by_cases h8 : 8 < vs.length
  · have h8i : (8 : Int) < (vs.length : Int) := by omega
    have HR := Lib.hid (show rightR vs = false by unfold rightR; rw [decide_eq_false (by omega)]; rfl)
    go_enter Tryd.func24, Tryd.ntmps24
    go_wp2
    go_ret
    exact ⟨by rw [HR.out]; rfl, Below.refl _ _⟩
  · have h8i : ¬ (8 : Int) < (vs.length : Int) := by omega
    go_enter Tryd.func24, Tryd.ntmps24
    go_wp2_with fail
    go_loopw [3] (fun i wr => IfRel vs w i wr) (fun i _ => vs.length - (Lib.intOf i).toNat)
    case atStart => exact ⟨0, by omega, rfl, Below.refl _ _, fun j _ hj => absurd hj (by omega)⟩
    case round =>
      obtain ⟨k, hk, rfl, hb, hall⟩ := hrel
      have HB := Lib.hid (And.intro hb hall)
      have hk0 : (0 : Int) ≤ (k : Int) := Int.natCast_nonneg _
      by_cases hlt : k < vs.length
      · have hlt1 : (k : Int) < (vs.length : Int) := by omega
        obtain ⟨ad, rfl, _, c0, c1, c2⟩ := (H.out.below hb (Nat.le_refl _)).at_ hlt
        obtain ⟨x, hx⟩ : ∃ x, x = vs[k] := ⟨_, rfl⟩
        rw [← hx] at c0 c1 c2
        have HX := Lib.hid hx
        clear hb hall hx
        go_wp2_with fail
        refine (refRight_any x.k x.n x.s _).mono ?_
        rintro e w3 ⟨rfl, hb3⟩
        have HB3 := Lib.hid (HB.out.1.trans (hb3.mono HB.out.1.size))
        clear hb3 c0 c1 c2
        cases hr : rightV x.k x.n x.s with
        | true =>
          have HR := Lib.hid (show IfRel vs w (.int .i64 ((k : Int) + 1)) w3 from ⟨k + 1, by omega, by go_num, HB3.out, fun j hj hjk => by
            rcases Nat.lt_or_ge j k with h | h
            · exact HB.out.2 j hj h
            · obtain rfl : j = k := by omega
              rw [← HX.out]; exact hr⟩)
          clear hr
          go_wp2
          go_roundw
          case rel => exact HR.out
          case measure => simp [Lib.intOf]; omega
        | false =>
          have HR := Lib.hid (show rightR vs = false from by
            have : vs.all rightVa = false := by
              rw [List.all_eq_false]
              exact ⟨x, by rw [HX.out]; exact List.getElem_mem _, by unfold rightVa; rw [hr]; simp⟩
            unfold rightR
            rw [this, Bool.and_false])
          clear hr
          go_wp2
          go_ret
          exact ⟨by rw [HR.out]; rfl, HB3.out⟩
      · have hlt1 : ¬ (k : Int) < (vs.length : Int) := by omega
        have HR := Lib.hid (show rightR vs = true from right_mk (by omega) fun x hx => by
          obtain ⟨j, hj, rfl⟩ := List.mem_iff_getElem.1 hx
          exact hall j hj (by omega))
        clear hb hall
        go_wp2
        go_ret
        exact ⟨by rw [HR.out]; rfl, HB.out.1⟩
end Go.Proofs.YtkdhmbfmjlpfbaaDoor
