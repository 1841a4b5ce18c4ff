/-
  The contract of RightRow.
-/
import Derived.Test.YtkdhmbfmjlpfbaaDoorRowV
namespace Go.Proofs.YtkdhmbfmjlpfbaaDoor
open Go.RowKit Go.Lib

def rightVa (x : Va) : Bool := rightV x.k x.n x.s
theorem wrong_any (k n : Int) (s : ByteArray) (w : World) :
    Calls Tryd.prog 33 #[.agg #[.int .i64 k, .int .i64 n, .string s]] w fun e w' => e = .returned (.bool (!rightV k n s)) ∧ Below w.heap.size w w' := by
  have hv := VS.new w k n s
  obtain ⟨w1, hw1⟩ : ∃ w1, w1 = w.alloc (.cells #[.int .i64 k, .int .i64 n, .string s] 43) := ⟨_, rfl⟩
  rw [← hw1] at hv
  obtain ⟨c0, c1, c2, hb⟩ := hv
  have HB := Lib.hid hb
  have HW := Lib.hid hw1
  clear hw1 hb
  go_enter Tryd.func33, Tryd.ntmps33
  go_wp2_with fail
  rw [← HW.out]
  refine (right_any k n s _).mono ?_
  rintro e w2 ⟨rfl, hb2⟩
  have HB2 := Lib.hid (HB.out.trans (hb2.mono HB.out.size))
  clear hb2
  go_wp2
  go_ret
  exact ⟨rfl, HB2.out⟩

def IfRel (vs : List Va) (w : World) (i : Value) (wr : World) : Prop := ∃ k : Nat, k ≤ vs.length ∧ i = .int .i64 k ∧ Below w.heap.size w wr ∧ ∀ j (h : j < vs.length), j < k → rightVa vs[j] = true
/-- the place that IndexFunc tells: none is wrong, just if it is -1 -/
def IfRet (vs : List Va) (w : World) (e : Ending) (w' : World) : Prop := Below w.heap.size w w' ∧ ((e = .returned (.int .i64 (-1)) ∧ vs.all rightVa = true) ∨ ∃ k : Nat, k < 1000000000 ∧ e = .returned (.int .i64 k) ∧ vs.all rightVa = false)

set_option maxRecDepth 100000 in
set_option maxHeartbeats 1600000 in
theorem indexFunc_any (A : Option Addr) (c : Nat) (vs : List Va) (w : World) (h : RowIn w w.heap.size A vs) (hm : vs.length ≤ 1000) :
    Calls Tryd.prog 43 #[.slice A vs.length c, .func (.func 33) #[] #[]] w (IfRet vs w) := by
  have H := Lib.hid h
  clear h
  go_enter Tryd.func43, Tryd.ntmps43
  go_wp2_with fail
  go_loopw [8] (fun i wr => IfRel vs w i wr) (fun i _ => vs.length - (intOf i).toNat)
  case atStart => exact ⟨0, by omega, rfl, Below.refl _ _, fun j _ hj => absurd hj (by omega)⟩
  case round =>
    obtain ⟨k, hk, rfl, hb, hall⟩ := hrel
    have HB := Lib.hid (And.intro hb hall)
    have hk0 : (0 : Int) ≤ (k : Int) := Int.natCast_nonneg _
    by_cases hlt : k < vs.length
    · have hlt1 : (k : Int) < (vs.length : Int) := by omega
      obtain ⟨ad, rfl, _, c0, c1, c2⟩ := (H.out.below hb (Nat.le_refl _)).at_ hlt
      obtain ⟨x, hx⟩ : ∃ x, x = vs[k] := ⟨_, rfl⟩
      rw [← hx] at c0 c1 c2
      have HX := Lib.hid hx
      clear hb hall hx
      go_wp2_with fail
      refine (wrong_any x.k x.n x.s _).mono ?_
      rintro e w3 ⟨rfl, hb3⟩
      have HB3 := Lib.hid (HB.out.1.trans (hb3.mono HB.out.1.size))
      clear hb3 c0 c1 c2
      cases hr : rightV x.k x.n x.s with
      | true =>
        have HR := Lib.hid (show IfRel vs w (.int .i64 ((k : Int) + 1)) w3 from ⟨k + 1, by omega, by go_num, HB3.out, fun j hj hjk => by
          rcases Nat.lt_or_ge j k with h | h
          · exact HB.out.2 j hj h
          · obtain rfl : j = k := by omega
            rw [← HX.out]; exact hr⟩)
        clear hr
        go_wp2
        go_roundw
        case rel => exact HR.out
        case measure => simp [intOf]; omega
      | false =>
        have HR := Lib.hid (show vs.all rightVa = false from by
          rw [List.all_eq_false]
          exact ⟨x, by rw [HX.out]; exact List.getElem_mem _, by unfold rightVa; rw [hr]; simp⟩)
        clear hr
        go_wp2
        go_ret
        exact ⟨HB3.out, .inr ⟨k, by omega, rfl, HR.out⟩⟩
    · have hlt1 : ¬ (k : Int) < (vs.length : Int) := by omega
      have HR := Lib.hid (show vs.all rightVa = true from by
        rw [List.all_eq_true]
        intro x hx
        obtain ⟨j, hj, rfl⟩ := List.mem_iff_getElem.1 hx
        exact hall j hj (by omega))
      clear hb hall
      go_wp2
      go_ret
      exact ⟨HB.out.1, .inl ⟨rfl, HR.out⟩⟩

theorem containsFunc_any (A : Option Addr) (c : Nat) (vs : List Va) (w : World) (h : RowIn w w.heap.size A vs) (hm : vs.length ≤ 1000) :
    Calls Tryd.prog 35 #[.slice A vs.length c, .func (.func 33) #[] #[]] w fun e w' => e = .returned (.bool (!vs.all rightVa)) ∧ Below w.heap.size w w' := by
  go_enter Tryd.func35, Tryd.ntmps35
  go_wp2_with fail
  refine (indexFunc_any A c vs w h hm).mono ?_
  rintro e w3 ⟨hb3, ⟨rfl, hr⟩ | ⟨k, hk, rfl, hr⟩⟩
  · have HR := Lib.hid hr
    clear hr
    go_wp2
    go_ret
    exact ⟨by rw [HR.out]; rfl, hb3⟩
  · have HR := Lib.hid hr
    clear hr
    have hk0 : (0 : Int) ≤ (k : Int) := Int.natCast_nonneg _
    go_wp2
    go_ret
    exact ⟨by rw [HR.out]; rfl, hb3⟩

def rightR (vs : List Va) : Bool := decide (vs.length ≤ 8) && vs.all rightVa
theorem rightRow_any (A : Option Addr) (c : Nat) (vs : List Va) (w : World) (h : RowIn w w.heap.size A vs) (hm : vs.length ≤ maxLen) :
    Calls Tryd.prog 25 #[.slice A vs.length c] w fun e w' => e = .returned (.bool (rightR vs)) ∧ Below w.heap.size w w' := by
  by_cases h8 : vs.length ≤ 8
  · have h8i : (vs.length : Int) ≤ 8 := by omega
    have HR := Lib.hid (show rightR vs = vs.all rightVa by simp [rightR, h8])
    go_enter Tryd.func25, Tryd.ntmps25
    go_wp2_with fail
    refine (containsFunc_any A c vs w h (by omega)).mono ?_
    rintro e w3 ⟨rfl, hb3⟩
    go_wp2
    go_ret
    exact ⟨by rw [HR.out]; rfl, hb3⟩
  · have h8i : ¬ (vs.length : Int) ≤ 8 := by omega
    have HR := Lib.hid (show rightR vs = false by simp [rightR, h8])
    go_enter Tryd.func25, Tryd.ntmps25
    go_wp2_with fail
    go_wp2
    go_ret
    exact ⟨by rw [HR.out]; rfl, Below.refl _ _⟩

end Go.Proofs.YtkdhmbfmjlpfbaaDoor
