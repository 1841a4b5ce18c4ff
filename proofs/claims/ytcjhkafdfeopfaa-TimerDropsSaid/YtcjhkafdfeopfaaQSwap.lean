/-
  The queue's Swap.
-/
import Derived.Test.YtcjhkafdfeopfaaQLess
import Derived.BigRegion
namespace Go.Proofs.Ytcjhkafdfeopfaa
open Go.RowKit Go.Lib Go.Maps

section
variable {B tb mb n c : Nat} {D F : Nat → Prop} {w w' : World} {A : Option Addr} {f : Nat → Of}
set_option maxRecDepth 100000 in
set_option maxHeartbeats 12800000 in
theorem swap_any (h : QX B D w tb mb A c n f) {i j : Nat} (hi : i < n) (hj : j < n) (hij : i ≠ j) (_ : n < 1000000) :
    Calls Try.prog 44 #[.slice A n c, .int .i64 i, .int .i64 j] w fun e w' => e = .returned (.tuple #[]) ∧ QX B D w' tb mb A c n (sw f i j) ∧ Chg D w w' := by
  obtain ⟨g, hA, _, ci⟩ := h.at_ hi
  obtain ⟨g', e, _, cj⟩ := h.at_ hj
  obtain rfl : g' = g := by rw [hA] at e; injection e with e; injection e with e; exact e.symm
  clear e
  subst hA
  have pi := h.p_ hi
  have pj := h.p_ hj
  have fg : ∀ q, w.frozen? ⟨g', q, none⟩ = false := fun q => h.row.frozenAt q
  have fgi := fg i
  have fgj := fg j
  have fi := (h.one i hi).frozen 2
  have fj := (h.one j hj).frozen 2
  have hd := fun w' => h.swap (w' := w') hi hj rfl
  have ngi : (f i).2 ≠ g' := h.ne_row hi rfl
  have ngj : (f j).2 ≠ g' := h.ne_row hj rfl
  have nij : (f i).2 ≠ (f j).2 := fun e => hij (h.inj hi hj e)
  unfold ptrT at ci cj hd
  obtain ⟨bi, hbi⟩ : ∃ b, b = (f i).2 := ⟨_, rfl⟩
  obtain ⟨bj, hbj⟩ : ∃ b, b = (f j).2 := ⟨_, rfl⟩
  rw [← hbi] at ci pi fi ngi nij hd
  rw [← hbj] at cj pj fj ngj nij hd
  have HD := Lib.hid hd
  have a0 : (i : Int) < (n : Int) := by omega
  have a1 : (j : Int) < (n : Int) := by omega
  have a2 : (0 : Int) ≤ (i : Int) := by omega
  have a3 : (0 : Int) ≤ (j : Int) := by omega
  have ngi' := ngi.symm
  have ngj' := ngj.symm
  have nij' := nij.symm
  have hij' := hij.symm
  clear h fg hd hbi hbj
  go_enter Try.func44, Try.ntmps44
  go_wp2_with fail
  go_region
  all_goals (go_wp2_with fail)
  all_goals go_region
  all_goals (go_wp2_with fail)
  go_end0
  have h9 := HD.out _ rfl
  exact ⟨rfl, h9.1.below ⟨rfl, rfl, rfl, Nat.le_refl _, fun _ _ => rfl⟩, h9.2.trans' (G := Non) ⟨rfl, rfl, rfl, Nat.le_refl _, fun _ _ _ => rfl⟩ fun _ _ x => x.elim⟩
end
end Go.Proofs.Ytcjhkafdfeopfaa
