/-
  How the document's own reader reads a row's bytes: the same rows come out. Nothing of the program in it.
-/
import Derived.Test.YtkdcnkadngbccaaGreatDoorBackM
namespace Go.Proofs.YtkdcnkadngbccaaGreatDoor
open Go.RowKit Go.Lib

def dV3 (s : St) : Va × St :=
  if (rCount s 3).1 = 1 ∨ (rCount s 3).1 = 2 then (⟨(rCount s 3).1, (rInt (rCount s 3).2).1, ⟨#[]⟩⟩, (rInt (rCount s 3).2).2)
  else if (rCount s 3).1 = 3 then (⟨(rCount s 3).1, 0, mkStr (rText (rCount s 3).2).1⟩, (rText (rCount s 3).2).2)
  else (⟨(rCount s 3).1, 0, ⟨#[]⟩⟩, (rCount s 3).2)
def dVs3 : Nat → St → List Va × St
  | 0, s => ([], s)
  | k + 1, s => ((dV3 s).1 :: (dVs3 k (dV3 s).2).1, (dVs3 k (dV3 s).2).2)
def dR3 (s : St) : List Va × St := dVs3 (rCount s 8).1.toNat (rCount s 8).2
def decOk3 (l : List Int) : Bool := decide ((dR3 (some l)).2 = some []) && rightR (dR3 (some l)).1
theorem dVs3_len (k : Nat) (s : St) : (dVs3 k s).1.length = k := by
  induction k generalizing s with
  | zero => rfl
  | succ k ih => simp [dVs3, ih]
theorem dVs3_snoc (k : Nat) (s : St) : dVs3 (k + 1) s = ((dVs3 k s).1 ++ [(dV3 (dVs3 k s).2).1], (dV3 (dVs3 k s).2).2) := by
  induction k generalizing s with
  | zero => rfl
  | succ k ih =>
    rw [dVs3, ih (dV3 s).2]
    rfl
theorem dV3_eq {s : St} (h : ¬ ((rInt s).1 < 0 ∨ 3 < (rInt s).1)) : dV3 s = dV s := by
  have e : rCount s 3 = rInt s := by rw [rCount_eq, if_neg h]
  unfold dV3 dV
  rw [e]
theorem dV3_bad {s : St} (h : (rInt s).1 < 0 ∨ 3 < (rInt s).1) : (dV3 s).2 = none := by
  have e : rCount s 3 = (0, none) := by rw [rCount_eq, if_pos h]
  unfold dV3
  rw [e]
  simp
theorem dV3_none : (dV3 none).2 = none := by simp [dV3, rCount, rInt]
theorem dVs3_none (k : Nat) : (dVs3 k none).2 = none := by
  induction k with
  | zero => rfl
  | succ k ih => rw [dVs3, dV3_none]; exact ih
theorem dV_kind (s : St) : (dV s).1.k = (rInt s).1 := by
  unfold dV
  repeat' split
  all_goals rfl
theorem dVs3_some : ∀ (k : Nat) (s : St) (l : List Int), (dVs3 k s).2 = some l → dVs3 k s = dVs k s
  | 0, _, _, _ => rfl
  | k + 1, s, l, h => by
    by_cases hc : (rInt s).1 < 0 ∨ 3 < (rInt s).1
    · exfalso
      rw [dVs3, dV3_bad hc] at h
      simp only at h
      rw [dVs3_none] at h
      cases h
    · have e := dV3_eq hc
      rw [dVs3] at h
      simp only at h
      rw [dVs3, dVs, e, dVs3_some k _ l (by rw [← e]; exact h)]
theorem dVs3_kinds : ∀ (k : Nat) (s : St), (∀ x ∈ (dVs k s).1, 0 ≤ x.k ∧ x.k ≤ 3) → dVs3 k s = dVs k s
  | 0, _, _ => rfl
  | k + 1, s, h => by
    have h1 := h (dV s).1 (by simp [dVs])
    rw [dV_kind] at h1
    have e := dV3_eq (s := s) (by omega)
    rw [dVs3, dVs, e, dVs3_kinds k _ (fun x hx => h x (by simp [dVs, hx]))]
theorem dec3 (l : List Int) : decOk3 l = decOk l ∧ (decOk l = true → (dR3 (some l)).1 = (dR (some l)).1) := by
  have h2 : decOk l = true → dR3 (some l) = dR (some l) := by
    intro h
    unfold decOk at h
    simp only [Bool.and_eq_true, decide_eq_true_eq] at h
    refine dVs3_kinds _ _ fun x hx => ?_
    have hr := h.2
    unfold rightR at hr
    simp at hr
    rcases right_four (hr.2 x hx) with ⟨h, _⟩ | ⟨h, _⟩ | ⟨h, _⟩ | ⟨h, _⟩ <;> omega
  refine ⟨?_, fun h => by rw [h2 h]⟩
  cases hd : decOk l with
  | true =>
    unfold decOk3
    rw [h2 hd]
    exact hd
  | false =>
    cases h3 : decOk3 l with
    | false => rfl
    | true =>
      exfalso
      have h4 := h3
      unfold decOk3 at h4
      simp only [Bool.and_eq_true, decide_eq_true_eq] at h4
      have e : dR3 (some l) = dR (some l) := dVs3_some _ _ [] h4.1
      unfold decOk3 at h3
      rw [e] at h3
      unfold decOk at hd
      rw [hd] at h3
      cases h3
theorem rCount3_bd (s : St) : 0 ≤ (rCount s 3).1 ∧ (rCount s 3).1 ≤ 3 := by
  rw [rCount_eq]
  split
  · exact ⟨by decide, by decide⟩
  · rename_i h
    omega
end Go.Proofs.YtkdcnkadngbccaaGreatDoor
