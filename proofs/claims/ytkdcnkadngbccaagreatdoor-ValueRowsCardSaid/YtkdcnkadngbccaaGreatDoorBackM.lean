/-
  How a row's bytes are read again, in plain words. Nothing of the program in it.
-/
import Derived.Test.YtkdcnkadngbccaaGreatDoorEncd
namespace Go.Proofs.YtkdcnkadngbccaaGreatDoor
open Go.RowKit Go.Lib

/-- the value that stands next -/
def dV (s : St) : Va × St :=
  if (rInt s).1 = 1 ∨ (rInt s).1 = 2 then (⟨(rInt s).1, (rInt (rInt s).2).1, ⟨#[]⟩⟩, (rInt (rInt s).2).2)
  else if (rInt s).1 = 3 then (⟨(rInt s).1, 0, mkStr (rText (rInt s).2).1⟩, (rText (rInt s).2).2)
  else (⟨(rInt s).1, 0, ⟨#[]⟩⟩, (rInt s).2)
def dVs : Nat → St → List Va × St
  | 0, s => ([], s)
  | k + 1, s => ((dV s).1 :: (dVs k (dV s).2).1, (dVs k (dV s).2).2)
def dR (s : St) : List Va × St := dVs (rCount s 8).1.toNat (rCount s 8).2
def decOk (l : List Int) : Bool := decide ((dR (some l)).2 = some []) && rightR (dR (some l)).1

theorem dVs_len (k : Nat) (s : St) : (dVs k s).1.length = k := by
  induction k generalizing s with
  | zero => rfl
  | succ k ih => simp [dVs, ih]
theorem dVs_snoc (k : Nat) (s : St) : dVs (k + 1) s = ((dVs k s).1 ++ [(dV (dVs k s).2).1], (dV (dVs k s).2).2) := by
  induction k generalizing s with
  | zero => rfl
  | succ k ih =>
    rw [dVs, ih (dV s).2]
    rfl

/-! ### what was written is read -/
def IntIn (n : Int) : Prop := -9223372036854775808 ≤ n ∧ n ≤ 9223372036854775807
theorem rCount_eq (s : St) (most : Int) : rCount s most = if (rInt s).1 < 0 ∨ most < (rInt s).1 then (0, none) else rInt s := rfl
theorem rIntE {n : Int} (h : IntIn n) (r : List Int) : rInt (some (encI n ++ r)) = (n, some r) := rInt_enc n r h.1 h.2
theorem rTextE (t r : List Int) (h : t.length ≤ 1000000) : rText (some (encT t ++ r)) = (t, some r) := rText_enc t r (by omega)
def VaIn (x : Va) : Prop := IntIn x.k ∧ IntIn x.n
theorem right_four {x : Va} (h : rightVa x = true) : (x.k = 0 ∧ x.n = 0 ∧ x.s = ⟨#[]⟩) ∨ (x.k = 1 ∧ x.s = ⟨#[]⟩) ∨ (x.k = 2 ∧ x.s = ⟨#[]⟩) ∨ (x.k = 3 ∧ x.n = 0 ∧ x.s.size ≤ 16) := by
  unfold rightVa rightV at h
  split at h
  · rename_i h0; simp at h; exact .inl ⟨h0, h⟩
  · split at h
    · rename_i h0; simp at h; exact .inr (.inl ⟨h0, h⟩)
    · split at h
      · rename_i h0; simp at h; exact .inr (.inr (.inl ⟨h0, h.2⟩))
      · split at h
        · rename_i h0; simp at h; exact .inr (.inr (.inr ⟨h0, h⟩))
        · cases h
theorem dV_enc {x : Va} (hr : rightVa x = true) (hn : IntIn x.n) (r : List Int) : dV (some (encV x ++ r)) = (x, some r) := by
  obtain ⟨k, n, s⟩ := x
  have hk : IntIn k := by rcases right_four hr with ⟨h, _⟩ | ⟨h, _⟩ | ⟨h, _⟩ | ⟨h, _⟩ <;> (simp only at h; unfold IntIn; omega)
  simp only at hn
  unfold encV
  simp only
  rw [List.append_assoc]
  unfold dV
  rw [rIntE hk]
  simp only
  rcases right_four hr with ⟨h, h2, h3⟩ | ⟨h, h3⟩ | ⟨h, h3⟩ | ⟨h, h2, h3⟩
  · simp only at h h2 h3
    subst h h2 h3
    simp
  · simp only at h h3
    subst h h3
    simp [rIntE hn]
  · simp only at h h3
    subst h h3
    simp [rIntE hn]
  · simp only at h h2 h3
    subst h h2
    rw [if_neg (by decide), if_pos rfl, if_neg (by decide), if_pos rfl, rTextE _ _ (by rw [bytes_len]; omega)]
    simp [mkStr_bytes]
theorem dVs_enc : ∀ (vs : List Va) (r : List Int), (∀ x ∈ vs, rightVa x = true ∧ IntIn x.n) → dVs vs.length (some (encVs vs ++ r)) = (vs, some r)
  | [], r, _ => rfl
  | x :: vs, r, h => by
    have hx := h x (by simp)
    rw [List.length_cons, dVs, encVs, List.append_assoc, dV_enc hx.1 hx.2, dVs_enc vs r (fun y hy => h y (by simp [hy]))]
theorem dR_enc {vs : List Va} (h8 : vs.length ≤ 8) (h : ∀ x ∈ vs, rightVa x = true ∧ IntIn x.n) (r : List Int) : dR (some (encR vs ++ r)) = (vs, some r) := by
  unfold dR encR
  rw [rCount_eq, List.append_assoc, rIntE (n := (vs.length : Int)) (by unfold IntIn; omega)]
  simp only
  rw [if_neg (by omega)]
  simp only [Int.toNat_natCast]
  exact dVs_enc vs r h

/-! ### what is read was written so -/
theorem rInt_inv {l l' : List Int} {n : Int} (hb : IsBytes l) (h : rInt (some l) = (n, some l')) : l = encI n ++ l' ∧ IntIn n ∧ IsBytes l' := by
  cases hn : num l with
  | none => rw [rInt_none hn] at h; simp at h
  | some p =>
    obtain ⟨u, k⟩ := p
    rw [rInt_some hn] at h
    simp only [Prod.mk.injEq, Option.some.injEq] at h
    obtain ⟨rfl, rfl⟩ := h
    obtain ⟨_, _, _, he, hu⟩ := num_inv hb hn
    exact ⟨by rw [he, List.take_append_drop], unfoldN_bd u hu, hb.drop k⟩
theorem rInt_no (n : Int) (l : List Int) : rInt none ≠ (n, some l) := by simp [rInt]
theorem rText_inv {l l' t : List Int} (hb : IsBytes l) (h : rText (some l) = (t, some l')) : l = encT t ++ l' ∧ IsBytes t ∧ IsBytes l' := by
  unfold rText at h
  cases hp : rInt (some l) with
  | mk n s =>
    rw [hp] at h
    simp only at h
    cases s with
    | none => simp at h
    | some l1 =>
      obtain ⟨h1, h2, h3⟩ := rInt_inv hb hp
      simp only at h
      split at h
      · simp at h
      · rename_i hc
        simp only [Prod.mk.injEq, Option.some.injEq] at h
        obtain ⟨rfl, rfl⟩ := h
        refine ⟨?_, h3.take _, h3.drop _⟩
        have hl : ((l1.take n.toNat).length : Int) = n := by rw [List.length_take]; omega
        unfold encT
        rw [hl, List.append_assoc, List.take_append_drop]
        exact h1
theorem dV_none : (dV none).2 = none := by simp [dV, rInt]
theorem dVs_none (k : Nat) : (dVs k none).2 = none := by
  induction k with
  | zero => rfl
  | succ k ih => rw [dVs, dV_none]; exact ih
theorem dV_inv {l l' : List Int} {x : Va} (hb : IsBytes l) (h : dV (some l) = (x, some l')) : l = encV x ++ l' ∧ IsBytes l' ∧ IntIn x.n := by
  unfold dV at h
  cases hp : rInt (some l) with
  | mk k s =>
    rw [hp] at h
    simp only at h
    cases s with
    | none =>
      exfalso
      split at h
      · simp [rInt] at h
      · split at h
        · simp [rText, rInt] at h
        · simp at h
    | some l1 =>
      obtain ⟨h1, h2, h3⟩ := rInt_inv hb hp
      split at h
      · rename_i hk
        cases hq : rInt (some l1) with
        | mk n s =>
          rw [hq] at h
          simp only [Prod.mk.injEq] at h
          obtain ⟨rfl, rfl⟩ := h
          obtain ⟨g1, g2, g3⟩ := rInt_inv h3 hq
          refine ⟨?_, g3, g2⟩
          unfold encV
          rw [if_pos hk, List.append_assoc, ← g1, h1]
      · rename_i hk
        split at h
        · rename_i hk3
          cases hq : rText (some l1) with
          | mk t s =>
            rw [hq] at h
            simp only [Prod.mk.injEq] at h
            obtain ⟨rfl, rfl⟩ := h
            obtain ⟨g1, g2, g3⟩ := rText_inv h3 hq
            refine ⟨?_, g3, by unfold IntIn; simp only; omega⟩
            unfold encV
            rw [if_neg hk, if_pos hk3, bytes_mkStr _ g2, List.append_assoc, ← g1, h1]
        · rename_i hk3
          simp only [Prod.mk.injEq, Option.some.injEq] at h
          obtain ⟨rfl, rfl⟩ := h
          refine ⟨?_, h3, by unfold IntIn; simp only; omega⟩
          unfold encV
          rw [if_neg hk, if_neg hk3, List.append_nil, h1]
theorem dVs_inv : ∀ (k : Nat) (s : St) (vs : List Va) (l' : List Int), (∀ l, s = some l → IsBytes l) → dVs k s = (vs, some l') → ∃ l, s = some l ∧ l = encVs vs ++ l' ∧ ∀ x ∈ vs, IntIn x.n
  | 0, s, vs, l', _, h => by
    simp only [dVs, Prod.mk.injEq] at h
    obtain ⟨rfl, rfl⟩ := h
    exact ⟨l', rfl, rfl, fun x hx => by simp at hx⟩
  | k + 1, none, vs, l', _, h => by
    have := dVs_none (k + 1)
    rw [h] at this
    cases this
  | k + 1, some l, vs, l', hb, h => by
    simp only [dVs, Prod.mk.injEq] at h
    obtain ⟨rfl, h2⟩ := h
    cases hp : dV (some l) with
    | mk x s =>
      rw [hp] at h2
      simp only at h2
      cases s with
      | none => rw [dVs_none] at h2; cases h2
      | some l1 =>
        obtain ⟨h3, h4, h5⟩ := dV_inv (hb l rfl) hp
        obtain ⟨l2, e1, e2, e3⟩ := dVs_inv k (some l1) (dVs k (some l1)).1 l' (fun l he => by injection he with he; subst he; exact h4) (by rw [← h2])
        injection e1 with e1
        subst e1
        refine ⟨l, rfl, ?_, fun y hy => ?_⟩
        · show l = (encV x ++ encVs _) ++ l'
          rw [List.append_assoc, ← e2, h3]
        · rcases List.mem_cons.1 hy with rfl | hy
          · exact h5
          · exact e3 y hy
theorem dR_inv {b : List Int} {vs : List Va} (hb : IsBytes b) (h : dR (some b) = (vs, some [])) : b = encR vs ∧ ∀ x ∈ vs, IntIn x.n := by
  unfold dR at h
  rw [rCount_eq] at h
  cases hp : rInt (some b) with
  | mk n s =>
    rw [hp] at h
    simp only at h
    split at h
    · exfalso
      have := dVs_none (((0 : Int), (none : St)).1.toNat)
      rw [show dVs (((0 : Int), (none : St)).1.toNat) ((0 : Int), (none : St)).2 = (vs, some []) from h] at this
      cases this
    · rename_i hn
      simp only at h
      cases s with
      | none =>
        exfalso
        have := dVs_none n.toNat
        rw [h] at this
        cases this
      | some l1 =>
        obtain ⟨h1, h2, h3⟩ := rInt_inv hb hp
        obtain ⟨l2, e1, e2, e3⟩ := dVs_inv n.toNat (some l1) vs [] (fun l he => by injection he with he; subst he; exact h3) h
        injection e1 with e1
        subst e1
        have hl := dVs_len n.toNat (some l1)
        rw [h] at hl
        refine ⟨?_, e3⟩
        unfold encR
        rw [show ((vs.length : Nat) : Int) = n by simp only at hl; omega, h1, e2, List.append_nil]
/-- without its end a row's bytes are none's -/
theorem cut_none {vs : List Va} (h8 : vs.length ≤ 8) (h : ∀ x ∈ vs, rightVa x = true ∧ IntIn x.n) {c : Nat} (hc : c < (encR vs).length) (hb : IsBytes (encR vs)) : decOk ((encR vs).take c) = false := by
  unfold decOk
  cases hd : dR (some ((encR vs).take c)) with
  | mk us s =>
    simp only
    by_cases hs : s = some []
    · subst hs
      cases hr : rightR us with
      | false => simp
      | true =>
        exfalso
        obtain ⟨h1, h2⟩ := dR_inv (hb.take c) hd
        have hru : us.length ≤ 8 ∧ ∀ x ∈ us, rightVa x = true := by
          unfold rightR at hr
          simpa using hr
        have h3 := dR_enc hru.1 (fun x hx => ⟨hru.2 x hx, h2 x hx⟩) ((encR vs).drop c)
        rw [← h1, List.take_append_drop] at h3
        have h4 := dR_enc h8 h []
        rw [List.append_nil, h3] at h4
        simp only [Prod.mk.injEq, Option.some.injEq] at h4
        have h5 := congrArg List.length h4.2
        rw [List.length_drop, List.length_nil] at h5
        omega
    · rw [decide_eq_false hs]
      rfl
theorem back_yes {vs : List Va} (hr : rightR vs = true) (h : ∀ x ∈ vs, IntIn x.n) : dR (some (encR vs)) = (vs, some []) ∧ decOk (encR vs) = true := by
  have hru : vs.length ≤ 8 ∧ ∀ x ∈ vs, rightVa x = true := by
    unfold rightR at hr
    simpa using hr
  have h1 := dR_enc hru.1 (fun x hx => ⟨hru.2 x hx, h x hx⟩) []
  rw [List.append_nil] at h1
  refine ⟨h1, ?_⟩
  unfold decOk
  rw [h1, hr]
  rfl
theorem encV_bytes (x : Va) : IsBytes (encV x) := by
  unfold encV
  refine (encI_bytes _).append ?_
  split
  · exact encI_bytes _
  · split
    · exact (encI_bytes _).append (bytes_is _)
    · exact .nil
theorem encR_bytes (vs : List Va) : IsBytes (encR vs) := by
  refine (encI_bytes _).append ?_
  induction vs with
  | nil => exact .nil
  | cons x l ih => exact (encV_bytes x).append ih
end Go.Proofs.YtkdcnkadngbccaaGreatDoor
