/-
  Values as their bytes tell them, right or not: what is read is what was written. Nothing of the program in it.
-/
import Derived.Test.YtkdhmbfmjlpfbaaDoorKDec
namespace Go.Proofs.YtkdhmbfmjlpfbaaDoor
open Go.RowKit Go.Lib

def Shp (x : Va) : Prop := (x.k = 0 ∧ x.n = 0 ∧ x.s = ⟨#[]⟩) ∨ (x.k = 1 ∧ InN x ∧ x.s = ⟨#[]⟩) ∨ (x.k = 2 ∧ (0 ≤ x.n ∧ x.n < 256) ∧ x.s = ⟨#[]⟩) ∨ (x.k = 3 ∧ x.n = 0)
theorem shp_of_right {x : Va} (h : rightVa x = true) (hn : InN x) : Shp x := by
  rcases right_cases h with ⟨h1, h2, h3⟩ | ⟨h1, h2⟩ | ⟨h1, h2, h3⟩ | ⟨h1, h2, h3⟩
  · exact .inl ⟨h1, h2, h3⟩
  · exact .inr (.inl ⟨h1, hn, h2⟩)
  · exact .inr (.inr (.inl ⟨h1, by omega, h3⟩))
  · exact .inr (.inr (.inr ⟨h1, h2⟩))
theorem shp_k {x : Va} (h : Shp x) : 0 ≤ x.k ∧ x.k ≤ 3 := by rcases h with ⟨h, _⟩ | ⟨h, _⟩ | ⟨h, _⟩ | ⟨h, _⟩ <;> omega
theorem shp_n {x : Va} (h : Shp x) : InN x := by
  unfold InN
  rcases h with ⟨_, h, _⟩ | ⟨_, h, _⟩ | ⟨_, h, _⟩ | ⟨_, h⟩
  · omega
  · exact h
  · omega
  · omega

/-- a text's bytes up to its end, and what is behind -/
def unesc : List Int → Option (List Int × List Int)
  | [] => none
  | [_] => none
  | x :: y :: l => if x = 0 then (if y = 1 then some ([], l) else if y = 255 then (unesc l).map fun p => (0 :: p.1, p.2) else none) else (unesc (y :: l)).map fun p => (x :: p.1, p.2)
theorem unesc_cons {x : Int} {l : List Int} (h : x ≠ 0) : unesc (x :: l) = (unesc l).map fun p => (x :: p.1, p.2) := by
  cases l with
  | nil => rfl
  | cons y l => rw [unesc, if_neg h]
theorem unesc_esc (t r : List Int) : unesc (escB t ++ 0 :: 1 :: r) = some (t, r) := by
  induction t with
  | nil => simp [escB, unesc]
  | cons x l ih =>
    unfold escB
    by_cases h : x = 0
    · subst h
      rw [if_pos rfl]
      simp only [List.cons_append]
      rw [unesc, if_pos rfl, if_neg (by decide), if_pos rfl, ih]
      rfl
    · rw [if_neg h, List.cons_append, unesc_cons h, ih]
      rfl
theorem unesc_inv : ∀ (l t r : List Int), unesc l = some (t, r) → l = escB t ++ 0 :: 1 :: r
  | [], t, r, h => by simp [unesc] at h
  | [_], t, r, h => by simp [unesc] at h
  | x :: y :: l, t, r, h => by
    unfold unesc at h
    by_cases hx : x = 0
    · subst hx
      rw [if_pos rfl] at h
      by_cases h1 : y = 1
      · subst h1
        rw [if_pos rfl] at h
        simp only [Option.some.injEq, Prod.mk.injEq] at h
        obtain ⟨rfl, rfl⟩ := h
        simp [escB]
      · rw [if_neg h1] at h
        by_cases h2 : y = 255
        · subst h2
          rw [if_pos rfl] at h
          cases hu : unesc l with
          | none => rw [hu] at h; cases h
          | some p =>
            rw [hu] at h
            simp only [Option.map_some, Option.some.injEq, Prod.mk.injEq] at h
            obtain ⟨rfl, rfl⟩ := h
            have ih := unesc_inv l p.1 p.2 (by rw [hu])
            simp [escB, ih]
        · rw [if_neg h2] at h; cases h
    · rw [if_neg hx] at h
      cases hu : unesc (y :: l) with
      | none => rw [hu] at h; cases h
      | some p =>
        rw [hu] at h
        simp only [Option.map_some, Option.some.injEq, Prod.mk.injEq] at h
        obtain ⟨rfl, rfl⟩ := h
        have ih := unesc_inv (y :: l) p.1 p.2 (by rw [hu])
        simp [escB, hx, ih]

theorem shp_inj {x y : Va} (hx : Shp x) (hy : Shp y) {r l : List Int} (h : keyV x ++ r = keyV y ++ l) : x = y ∧ r = l := by
  have kx := shp_k hx
  have ky := shp_k hy
  obtain ⟨xk, xn, xs⟩ := x
  obtain ⟨yk, yn, ys⟩ := y
  unfold keyV at h
  simp only [List.cons_append, List.cons.injEq] at h kx ky
  obtain ⟨hk, h⟩ := h
  obtain rfl : xk = yk := by omega
  unfold Shp at hx hy
  simp only at hx hy
  rcases hx with ⟨h1, h2, h3⟩ | ⟨h1, h2, h3⟩ | ⟨h1, h2, h3⟩ | ⟨h1, h2⟩
  · rcases hy with ⟨g1, g2, g3⟩ | ⟨g1, _⟩ | ⟨g1, _⟩ | ⟨g1, _⟩ <;> first | (exfalso; omega) | skip
    subst h1 h2 h3 g2 g3
    exact ⟨rfl, by simpa using h⟩
  · rcases hy with ⟨g1, _⟩ | ⟨g1, g2, g3⟩ | ⟨g1, _⟩ | ⟨g1, _⟩ <;> first | (exfalso; omega) | skip
    subst h1 h3 g3
    simp only [if_true] at h
    obtain ⟨e1, e2⟩ := List.append_inj h (by rw [be_len, be_len])
    have e3 := congrArg (valB 0) e1
    have e4 := u64_lt xn
    have e5 := u64_lt yn
    rw [valB_be, valB_be, show (256 : Nat) ^ 8 = 18446744073709551616 by decide, Nat.mod_eq_of_lt e4, Nat.mod_eq_of_lt e5] at e3
    have e6 := u64_in h2
    have e7 := u64_in g2
    simp only at e6 e7
    obtain rfl : xn = yn := by omega
    exact ⟨rfl, e2⟩
  · rcases hy with ⟨g1, _⟩ | ⟨g1, _⟩ | ⟨g1, g2, g3⟩ | ⟨g1, _⟩ <;> first | (exfalso; omega) | skip
    subst h1 h3 g3
    simp at h
    obtain rfl : xn = yn := by omega
    exact ⟨rfl, h.2⟩
  · rcases hy with ⟨g1, _⟩ | ⟨g1, _⟩ | ⟨g1, _⟩ | ⟨g1, g2⟩ <;> first | (exfalso; omega) | skip
    subst h1 h2 g2
    simp at h
    have e1 := unesc_esc (bytes xs) r
    rw [h, unesc_esc] at e1
    simp only [Option.some.injEq, Prod.mk.injEq] at e1
    obtain ⟨e2, e3⟩ := e1
    obtain rfl := bytes_inj e2
    exact ⟨rfl, e3.symm⟩

/-- what was read ahead of the rest of a row's key is that row's beginning -/
theorem keys_front : ∀ (done us : List Va) (r : List Int), (∀ x ∈ done, Shp x) → (∀ x ∈ us, Shp x) → keyVs us = keyVs done ++ r → ∃ rest, us = done ++ rest ∧ r = keyVs rest
  | [], us, r, _, _, h => ⟨us, rfl, h.symm⟩
  | d :: done, [], r, _, _, h => by
    exfalso
    have h1 := congrArg List.length h
    have h2 := keyV_pos d
    simp only [keyVs, List.length_nil, List.length_append] at h1
    omega
  | d :: done, u :: us, r, hd, hu, h => by
    simp only [keyVs, List.append_assoc] at h
    obtain ⟨e1, e2⟩ := shp_inj (hu u (by simp)) (hd d (by simp)) h
    obtain ⟨rest, e3, e4⟩ := keys_front done us r (fun x hx => hd x (by simp [hx])) (fun x hx => hu x (by simp [hx])) e2
    exact ⟨rest, by rw [e1, e3]; rfl, e4⟩
theorem good_shp {us : List Va} (h : Good8 us) : ∀ x ∈ us, Shp x := fun x hx => shp_of_right ((right_all h.1).2 x hx) (h.2 x hx)
end Go.Proofs.YtkdhmbfmjlpfbaaDoor
