/-
  Modes and things as mathematics. Imports nothing of the program.
-/
import Derived.Test.YtbkffcopahiilaaChg
namespace Go.Proofs.Ytbkffcopahiilaa
open Go.RowKit Go.Lib

def rowM (m : Int) : List Int :=
  if m = 1 then [6, 8] else if m = 2 then [3, 5, 6, 8] else if m = 3 then [2, 5, 6, 8] else if m = 4 then [4, 6, 8] else if m = 5 then [2, 3, 5, 6, 8]
  else if m = 6 then [1, 2, 3, 4, 5, 6, 8] else if m = 7 then [8] else if m = 8 then [1, 2, 3, 4, 5, 6, 7, 8] else []
def rgB (m : Int) : Bool := decide (1 ≤ m) && decide (m ≤ 8)
def cfB (a b : Int) : Bool := (rowM a).contains b
/-- of the first k modes: what b conflicts with, a does -/
def cvN (a b : Int) : Nat → Bool
  | 0 => true
  | k + 1 => cvN a b k && (!cfB b ((k + 1 : Nat) : Int) || cfB a ((k + 1 : Nat) : Int))
def cvB (a b : Int) : Bool := rgB a && rgB b && cvN a b 8
/-- the best of the first k modes -/
def jnN (a b : Int) : Nat → Int
  | 0 => 0
  | k + 1 => if cvB ((k + 1 : Nat) : Int) a && cvB ((k + 1 : Nat) : Int) b && (decide (jnN a b k = 0) || decide ((rowM ((k + 1 : Nat) : Int)).length < (rowM (jnN a b k)).length)) then ((k + 1 : Nat) : Int) else jnN a b k
def jnI (a b : Int) : Int := jnN a b 8
/-- of the first k modes: how many more x conflicts with than y -/
def moreN (x y : Int) : Nat → Int
  | 0 => 0
  | k + 1 => moreN x y k + (if cfB x ((k + 1 : Nat) : Int) then 1 else 0) - (if cfB y ((k + 1 : Nat) : Int) then 1 else 0)

def dom : List Int := [1, 2, 3, 4, 5, 6, 7, 8]
theorem rg_dom {m : Int} (h : rgB m = true) : m ∈ dom := by
  unfold rgB at h
  simp only [Bool.and_eq_true, decide_eq_true_eq] at h
  have : m = 1 ∨ m = 2 ∨ m = 3 ∨ m = 4 ∨ m = 5 ∨ m = 6 ∨ m = 7 ∨ m = 8 := by omega
  simpa [dom] using this
theorem row_out {m : Int} (h : rgB m = false) : rowM m = [] := by
  have h' : ¬ (1 ≤ m ∧ m ≤ 8) := by
    intro hh
    unfold rgB at h
    rw [decide_eq_true hh.1, decide_eq_true hh.2] at h
    cases h
  unfold rowM
  rw [if_neg (by omega), if_neg (by omega), if_neg (by omega), if_neg (by omega), if_neg (by omega), if_neg (by omega), if_neg (by omega), if_neg (by omega)]
theorem row_in : ∀ m ∈ dom, ∀ x ∈ rowM m, x ∈ dom := by decide +kernel
theorem dom_rg : ∀ m ∈ dom, rgB m = true := by decide +kernel
theorem cf_l {a b : Int} (h : cfB a b = true) : rgB a = true := by
  cases hr : rgB a with
  | true => rfl
  | false => unfold cfB at h; rw [row_out hr] at h; cases h
theorem cf_r {a b : Int} (h : cfB a b = true) : rgB b = true := by
  have h1 := cf_l h
  unfold cfB at h
  exact dom_rg _ (row_in _ (rg_dom h1) _ (List.contains_iff_mem.1 h))
theorem cf_sym0 : ∀ a ∈ dom, ∀ b ∈ dom, cfB a b = cfB b a := by decide +kernel
theorem cf_sym (a b : Int) : cfB a b = cfB b a := by
  cases h1 : cfB a b with
  | true => rw [← cf_sym0 a (rg_dom (cf_l h1)) b (rg_dom (cf_r h1)), h1]
  | false =>
    cases h2 : cfB b a with
    | false => rfl
    | true => rw [cf_sym0 b (rg_dom (cf_l h2)) a (rg_dom (cf_r h2)), h1] at h2; cases h2
theorem cv_l {a b : Int} (h : cvB a b = true) : rgB a = true := by
  unfold cvB at h
  simp only [Bool.and_eq_true] at h
  exact h.1.1
theorem cv_r {a b : Int} (h : cvB a b = true) : rgB b = true := by
  unfold cvB at h
  simp only [Bool.and_eq_true] at h
  exact h.1.2
theorem cv_cf0 : ∀ a ∈ dom, ∀ b ∈ dom, ∀ c ∈ dom, cvB a b = true → cfB b c = true → cfB a c = true := by decide +kernel
theorem cv_cf {a b c : Int} (h : cvB a b = true) (k : cfB b c = true) : cfB a c = true := cv_cf0 a (rg_dom (cv_l h)) b (rg_dom (cv_r h)) c (rg_dom (cf_r k)) h k
theorem cv_tr0 : ∀ a ∈ dom, ∀ b ∈ dom, ∀ c ∈ dom, cvB a b = true → cvB b c = true → cvB a c = true := by decide +kernel
theorem cv_tr {a b c : Int} (h : cvB a b = true) (k : cvB b c = true) : cvB a c = true := cv_tr0 a (rg_dom (cv_l h)) b (rg_dom (cv_r h)) c (rg_dom (cv_r k)) h k
theorem cv_rf0 : ∀ a ∈ dom, cvB a a = true ∧ cvB 8 a = true := by decide +kernel
theorem cv_rf {a : Int} (h : rgB a = true) : cvB a a = true ∧ cvB 8 a = true := cv_rf0 a (rg_dom h)
theorem jn_ok0 : ∀ a ∈ dom, ∀ b ∈ dom, cvB (jnI a b) a = true ∧ cvB (jnI a b) b = true ∧ jnI a b = jnI b a := by decide +kernel
theorem jn_ok {a b : Int} (h : rgB a = true) (k : rgB b = true) : cvB (jnI a b) a = true ∧ cvB (jnI a b) b = true ∧ jnI a b = jnI b a := jn_ok0 a (rg_dom h) b (rg_dom k)
theorem jn_one0 : ∀ a ∈ dom, ¬ jnI a a = 0 := by decide +kernel
theorem jn_one {a : Int} (h : rgB a = true) : ¬ jnI a a = 0 := jn_one0 a (rg_dom h)
theorem jn_few0 : ∀ a ∈ dom, ∀ b ∈ dom, ∀ c ∈ dom, cvB c a = true → cvB c b = true → moreN (jnI a b) c 8 ≤ 0 := by decide +kernel
theorem jn_few {a b c : Int} (h : cvB c a = true) (k : cvB c b = true) : moreN (jnI a b) c 8 ≤ 0 := jn_few0 a (rg_dom (cv_r h)) b (rg_dom (cv_r k)) c (rg_dom (cv_l h)) h k
theorem cv_out {a b : Int} (h : rgB a = false ∨ rgB b = false) : cvB a b = false := by
  unfold cvB
  rcases h with h | h <;> simp [h]
theorem jnN_out {a b : Int} (h : rgB a = false ∨ rgB b = false) : ∀ k, jnN a b k = 0
  | 0 => rfl
  | k + 1 => by
    have h1 : (cvB ((k + 1 : Nat) : Int) a && cvB ((k + 1 : Nat) : Int) b) = false := by
      rcases h with h | h
      · rw [cv_out (.inr h)]; rfl
      · rw [cv_out (b := b) (.inr h), Bool.and_false]
    rw [jnN, h1, Bool.false_and]
    simpa using jnN_out h k
theorem jn_out {a b : Int} (h : rgB a = false ∨ rgB b = false) : jnI a b = 0 := jnN_out h 8
theorem more_le (x y : Int) : ∀ k : Nat, -(k : Int) ≤ moreN x y k ∧ moreN x y k ≤ (k : Int)
  | 0 => by simp [moreN]
  | k + 1 => by
    have := more_le x y k
    rw [moreN]
    split <;> split <;> omega
theorem jn_dom0 : ∀ a ∈ dom, ∀ b ∈ dom, jnI a b ∈ dom := by decide +kernel
/-- some mode, or none -/
theorem jnN_rg (a b : Int) : ∀ k, k ≤ 8 → jnN a b k = 0 ∨ rgB (jnN a b k) = true
  | 0, _ => .inl rfl
  | k + 1, h => by
    rw [jnN]
    split
    · refine .inr ?_
      unfold rgB
      rw [decide_eq_true (by omega), decide_eq_true (by omega)]
      rfl
    · exact jnN_rg a b k (by omega)
/-! ### things -/
structure Th where
  k : Int
  t : ByteArray
  y : ByteArray
def thC (x : Th) : List Value := [.int .i64 x.k, .string x.t, .string x.y]
def ths (l : List Th) : List Value := l.flatMap thC
abbrev thV (x : Th) : Value := .agg #[.int .i64 x.k, .string x.t, .string x.y]
def eS : ByteArray := ⟨#[]⟩
instance (x : Th) : Decidable (((x.k = 1 ∨ x.k = 2) ∧ x.t = eS ∧ x.y = eS) ∨ (x.k = 3 ∧ x.y = eS) ∨ x.k = 4) := inferInstance
def fitsB (x : Th) : Bool := decide (((x.k = 1 ∨ x.k = 2) ∧ x.t = eS ∧ x.y = eS) ∨ (x.k = 3 ∧ x.y = eS) ∨ x.k = 4)
def dbT : Th := ⟨1, eS, eS⟩
def abT (x : Th) : List Th := if fitsB x = false then [] else if x.k = 3 then [dbT] else if x.k = 4 then [dbT, ⟨3, x.t, eS⟩] else []
theorem abT_len (x : Th) : (abT x).length ≤ 2 := by
  unfold abT
  split
  · simp
  · split
    · simp
    · split <;> simp
theorem abT_out {x : Th} (h : fitsB x = false) : abT x = [] := by unfold abT; rw [if_pos h]
theorem fits_db : fitsB dbT = true := by unfold fitsB; rw [decide_eq_true]; exact .inl ⟨.inl rfl, rfl, rfl⟩
theorem fits_tb (s : ByteArray) : fitsB ⟨3, s, eS⟩ = true := by unfold fitsB; rw [decide_eq_true]; exact .inr (.inl ⟨rfl, rfl⟩)
theorem ab_db : abT dbT = [] := by unfold abT; rw [fits_db]; rfl
theorem ab_tb (s : ByteArray) : abT ⟨3, s, eS⟩ = [dbT] := by unfold abT; rw [fits_tb]; rfl
/-- what is above a thing, one by one -/
theorem ab_at {x : Th} {i : Nat} (hi : i < (abT x).length) : fitsB (abT x)[i] = true ∧ (abT x)[i].k < x.k ∧ abT (abT x)[i] = (abT x).take i := by
  unfold abT at hi ⊢
  by_cases hf : fitsB x = false
  · simp only [if_pos hf] at hi; simp at hi
  · by_cases h3 : x.k = 3
    · simp only [if_neg hf, if_pos h3] at hi ⊢
      have : i = 0 := by simpa using hi
      subst this
      exact ⟨fits_db, show (1 : Int) < x.k by omega, ab_db⟩
    · by_cases h4 : x.k = 4
      · simp only [if_neg hf, if_neg h3, if_pos h4] at hi ⊢
        have : i = 0 ∨ i = 1 := by simp at hi; omega
        rcases this with rfl | rfl
        · exact ⟨fits_db, show (1 : Int) < x.k by omega, ab_db⟩
        · exact ⟨fits_tb _, show (3 : Int) < x.k by omega, ab_tb _⟩
      · simp only [if_neg hf, if_neg h3, if_neg h4] at hi; simp at hi
theorem ab_up {x : Th} {i : Nat} (hi : i + 1 < (abT x).length) : (abT x)[i].k < (abT x)[i + 1].k := by
  have h2 := abT_len x
  have : i = 0 := by omega
  subst this
  unfold abT at hi ⊢
  by_cases hf : fitsB x = false
  · simp only [if_pos hf] at hi; simp at hi
  · by_cases h3 : x.k = 3
    · simp only [if_neg hf, if_pos h3] at hi; simp at hi
    · by_cases h4 : x.k = 4
      · simp only [if_neg hf, if_neg h3, if_pos h4]
        exact (by decide : (1 : Int) < 3)
      · simp only [if_neg hf, if_neg h3, if_neg h4] at hi; simp at hi
end Go.Proofs.Ytbkffcopahiilaa
