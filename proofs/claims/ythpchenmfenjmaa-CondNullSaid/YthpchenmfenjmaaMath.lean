/-
  Plain mathematics for layer 1: numbers as digits to the base 128, and how they are read. Imports nothing of the program.
-/
import Derived.Lib.AppendStr
namespace Go.Proofs.Ythpchenmfenjmaa

def IsBytes (l : List Int) : Prop := ∀ x ∈ l, 0 ≤ x ∧ x < 256

theorem IsBytes.nil : IsBytes [] := fun x h => by cases h
theorem IsBytes.cons {x : Int} {l : List Int} (hx : 0 ≤ x ∧ x < 256) (h : IsBytes l) : IsBytes (x :: l) := by
  intro y hy
  rcases List.mem_cons.1 hy with rfl | hy
  · exact hx
  · exact h y hy
theorem IsBytes.append {a b : List Int} (ha : IsBytes a) (hb : IsBytes b) : IsBytes (a ++ b) := by
  intro y hy
  rcases List.mem_append.1 hy with hy | hy
  · exact ha y hy
  · exact hb y hy
theorem IsBytes.drop {l : List Int} (h : IsBytes l) (k : Nat) : IsBytes (l.drop k) := fun x hx => h x (List.mem_of_mem_drop hx)
theorem IsBytes.take {l : List Int} (h : IsBytes l) (k : Nat) : IsBytes (l.take k) := fun x hx => h x (List.mem_of_mem_take hx)

/-- 2n, or -2n - 1 -/
def foldN (n : Int) : Nat := if n < 0 then (2 * (-(n + 1)) + 1).toNat else (2 * n).toNat
def unfoldN (u : Nat) : Int := if u % 2 = 1 then -((u / 2 : Nat) : Int) - 1 else ((u / 2 : Nat) : Int)

theorem foldN_lt (n : Int) (h1 : -9223372036854775808 ≤ n) (h2 : n ≤ 9223372036854775807) : foldN n < 18446744073709551616 := by
  unfold foldN; split <;> omega
theorem unfold_fold (n : Int) : unfoldN (foldN n) = n := by
  unfold foldN unfoldN; split <;> split <;> omega
theorem fold_unfold (u : Nat) : foldN (unfoldN u) = u := by
  unfold foldN unfoldN; split <;> split <;> omega
theorem unfoldN_bd (u : Nat) (h : u < 18446744073709551616) : -9223372036854775808 ≤ unfoldN u ∧ unfoldN u ≤ 9223372036854775807 := by
  unfold unfoldN; split <;> omega

def enc (u : Nat) : List Int := if u < 128 then [(u : Int)] else ((u % 128 + 128 : Nat) : Int) :: enc (u / 128)
termination_by u
decreasing_by omega

theorem enc_small {u : Nat} (h : u < 128) : enc u = [(u : Int)] := by rw [enc, if_pos h]
theorem enc_big {u : Nat} (h : ¬ u < 128) : enc u = ((u % 128 + 128 : Nat) : Int) :: enc (u / 128) := by rw [enc, if_neg h]

theorem enc_len (k : Nat) : ∀ u, u < 128 ^ (k + 1) → (enc u).length ≤ k + 1 := by
  induction k with
  | zero => intro u h; rw [enc_small (by simpa using h)]; simp
  | succ k ih =>
    intro u h
    by_cases hu : u < 128
    · rw [enc_small hu]; simp
    · rw [enc_big hu, List.length_cons]
      have := ih (u / 128) (by rw [Nat.div_lt_iff_lt_mul (by omega)]; rw [Nat.pow_succ] at h; exact h)
      omega
theorem enc_len64 {u : Nat} (h : u < 18446744073709551616) : (enc u).length ≤ 10 :=
  enc_len 9 u (Nat.lt_of_lt_of_le h (by decide))
theorem enc_pos (u : Nat) : 0 < (enc u).length := by rw [enc]; split <;> simp
theorem enc_bytes (u : Nat) : IsBytes (enc u) := by
  induction u using Nat.strongRecOn with
  | ind u ih =>
    by_cases hu : u < 128
    · rw [enc_small hu]; exact .cons (by omega) .nil
    · rw [enc_big hu]; exact .cons (by omega) (ih _ (by omega))

def encI (n : Int) : List Int := enc (foldN n)
theorem encI_bytes (n : Int) : IsBytes (encI n) := enc_bytes _
theorem encI_pos (n : Int) : 0 < (encI n).length := enc_pos _
theorem encI_len {n : Int} (h1 : -9223372036854775808 ≤ n) (h2 : n ≤ 9223372036854775807) : (encI n).length ≤ 10 := enc_len64 (foldN_lt n h1 h2)

/-- Reading: digit i, what the earlier digits came to, what is left: the number and how many digits it has. -/
def dec : Nat → Nat → List Int → Option (Nat × Nat)
  | _, _, [] => none
  | i, acc, d :: r =>
    if i = 9 ∧ 1 < d then none
    else if 128 ≤ d then dec (i + 1) (acc + (d % 128).toNat * 128 ^ i) r
    else if d = 0 ∧ 0 < i then none
    else some (acc + (d % 128).toNat * 128 ^ i, i + 1)

theorem pow_le9 {i u : Nat} (hu : 128 ≤ u) (h : u * 128 ^ i < 18446744073709551616) : i < 9 := by
  rcases Nat.lt_or_ge i 9 with h9 | h9
  · exact h9
  · have h1 : 128 ^ 9 ≤ 128 ^ i := Nat.pow_le_pow_right (by omega) h9
    have h2 : 128 * 128 ^ 9 ≤ u * 128 ^ i := Nat.mul_le_mul hu h1
    have h3 : 18446744073709551616 ≤ 128 * 128 ^ 9 := by decide
    omega

theorem dec_enc (u : Nat) : ∀ i acc r, i ≤ 9 → (i = 0 ∨ 0 < u) → u * 128 ^ i < 18446744073709551616 → dec i acc (enc u ++ r) = some (acc + u * 128 ^ i, i + (enc u).length) := by
  induction u using Nat.strongRecOn with
  | ind u ih =>
    intro i acc r hi h0 hlt
    by_cases hu : u < 128
    · rw [enc_small hu]
      have h9 : ¬ (i = 9 ∧ 1 < (u : Int)) := by
        rintro ⟨rfl, h1⟩
        have h2 : 2 * 128 ^ 9 ≤ u * 128 ^ 9 := Nat.mul_le_mul_right _ (by omega)
        have h3 : 18446744073709551616 ≤ 2 * 128 ^ 9 := by decide
        omega
      have hm : ((u : Int) % 128).toNat = u := by omega
      simp only [List.cons_append, List.nil_append, dec, List.length_cons, List.length_nil, hm]
      rw [if_neg h9, if_neg (by omega), if_neg (by omega)]
    · have hi9 := pow_le9 (by omega) hlt
      rw [enc_big hu]
      have hm : (((u % 128 + 128 : Nat) : Int) % 128).toNat = u % 128 := by omega
      simp only [List.cons_append, dec, List.length_cons, hm]
      rw [if_neg (by omega), if_pos (by omega)]
      have hp : u / 128 * 128 ^ (i + 1) + u % 128 * 128 ^ i = u * 128 ^ i := by
        rw [Nat.pow_succ, show u / 128 * (128 ^ i * 128) = (u / 128 * 128) * 128 ^ i by rw [Nat.mul_assoc, Nat.mul_comm 128]]
        rw [← Nat.add_mul]
        congr 1
        omega
      rw [ih (u / 128) (by omega) (i + 1) _ r (by omega) (by omega) (by omega)]
      congr 2
      · omega
      · omega

theorem dec_inv (l : List Int) : ∀ i acc u k, IsBytes l → dec i acc l = some (u, k) →
    ∃ x, u = acc + x * 128 ^ i ∧ i < k ∧ k - i ≤ l.length ∧ enc x = l.take (k - i) ∧ (i = 0 ∨ 0 < x) ∧ (i ≤ 9 → k ≤ 10) ∧ (i ≤ 9 → x * 128 ^ i < 18446744073709551616) := by
  induction l with
  | nil => intro i acc u k _ h; simp [dec] at h
  | cons d r ih =>
    intro i acc u k hb h
    have hd := hb d (by simp)
    simp only [dec] at h
    split at h
    · cases h
    · rename_i h9
      split at h
      · rename_i h128
        obtain ⟨x, hu, hk, hlen, henc, hx, hk10, hx64⟩ := ih (i + 1) _ u k (fun y hy => hb y (by simp [hy])) h
        have hi8 : i ≠ 9 := fun e => h9 ⟨e, by omega⟩
        have hxp : 0 < x := by rcases hx with h | h <;> omega
        refine ⟨(d % 128).toNat + x * 128, ?_, by omega, by simp; omega, ?_, .inr (by omega), fun hi => hk10 (by omega), ?_⟩
        · rw [hu, Nat.add_mul, Nat.pow_succ, Nat.add_assoc, Nat.mul_assoc x, Nat.mul_comm 128]
        · rw [enc_big (by omega)]
          rw [show k - i = (k - (i + 1)) + 1 by omega, List.take_succ_cons, ← henc]
          congr 1
          · omega
          · congr 1; omega
        · intro hi
          have h1 := hx64 (by omega)
          have hm : (d % 128).toNat < 128 := by omega
          rw [Nat.pow_succ, show x * (128 ^ i * 128) = x * 128 * 128 ^ i by rw [Nat.mul_assoc, Nat.mul_comm 128]] at h1
          rw [Nat.add_mul]
          have hpow : 128 ^ i * 128 ∣ 18446744073709551616 := by
            rw [← Nat.pow_succ]
            exact ⟨2 * 128 ^ (8 - i), by
              rw [Nat.mul_comm, Nat.mul_assoc, ← Nat.pow_add]
              rw [show 8 - i + (i + 1) = 9 by omega]⟩
          obtain ⟨q, hq⟩ := hpow
          have hlt : x < q := by
            rcases Nat.lt_or_ge x q with h | h
            · exact h
            · have := Nat.mul_le_mul_left (128 ^ i * 128) h
              rw [show x * 128 * 128 ^ i = 128 ^ i * 128 * x by rw [Nat.mul_assoc, Nat.mul_comm]; congr 1; rw [Nat.mul_comm]] at h1
              omega
          have h2 : 128 ^ i * 128 * (x + 1) ≤ 18446744073709551616 := by rw [hq]; exact Nat.mul_le_mul_left _ hlt
          have h3 : (d % 128).toNat * 128 ^ i < 128 * 128 ^ i := Nat.mul_lt_mul_of_pos_right hm (Nat.pow_pos (by omega))
          have h4 : 128 ^ i * 128 * (x + 1) = x * 128 * 128 ^ i + 128 * 128 ^ i := by
            rw [Nat.mul_add, Nat.mul_one, Nat.mul_comm (128 ^ i) 128, Nat.mul_comm (128 * 128 ^ i) x, Nat.mul_assoc x]
          omega
      · split at h
        · cases h
        · rename_i h128 h0
          simp only [Option.some.injEq, Prod.mk.injEq] at h
          obtain ⟨h1, h2⟩ := h
          have hm : (d % 128).toNat = d.toNat := by omega
          rw [hm] at h1
          refine ⟨d.toNat, h1.symm, by omega, by simp; omega, ?_, by omega, by omega, ?_⟩
          · rw [enc_small (by omega), show k - i = 1 by omega]
            simp
            omega
          · intro hi
            rcases Nat.lt_or_ge i 9 with h | h
            · have h5 : 128 ^ i ≤ 128 ^ 8 := Nat.pow_le_pow_right (by omega) (by omega)
              have h6 : d.toNat * 128 ^ i ≤ 128 * 128 ^ 8 := Nat.mul_le_mul (by omega) h5
              have h7 : 128 * 128 ^ 8 < 18446744073709551616 := by decide
              omega
            · have : i = 9 := by omega
              subst this
              have h5 : d.toNat * 128 ^ 9 ≤ 1 * 128 ^ 9 := Nat.mul_le_mul_right _ (by omega)
              exact Nat.lt_of_le_of_lt h5 (by decide)

/-- what a reader's Int finds at a list -/
def num (l : List Int) : Option (Nat × Nat) := dec 0 0 l
theorem num_encI (n : Int) (r : List Int) (h1 : -9223372036854775808 ≤ n) (h2 : n ≤ 9223372036854775807) : num (encI n ++ r) = some (foldN n, (encI n).length) := by
  have h := dec_enc (foldN n) 0 0 r (by omega) (.inl rfl) (by rw [Nat.pow_zero, Nat.mul_one]; exact foldN_lt n h1 h2)
  rw [Nat.pow_zero, Nat.mul_one, Nat.zero_add, Nat.zero_add] at h
  exact h
theorem num_inv {l : List Int} {u k : Nat} (hb : IsBytes l) (h : num l = some (u, k)) : 0 < k ∧ k ≤ l.length ∧ k ≤ 10 ∧ encI (unfoldN u) = l.take k ∧ u < 18446744073709551616 := by
  obtain ⟨x, h1, h2, h3, h4, _, h6, h7⟩ := dec_inv l 0 0 u k hb h
  have hx : u = x := by rw [h1, Nat.pow_zero, Nat.mul_one, Nat.zero_add]
  subst hx
  refine ⟨h2, by omega, h6 (by omega), ?_, by have h := h7 (by omega); rwa [Nat.pow_zero, Nat.mul_one] at h⟩
  rw [encI, fold_unfold, h4]
  rfl

/-- a front of a number's bytes that isn't the whole is no number -/
theorem num_short (n : Int) (h1 : -9223372036854775808 ≤ n) (h2 : n ≤ 9223372036854775807) (c : Nat) (hc : c < (encI n).length) : num ((encI n).take c) = none := by
  cases h : num ((encI n).take c) with
  | none => rfl
  | some p =>
    obtain ⟨u, k⟩ := p
    obtain ⟨k0, kl, _, he, hu⟩ := num_inv ((encI_bytes n).take c) h
    exfalso
    have hbd := unfoldN_bd u hu
    have hsplit : encI n = encI (unfoldN u) ++ (encI n).drop k := by
      rw [he, List.take_take]
      rw [show min k c = k by simp at kl; omega, List.take_append_drop]
    have h3 := num_encI n [] h1 h2
    rw [List.append_nil] at h3
    have h4 : num (encI n) = some (foldN (unfoldN u), (encI (unfoldN u)).length) := by
      conv => lhs; rw [hsplit]
      exact num_encI (unfoldN u) _ hbd.1 hbd.2
    rw [h3] at h4
    simp only [Option.some.injEq, Prod.mk.injEq] at h4
    have hl := congrArg List.length he
    rw [List.length_take] at hl kl
    have := h4.2
    omega

/-! ### a reader: its state is what is left, or none where it is bad -/
abbrev St := Option (List Int)
def rInt : St → Int × St
  | none => (0, none)
  | some l => match num l with
    | none => (0, none)
    | some (u, k) => (unfoldN u, some (l.drop k))
def rCount (s : St) (most : Int) : Int × St :=
  let p := rInt s
  if p.1 < 0 ∨ most < p.1 then (0, none) else p
def rText (s : St) : List Int × St :=
  let p := rInt s
  match p.2 with
  | none => ([], none)
  | some l => if p.1 < 0 ∨ (l.length : Int) < p.1 then ([], none) else (l.take p.1.toNat, some (l.drop p.1.toNat))
def rTextsN : Nat → St → List (List Int) × St
  | 0, s => ([], s)
  | k + 1, s => match rText s with
    | (_, none) => ([], none)
    | (t, some l) => match rTextsN k (some l) with
      | (_, none) => ([], none)
      | (ts, some l') => (t :: ts, some l')
def left (s : St) : Nat := (s.getD []).length
def rTexts (s : St) : List (List Int) × St :=
  let p := rCount s (left s)
  match p.2 with
  | none => ([], none)
  | some l => rTextsN p.1.toNat (some l)

def encT (t : List Int) : List Int := encI t.length ++ t
def encTs : List (List Int) → List Int
  | [] => []
  | t :: r => encT t ++ encTs r
def encTexts (ts : List (List Int)) : List Int := encI ts.length ++ encTs ts

theorem rInt_some {l : List Int} {u k : Nat} (h : num l = some (u, k)) : rInt (some l) = (unfoldN u, some (l.drop k)) := by simp [rInt, h]
theorem rInt_none {l : List Int} (h : num l = none) : rInt (some l) = (0, none) := by simp [rInt, h]
theorem rInt_enc (n : Int) (r : List Int) (h1 : -9223372036854775808 ≤ n) (h2 : n ≤ 9223372036854775807) : rInt (some (encI n ++ r)) = (n, some r) := by
  rw [rInt_some (num_encI n r h1 h2), unfold_fold]
  simp
theorem rText_enc (t r : List Int) (h : t.length ≤ 9223372036854775807) : rText (some (encT t ++ r)) = (t, some r) := by
  unfold rText
  rw [encT, List.append_assoc, rInt_enc _ _ (by omega) (by omega)]
  simp only
  rw [if_neg (by simp; omega)]
  simp
theorem rTextsN_enc (ts : List (List Int)) (r : List Int) (h : ∀ t ∈ ts, t.length ≤ 9223372036854775807) : rTextsN ts.length (some (encTs ts ++ r)) = (ts, some r) := by
  induction ts with
  | nil => rfl
  | cons t ts ih =>
    simp only [encTs, List.length_cons, rTextsN, List.append_assoc]
    rw [rText_enc _ _ (h t (by simp))]
    simp only [ih (fun t ht => h t (by simp [ht]))]
theorem encTs_len (ts : List (List Int)) : ts.length ≤ (encTs ts).length := by
  induction ts with
  | nil => simp
  | cons t ts ih => simp [encTs, encT]; have := encI_pos t.length; omega
theorem rTexts_enc (ts : List (List Int)) (r : List Int) (hl : ts.length ≤ 9223372036854775807) (h : ∀ t ∈ ts, t.length ≤ 9223372036854775807) :
    rTexts (some (encTexts ts ++ r)) = (ts, some r) := by
  have hn := encTs_len ts
  have hp := encI_pos ts.length
  unfold rTexts rCount
  rw [encTexts, List.append_assoc, rInt_enc _ _ (by omega) (by omega)]
  have h1 : ¬ (((ts.length : Int) < 0) ∨ (left (some (encI ts.length ++ (encTs ts ++ r))) : Int) < ts.length) := by
    simp [left]; omega
  rw [if_neg h1]
  simpa using rTextsN_enc ts r h

#print axioms num_short
#print axioms rTexts_enc
end Go.Proofs.Ythpchenmfenjmaa
