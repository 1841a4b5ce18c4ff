/-
  Plain mathematics for layer 1: numbers as digits to the base 128, and how they are read. Imports nothing of the program.
-/
import Derived.Lib.AppendStr
import Derived.WalkKit
import Derived.Maps.AppendAt
import Derived.Deep.AppendLies
import Derived.Deep.Draws
import Derived.WalkSmall
import Derived.Lib.Hide
namespace Go.Proofs.YthbbheegkhlniaaGreat

def IsBytes (l : List Int) : Prop := ∀ x ∈ l, 0 ≤ x ∧ x < 256

theorem IsBytes.nil : IsBytes [] := fun x h => by cases h
theorem IsBytes.cons {x : Int} {l : List Int} (hx : 0 ≤ x ∧ x < 256) (h : IsBytes l) : IsBytes (x :: l) := by
  intro y hy
  rcases List.mem_cons.1 hy with rfl | hy
  · exact hx
  · exact h y hy
theorem IsBytes.append {a b : List Int} (ha : IsBytes a) (hb : IsBytes b) : IsBytes (a ++ b) := by
  intro y hy
  rcases List.mem_append.1 hy with hy | hy
  · exact ha y hy
  · exact hb y hy
theorem IsBytes.drop {l : List Int} (h : IsBytes l) (k : Nat) : IsBytes (l.drop k) := fun x hx => h x (List.mem_of_mem_drop hx)
theorem IsBytes.take {l : List Int} (h : IsBytes l) (k : Nat) : IsBytes (l.take k) := fun x hx => h x (List.mem_of_mem_take hx)

/-- 2n, or -2n - 1 -/
def foldN (n : Int) : Nat := if n < 0 then (2 * (-(n + 1)) + 1).toNat else (2 * n).toNat
def unfoldN (u : Nat) : Int := if u % 2 = 1 then -((u / 2 : Nat) : Int) - 1 else ((u / 2 : Nat) : Int)

theorem foldN_lt (n : Int) (h1 : -9223372036854775808 ≤ n) (h2 : n ≤ 9223372036854775807) : foldN n < 18446744073709551616 := by
  unfold foldN; split <;> omega
theorem unfold_fold (n : Int) : unfoldN (foldN n) = n := by
  unfold foldN unfoldN; split <;> split <;> omega
theorem fold_unfold (u : Nat) : foldN (unfoldN u) = u := by
  unfold foldN unfoldN; split <;> split <;> omega
theorem unfoldN_bd (u : Nat) (h : u < 18446744073709551616) : -9223372036854775808 ≤ unfoldN u ∧ unfoldN u ≤ 9223372036854775807 := by
  unfold unfoldN; split <;> omega

def enc (u : Nat) : List Int := if u < 128 then [(u : Int)] else ((u % 128 + 128 : Nat) : Int) :: enc (u / 128)
termination_by u
decreasing_by omega

theorem enc_small {u : Nat} (h : u < 128) : enc u = [(u : Int)] := by rw [enc, if_pos h]
theorem enc_big {u : Nat} (h : ¬ u < 128) : enc u = ((u % 128 + 128 : Nat) : Int) :: enc (u / 128) := by rw [enc, if_neg h]

theorem enc_len (k : Nat) : ∀ u, u < 128 ^ (k + 1) → (enc u).length ≤ k + 1 := by
  induction k with
  | zero => intro u h; rw [enc_small (by simpa using h)]; simp
  | succ k ih =>
    intro u h
    by_cases hu : u < 128
    · rw [enc_small hu]; simp
    · rw [enc_big hu, List.length_cons]
      have := ih (u / 128) (by rw [Nat.div_lt_iff_lt_mul (by omega)]; rw [Nat.pow_succ] at h; exact h)
      omega
theorem enc_len64 {u : Nat} (h : u < 18446744073709551616) : (enc u).length ≤ 10 :=
  enc_len 9 u (Nat.lt_of_lt_of_le h (by decide))
theorem enc_pos (u : Nat) : 0 < (enc u).length := by rw [enc]; split <;> simp
theorem enc_bytes (u : Nat) : IsBytes (enc u) := by
  induction u using Nat.strongRecOn with
  | ind u ih =>
    by_cases hu : u < 128
    · rw [enc_small hu]; exact .cons (by omega) .nil
    · rw [enc_big hu]; exact .cons (by omega) (ih _ (by omega))

def encI (n : Int) : List Int := enc (foldN n)
theorem encI_bytes (n : Int) : IsBytes (encI n) := enc_bytes _
theorem encI_pos (n : Int) : 0 < (encI n).length := enc_pos _
theorem encI_len {n : Int} (h1 : -9223372036854775808 ≤ n) (h2 : n ≤ 9223372036854775807) : (encI n).length ≤ 10 := enc_len64 (foldN_lt n h1 h2)

/-- Reading: digit i, what the earlier digits came to, what is left: the number and how many digits it has. -/
def dec : Nat → Nat → List Int → Option (Nat × Nat)
  | _, _, [] => none
  | i, acc, d :: r =>
    if i = 9 ∧ 1 < d then none
    else if 128 ≤ d then dec (i + 1) (acc + (d % 128).toNat * 128 ^ i) r
    else if d = 0 ∧ 0 < i then none
    else some (acc + (d % 128).toNat * 128 ^ i, i + 1)

theorem pow_le9 {i u : Nat} (hu : 128 ≤ u) (h : u * 128 ^ i < 18446744073709551616) : i < 9 := by
  rcases Nat.lt_or_ge i 9 with h9 | h9
  · exact h9
  · have h1 : 128 ^ 9 ≤ 128 ^ i := Nat.pow_le_pow_right (by omega) h9
    have h2 : 128 * 128 ^ 9 ≤ u * 128 ^ i := Nat.mul_le_mul hu h1
    have h3 : 18446744073709551616 ≤ 128 * 128 ^ 9 := by decide
    omega

theorem dec_enc (u : Nat) : ∀ i acc r, i ≤ 9 → (i = 0 ∨ 0 < u) → u * 128 ^ i < 18446744073709551616 → dec i acc (enc u ++ r) = some (acc + u * 128 ^ i, i + (enc u).length) := by
  induction u using Nat.strongRecOn with
  | ind u ih =>
    intro i acc r hi h0 hlt
    by_cases hu : u < 128
    · rw [enc_small hu]
      have h9 : ¬ (i = 9 ∧ 1 < (u : Int)) := by
        rintro ⟨rfl, h1⟩
        have h2 : 2 * 128 ^ 9 ≤ u * 128 ^ 9 := Nat.mul_le_mul_right _ (by omega)
        have h3 : 18446744073709551616 ≤ 2 * 128 ^ 9 := by decide
        omega
      have hm : ((u : Int) % 128).toNat = u := by omega
      simp only [List.cons_append, List.nil_append, dec, List.length_cons, List.length_nil, hm]
      rw [if_neg h9, if_neg (by omega), if_neg (by omega)]
    · have hi9 := pow_le9 (by omega) hlt
      rw [enc_big hu]
      have hm : (((u % 128 + 128 : Nat) : Int) % 128).toNat = u % 128 := by omega
      simp only [List.cons_append, dec, List.length_cons, hm]
      rw [if_neg (by omega), if_pos (by omega)]
      have hp : u / 128 * 128 ^ (i + 1) + u % 128 * 128 ^ i = u * 128 ^ i := by
        rw [Nat.pow_succ, show u / 128 * (128 ^ i * 128) = (u / 128 * 128) * 128 ^ i by rw [Nat.mul_assoc, Nat.mul_comm 128]]
        rw [← Nat.add_mul]
        congr 1
        omega
      rw [ih (u / 128) (by omega) (i + 1) _ r (by omega) (by omega) (by omega)]
      congr 2
      · omega
      · omega

theorem dec_inv (l : List Int) : ∀ i acc u k, IsBytes l → dec i acc l = some (u, k) →
    ∃ x, u = acc + x * 128 ^ i ∧ i < k ∧ k - i ≤ l.length ∧ enc x = l.take (k - i) ∧ (i = 0 ∨ 0 < x) ∧ (i ≤ 9 → k ≤ 10) ∧ (i ≤ 9 → x * 128 ^ i < 18446744073709551616) := by
  induction l with
  | nil => intro i acc u k _ h; simp [dec] at h
  | cons d r ih =>
    intro i acc u k hb h
    have hd := hb d (by simp)
    simp only [dec] at h
    split at h
    · cases h
    · rename_i h9
      split at h
      · rename_i h128
        obtain ⟨x, hu, hk, hlen, henc, hx, hk10, hx64⟩ := ih (i + 1) _ u k (fun y hy => hb y (by simp [hy])) h
        have hi8 : i ≠ 9 := fun e => h9 ⟨e, by omega⟩
        have hxp : 0 < x := by rcases hx with h | h <;> omega
        refine ⟨(d % 128).toNat + x * 128, ?_, by omega, by simp; omega, ?_, .inr (by omega), fun hi => hk10 (by omega), ?_⟩
        · rw [hu, Nat.add_mul, Nat.pow_succ, Nat.add_assoc, Nat.mul_assoc x, Nat.mul_comm 128]
        · rw [enc_big (by omega)]
          rw [show k - i = (k - (i + 1)) + 1 by omega, List.take_succ_cons, ← henc]
          congr 1
          · omega
          · congr 1; omega
        · intro hi
          have h1 := hx64 (by omega)
          have hm : (d % 128).toNat < 128 := by omega
          rw [Nat.pow_succ, show x * (128 ^ i * 128) = x * 128 * 128 ^ i by rw [Nat.mul_assoc, Nat.mul_comm 128]] at h1
          rw [Nat.add_mul]
          have hpow : 128 ^ i * 128 ∣ 18446744073709551616 := by
            rw [← Nat.pow_succ]
            exact ⟨2 * 128 ^ (8 - i), by
              rw [Nat.mul_comm, Nat.mul_assoc, ← Nat.pow_add]
              rw [show 8 - i + (i + 1) = 9 by omega]⟩
          obtain ⟨q, hq⟩ := hpow
          have hlt : x < q := by
            rcases Nat.lt_or_ge x q with h | h
            · exact h
            · have := Nat.mul_le_mul_left (128 ^ i * 128) h
              rw [show x * 128 * 128 ^ i = 128 ^ i * 128 * x by rw [Nat.mul_assoc, Nat.mul_comm]; congr 1; rw [Nat.mul_comm]] at h1
              omega
          have h2 : 128 ^ i * 128 * (x + 1) ≤ 18446744073709551616 := by rw [hq]; exact Nat.mul_le_mul_left _ hlt
          have h3 : (d % 128).toNat * 128 ^ i < 128 * 128 ^ i := Nat.mul_lt_mul_of_pos_right hm (Nat.pow_pos (by omega))
          have h4 : 128 ^ i * 128 * (x + 1) = x * 128 * 128 ^ i + 128 * 128 ^ i := by
            rw [Nat.mul_add, Nat.mul_one, Nat.mul_comm (128 ^ i) 128, Nat.mul_comm (128 * 128 ^ i) x, Nat.mul_assoc x]
          omega
      · split at h
        · cases h
        · rename_i h128 h0
          simp only [Option.some.injEq, Prod.mk.injEq] at h
          obtain ⟨h1, h2⟩ := h
          have hm : (d % 128).toNat = d.toNat := by omega
          rw [hm] at h1
          refine ⟨d.toNat, h1.symm, by omega, by simp; omega, ?_, by omega, by omega, ?_⟩
          · rw [enc_small (by omega), show k - i = 1 by omega]
            simp
            omega
          · intro hi
            rcases Nat.lt_or_ge i 9 with h | h
            · have h5 : 128 ^ i ≤ 128 ^ 8 := Nat.pow_le_pow_right (by omega) (by omega)
              have h6 : d.toNat * 128 ^ i ≤ 128 * 128 ^ 8 := Nat.mul_le_mul (by omega) h5
              have h7 : 128 * 128 ^ 8 < 18446744073709551616 := by decide
              omega
            · have : i = 9 := by omega
              subst this
              have h5 : d.toNat * 128 ^ 9 ≤ 1 * 128 ^ 9 := Nat.mul_le_mul_right _ (by omega)
              exact Nat.lt_of_le_of_lt h5 (by decide)

/-- what a reader's Int finds at a list -/
def num (l : List Int) : Option (Nat × Nat) := dec 0 0 l
theorem num_encI (n : Int) (r : List Int) (h1 : -9223372036854775808 ≤ n) (h2 : n ≤ 9223372036854775807) : num (encI n ++ r) = some (foldN n, (encI n).length) := by
  have h := dec_enc (foldN n) 0 0 r (by omega) (.inl rfl) (by rw [Nat.pow_zero, Nat.mul_one]; exact foldN_lt n h1 h2)
  rw [Nat.pow_zero, Nat.mul_one, Nat.zero_add, Nat.zero_add] at h
  exact h
theorem num_inv {l : List Int} {u k : Nat} (hb : IsBytes l) (h : num l = some (u, k)) : 0 < k ∧ k ≤ l.length ∧ k ≤ 10 ∧ encI (unfoldN u) = l.take k ∧ u < 18446744073709551616 := by
  obtain ⟨x, h1, h2, h3, h4, _, h6, h7⟩ := dec_inv l 0 0 u k hb h
  have hx : u = x := by rw [h1, Nat.pow_zero, Nat.mul_one, Nat.zero_add]
  subst hx
  refine ⟨h2, by omega, h6 (by omega), ?_, by have h := h7 (by omega); rwa [Nat.pow_zero, Nat.mul_one] at h⟩
  rw [encI, fold_unfold, h4]
  rfl

/-- a front of a number's bytes that isn't the whole is no number -/
theorem num_short (n : Int) (h1 : -9223372036854775808 ≤ n) (h2 : n ≤ 9223372036854775807) (c : Nat) (hc : c < (encI n).length) : num ((encI n).take c) = none := by
  cases h : num ((encI n).take c) with
  | none => rfl
  | some p =>
    obtain ⟨u, k⟩ := p
    obtain ⟨k0, kl, _, he, hu⟩ := num_inv ((encI_bytes n).take c) h
    exfalso
    have hbd := unfoldN_bd u hu
    have hsplit : encI n = encI (unfoldN u) ++ (encI n).drop k := by
      rw [he, List.take_take]
      rw [show min k c = k by simp at kl; omega, List.take_append_drop]
    have h3 := num_encI n [] h1 h2
    rw [List.append_nil] at h3
    have h4 : num (encI n) = some (foldN (unfoldN u), (encI (unfoldN u)).length) := by
      conv => lhs; rw [hsplit]
      exact num_encI (unfoldN u) _ hbd.1 hbd.2
    rw [h3] at h4
    simp only [Option.some.injEq, Prod.mk.injEq] at h4
    have hl := congrArg List.length he
    rw [List.length_take] at hl kl
    have := h4.2
    omega

/-! ### a reader: its state is what is left, or none where it is bad -/
abbrev St := Option (List Int)
def rInt : St → Int × St
  | none => (0, none)
  | some l => match num l with
    | none => (0, none)
    | some (u, k) => (unfoldN u, some (l.drop k))
def rCount (s : St) (most : Int) : Int × St :=
  let p := rInt s
  if p.1 < 0 ∨ most < p.1 then (0, none) else p
def rText (s : St) : List Int × St :=
  let p := rInt s
  match p.2 with
  | none => ([], none)
  | some l => if p.1 < 0 ∨ (l.length : Int) < p.1 then ([], none) else (l.take p.1.toNat, some (l.drop p.1.toNat))
def rTextsN : Nat → St → List (List Int) × St
  | 0, s => ([], s)
  | k + 1, s => match rText s with
    | (_, none) => ([], none)
    | (t, some l) => match rTextsN k (some l) with
      | (_, none) => ([], none)
      | (ts, some l') => (t :: ts, some l')
def left (s : St) : Nat := (s.getD []).length
def rTexts (s : St) : List (List Int) × St :=
  let p := rCount s (left s)
  match p.2 with
  | none => ([], none)
  | some l => rTextsN p.1.toNat (some l)

def encT (t : List Int) : List Int := encI t.length ++ t
def encTs : List (List Int) → List Int
  | [] => []
  | t :: r => encT t ++ encTs r
def encTexts (ts : List (List Int)) : List Int := encI ts.length ++ encTs ts

theorem rInt_some {l : List Int} {u k : Nat} (h : num l = some (u, k)) : rInt (some l) = (unfoldN u, some (l.drop k)) := by simp [rInt, h]
theorem rInt_none {l : List Int} (h : num l = none) : rInt (some l) = (0, none) := by simp [rInt, h]
theorem rInt_enc (n : Int) (r : List Int) (h1 : -9223372036854775808 ≤ n) (h2 : n ≤ 9223372036854775807) : rInt (some (encI n ++ r)) = (n, some r) := by
  rw [rInt_some (num_encI n r h1 h2), unfold_fold]
  simp
theorem rText_enc (t r : List Int) (h : t.length ≤ 9223372036854775807) : rText (some (encT t ++ r)) = (t, some r) := by
  unfold rText
  rw [encT, List.append_assoc, rInt_enc _ _ (by omega) (by omega)]
  simp only
  rw [if_neg (by simp; omega)]
  simp
theorem rTextsN_enc (ts : List (List Int)) (r : List Int) (h : ∀ t ∈ ts, t.length ≤ 9223372036854775807) : rTextsN ts.length (some (encTs ts ++ r)) = (ts, some r) := by
  induction ts with
  | nil => rfl
  | cons t ts ih =>
    simp only [encTs, List.length_cons, rTextsN, List.append_assoc]
    rw [rText_enc _ _ (h t (by simp))]
    simp only [ih (fun t ht => h t (by simp [ht]))]
theorem encTs_len (ts : List (List Int)) : ts.length ≤ (encTs ts).length := by
  induction ts with
  | nil => simp
  | cons t ts ih => simp [encTs, encT]; have := encI_pos t.length; omega
theorem rTexts_enc (ts : List (List Int)) (r : List Int) (hl : ts.length ≤ 9223372036854775807) (h : ∀ t ∈ ts, t.length ≤ 9223372036854775807) :
    rTexts (some (encTexts ts ++ r)) = (ts, some r) := by
  have hn := encTs_len ts
  have hp := encI_pos ts.length
  unfold rTexts rCount
  rw [encTexts, List.append_assoc, rInt_enc _ _ (by omega) (by omega)]
  have h1 : ¬ (((ts.length : Int) < 0) ∨ (left (some (encI ts.length ++ (encTs ts ++ r))) : Int) < ts.length) := by
    simp [left]; omega
  rw [if_neg h1]
  simpa using rTextsN_enc ts r h

#print axioms num_short
#print axioms rTexts_enc
end Go.Proofs.YthbbheegkhlniaaGreat

/-
  Words on memory for the walks of layer 1: a slice that reads as a list of cells, a block that is known whole, append onto a row of the call's own. Imports nothing of the program.
-/
namespace Go.Proofs.YthbbheegkhlniaaGreat
open Go.RowKit Go.Lib

theorem addr_block (a : Addr) (n : Nat) : (a.add n).block = a.block := by unfold Addr.add; split <;> rfl
theorem addr_add (a : Addr) (i j : Nat) : (a.add i).add j = a.add (i + j) := by
  unfold Addr.add
  by_cases hi : i = 0 <;> by_cases hj : j = 0 <;> simp [hi, hj, Nat.add_assoc]

/-- the slice '.slice A n c' holds the cells xs and lies below block B -/
def Rd (w : World) (B : Nat) (A : Option Addr) (n : Nat) (xs : List Value) : Prop :=
  xs.length = n ∧ (0 < n → ∃ ad, A = some ad ∧ ad.block < B ∧ ∀ j u, xs[j]? = some u → w.cell? (ad.add j) = some u)

section
variable {w w' : World} {B B' n : Nat} {A : Option Addr} {xs : List Value}
theorem Rd.empty : Rd w B A 0 [] := ⟨rfl, fun h => absurd h (by omega)⟩
theorem Rd.len (h : Rd w B A n xs) : xs.length = n := h.1
theorem Rd.at_ {k : Nat} (h : Rd w B A n xs) (hk : k < n) : ∃ ad u, A = some ad ∧ ad.block < B ∧ xs[k]? = some u ∧ w.cell? (ad.add k) = some u := by
  obtain ⟨ad, e, hb, hc⟩ := h.2 (by omega)
  have hl : k < xs.length := by rw [h.1]; exact hk
  exact ⟨ad, xs[k], e, hb, List.getElem?_eq_getElem hl, hc k _ (List.getElem?_eq_getElem hl)⟩
theorem Rd.keep (h : Rd w B A n xs) (hk : ∀ p : Addr, p.block < B → w'.cell? p = w.cell? p) : Rd w' B A n xs :=
  ⟨h.1, fun hn => by
    obtain ⟨ad, e, hb, hc⟩ := h.2 hn
    exact ⟨ad, e, hb, fun j u hu => (hk _ (by rw [addr_block]; exact hb)).trans (hc j u hu)⟩⟩
theorem Rd.more (h : Rd w B A n xs) (hB : B ≤ B') : Rd w B' A n xs :=
  ⟨h.1, fun hn => by
    obtain ⟨ad, e, hb, hc⟩ := h.2 hn
    exact ⟨ad, e, by omega, hc⟩⟩
theorem Rd.below (h : Rd w B A n xs) {C : Nat} (hb : Below C w w') (hC : B ≤ C) : Rd w' B A n xs := h.keep fun p hp => hb.cell (p := p) (by omega)
theorem Rd.drewN (h : Rd w B A n xs) (k : Nat) : Rd (w.drewN k) B A n xs := h
theorem Rd.drew (h : Rd w B A n xs) : Rd w.drew B A n xs := h
theorem Rd.alloc (h : Rd w B A n xs) (hB : B ≤ w.heap.size) (o : Obj) : Rd (w.alloc o) B A n xs := h.keep fun p hp => World.cell?_alloc_lt w o p (by omega)
theorem Rd.setCell (h : Rd w B A n xs) {p : Addr} (hB : B ≤ p.block) (u : Value) : Rd (w.setCell p u) B A n xs :=
  h.keep fun q hq => World.cell?_setCell_other w p q u (fun e => by subst e; omega)
theorem Rd.cutl (h : Rd w B A n xs) {k cap : Nat} (hk : k ≤ n) (hc : n ≤ cap) :
    Rd w B (if cap = k then A else A.map (·.add k)) (n - k) (xs.drop k) := by
  refine ⟨by rw [List.length_drop, h.1], fun hn => ?_⟩
  obtain ⟨ad, rfl, hb, hcell⟩ := h.2 (by omega)
  rw [if_neg (by omega)]
  refine ⟨ad.add k, rfl, by rw [addr_block]; exact hb, fun j u hu => ?_⟩
  rw [addr_add]
  exact hcell _ u (by rw [← hu, List.getElem?_drop])
theorem Rd.cuth (h : Rd w B A n xs) {k : Nat} (hk : k ≤ n) : Rd w B A k (xs.take k) := by
  refine ⟨by rw [List.length_take, h.1]; omega, fun hn => ?_⟩
  obtain ⟨ad, rfl, hb, hcell⟩ := h.2 (by omega)
  refine ⟨ad, rfl, hb, fun j u hu => hcell j u ?_⟩
  rw [List.getElem?_take] at hu
  split at hu
  · exact hu
  · cases hu
theorem Rd.of_own {base : Nat} {e : TypeId} {c : Nat} (h : w.ownsRow base e 1 (.slice A n c) n xs) : Rd w w.heap.size A n xs := by
  refine ⟨by simpa using h.1, fun hn => ?_⟩
  obtain ⟨g, cap, hv, _, hlt⟩ := h.form hn
  have hA : A = some ⟨g, 0, none⟩ := by injection hv
  subst hA
  exact ⟨_, rfl, hlt, h.cells (g := g) rfl⟩
end

/-- what owns a row shows its shape -/
theorem own_shape {w : World} {base : Nat} {e : TypeId} {v : Value} {n : Nat} {xs : List Value} (h : w.ownsRow base e 1 v n xs) : ∃ A c, v = .slice A n c ∧ n ≤ c ∧ c ≤ maxLen := by
  rcases h.2 with ⟨rfl, rfl⟩ | ⟨g, cap, cur, rfl, _, _, hn, hm, _⟩
  · exact ⟨none, 0, rfl, Nat.le_refl _, by simp [maxLen]⟩
  · exact ⟨_, cap, rfl, hn, hm⟩

theorem own_below {w w' : World} {base C : Nat} {e : TypeId} {v : Value} {n : Nat} {xs : List Value} (h : w.ownsRow base e 1 v n xs) (hb : Below C w w') (hC : w.heap.size ≤ C) : w'.ownsRow base e 1 v n xs := by
  refine ⟨h.1, ?_⟩
  rcases h.2 with hn | ⟨g, cap, cur, rfl, hbg, hg, rest⟩
  · exact .inl hn
  · refine .inr ⟨g, cap, cur, rfl, hbg, ?_, rest⟩
    have hlt : g < w.heap.size := (Array.getElem?_eq_some_iff.1 hg).1
    exact (hb.block g (by omega)).trans hg
theorem own_set {w : World} {base : Nat} {e : TypeId} {v : Value} {n : Nat} {xs : List Value} (h : w.ownsRow base e 1 v n xs) {p : Addr} (hp : v.ownBlock ≠ some p.block) (u : Value) : (w.setCell p u).ownsRow base e 1 v n xs := by
  refine ⟨h.1, ?_⟩
  rcases h.2 with hn | ⟨g, cap, cur, rfl, hbg, hg, rest⟩
  · exact .inl hn
  · refine .inr ⟨g, cap, cur, rfl, hbg, ?_, rest⟩
    rw [Below.heap_setCell _ _ _ _ (by intro he; apply hp; simp [Value.ownBlock, he])]
    exact hg
theorem own_base {w : World} {base base' : Nat} {e : TypeId} {v : Value} {n : Nat} {xs : List Value} (h : w.ownsRow base e 1 v n xs) (hb : base' ≤ base) : w.ownsRow base' e 1 v n xs := by
  refine ⟨h.1, ?_⟩
  rcases h.2 with hn | ⟨g, cap, cur, rfl, hbg, hg, rest⟩
  · exact .inl hn
  · exact .inr ⟨g, cap, cur, rfl, by omega, hg, rest⟩

/-- a step that writes the row that v owns, and new blocks alone -/
theorem below_own {w w' : World} {base : Nat} {e : TypeId} {v : Value} {n : Nat} {xs : List Value} (h : w.ownsRow base e 1 v n xs) (hg : w.grownBy w' v.ownBlock) (hb : base ≤ w.heap.size) : Below base w w' :=
  (Below.refl _ _).grown hg hb fun k hk => (h.lt k hk).1

section
variable {P : Program} (w : World)
/-- nothing is appended: the value and the world stay -/
theorem run_append_nothing (base : Nat) (t ty e : TypeId) (i : TypeInfo) (size : Nat) (ht : P.underlying t = some (.slice e)) (hi : P.info? e = some i)
    (v : Value) (n : Nat) (xs : List Value) (hown : w.ownsRow base e size v n xs) (c : Nat) : (Builtin.append_ #[t, t] ty #[v, .slice none 0 c]).run P w = .ok v w := by
  rcases hown.2 with ⟨rfl, rfl⟩ | ⟨g, cap, cur, rfl, _, _, hnc, _⟩
  · simp [Builtin.append_, run_underlying ht, sizeOf, typeInfo, hi, Builtin.lenOf, Builtin.firstCells]
  · simp [Builtin.append_, run_underlying ht, sizeOf, typeInfo, hi, Builtin.lenOf, Builtin.firstCells, hnc, storeCells]

/-- append of a slice that reads as news onto a value that owns xs -/
theorem run_append_rd (base : Nat) (t ty e : TypeId) (i : TypeInfo) (z : Value) (bytes : Nat) (ht : P.underlying t = some (.slice e)) (hi : P.info? e = some i) (hz : i.zero = some z)
    (hsize : i.size = 1) (hby : i.bytes = bytes) (hzs : z.cells.size = 1)
    (v : Value) (n : Nat) (xs : List Value) (hown : w.ownsRow base e 1 v n xs)
    (B : Nat) (A : Option Addr) (m c : Nat) (news : List Value) (hr : Rd w B A m news) (h1 : ∀ u ∈ news, u.oneCell' = true)
    (h63 : n + m ≤ maxLen) (hbytes : (n + m) * bytes ≤ 140737488355328) (hbase : base ≤ w.heap.size) :
    ∃ v' w', (Builtin.append_ #[t, t] ty #[v, .slice A m c]).run P w = .ok v' w' ∧ w'.ownsRow base e 1 v' (n + m) (xs ++ news) ∧ w.grownBy w' v.ownBlock := by
  obtain ⟨hl, hc⟩ := hr
  rcases A with _ | ad
  · have hm : m = 0 := by
      rcases Nat.eq_zero_or_pos m with h0 | h0
      · exact h0
      · obtain ⟨_, h, _⟩ := hc h0
        cases h
    subst hm
    have hn : news = [] := List.eq_nil_of_length_eq_zero hl
    subst hn
    exact ⟨v, w, run_append_nothing w base t ty e i 1 ht hi v n xs hown c, by simpa using hown, World.grownBy.refl w _⟩
  · have hcells : ∀ j u, news[j]? = some u → w.cell? (ad.add j) = some u := by
      intro j u hu
      have hj : j < news.length := (List.getElem?_eq_some_iff.1 hu).1
      obtain ⟨ad', h, _, hcc⟩ := hc (by omega)
      obtain rfl := Option.some.inj h
      exact hcc j u hu
    obtain ⟨v', w', hrun, h2, h3, _⟩ := run_append_own (P := P) w base t ty e i z 1 bytes ht hi hz hsize hby hzs (by omega) v n xs hown ad m c news (by simpa using hl) hcells h1 h63 hbytes hbase
    exact ⟨v', w', hrun, h2, h3⟩

theorem wpList_append_rd {ops : Array Oper} {rest : List Oper} {o : Oper} {a : Act} {Q : Exit → Act → World → Prop} (hgd : o.guard = none) (s x : Operand) (t : TypeId)
    (ho : o.op = .call { callee := .builtin .append, args := #[s, x], argTypes := #[t, t] })
    (base : Nat) (e : TypeId) (i : TypeInfo) (z : Value) (bytes : Nat) (ht : P.underlying t = some (.slice e)) (hi : P.info? e = some i) (hz : i.zero = some z)
    (hsize : i.size = 1) (hby : i.bytes = bytes) (hzs : z.cells.size = 1)
    (v : Value) (n : Nat) (xs : List Value) (hs : a.eval s = v) (hown : w.ownsRow base e 1 v n xs)
    (B : Nat) (A : Option Addr) (m c : Nat) (news : List Value) (hx : a.eval x = .slice A m c) (hr : Rd w B A m news) (h1 : ∀ u ∈ news, u.oneCell' = true)
    (h63 : n + m ≤ maxLen) (hbytes : (n + m) * bytes ≤ 140737488355328) (hbase : base ≤ w.heap.size)
    (h : ∀ v' w', w'.ownsRow base e 1 v' (n + m) (xs ++ news) → w.grownBy w' v.ownBlock → wpList P ops Q rest (a.put o.dst v') w') : wpList P ops Q (o :: rest) a w := by
  refine wpList_plain hgd fun K hK => ?_
  obtain ⟨v', w', hrun, h2, h3⟩ := run_append_rd (P := P) w base t o.type e i z bytes ht hi hz hsize hby hzs v n xs hown B A m c news hr h1 h63 hbytes hbase
  unfold Oper.wp execOp
  simp only [ho, resolve, invoke, builtin, Sem.run_bind, Sem.run_pure, Result.andThen_ok, List.map_toArray, List.map_cons, List.map_nil, hs, hx, hrun]
  exact hK _ _ (h v' w' h2 h3)
end

/-- block g is just the cells cs of element type t, none frozen -/
def Blk (w : World) (g : Nat) (t : TypeId) (cs : Array Value) : Prop := w.heap[g]? = some (.cells cs t (0, 0))
section
variable {w w' : World} {g : Nat} {t : TypeId} {cs : Array Value}
theorem Blk.lt (h : Blk w g t cs) : g < w.heap.size := (Array.getElem?_eq_some_iff.1 h).1
theorem Blk.cell (h : Blk w g t cs) (i : Nat) : w.cell? ⟨g, i, none⟩ = cs[i]? := cell_of_row w g i cs t (0, 0) h
theorem Blk.frozen (h : Blk w g t cs) (i : Nat) : w.frozen? ⟨g, i, none⟩ = false := by
  unfold Blk at h
  simp [World.frozen?, h]
theorem Blk.new (w : World) (t : TypeId) (cs : Array Value) : Blk (w.alloc (.cells cs t)) w.heap.size t cs := heap_alloc_new w _
theorem Blk.drewN (h : Blk w g t cs) (n : Nat) : Blk (w.drewN n) g t cs := h
theorem Blk.drew (h : Blk w g t cs) : Blk w.drew g t cs := h
theorem Blk.alloc (h : Blk w g t cs) (o : Obj) : Blk (w.alloc o) g t cs := (Below.heap_alloc w o g h.lt).trans h
theorem Blk.put (h : Blk w g t cs) (i : Nat) (u : Value) : Blk (w.setCell ⟨g, i, none⟩ u) g t (cs.setIfInBounds i u) := by
  unfold Blk at h ⊢
  simp [World.setCell, Array.getElem?_modify, h]
theorem Blk.far (h : Blk w g t cs) {p : Addr} (hp : g ≠ p.block) (u : Value) : Blk (w.setCell p u) g t cs := (Below.heap_setCell w p u g hp).trans h
theorem Blk.below {C : Nat} (h : Blk w g t cs) (hb : Below C w w') (hg : g < C) : Blk w' g t cs := (hb.block g hg).trans h
end

/-- the cells of a list of bytes -/
def cells (l : List Int) : List Value := l.map (Value.int .u8)
theorem cells_len (l : List Int) : (cells l).length = l.length := by simp [cells]
theorem cells_one (l : List Int) : ∀ u ∈ cells l, u.oneCell' = true := ints_oneCell .u8 l
theorem cells_append (a b : List Int) : cells (a ++ b) = cells a ++ cells b := by simp [cells]

/-- the bytes of a string -/
def bytes (s : ByteArray) : List Int := s.data.toList.map fun b => (b.toNat : Int)
theorem bytes_len (s : ByteArray) : (bytes s).length = s.size := by rw [bytes, List.length_map, Array.length_toList]; rfl
theorem strCells_eq (s : ByteArray) : strCells s = cells (bytes s) := by simp [strCells, cells, bytes]
theorem bytes_is (s : ByteArray) : IsBytes (bytes s) := by
  intro x hx
  simp only [bytes, List.mem_map] at hx
  obtain ⟨b, _, rfl⟩ := hx
  have := b.toNat_lt
  omega

/-- the string that a conversion makes of bytes -/
def mkStr (l : List Int) : ByteArray := l.foldl (fun r n => r.push (UInt8.ofNat n.toNat)) ByteArray.empty
theorem mkStr_from (l : List Int) (r : ByteArray) (h : IsBytes l) : bytes (l.foldl (fun r n => r.push (UInt8.ofNat n.toNat)) r) = bytes r ++ l := by
  induction l generalizing r with
  | nil => simp
  | cons x l ih =>
    have hx := h x (by simp)
    rw [List.foldl_cons, ih _ (fun y hy => h y (by simp [hy]))]
    simp only [bytes, ByteArray.push, Array.toList_push, List.map_append, List.map_cons, List.map_nil, List.append_assoc, List.cons_append, List.nil_append, UInt8.toNat_ofNat']
    rw [show ((x.toNat % 2 ^ 8 : Nat) : Int) = x by omega]
theorem bytes_mkStr (l : List Int) (h : IsBytes l) : bytes (mkStr l) = l := by
  rw [mkStr, mkStr_from l _ h]
  simp [bytes]
theorem bytes_inj {s t : ByteArray} (h : bytes s = bytes t) : s = t := by
  have h1 : s.data.toList = t.data.toList := by
    unfold bytes at h
    refine List.map_inj_right (f := fun b : UInt8 => (b.toNat : Int)) ?_ |>.1 h
    intro a b hab
    exact UInt8.toNat_inj.1 (by have h2 : ((a.toNat : Nat) : Int) = b.toNat := hab; omega)
  cases s; cases t
  simp at h1
  simp [h1]
theorem mkStr_bytes (s : ByteArray) : mkStr (bytes s) = s := bytes_inj (bytes_mkStr _ (bytes_is s))

#print axioms bytes_mkStr
#print axioms mkStr_bytes
end Go.Proofs.YthbbheegkhlniaaGreat

/-
  What a step may have changed: blocks of a footprint, and new ones. Imports nothing of the program.
-/
namespace Go.Proofs.YthbbheegkhlniaaGreat
open Go.RowKit Go.Lib

/-- but for the blocks of F, what was there is as it was -/
structure Chg (F : Nat → Prop) (w w' : World) : Prop where
  os : w'.os = w.os
  tape : w'.tape = w.tape
  output : w'.output = w.output
  size : w.heap.size ≤ w'.heap.size
  block : ∀ k, k < w.heap.size → ¬ F k → w'.heap[k]? = w.heap[k]?

/-- F, and what has been made since -/
def Ext (F : Nat → Prop) (w w' : World) (k : Nat) : Prop := F k ∨ (w.heap.size ≤ k ∧ k < w'.heap.size)
/-- no block at all -/
def Non (_ : Nat) : Prop := False

section
variable {F G : Nat → Prop} {w w' a b c : World} {B g : Nat}
theorem Chg.refl (F : Nat → Prop) (w : World) : Chg F w w := ⟨rfl, rfl, rfl, Nat.le_refl _, fun _ _ _ => rfl⟩
theorem Chg.mono (h : Chg F w w') (hF : ∀ k, k < w.heap.size → F k → G k) : Chg G w w' := ⟨h.os, h.tape, h.output, h.size, fun k hk hn => h.block k hk fun hf => hn (hF k hk hf)⟩
theorem Chg.trans' (h : Chg F a b) (k : Chg G b c) (hG : ∀ i, i < a.heap.size → G i → F i) : Chg F a c :=
  ⟨k.os.trans h.os, k.tape.trans h.tape, k.output.trans h.output, Nat.le_trans h.size k.size, fun i hi hn =>
    (k.block i (Nat.lt_of_lt_of_le hi h.size) fun hg => hn (hG i hi hg)).trans (h.block i hi hn)⟩
theorem Chg.trans (h : Chg F a b) (k : Chg F b c) : Chg F a c := h.trans' k fun _ _ x => x
theorem Chg.ext (h : Chg F a b) (k : Chg (Ext F a b) b c) : Chg F a c := h.trans' k fun i hi hx => hx.elim id fun h => absurd h.1 (by omega)
theorem Chg.of_below (h : Below w.heap.size w w') : Chg F w w' := ⟨h.os, h.tape, h.output, h.size, fun k hk _ => h.block k hk⟩
theorem Chg.below (h : Chg F w w') (hF : ∀ k, F k → B ≤ k) (hB : B ≤ w.heap.size) : Below B w w' := ⟨h.os, h.tape, h.output, h.size, fun k hk => h.block k (by omega) fun hf => by have := hF k hf; omega⟩
theorem Chg.non (h : Chg Non w w') : Below w.heap.size w w' := ⟨h.os, h.tape, h.output, h.size, fun k hk => h.block k hk id⟩
theorem Chg.drew (h : Chg F w w') : Chg F w w'.drew := ⟨h.os, h.tape, h.output, h.size, h.block⟩
theorem Chg.drewN (h : Chg F w w') (n : Nat) : Chg F w (w'.drewN n) := ⟨h.os, h.tape, h.output, h.size, h.block⟩
theorem Chg.alloc (h : Chg F a w) (o : Obj) : Chg F a (w.alloc o) :=
  h.trans' (G := Non) ⟨rfl, rfl, rfl, by simp, fun k hk _ => Below.heap_alloc _ _ _ hk⟩ fun _ _ x => x.elim
theorem Chg.setCell (h : Chg F a w) {p : Addr} (hp : p.block < a.heap.size → F p.block) (u : Value) : Chg F a (w.setCell p u) :=
  h.trans' (G := fun k => k = p.block) ⟨rfl, rfl, rfl, by simp [World.setCell], fun k _ hn => Below.heap_setCell _ _ _ _ hn⟩ fun _ hi x => by subst x; exact hp hi
theorem setCells_heap (w : World) (b o : Nat) : ∀ (cs : List Value) (k : Nat), k ≠ b → (w.setCells b o cs).heap[k]? = w.heap[k]? := by
  intro cs
  induction cs generalizing w o with
  | nil => intro k _; rfl
  | cons v cs ih =>
    intro k hk
    show ((w.setCell ⟨b, o, none⟩ v).setCells b (o + 1) cs).heap[k]? = _
    rw [ih _ _ k hk, Below.heap_setCell _ _ _ _ hk]
theorem setCells_size (w : World) (b o : Nat) (cs : List Value) : (w.setCells b o cs).heap.size = w.heap.size := by
  induction cs generalizing w o with
  | nil => rfl
  | cons v cs ih =>
    show ((w.setCell ⟨b, o, none⟩ v).setCells b (o + 1) cs).heap.size = _
    rw [ih]; simp [World.setCell]
theorem setCells_rest (w : World) (b o : Nat) (cs : List Value) : (w.setCells b o cs).os = w.os ∧ (w.setCells b o cs).tape = w.tape ∧ (w.setCells b o cs).output = w.output := by
  induction cs generalizing w o with
  | nil => exact ⟨rfl, rfl, rfl⟩
  | cons v cs ih => exact ih (w.setCell ⟨b, o, none⟩ v) (o + 1)
theorem Chg.setCells (h : Chg F a w) {b o : Nat} (hb : b < a.heap.size → F b) (cs : List Value) : Chg F a (w.setCells b o cs) := by
  obtain ⟨h1, h2, h3⟩ := setCells_rest w b o cs
  exact h.trans' (G := fun k => k = b) ⟨h1, h2, h3, Nat.le_of_eq (setCells_size w b o cs).symm, fun k _ hn => setCells_heap w b o cs k hn⟩ fun _ hi x => by subst x; exact hb hi
theorem Chg.grown (h : Chg F a w) {row : Option Nat} (hg : w.grownBy w' row) (hr : ∀ k, row = some k → k < a.heap.size → F k) : Chg F a w' :=
  h.trans' (G := fun k => row = some k) ⟨hg.os, hg.tape, hg.output, hg.size, fun k hk hn => hg.block k hk fun e => hn e.symm⟩ fun i hi x => hr i x hi
theorem Chg.setRow (h : Chg F a w) (hg : g < a.heap.size → F g) (cs : Array Value) : Chg F a (w.setRow g cs) :=
  h.trans' (G := fun k => k = g) ⟨rfl, rfl, rfl, by simp [World.setRow], fun k _ hn => setRow_other w g k cs hn⟩ fun _ hi x => by subst x; exact hg hi
theorem Chg.cell (h : Chg F w w') {p : Addr} (hp : p.block < w.heap.size) (hn : ¬ F p.block) : w'.cell? p = w.cell? p := World.cell?_of_block (h.block _ hp hn)

/-- a block stays -/
theorem Blk.chg {t : TypeId} {cs : Array Value} (h : Blk w g t cs) (hc : Chg F w w') (hn : ¬ F g) : Blk w' g t cs := (hc.block g h.lt hn).trans h
theorem Blk.ne {t t' : TypeId} {cs cs' : Array Value} {g' : Nat} (h : Blk w g t cs) (h' : Blk w g' t' cs') (ht : t ≠ t') : g ≠ g' := by
  rintro rfl
  unfold Blk at h h'
  rw [h] at h'
  injection h' with h'
  injection h' with _ h'
  exact ht h'
theorem Blk.same {t t' : TypeId} {cs cs' : Array Value} (h : Blk w g t cs) (h' : Blk w g t' cs') : cs = cs' ∧ t = t' := by
  unfold Blk at h h'
  rw [h] at h'
  injection h' with h'
  injection h' with h1 h2
  exact ⟨h1, h2⟩
theorem Blk.setRow {t : TypeId} {cs : Array Value} (h : Blk w g t cs) (cs' : Array Value) : Blk (w.setRow g cs') g t cs' := setRow_heap w g _ _ t _ h

theorem Blk.grown {t : TypeId} {cs : Array Value} {row : Option Nat} (h : Blk w g t cs) (hg : w.grownBy w' row) (hne : row ≠ some g) : Blk w' g t cs := (hg.block g h.lt (Ne.symm hne)).trans h
/-- a row of one's own stays -/
theorem own_keep {base : Nat} {e : TypeId} {size : Nat} {v : Value} {n : Nat} {xs : List Value} (h : w.ownsRow base e size v n xs) (hk : ∀ k, v.ownBlock = some k → w'.heap[k]? = w.heap[k]?) : w'.ownsRow base e size v n xs := by
  refine ⟨h.1, ?_⟩
  rcases h.2 with hn | ⟨g, cap, cur, rfl, hbg, hg, rest⟩
  · exact .inl hn
  · exact .inr ⟨g, cap, cur, rfl, hbg, (hk g rfl).trans hg, rest⟩
theorem own_chg {base : Nat} {e : TypeId} {size : Nat} {v : Value} {n : Nat} {xs : List Value} (h : w.ownsRow base e size v n xs) (hc : Chg F w w') (hk : ∀ k, v.ownBlock = some k → ¬ F k) : w'.ownsRow base e size v n xs :=
  own_keep h fun k hv => hc.block k (h.lt k hv).2 (hk k hv)
/-- the row's block -/
theorem own_row {base : Nat} {e : TypeId} {size : Nat} {v : Value} {n : Nat} {xs : List Value} (h : w.ownsRow base e size v n xs) (k : Nat) (hk : v.ownBlock = some k) : ∃ cur, Blk w k e cur := by
  rcases h.2 with ⟨rfl, _⟩ | ⟨g, cap, cur, rfl, _, hg, _⟩
  · cases hk
  · cases hk; exact ⟨cur, hg⟩
theorem own_ne {base g' : Nat} {e t' : TypeId} {size : Nat} {v : Value} {n : Nat} {xs : List Value} {cs' : Array Value} (h : w.ownsRow base e size v n xs) (h' : Blk w g' t' cs') (ht : e ≠ t') : v.ownBlock ≠ some g' := by
  intro hv
  obtain ⟨cur, hb⟩ := own_row h _ hv
  exact hb.ne h' ht rfl
theorem own_to {base base' : Nat} {e : TypeId} {size : Nat} {v : Value} {n : Nat} {xs : List Value} (h : w.ownsRow base e size v n xs) (hb : ∀ k, v.ownBlock = some k → base' ≤ k) : w.ownsRow base' e size v n xs := by
  refine ⟨h.1, ?_⟩
  rcases h.2 with hn | ⟨g, cap, cur, rfl, hbg, hg, rest⟩
  · exact .inl hn
  · exact .inr ⟨g, cap, cur, rfl, hb g rfl, hg, rest⟩

theorem Rd.chg {A : Option Addr} {n : Nat} {xs : List Value} (h : Rd w B A n xs) (hc : Chg F w w') (hB : B ≤ w.heap.size) (hn : ∀ k, k < B → ¬ F k) : Rd w' B A n xs :=
  h.keep fun p hp => hc.cell (by omega) (hn _ hp)
/-- the slice's cells, from an own row whose elements are one cell -/
theorem Rd.own_ {base : Nat} {e : TypeId} {n c : Nat} {A : Option Addr} {xs : List Value} (h : w.ownsRow base e 1 (.slice A n c) n xs) : Rd w w.heap.size A n xs := Rd.of_own h
end

end Go.Proofs.YthbbheegkhlniaaGreat

/-
  Modes and things as mathematics. Imports nothing of the program.
-/
namespace Go.Proofs.YthbbheegkhlniaaGreat
open Go.RowKit Go.Lib

def rowM (m : Int) : List Int :=
  if m = 1 then [6, 8] else if m = 2 then [3, 5, 6, 8] else if m = 3 then [2, 5, 6, 8] else if m = 4 then [4, 6, 8] else if m = 5 then [2, 3, 5, 6, 8]
  else if m = 6 then [1, 2, 3, 4, 5, 6, 8] else if m = 7 then [8] else if m = 8 then [1, 2, 3, 4, 5, 6, 7, 8] else []
def rgB (m : Int) : Bool := decide (1 ≤ m) && decide (m ≤ 8)
def cfB (a b : Int) : Bool := (rowM a).contains b
/-- of the first k modes: what b conflicts with, a does -/
def cvN (a b : Int) : Nat → Bool
  | 0 => true
  | k + 1 => cvN a b k && (!cfB b ((k + 1 : Nat) : Int) || cfB a ((k + 1 : Nat) : Int))
def cvB (a b : Int) : Bool := rgB a && rgB b && cvN a b 8
/-- the best of the first k modes -/
def jnN (a b : Int) : Nat → Int
  | 0 => 0
  | k + 1 => if cvB ((k + 1 : Nat) : Int) a && cvB ((k + 1 : Nat) : Int) b && (decide (jnN a b k = 0) || decide ((rowM ((k + 1 : Nat) : Int)).length < (rowM (jnN a b k)).length)) then ((k + 1 : Nat) : Int) else jnN a b k
def jnI (a b : Int) : Int := jnN a b 8
/-- of the first k modes: how many more x conflicts with than y -/
def moreN (x y : Int) : Nat → Int
  | 0 => 0
  | k + 1 => moreN x y k + (if cfB x ((k + 1 : Nat) : Int) then 1 else 0) - (if cfB y ((k + 1 : Nat) : Int) then 1 else 0)

def dom : List Int := [1, 2, 3, 4, 5, 6, 7, 8]
theorem rg_dom {m : Int} (h : rgB m = true) : m ∈ dom := by
  unfold rgB at h
  simp only [Bool.and_eq_true, decide_eq_true_eq] at h
  have : m = 1 ∨ m = 2 ∨ m = 3 ∨ m = 4 ∨ m = 5 ∨ m = 6 ∨ m = 7 ∨ m = 8 := by omega
  simpa [dom] using this
theorem row_out {m : Int} (h : rgB m = false) : rowM m = [] := by
  have h' : ¬ (1 ≤ m ∧ m ≤ 8) := by
    intro hh
    unfold rgB at h
    rw [decide_eq_true hh.1, decide_eq_true hh.2] at h
    cases h
  unfold rowM
  rw [if_neg (by omega), if_neg (by omega), if_neg (by omega), if_neg (by omega), if_neg (by omega), if_neg (by omega), if_neg (by omega), if_neg (by omega)]
theorem row_in : ∀ m ∈ dom, ∀ x ∈ rowM m, x ∈ dom := by decide +kernel
theorem dom_rg : ∀ m ∈ dom, rgB m = true := by decide +kernel
theorem cf_l {a b : Int} (h : cfB a b = true) : rgB a = true := by
  cases hr : rgB a with
  | true => rfl
  | false => unfold cfB at h; rw [row_out hr] at h; cases h
theorem cf_r {a b : Int} (h : cfB a b = true) : rgB b = true := by
  have h1 := cf_l h
  unfold cfB at h
  exact dom_rg _ (row_in _ (rg_dom h1) _ (List.contains_iff_mem.1 h))
theorem cf_sym0 : ∀ a ∈ dom, ∀ b ∈ dom, cfB a b = cfB b a := by decide +kernel
theorem cf_sym (a b : Int) : cfB a b = cfB b a := by
  cases h1 : cfB a b with
  | true => rw [← cf_sym0 a (rg_dom (cf_l h1)) b (rg_dom (cf_r h1)), h1]
  | false =>
    cases h2 : cfB b a with
    | false => rfl
    | true => rw [cf_sym0 b (rg_dom (cf_l h2)) a (rg_dom (cf_r h2)), h1] at h2; cases h2
theorem cv_l {a b : Int} (h : cvB a b = true) : rgB a = true := by
  unfold cvB at h
  simp only [Bool.and_eq_true] at h
  exact h.1.1
theorem cv_r {a b : Int} (h : cvB a b = true) : rgB b = true := by
  unfold cvB at h
  simp only [Bool.and_eq_true] at h
  exact h.1.2
theorem cv_cf0 : ∀ a ∈ dom, ∀ b ∈ dom, ∀ c ∈ dom, cvB a b = true → cfB b c = true → cfB a c = true := by decide +kernel
theorem cv_cf {a b c : Int} (h : cvB a b = true) (k : cfB b c = true) : cfB a c = true := cv_cf0 a (rg_dom (cv_l h)) b (rg_dom (cv_r h)) c (rg_dom (cf_r k)) h k
theorem cv_tr0 : ∀ a ∈ dom, ∀ b ∈ dom, ∀ c ∈ dom, cvB a b = true → cvB b c = true → cvB a c = true := by decide +kernel
theorem cv_tr {a b c : Int} (h : cvB a b = true) (k : cvB b c = true) : cvB a c = true := cv_tr0 a (rg_dom (cv_l h)) b (rg_dom (cv_r h)) c (rg_dom (cv_r k)) h k
theorem cv_rf0 : ∀ a ∈ dom, cvB a a = true ∧ cvB 8 a = true := by decide +kernel
theorem cv_rf {a : Int} (h : rgB a = true) : cvB a a = true ∧ cvB 8 a = true := cv_rf0 a (rg_dom h)
theorem jn_ok0 : ∀ a ∈ dom, ∀ b ∈ dom, cvB (jnI a b) a = true ∧ cvB (jnI a b) b = true ∧ jnI a b = jnI b a := by decide +kernel
theorem jn_ok {a b : Int} (h : rgB a = true) (k : rgB b = true) : cvB (jnI a b) a = true ∧ cvB (jnI a b) b = true ∧ jnI a b = jnI b a := jn_ok0 a (rg_dom h) b (rg_dom k)
theorem jn_one0 : ∀ a ∈ dom, ¬ jnI a a = 0 := by decide +kernel
theorem jn_one {a : Int} (h : rgB a = true) : ¬ jnI a a = 0 := jn_one0 a (rg_dom h)
theorem jn_few0 : ∀ a ∈ dom, ∀ b ∈ dom, ∀ c ∈ dom, cvB c a = true → cvB c b = true → moreN (jnI a b) c 8 ≤ 0 := by decide +kernel
theorem jn_few {a b c : Int} (h : cvB c a = true) (k : cvB c b = true) : moreN (jnI a b) c 8 ≤ 0 := jn_few0 a (rg_dom (cv_r h)) b (rg_dom (cv_r k)) c (rg_dom (cv_l h)) h k
theorem cv_out {a b : Int} (h : rgB a = false ∨ rgB b = false) : cvB a b = false := by
  unfold cvB
  rcases h with h | h <;> simp [h]
theorem jnN_out {a b : Int} (h : rgB a = false ∨ rgB b = false) : ∀ k, jnN a b k = 0
  | 0 => rfl
  | k + 1 => by
    have h1 : (cvB ((k + 1 : Nat) : Int) a && cvB ((k + 1 : Nat) : Int) b) = false := by
      rcases h with h | h
      · rw [cv_out (.inr h)]; rfl
      · rw [cv_out (b := b) (.inr h), Bool.and_false]
    rw [jnN, h1, Bool.false_and]
    simpa using jnN_out h k
theorem jn_out {a b : Int} (h : rgB a = false ∨ rgB b = false) : jnI a b = 0 := jnN_out h 8
theorem more_le (x y : Int) : ∀ k : Nat, -(k : Int) ≤ moreN x y k ∧ moreN x y k ≤ (k : Int)
  | 0 => by simp [moreN]
  | k + 1 => by
    have := more_le x y k
    rw [moreN]
    split <;> split <;> omega
theorem jn_dom0 : ∀ a ∈ dom, ∀ b ∈ dom, jnI a b ∈ dom := by decide +kernel
/-- some mode, or none -/
theorem jnN_rg (a b : Int) : ∀ k, k ≤ 8 → jnN a b k = 0 ∨ rgB (jnN a b k) = true
  | 0, _ => .inl rfl
  | k + 1, h => by
    rw [jnN]
    split
    · refine .inr ?_
      unfold rgB
      rw [decide_eq_true (by omega), decide_eq_true (by omega)]
      rfl
    · exact jnN_rg a b k (by omega)
/-! ### things -/
structure Th where
  k : Int
  t : ByteArray
  y : ByteArray
def thC (x : Th) : List Value := [.int .i64 x.k, .string x.t, .string x.y]
def ths (l : List Th) : List Value := l.flatMap thC
abbrev thV (x : Th) : Value := .agg #[.int .i64 x.k, .string x.t, .string x.y]
def eS : ByteArray := ⟨#[]⟩
instance (x : Th) : Decidable (((x.k = 1 ∨ x.k = 2) ∧ x.t = eS ∧ x.y = eS) ∨ (x.k = 3 ∧ x.y = eS) ∨ x.k = 4) := inferInstance
def fitsB (x : Th) : Bool := decide (((x.k = 1 ∨ x.k = 2) ∧ x.t = eS ∧ x.y = eS) ∨ (x.k = 3 ∧ x.y = eS) ∨ x.k = 4)
def dbT : Th := ⟨1, eS, eS⟩
def abT (x : Th) : List Th := if fitsB x = false then [] else if x.k = 3 then [dbT] else if x.k = 4 then [dbT, ⟨3, x.t, eS⟩] else []
theorem abT_len (x : Th) : (abT x).length ≤ 2 := by
  unfold abT
  split
  · simp
  · split
    · simp
    · split <;> simp
theorem abT_out {x : Th} (h : fitsB x = false) : abT x = [] := by unfold abT; rw [if_pos h]
theorem fits_db : fitsB dbT = true := by unfold fitsB; rw [decide_eq_true]; exact .inl ⟨.inl rfl, rfl, rfl⟩
theorem fits_tb (s : ByteArray) : fitsB ⟨3, s, eS⟩ = true := by unfold fitsB; rw [decide_eq_true]; exact .inr (.inl ⟨rfl, rfl⟩)
theorem ab_db : abT dbT = [] := by unfold abT; rw [fits_db]; rfl
theorem ab_tb (s : ByteArray) : abT ⟨3, s, eS⟩ = [dbT] := by unfold abT; rw [fits_tb]; rfl
/-- what is above a thing, one by one -/
theorem ab_at {x : Th} {i : Nat} (hi : i < (abT x).length) : fitsB (abT x)[i] = true ∧ (abT x)[i].k < x.k ∧ abT (abT x)[i] = (abT x).take i := by
  unfold abT at hi ⊢
  by_cases hf : fitsB x = false
  · simp only [if_pos hf] at hi; simp at hi
  · by_cases h3 : x.k = 3
    · simp only [if_neg hf, if_pos h3] at hi ⊢
      have : i = 0 := by simpa using hi
      subst this
      exact ⟨fits_db, show (1 : Int) < x.k by omega, ab_db⟩
    · by_cases h4 : x.k = 4
      · simp only [if_neg hf, if_neg h3, if_pos h4] at hi ⊢
        have : i = 0 ∨ i = 1 := by simp at hi; omega
        rcases this with rfl | rfl
        · exact ⟨fits_db, show (1 : Int) < x.k by omega, ab_db⟩
        · exact ⟨fits_tb _, show (3 : Int) < x.k by omega, ab_tb _⟩
      · simp only [if_neg hf, if_neg h3, if_neg h4] at hi; simp at hi
theorem ab_up {x : Th} {i : Nat} (hi : i + 1 < (abT x).length) : (abT x)[i].k < (abT x)[i + 1].k := by
  have h2 := abT_len x
  have : i = 0 := by omega
  subst this
  unfold abT at hi ⊢
  by_cases hf : fitsB x = false
  · simp only [if_pos hf] at hi; simp at hi
  · by_cases h3 : x.k = 3
    · simp only [if_neg hf, if_pos h3] at hi; simp at hi
    · by_cases h4 : x.k = 4
      · simp only [if_neg hf, if_neg h3, if_pos h4]
        exact (by decide : (1 : Int) < 3)
      · simp only [if_neg hf, if_neg h3, if_neg h4] at hi; simp at hi
end Go.Proofs.YthbbheegkhlniaaGreat
