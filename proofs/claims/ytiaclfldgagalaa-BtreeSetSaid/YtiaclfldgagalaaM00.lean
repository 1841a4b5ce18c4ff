/-
  Plain mathematics for layer 1: numbers as digits to the base 128, and how they are read. Imports nothing of the program.
-/
import Derived.Lib.AppendStr
import Derived.WalkKit
import Derived.Maps.AppendAt
import Derived.Deep.AppendLies
import Derived.Deep.Draws
import Derived.WalkSmall
import Derived.Lib.Hide
import Derived.Test.YtiaclfldgagalaaRows
import Derived.Test.YtiaclfldgagalaaChecked
import Derived.WalkSpells
import Derived.WalkLawsBesides
import Derived.Laws.StructEq
import Derived.Lib.Bytealg
import Derived.Deep.QuietTactic
import Derived.BigQuiet
namespace Go.Proofs.Ytiaclfldgagalaa

def IsBytes (l : List Int) : Prop := ∀ x ∈ l, 0 ≤ x ∧ x < 256

theorem IsBytes.nil : IsBytes [] := fun x h => by cases h
theorem IsBytes.cons {x : Int} {l : List Int} (hx : 0 ≤ x ∧ x < 256) (h : IsBytes l) : IsBytes (x :: l) := by
  intro y hy
  rcases List.mem_cons.1 hy with rfl | hy
  · exact hx
  · exact h y hy
theorem IsBytes.append {a b : List Int} (ha : IsBytes a) (hb : IsBytes b) : IsBytes (a ++ b) := by
  intro y hy
  rcases List.mem_append.1 hy with hy | hy
  · exact ha y hy
  · exact hb y hy
theorem IsBytes.drop {l : List Int} (h : IsBytes l) (k : Nat) : IsBytes (l.drop k) := fun x hx => h x (List.mem_of_mem_drop hx)
theorem IsBytes.take {l : List Int} (h : IsBytes l) (k : Nat) : IsBytes (l.take k) := fun x hx => h x (List.mem_of_mem_take hx)

/-- 2n, or -2n - 1 -/
def foldN (n : Int) : Nat := if n < 0 then (2 * (-(n + 1)) + 1).toNat else (2 * n).toNat
def unfoldN (u : Nat) : Int := if u % 2 = 1 then -((u / 2 : Nat) : Int) - 1 else ((u / 2 : Nat) : Int)

theorem foldN_lt (n : Int) (h1 : -9223372036854775808 ≤ n) (h2 : n ≤ 9223372036854775807) : foldN n < 18446744073709551616 := by
  unfold foldN; split <;> omega
theorem unfold_fold (n : Int) : unfoldN (foldN n) = n := by
  unfold foldN unfoldN; split <;> split <;> omega
theorem fold_unfold (u : Nat) : foldN (unfoldN u) = u := by
  unfold foldN unfoldN; split <;> split <;> omega
theorem unfoldN_bd (u : Nat) (h : u < 18446744073709551616) : -9223372036854775808 ≤ unfoldN u ∧ unfoldN u ≤ 9223372036854775807 := by
  unfold unfoldN; split <;> omega

def enc (u : Nat) : List Int := if u < 128 then [(u : Int)] else ((u % 128 + 128 : Nat) : Int) :: enc (u / 128)
termination_by u
decreasing_by omega

theorem enc_small {u : Nat} (h : u < 128) : enc u = [(u : Int)] := by rw [enc, if_pos h]
theorem enc_big {u : Nat} (h : ¬ u < 128) : enc u = ((u % 128 + 128 : Nat) : Int) :: enc (u / 128) := by rw [enc, if_neg h]

theorem enc_len (k : Nat) : ∀ u, u < 128 ^ (k + 1) → (enc u).length ≤ k + 1 := by
  induction k with
  | zero => intro u h; rw [enc_small (by simpa using h)]; simp
  | succ k ih =>
    intro u h
    by_cases hu : u < 128
    · rw [enc_small hu]; simp
    · rw [enc_big hu, List.length_cons]
      have := ih (u / 128) (by rw [Nat.div_lt_iff_lt_mul (by omega)]; rw [Nat.pow_succ] at h; exact h)
      omega
theorem enc_len64 {u : Nat} (h : u < 18446744073709551616) : (enc u).length ≤ 10 :=
  enc_len 9 u (Nat.lt_of_lt_of_le h (by decide))
theorem enc_pos (u : Nat) : 0 < (enc u).length := by rw [enc]; split <;> simp
theorem enc_bytes (u : Nat) : IsBytes (enc u) := by
  induction u using Nat.strongRecOn with
  | ind u ih =>
    by_cases hu : u < 128
    · rw [enc_small hu]; exact .cons (by omega) .nil
    · rw [enc_big hu]; exact .cons (by omega) (ih _ (by omega))

def encI (n : Int) : List Int := enc (foldN n)
theorem encI_bytes (n : Int) : IsBytes (encI n) := enc_bytes _
theorem encI_pos (n : Int) : 0 < (encI n).length := enc_pos _
theorem encI_len {n : Int} (h1 : -9223372036854775808 ≤ n) (h2 : n ≤ 9223372036854775807) : (encI n).length ≤ 10 := enc_len64 (foldN_lt n h1 h2)

/-- Reading: digit i, what the earlier digits came to, what is left: the number and how many digits it has. -/
def dec : Nat → Nat → List Int → Option (Nat × Nat)
  | _, _, [] => none
  | i, acc, d :: r =>
    if i = 9 ∧ 1 < d then none
    else if 128 ≤ d then dec (i + 1) (acc + (d % 128).toNat * 128 ^ i) r
    else if d = 0 ∧ 0 < i then none
    else some (acc + (d % 128).toNat * 128 ^ i, i + 1)

theorem pow_le9 {i u : Nat} (hu : 128 ≤ u) (h : u * 128 ^ i < 18446744073709551616) : i < 9 := by
  rcases Nat.lt_or_ge i 9 with h9 | h9
  · exact h9
  · have h1 : 128 ^ 9 ≤ 128 ^ i := Nat.pow_le_pow_right (by omega) h9
    have h2 : 128 * 128 ^ 9 ≤ u * 128 ^ i := Nat.mul_le_mul hu h1
    have h3 : 18446744073709551616 ≤ 128 * 128 ^ 9 := by decide
    omega

theorem dec_enc (u : Nat) : ∀ i acc r, i ≤ 9 → (i = 0 ∨ 0 < u) → u * 128 ^ i < 18446744073709551616 → dec i acc (enc u ++ r) = some (acc + u * 128 ^ i, i + (enc u).length) := by
  induction u using Nat.strongRecOn with
  | ind u ih =>
    intro i acc r hi h0 hlt
    by_cases hu : u < 128
    · rw [enc_small hu]
      have h9 : ¬ (i = 9 ∧ 1 < (u : Int)) := by
        rintro ⟨rfl, h1⟩
        have h2 : 2 * 128 ^ 9 ≤ u * 128 ^ 9 := Nat.mul_le_mul_right _ (by omega)
        have h3 : 18446744073709551616 ≤ 2 * 128 ^ 9 := by decide
        omega
      have hm : ((u : Int) % 128).toNat = u := by omega
      simp only [List.cons_append, List.nil_append, dec, List.length_cons, List.length_nil, hm]
      rw [if_neg h9, if_neg (by omega), if_neg (by omega)]
    · have hi9 := pow_le9 (by omega) hlt
      rw [enc_big hu]
      have hm : (((u % 128 + 128 : Nat) : Int) % 128).toNat = u % 128 := by omega
      simp only [List.cons_append, dec, List.length_cons, hm]
      rw [if_neg (by omega), if_pos (by omega)]
      have hp : u / 128 * 128 ^ (i + 1) + u % 128 * 128 ^ i = u * 128 ^ i := by
        rw [Nat.pow_succ, show u / 128 * (128 ^ i * 128) = (u / 128 * 128) * 128 ^ i by rw [Nat.mul_assoc, Nat.mul_comm 128]]
        rw [← Nat.add_mul]
        congr 1
        omega
      rw [ih (u / 128) (by omega) (i + 1) _ r (by omega) (by omega) (by omega)]
      congr 2
      · omega
      · omega

theorem dec_inv (l : List Int) : ∀ i acc u k, IsBytes l → dec i acc l = some (u, k) →
    ∃ x, u = acc + x * 128 ^ i ∧ i < k ∧ k - i ≤ l.length ∧ enc x = l.take (k - i) ∧ (i = 0 ∨ 0 < x) ∧ (i ≤ 9 → k ≤ 10) ∧ (i ≤ 9 → x * 128 ^ i < 18446744073709551616) := by
  induction l with
  | nil => intro i acc u k _ h; simp [dec] at h
  | cons d r ih =>
    intro i acc u k hb h
    have hd := hb d (by simp)
    simp only [dec] at h
    split at h
    · cases h
    · rename_i h9
      split at h
      · rename_i h128
        obtain ⟨x, hu, hk, hlen, henc, hx, hk10, hx64⟩ := ih (i + 1) _ u k (fun y hy => hb y (by simp [hy])) h
        have hi8 : i ≠ 9 := fun e => h9 ⟨e, by omega⟩
        have hxp : 0 < x := by rcases hx with h | h <;> omega
        refine ⟨(d % 128).toNat + x * 128, ?_, by omega, by simp; omega, ?_, .inr (by omega), fun hi => hk10 (by omega), ?_⟩
        · rw [hu, Nat.add_mul, Nat.pow_succ, Nat.add_assoc, Nat.mul_assoc x, Nat.mul_comm 128]
        · rw [enc_big (by omega)]
          rw [show k - i = (k - (i + 1)) + 1 by omega, List.take_succ_cons, ← henc]
          congr 1
          · omega
          · congr 1; omega
        · intro hi
          have h1 := hx64 (by omega)
          have hm : (d % 128).toNat < 128 := by omega
          rw [Nat.pow_succ, show x * (128 ^ i * 128) = x * 128 * 128 ^ i by rw [Nat.mul_assoc, Nat.mul_comm 128]] at h1
          rw [Nat.add_mul]
          have hpow : 128 ^ i * 128 ∣ 18446744073709551616 := by
            rw [← Nat.pow_succ]
            exact ⟨2 * 128 ^ (8 - i), by
              rw [Nat.mul_comm, Nat.mul_assoc, ← Nat.pow_add]
              rw [show 8 - i + (i + 1) = 9 by omega]⟩
          obtain ⟨q, hq⟩ := hpow
          have hlt : x < q := by
            rcases Nat.lt_or_ge x q with h | h
            · exact h
            · have := Nat.mul_le_mul_left (128 ^ i * 128) h
              rw [show x * 128 * 128 ^ i = 128 ^ i * 128 * x by rw [Nat.mul_assoc, Nat.mul_comm]; congr 1; rw [Nat.mul_comm]] at h1
              omega
          have h2 : 128 ^ i * 128 * (x + 1) ≤ 18446744073709551616 := by rw [hq]; exact Nat.mul_le_mul_left _ hlt
          have h3 : (d % 128).toNat * 128 ^ i < 128 * 128 ^ i := Nat.mul_lt_mul_of_pos_right hm (Nat.pow_pos (by omega))
          have h4 : 128 ^ i * 128 * (x + 1) = x * 128 * 128 ^ i + 128 * 128 ^ i := by
            rw [Nat.mul_add, Nat.mul_one, Nat.mul_comm (128 ^ i) 128, Nat.mul_comm (128 * 128 ^ i) x, Nat.mul_assoc x]
          omega
      · split at h
        · cases h
        · rename_i h128 h0
          simp only [Option.some.injEq, Prod.mk.injEq] at h
          obtain ⟨h1, h2⟩ := h
          have hm : (d % 128).toNat = d.toNat := by omega
          rw [hm] at h1
          refine ⟨d.toNat, h1.symm, by omega, by simp; omega, ?_, by omega, by omega, ?_⟩
          · rw [enc_small (by omega), show k - i = 1 by omega]
            simp
            omega
          · intro hi
            rcases Nat.lt_or_ge i 9 with h | h
            · have h5 : 128 ^ i ≤ 128 ^ 8 := Nat.pow_le_pow_right (by omega) (by omega)
              have h6 : d.toNat * 128 ^ i ≤ 128 * 128 ^ 8 := Nat.mul_le_mul (by omega) h5
              have h7 : 128 * 128 ^ 8 < 18446744073709551616 := by decide
              omega
            · have : i = 9 := by omega
              subst this
              have h5 : d.toNat * 128 ^ 9 ≤ 1 * 128 ^ 9 := Nat.mul_le_mul_right _ (by omega)
              exact Nat.lt_of_le_of_lt h5 (by decide)

/-- what a reader's Int finds at a list -/
def num (l : List Int) : Option (Nat × Nat) := dec 0 0 l
theorem num_encI (n : Int) (r : List Int) (h1 : -9223372036854775808 ≤ n) (h2 : n ≤ 9223372036854775807) : num (encI n ++ r) = some (foldN n, (encI n).length) := by
  have h := dec_enc (foldN n) 0 0 r (by omega) (.inl rfl) (by rw [Nat.pow_zero, Nat.mul_one]; exact foldN_lt n h1 h2)
  rw [Nat.pow_zero, Nat.mul_one, Nat.zero_add, Nat.zero_add] at h
  exact h
theorem num_inv {l : List Int} {u k : Nat} (hb : IsBytes l) (h : num l = some (u, k)) : 0 < k ∧ k ≤ l.length ∧ k ≤ 10 ∧ encI (unfoldN u) = l.take k ∧ u < 18446744073709551616 := by
  obtain ⟨x, h1, h2, h3, h4, _, h6, h7⟩ := dec_inv l 0 0 u k hb h
  have hx : u = x := by rw [h1, Nat.pow_zero, Nat.mul_one, Nat.zero_add]
  subst hx
  refine ⟨h2, by omega, h6 (by omega), ?_, by have h := h7 (by omega); rwa [Nat.pow_zero, Nat.mul_one] at h⟩
  rw [encI, fold_unfold, h4]
  rfl

/-- a front of a number's bytes that isn't the whole is no number -/
theorem num_short (n : Int) (h1 : -9223372036854775808 ≤ n) (h2 : n ≤ 9223372036854775807) (c : Nat) (hc : c < (encI n).length) : num ((encI n).take c) = none := by
  cases h : num ((encI n).take c) with
  | none => rfl
  | some p =>
    obtain ⟨u, k⟩ := p
    obtain ⟨k0, kl, _, he, hu⟩ := num_inv ((encI_bytes n).take c) h
    exfalso
    have hbd := unfoldN_bd u hu
    have hsplit : encI n = encI (unfoldN u) ++ (encI n).drop k := by
      rw [he, List.take_take]
      rw [show min k c = k by simp at kl; omega, List.take_append_drop]
    have h3 := num_encI n [] h1 h2
    rw [List.append_nil] at h3
    have h4 : num (encI n) = some (foldN (unfoldN u), (encI (unfoldN u)).length) := by
      conv => lhs; rw [hsplit]
      exact num_encI (unfoldN u) _ hbd.1 hbd.2
    rw [h3] at h4
    simp only [Option.some.injEq, Prod.mk.injEq] at h4
    have hl := congrArg List.length he
    rw [List.length_take] at hl kl
    have := h4.2
    omega

/-! ### a reader: its state is what is left, or none where it is bad -/
abbrev St := Option (List Int)
def rInt : St → Int × St
  | none => (0, none)
  | some l => match num l with
    | none => (0, none)
    | some (u, k) => (unfoldN u, some (l.drop k))
def rCount (s : St) (most : Int) : Int × St :=
  let p := rInt s
  if p.1 < 0 ∨ most < p.1 then (0, none) else p
def rText (s : St) : List Int × St :=
  let p := rInt s
  match p.2 with
  | none => ([], none)
  | some l => if p.1 < 0 ∨ (l.length : Int) < p.1 then ([], none) else (l.take p.1.toNat, some (l.drop p.1.toNat))
def rTextsN : Nat → St → List (List Int) × St
  | 0, s => ([], s)
  | k + 1, s => match rText s with
    | (_, none) => ([], none)
    | (t, some l) => match rTextsN k (some l) with
      | (_, none) => ([], none)
      | (ts, some l') => (t :: ts, some l')
def left (s : St) : Nat := (s.getD []).length
def rTexts (s : St) : List (List Int) × St :=
  let p := rCount s (left s)
  match p.2 with
  | none => ([], none)
  | some l => rTextsN p.1.toNat (some l)

def encT (t : List Int) : List Int := encI t.length ++ t
def encTs : List (List Int) → List Int
  | [] => []
  | t :: r => encT t ++ encTs r
def encTexts (ts : List (List Int)) : List Int := encI ts.length ++ encTs ts

theorem rInt_some {l : List Int} {u k : Nat} (h : num l = some (u, k)) : rInt (some l) = (unfoldN u, some (l.drop k)) := by simp [rInt, h]
theorem rInt_none {l : List Int} (h : num l = none) : rInt (some l) = (0, none) := by simp [rInt, h]
theorem rInt_enc (n : Int) (r : List Int) (h1 : -9223372036854775808 ≤ n) (h2 : n ≤ 9223372036854775807) : rInt (some (encI n ++ r)) = (n, some r) := by
  rw [rInt_some (num_encI n r h1 h2), unfold_fold]
  simp
theorem rText_enc (t r : List Int) (h : t.length ≤ 9223372036854775807) : rText (some (encT t ++ r)) = (t, some r) := by
  unfold rText
  rw [encT, List.append_assoc, rInt_enc _ _ (by omega) (by omega)]
  simp only
  rw [if_neg (by simp; omega)]
  simp
theorem rTextsN_enc (ts : List (List Int)) (r : List Int) (h : ∀ t ∈ ts, t.length ≤ 9223372036854775807) : rTextsN ts.length (some (encTs ts ++ r)) = (ts, some r) := by
  induction ts with
  | nil => rfl
  | cons t ts ih =>
    simp only [encTs, List.length_cons, rTextsN, List.append_assoc]
    rw [rText_enc _ _ (h t (by simp))]
    simp only [ih (fun t ht => h t (by simp [ht]))]
theorem encTs_len (ts : List (List Int)) : ts.length ≤ (encTs ts).length := by
  induction ts with
  | nil => simp
  | cons t ts ih => simp [encTs, encT]; have := encI_pos t.length; omega
theorem rTexts_enc (ts : List (List Int)) (r : List Int) (hl : ts.length ≤ 9223372036854775807) (h : ∀ t ∈ ts, t.length ≤ 9223372036854775807) :
    rTexts (some (encTexts ts ++ r)) = (ts, some r) := by
  have hn := encTs_len ts
  have hp := encI_pos ts.length
  unfold rTexts rCount
  rw [encTexts, List.append_assoc, rInt_enc _ _ (by omega) (by omega)]
  have h1 : ¬ (((ts.length : Int) < 0) ∨ (left (some (encI ts.length ++ (encTs ts ++ r))) : Int) < ts.length) := by
    simp [left]; omega
  rw [if_neg h1]
  simpa using rTextsN_enc ts r h

#print axioms num_short
#print axioms rTexts_enc
end Go.Proofs.Ytiaclfldgagalaa

/-
  Words on memory for the walks of layer 1: a slice that reads as a list of cells, a block that is known whole, append onto a row of the call's own. Imports nothing of the program.
-/
namespace Go.Proofs.Ytiaclfldgagalaa
open Go.RowKit Go.Lib

theorem addr_block (a : Addr) (n : Nat) : (a.add n).block = a.block := by unfold Addr.add; split <;> rfl
theorem addr_add (a : Addr) (i j : Nat) : (a.add i).add j = a.add (i + j) := by
  unfold Addr.add
  by_cases hi : i = 0 <;> by_cases hj : j = 0 <;> simp [hi, hj, Nat.add_assoc]

/-- the slice '.slice A n c' holds the cells xs and lies below block B -/
def Rd (w : World) (B : Nat) (A : Option Addr) (n : Nat) (xs : List Value) : Prop :=
  xs.length = n ∧ (0 < n → ∃ ad, A = some ad ∧ ad.block < B ∧ ∀ j u, xs[j]? = some u → w.cell? (ad.add j) = some u)

section
variable {w w' : World} {B B' n : Nat} {A : Option Addr} {xs : List Value}
theorem Rd.empty : Rd w B A 0 [] := ⟨rfl, fun h => absurd h (by omega)⟩
theorem Rd.len (h : Rd w B A n xs) : xs.length = n := h.1
theorem Rd.at_ {k : Nat} (h : Rd w B A n xs) (hk : k < n) : ∃ ad u, A = some ad ∧ ad.block < B ∧ xs[k]? = some u ∧ w.cell? (ad.add k) = some u := by
  obtain ⟨ad, e, hb, hc⟩ := h.2 (by omega)
  have hl : k < xs.length := by rw [h.1]; exact hk
  exact ⟨ad, xs[k], e, hb, List.getElem?_eq_getElem hl, hc k _ (List.getElem?_eq_getElem hl)⟩
theorem Rd.keep (h : Rd w B A n xs) (hk : ∀ p : Addr, p.block < B → w'.cell? p = w.cell? p) : Rd w' B A n xs :=
  ⟨h.1, fun hn => by
    obtain ⟨ad, e, hb, hc⟩ := h.2 hn
    exact ⟨ad, e, hb, fun j u hu => (hk _ (by rw [addr_block]; exact hb)).trans (hc j u hu)⟩⟩
theorem Rd.more (h : Rd w B A n xs) (hB : B ≤ B') : Rd w B' A n xs :=
  ⟨h.1, fun hn => by
    obtain ⟨ad, e, hb, hc⟩ := h.2 hn
    exact ⟨ad, e, by omega, hc⟩⟩
theorem Rd.below (h : Rd w B A n xs) {C : Nat} (hb : Below C w w') (hC : B ≤ C) : Rd w' B A n xs := h.keep fun p hp => hb.cell (p := p) (by omega)
theorem Rd.drewN (h : Rd w B A n xs) (k : Nat) : Rd (w.drewN k) B A n xs := h
theorem Rd.drew (h : Rd w B A n xs) : Rd w.drew B A n xs := h
theorem Rd.alloc (h : Rd w B A n xs) (hB : B ≤ w.heap.size) (o : Obj) : Rd (w.alloc o) B A n xs := h.keep fun p hp => World.cell?_alloc_lt w o p (by omega)
theorem Rd.setCell (h : Rd w B A n xs) {p : Addr} (hB : B ≤ p.block) (u : Value) : Rd (w.setCell p u) B A n xs :=
  h.keep fun q hq => World.cell?_setCell_other w p q u (fun e => by subst e; omega)
theorem Rd.cutl (h : Rd w B A n xs) {k cap : Nat} (hk : k ≤ n) (hc : n ≤ cap) :
    Rd w B (if cap = k then A else A.map (·.add k)) (n - k) (xs.drop k) := by
  refine ⟨by rw [List.length_drop, h.1], fun hn => ?_⟩
  obtain ⟨ad, rfl, hb, hcell⟩ := h.2 (by omega)
  rw [if_neg (by omega)]
  refine ⟨ad.add k, rfl, by rw [addr_block]; exact hb, fun j u hu => ?_⟩
  rw [addr_add]
  exact hcell _ u (by rw [← hu, List.getElem?_drop])
theorem Rd.cuth (h : Rd w B A n xs) {k : Nat} (hk : k ≤ n) : Rd w B A k (xs.take k) := by
  refine ⟨by rw [List.length_take, h.1]; omega, fun hn => ?_⟩
  obtain ⟨ad, rfl, hb, hcell⟩ := h.2 (by omega)
  refine ⟨ad, rfl, hb, fun j u hu => hcell j u ?_⟩
  rw [List.getElem?_take] at hu
  split at hu
  · exact hu
  · cases hu
theorem Rd.of_own {base : Nat} {e : TypeId} {c : Nat} (h : w.ownsRow base e 1 (.slice A n c) n xs) : Rd w w.heap.size A n xs := by
  refine ⟨by simpa using h.1, fun hn => ?_⟩
  obtain ⟨g, cap, hv, _, hlt⟩ := h.form hn
  have hA : A = some ⟨g, 0, none⟩ := by injection hv
  subst hA
  exact ⟨_, rfl, hlt, h.cells (g := g) rfl⟩
end

/-- what owns a row shows its shape -/
theorem own_shape {w : World} {base : Nat} {e : TypeId} {v : Value} {n : Nat} {xs : List Value} (h : w.ownsRow base e 1 v n xs) : ∃ A c, v = .slice A n c ∧ n ≤ c ∧ c ≤ maxLen := by
  rcases h.2 with ⟨rfl, rfl⟩ | ⟨g, cap, cur, rfl, _, _, hn, hm, _⟩
  · exact ⟨none, 0, rfl, Nat.le_refl _, by simp [maxLen]⟩
  · exact ⟨_, cap, rfl, hn, hm⟩

theorem own_below {w w' : World} {base C : Nat} {e : TypeId} {v : Value} {n : Nat} {xs : List Value} (h : w.ownsRow base e 1 v n xs) (hb : Below C w w') (hC : w.heap.size ≤ C) : w'.ownsRow base e 1 v n xs := by
  refine ⟨h.1, ?_⟩
  rcases h.2 with hn | ⟨g, cap, cur, rfl, hbg, hg, rest⟩
  · exact .inl hn
  · refine .inr ⟨g, cap, cur, rfl, hbg, ?_, rest⟩
    have hlt : g < w.heap.size := (Array.getElem?_eq_some_iff.1 hg).1
    exact (hb.block g (by omega)).trans hg
theorem own_set {w : World} {base : Nat} {e : TypeId} {v : Value} {n : Nat} {xs : List Value} (h : w.ownsRow base e 1 v n xs) {p : Addr} (hp : v.ownBlock ≠ some p.block) (u : Value) : (w.setCell p u).ownsRow base e 1 v n xs := by
  refine ⟨h.1, ?_⟩
  rcases h.2 with hn | ⟨g, cap, cur, rfl, hbg, hg, rest⟩
  · exact .inl hn
  · refine .inr ⟨g, cap, cur, rfl, hbg, ?_, rest⟩
    rw [Below.heap_setCell _ _ _ _ (by intro he; apply hp; simp [Value.ownBlock, he])]
    exact hg
theorem own_base {w : World} {base base' : Nat} {e : TypeId} {v : Value} {n : Nat} {xs : List Value} (h : w.ownsRow base e 1 v n xs) (hb : base' ≤ base) : w.ownsRow base' e 1 v n xs := by
  refine ⟨h.1, ?_⟩
  rcases h.2 with hn | ⟨g, cap, cur, rfl, hbg, hg, rest⟩
  · exact .inl hn
  · exact .inr ⟨g, cap, cur, rfl, by omega, hg, rest⟩

/-- a step that writes the row that v owns, and new blocks alone -/
theorem below_own {w w' : World} {base : Nat} {e : TypeId} {v : Value} {n : Nat} {xs : List Value} (h : w.ownsRow base e 1 v n xs) (hg : w.grownBy w' v.ownBlock) (hb : base ≤ w.heap.size) : Below base w w' :=
  (Below.refl _ _).grown hg hb fun k hk => (h.lt k hk).1

section
variable {P : Program} (w : World)
/-- nothing is appended: the value and the world stay -/
theorem run_append_nothing (base : Nat) (t ty e : TypeId) (i : TypeInfo) (size : Nat) (ht : P.underlying t = some (.slice e)) (hi : P.info? e = some i)
    (v : Value) (n : Nat) (xs : List Value) (hown : w.ownsRow base e size v n xs) (c : Nat) : (Builtin.append_ #[t, t] ty #[v, .slice none 0 c]).run P w = .ok v w := by
  rcases hown.2 with ⟨rfl, rfl⟩ | ⟨g, cap, cur, rfl, _, _, hnc, _⟩
  · simp [Builtin.append_, run_underlying ht, sizeOf, typeInfo, hi, Builtin.lenOf, Builtin.firstCells]
  · simp [Builtin.append_, run_underlying ht, sizeOf, typeInfo, hi, Builtin.lenOf, Builtin.firstCells, hnc, storeCells]

/-- append of a slice that reads as news onto a value that owns xs -/
theorem run_append_rd (base : Nat) (t ty e : TypeId) (i : TypeInfo) (z : Value) (bytes : Nat) (ht : P.underlying t = some (.slice e)) (hi : P.info? e = some i) (hz : i.zero = some z)
    (hsize : i.size = 1) (hby : i.bytes = bytes) (hzs : z.cells.size = 1)
    (v : Value) (n : Nat) (xs : List Value) (hown : w.ownsRow base e 1 v n xs)
    (B : Nat) (A : Option Addr) (m c : Nat) (news : List Value) (hr : Rd w B A m news) (h1 : ∀ u ∈ news, u.oneCell' = true)
    (h63 : n + m ≤ maxLen) (hbytes : (n + m) * bytes ≤ 140737488355328) (hbase : base ≤ w.heap.size) :
    ∃ v' w', (Builtin.append_ #[t, t] ty #[v, .slice A m c]).run P w = .ok v' w' ∧ w'.ownsRow base e 1 v' (n + m) (xs ++ news) ∧ w.grownBy w' v.ownBlock := by
  obtain ⟨hl, hc⟩ := hr
  rcases A with _ | ad
  · have hm : m = 0 := by
      rcases Nat.eq_zero_or_pos m with h0 | h0
      · exact h0
      · obtain ⟨_, h, _⟩ := hc h0
        cases h
    subst hm
    have hn : news = [] := List.eq_nil_of_length_eq_zero hl
    subst hn
    exact ⟨v, w, run_append_nothing w base t ty e i 1 ht hi v n xs hown c, by simpa using hown, World.grownBy.refl w _⟩
  · have hcells : ∀ j u, news[j]? = some u → w.cell? (ad.add j) = some u := by
      intro j u hu
      have hj : j < news.length := (List.getElem?_eq_some_iff.1 hu).1
      obtain ⟨ad', h, _, hcc⟩ := hc (by omega)
      obtain rfl := Option.some.inj h
      exact hcc j u hu
    obtain ⟨v', w', hrun, h2, h3, _⟩ := run_append_own (P := P) w base t ty e i z 1 bytes ht hi hz hsize hby hzs (by omega) v n xs hown ad m c news (by simpa using hl) hcells h1 h63 hbytes hbase
    exact ⟨v', w', hrun, h2, h3⟩

theorem wpList_append_rd {ops : Array Oper} {rest : List Oper} {o : Oper} {a : Act} {Q : Exit → Act → World → Prop} (hgd : o.guard = none) (s x : Operand) (t : TypeId)
    (ho : o.op = .call { callee := .builtin .append, args := #[s, x], argTypes := #[t, t] })
    (base : Nat) (e : TypeId) (i : TypeInfo) (z : Value) (bytes : Nat) (ht : P.underlying t = some (.slice e)) (hi : P.info? e = some i) (hz : i.zero = some z)
    (hsize : i.size = 1) (hby : i.bytes = bytes) (hzs : z.cells.size = 1)
    (v : Value) (n : Nat) (xs : List Value) (hs : a.eval s = v) (hown : w.ownsRow base e 1 v n xs)
    (B : Nat) (A : Option Addr) (m c : Nat) (news : List Value) (hx : a.eval x = .slice A m c) (hr : Rd w B A m news) (h1 : ∀ u ∈ news, u.oneCell' = true)
    (h63 : n + m ≤ maxLen) (hbytes : (n + m) * bytes ≤ 140737488355328) (hbase : base ≤ w.heap.size)
    (h : ∀ v' w', w'.ownsRow base e 1 v' (n + m) (xs ++ news) → w.grownBy w' v.ownBlock → wpList P ops Q rest (a.put o.dst v') w') : wpList P ops Q (o :: rest) a w := by
  refine wpList_plain hgd fun K hK => ?_
  obtain ⟨v', w', hrun, h2, h3⟩ := run_append_rd (P := P) w base t o.type e i z bytes ht hi hz hsize hby hzs v n xs hown B A m c news hr h1 h63 hbytes hbase
  unfold Oper.wp execOp
  simp only [ho, resolve, invoke, builtin, Sem.run_bind, Sem.run_pure, Result.andThen_ok, List.map_toArray, List.map_cons, List.map_nil, hs, hx, hrun]
  exact hK _ _ (h v' w' h2 h3)
end

/-- block g is just the cells cs of element type t, none frozen -/
def Blk (w : World) (g : Nat) (t : TypeId) (cs : Array Value) : Prop := w.heap[g]? = some (.cells cs t (0, 0))
section
variable {w w' : World} {g : Nat} {t : TypeId} {cs : Array Value}
theorem Blk.lt (h : Blk w g t cs) : g < w.heap.size := (Array.getElem?_eq_some_iff.1 h).1
theorem Blk.cell (h : Blk w g t cs) (i : Nat) : w.cell? ⟨g, i, none⟩ = cs[i]? := cell_of_row w g i cs t (0, 0) h
theorem Blk.frozen (h : Blk w g t cs) (i : Nat) : w.frozen? ⟨g, i, none⟩ = false := by
  unfold Blk at h
  simp [World.frozen?, h]
theorem Blk.new (w : World) (t : TypeId) (cs : Array Value) : Blk (w.alloc (.cells cs t)) w.heap.size t cs := heap_alloc_new w _
theorem Blk.drewN (h : Blk w g t cs) (n : Nat) : Blk (w.drewN n) g t cs := h
theorem Blk.drew (h : Blk w g t cs) : Blk w.drew g t cs := h
theorem Blk.alloc (h : Blk w g t cs) (o : Obj) : Blk (w.alloc o) g t cs := (Below.heap_alloc w o g h.lt).trans h
theorem Blk.put (h : Blk w g t cs) (i : Nat) (u : Value) : Blk (w.setCell ⟨g, i, none⟩ u) g t (cs.setIfInBounds i u) := by
  unfold Blk at h ⊢
  simp [World.setCell, Array.getElem?_modify, h]
theorem Blk.far (h : Blk w g t cs) {p : Addr} (hp : g ≠ p.block) (u : Value) : Blk (w.setCell p u) g t cs := (Below.heap_setCell w p u g hp).trans h
theorem Blk.below {C : Nat} (h : Blk w g t cs) (hb : Below C w w') (hg : g < C) : Blk w' g t cs := (hb.block g hg).trans h
end

/-- the cells of a list of bytes -/
def cells (l : List Int) : List Value := l.map (Value.int .u8)
theorem cells_len (l : List Int) : (cells l).length = l.length := by simp [cells]
theorem cells_one (l : List Int) : ∀ u ∈ cells l, u.oneCell' = true := ints_oneCell .u8 l
theorem cells_append (a b : List Int) : cells (a ++ b) = cells a ++ cells b := by simp [cells]

/-- the bytes of a string -/
def bytes (s : ByteArray) : List Int := s.data.toList.map fun b => (b.toNat : Int)
theorem bytes_len (s : ByteArray) : (bytes s).length = s.size := by rw [bytes, List.length_map, Array.length_toList]; rfl
theorem strCells_eq (s : ByteArray) : strCells s = cells (bytes s) := by simp [strCells, cells, bytes]
theorem bytes_is (s : ByteArray) : IsBytes (bytes s) := by
  intro x hx
  simp only [bytes, List.mem_map] at hx
  obtain ⟨b, _, rfl⟩ := hx
  have := b.toNat_lt
  omega

/-- the string that a conversion makes of bytes -/
def mkStr (l : List Int) : ByteArray := l.foldl (fun r n => r.push (UInt8.ofNat n.toNat)) ByteArray.empty
theorem mkStr_from (l : List Int) (r : ByteArray) (h : IsBytes l) : bytes (l.foldl (fun r n => r.push (UInt8.ofNat n.toNat)) r) = bytes r ++ l := by
  induction l generalizing r with
  | nil => simp
  | cons x l ih =>
    have hx := h x (by simp)
    rw [List.foldl_cons, ih _ (fun y hy => h y (by simp [hy]))]
    simp only [bytes, ByteArray.push, Array.toList_push, List.map_append, List.map_cons, List.map_nil, List.append_assoc, List.cons_append, List.nil_append, UInt8.toNat_ofNat']
    rw [show ((x.toNat % 2 ^ 8 : Nat) : Int) = x by omega]
theorem bytes_mkStr (l : List Int) (h : IsBytes l) : bytes (mkStr l) = l := by
  rw [mkStr, mkStr_from l _ h]
  simp [bytes]
theorem bytes_inj {s t : ByteArray} (h : bytes s = bytes t) : s = t := by
  have h1 : s.data.toList = t.data.toList := by
    unfold bytes at h
    refine List.map_inj_right (f := fun b : UInt8 => (b.toNat : Int)) ?_ |>.1 h
    intro a b hab
    exact UInt8.toNat_inj.1 (by have h2 : ((a.toNat : Nat) : Int) = b.toNat := hab; omega)
  cases s; cases t
  simp at h1
  simp [h1]
theorem mkStr_bytes (s : ByteArray) : mkStr (bytes s) = s := bytes_inj (bytes_mkStr _ (bytes_is s))

#print axioms bytes_mkStr
#print axioms mkStr_bytes
end Go.Proofs.Ytiaclfldgagalaa

/-
  What a step may have changed: blocks of a footprint, and new ones. Imports nothing of the program.
-/
namespace Go.Proofs.Ytiaclfldgagalaa
open Go.RowKit Go.Lib

/-- but for the blocks of F, what was there is as it was -/
structure Chg (F : Nat → Prop) (w w' : World) : Prop where
  os : w'.os = w.os
  tape : w'.tape = w.tape
  output : w'.output = w.output
  size : w.heap.size ≤ w'.heap.size
  block : ∀ k, k < w.heap.size → ¬ F k → w'.heap[k]? = w.heap[k]?

/-- F, and what has been made since -/
def Ext (F : Nat → Prop) (w w' : World) (k : Nat) : Prop := F k ∨ (w.heap.size ≤ k ∧ k < w'.heap.size)
/-- no block at all -/
def Non (_ : Nat) : Prop := False

section
variable {F G : Nat → Prop} {w w' a b c : World} {B g : Nat}
theorem Chg.refl (F : Nat → Prop) (w : World) : Chg F w w := ⟨rfl, rfl, rfl, Nat.le_refl _, fun _ _ _ => rfl⟩
theorem Chg.mono (h : Chg F w w') (hF : ∀ k, k < w.heap.size → F k → G k) : Chg G w w' := ⟨h.os, h.tape, h.output, h.size, fun k hk hn => h.block k hk fun hf => hn (hF k hk hf)⟩
theorem Chg.trans' (h : Chg F a b) (k : Chg G b c) (hG : ∀ i, i < a.heap.size → G i → F i) : Chg F a c :=
  ⟨k.os.trans h.os, k.tape.trans h.tape, k.output.trans h.output, Nat.le_trans h.size k.size, fun i hi hn =>
    (k.block i (Nat.lt_of_lt_of_le hi h.size) fun hg => hn (hG i hi hg)).trans (h.block i hi hn)⟩
theorem Chg.trans (h : Chg F a b) (k : Chg F b c) : Chg F a c := h.trans' k fun _ _ x => x
theorem Chg.ext (h : Chg F a b) (k : Chg (Ext F a b) b c) : Chg F a c := h.trans' k fun i hi hx => hx.elim id fun h => absurd h.1 (by omega)
theorem Chg.of_below (h : Below w.heap.size w w') : Chg F w w' := ⟨h.os, h.tape, h.output, h.size, fun k hk _ => h.block k hk⟩
theorem Chg.below (h : Chg F w w') (hF : ∀ k, F k → B ≤ k) (hB : B ≤ w.heap.size) : Below B w w' := ⟨h.os, h.tape, h.output, h.size, fun k hk => h.block k (by omega) fun hf => by have := hF k hf; omega⟩
theorem Chg.non (h : Chg Non w w') : Below w.heap.size w w' := ⟨h.os, h.tape, h.output, h.size, fun k hk => h.block k hk id⟩
theorem Chg.drew (h : Chg F w w') : Chg F w w'.drew := ⟨h.os, h.tape, h.output, h.size, h.block⟩
theorem Chg.drewN (h : Chg F w w') (n : Nat) : Chg F w (w'.drewN n) := ⟨h.os, h.tape, h.output, h.size, h.block⟩
theorem Chg.alloc (h : Chg F a w) (o : Obj) : Chg F a (w.alloc o) :=
  h.trans' (G := Non) ⟨rfl, rfl, rfl, by simp, fun k hk _ => Below.heap_alloc _ _ _ hk⟩ fun _ _ x => x.elim
theorem Chg.setCell (h : Chg F a w) {p : Addr} (hp : p.block < a.heap.size → F p.block) (u : Value) : Chg F a (w.setCell p u) :=
  h.trans' (G := fun k => k = p.block) ⟨rfl, rfl, rfl, by simp [World.setCell], fun k _ hn => Below.heap_setCell _ _ _ _ hn⟩ fun _ hi x => by subst x; exact hp hi
theorem setCells_heap (w : World) (b o : Nat) : ∀ (cs : List Value) (k : Nat), k ≠ b → (w.setCells b o cs).heap[k]? = w.heap[k]? := by
  intro cs
  induction cs generalizing w o with
  | nil => intro k _; rfl
  | cons v cs ih =>
    intro k hk
    show ((w.setCell ⟨b, o, none⟩ v).setCells b (o + 1) cs).heap[k]? = _
    rw [ih _ _ k hk, Below.heap_setCell _ _ _ _ hk]
theorem setCells_size (w : World) (b o : Nat) (cs : List Value) : (w.setCells b o cs).heap.size = w.heap.size := by
  induction cs generalizing w o with
  | nil => rfl
  | cons v cs ih =>
    show ((w.setCell ⟨b, o, none⟩ v).setCells b (o + 1) cs).heap.size = _
    rw [ih]; simp [World.setCell]
theorem setCells_rest (w : World) (b o : Nat) (cs : List Value) : (w.setCells b o cs).os = w.os ∧ (w.setCells b o cs).tape = w.tape ∧ (w.setCells b o cs).output = w.output := by
  induction cs generalizing w o with
  | nil => exact ⟨rfl, rfl, rfl⟩
  | cons v cs ih => exact ih (w.setCell ⟨b, o, none⟩ v) (o + 1)
theorem Chg.setCells (h : Chg F a w) {b o : Nat} (hb : b < a.heap.size → F b) (cs : List Value) : Chg F a (w.setCells b o cs) := by
  obtain ⟨h1, h2, h3⟩ := setCells_rest w b o cs
  exact h.trans' (G := fun k => k = b) ⟨h1, h2, h3, Nat.le_of_eq (setCells_size w b o cs).symm, fun k _ hn => setCells_heap w b o cs k hn⟩ fun _ hi x => by subst x; exact hb hi
theorem Chg.grown (h : Chg F a w) {row : Option Nat} (hg : w.grownBy w' row) (hr : ∀ k, row = some k → k < a.heap.size → F k) : Chg F a w' :=
  h.trans' (G := fun k => row = some k) ⟨hg.os, hg.tape, hg.output, hg.size, fun k hk hn => hg.block k hk fun e => hn e.symm⟩ fun i hi x => hr i x hi
theorem Chg.setRow (h : Chg F a w) (hg : g < a.heap.size → F g) (cs : Array Value) : Chg F a (w.setRow g cs) :=
  h.trans' (G := fun k => k = g) ⟨rfl, rfl, rfl, by simp [World.setRow], fun k _ hn => setRow_other w g k cs hn⟩ fun _ hi x => by subst x; exact hg hi
theorem Chg.cell (h : Chg F w w') {p : Addr} (hp : p.block < w.heap.size) (hn : ¬ F p.block) : w'.cell? p = w.cell? p := World.cell?_of_block (h.block _ hp hn)

/-- a block stays -/
theorem Blk.chg {t : TypeId} {cs : Array Value} (h : Blk w g t cs) (hc : Chg F w w') (hn : ¬ F g) : Blk w' g t cs := (hc.block g h.lt hn).trans h
theorem Blk.ne {t t' : TypeId} {cs cs' : Array Value} {g' : Nat} (h : Blk w g t cs) (h' : Blk w g' t' cs') (ht : t ≠ t') : g ≠ g' := by
  rintro rfl
  unfold Blk at h h'
  rw [h] at h'
  injection h' with h'
  injection h' with _ h'
  exact ht h'
theorem Blk.same {t t' : TypeId} {cs cs' : Array Value} (h : Blk w g t cs) (h' : Blk w g t' cs') : cs = cs' ∧ t = t' := by
  unfold Blk at h h'
  rw [h] at h'
  injection h' with h'
  injection h' with h1 h2
  exact ⟨h1, h2⟩
theorem Blk.setRow {t : TypeId} {cs : Array Value} (h : Blk w g t cs) (cs' : Array Value) : Blk (w.setRow g cs') g t cs' := setRow_heap w g _ _ t _ h

theorem Blk.grown {t : TypeId} {cs : Array Value} {row : Option Nat} (h : Blk w g t cs) (hg : w.grownBy w' row) (hne : row ≠ some g) : Blk w' g t cs := (hg.block g h.lt (Ne.symm hne)).trans h
/-- a row of one's own stays -/
theorem own_keep {base : Nat} {e : TypeId} {size : Nat} {v : Value} {n : Nat} {xs : List Value} (h : w.ownsRow base e size v n xs) (hk : ∀ k, v.ownBlock = some k → w'.heap[k]? = w.heap[k]?) : w'.ownsRow base e size v n xs := by
  refine ⟨h.1, ?_⟩
  rcases h.2 with hn | ⟨g, cap, cur, rfl, hbg, hg, rest⟩
  · exact .inl hn
  · exact .inr ⟨g, cap, cur, rfl, hbg, (hk g rfl).trans hg, rest⟩
theorem own_chg {base : Nat} {e : TypeId} {size : Nat} {v : Value} {n : Nat} {xs : List Value} (h : w.ownsRow base e size v n xs) (hc : Chg F w w') (hk : ∀ k, v.ownBlock = some k → ¬ F k) : w'.ownsRow base e size v n xs :=
  own_keep h fun k hv => hc.block k (h.lt k hv).2 (hk k hv)
/-- the row's block -/
theorem own_row {base : Nat} {e : TypeId} {size : Nat} {v : Value} {n : Nat} {xs : List Value} (h : w.ownsRow base e size v n xs) (k : Nat) (hk : v.ownBlock = some k) : ∃ cur, Blk w k e cur := by
  rcases h.2 with ⟨rfl, _⟩ | ⟨g, cap, cur, rfl, _, hg, _⟩
  · cases hk
  · cases hk; exact ⟨cur, hg⟩
theorem own_ne {base g' : Nat} {e t' : TypeId} {size : Nat} {v : Value} {n : Nat} {xs : List Value} {cs' : Array Value} (h : w.ownsRow base e size v n xs) (h' : Blk w g' t' cs') (ht : e ≠ t') : v.ownBlock ≠ some g' := by
  intro hv
  obtain ⟨cur, hb⟩ := own_row h _ hv
  exact hb.ne h' ht rfl
theorem own_to {base base' : Nat} {e : TypeId} {size : Nat} {v : Value} {n : Nat} {xs : List Value} (h : w.ownsRow base e size v n xs) (hb : ∀ k, v.ownBlock = some k → base' ≤ k) : w.ownsRow base' e size v n xs := by
  refine ⟨h.1, ?_⟩
  rcases h.2 with hn | ⟨g, cap, cur, rfl, hbg, hg, rest⟩
  · exact .inl hn
  · exact .inr ⟨g, cap, cur, rfl, hb g rfl, hg, rest⟩

theorem Rd.chg {A : Option Addr} {n : Nat} {xs : List Value} (h : Rd w B A n xs) (hc : Chg F w w') (hB : B ≤ w.heap.size) (hn : ∀ k, k < B → ¬ F k) : Rd w' B A n xs :=
  h.keep fun p hp => hc.cell (by omega) (hn _ hp)
/-- the slice's cells, from an own row whose elements are one cell -/
theorem Rd.own_ {base : Nat} {e : TypeId} {n c : Nat} {A : Option Addr} {xs : List Value} (h : w.ownsRow base e 1 (.slice A n c) n xs) : Rd w w.heap.size A n xs := Rd.of_own h
end

end Go.Proofs.Ytiaclfldgagalaa

/-
  Entries and their order: plain mathematics; the document's comparing of texts and of entries.
-/
namespace Go.Proofs.Ytiaclfldgagalaa
open Go.RowKit Go.Lib

theorem ret_int {k : IntKind} {a b : Int} (h : a = b) : Ending.returned (.int k a) = .returned (.int k b) := by rw [h]
theorem ret_bool {a b : Bool} (h : a = b) : Ending.returned (.bool a) = .returned (.bool b) := by rw [h]
theorem below_dN {C : Nat} {w w' : World} (h : Below C w w') (d : Nat) : Below C w (w'.drewN d) := ⟨h.os, h.tape, h.output, h.size, h.block⟩
theorem drewN_below {w w' : World} {d : Nat} (h : w' = w.drewN d) : Below w.heap.size w w' := by rw [h]; exact below_dN (Below.refl _ _) d
def cmpI (a b : Int) : Int := if a < b then -1 else if b < a then 1 else 0
def cmpS (s t : ByteArray) : Int := compareBytes s.data.toList t.data.toList
structure Good {α : Type} (c : α → α → Int) : Prop where
  anti : ∀ a b, c a b = -c b a
  zero : ∀ a b, c a b = 0 ↔ a = b
  trans : ∀ a b d, c a b ≤ 0 → c b d ≤ 0 → c a d ≤ 0

namespace Good
variable {α : Type} {c : α → α → Int} (g : Good c)
include g
theorem self (a : α) : c a a = 0 := (g.zero a a).2 rfl
theorem strict (a b d : α) (h : c a b < 0) (h' : c b d ≤ 0) : c a d < 0 := by
  have h1 := g.trans a b d (by omega) h'
  have h2 : c a d ≠ 0 := fun e => by
    have e1 := (g.zero a d).1 e
    subst e1
    have := g.anti a b
    omega
  omega
theorem strict' (a b d : α) (h : c a b ≤ 0) (h' : c b d < 0) : c a d < 0 := by
  have h1 := g.trans a b d h (by omega)
  have h2 : c a d ≠ 0 := fun e => by
    have e1 := (g.zero a d).1 e
    subst e1
    have := g.anti a b
    omega
  omega
theorem up (a b d : α) (h : 0 ≤ c a b) (h' : 0 ≤ c b d) : 0 ≤ c a d := by
  have e1 := g.anti a b
  have e2 := g.anti b d
  have e3 := g.anti a d
  have := g.trans d b a (by omega) (by omega)
  omega
end Good

theorem good_cmpI : Good cmpI := by
  refine ⟨fun a b => ?_, fun a b => ?_, fun a b d => ?_⟩ <;> unfold cmpI <;> (repeat' split) <;> omega

def lexL {α : Type} (c : α → α → Int) : List α → List α → Int
  | [], [] => 0
  | [], _ :: _ => -1
  | _ :: _, [] => 1
  | a :: l, b :: m => if c a b ≠ 0 then c a b else lexL c l m

theorem good_lexL {α : Type} {c : α → α → Int} (g : Good c) : Good (lexL c) := by
  refine ⟨fun a => ?_, fun a => ?_, fun a => ?_⟩
  · induction a with
    | nil => intro b; cases b <;> simp [lexL]
    | cons x l ih =>
      intro b
      cases b with
      | nil => simp [lexL]
      | cons y m =>
        have h := g.anti x y
        have hi := ih m
        unfold lexL
        split <;> split <;> omega
  · induction a with
    | nil => intro b; cases b <;> simp [lexL]
    | cons x l ih =>
      intro b
      cases b with
      | nil => simp [lexL]
      | cons y m =>
        have h := g.zero x y
        have hi := ih m
        unfold lexL
        split
        · rename_i h1
          constructor
          · intro h2; exact absurd h2 h1
          · intro h2; injection h2 with h3 h4; exact absurd (h.2 h3) h1
        · rename_i h1
          have h2 := h.1 (by omega)
          subst h2
          simp [hi]
  · induction a with
    | nil => intro b d; cases b <;> cases d <;> simp [lexL]
    | cons x l ih =>
      intro b d
      cases b with
      | nil => simp [lexL]
      | cons y m =>
        cases d with
        | nil => simp [lexL]
        | cons z n =>
          have hi := ih m n
          intro h1 h2
          unfold lexL at h1 h2 ⊢
          by_cases e1 : c x y = 0
          · have e1' := (g.zero x y).1 e1
            subst e1'
            by_cases e2 : c x z = 0
            · rw [if_neg (by omega)] at h1 h2 ⊢
              exact hi h1 h2
            · rw [if_pos e2] at h2 ⊢
              exact h2
          · rw [if_pos e1] at h1
            by_cases e2 : c y z = 0
            · have e2' := (g.zero y z).1 e2
              subst e2'
              rw [if_pos e1]
              exact h1
            · rw [if_pos e2] at h2
              have h3 := g.strict x y z (by omega) h2
              rw [if_pos (by omega)]
              omega

def cmpU (a b : UInt8) : Int := if a < b then -1 else if b < a then 1 else 0
theorem good_cmpU : Good cmpU := by
  refine ⟨fun a b => ?_, fun a b => ?_, fun a b d => ?_⟩ <;> unfold cmpU <;> simp only [UInt8.lt_iff_toNat_lt, ← UInt8.toNat_inj] <;> (repeat' split) <;> omega
theorem compareBytes_lex : ∀ a b : List UInt8, compareBytes a b = lexL cmpU a b
  | [], [] => rfl
  | [], _ :: _ => rfl
  | _ :: _, [] => rfl
  | x :: l, y :: m => by
    have ih := compareBytes_lex l m
    unfold compareBytes lexL
    rw [ih]
    by_cases h1 : x < y
    · simp [h1, show cmpU x y = -1 by simp [cmpU, h1]]
    · by_cases h2 : y < x
      · simp [h1, h2, show cmpU x y = 1 by simp [cmpU, h1, h2]]
      · simp [h1, h2, show cmpU x y = 0 by simp [cmpU, h1, h2]]
theorem good_cmpS : Good cmpS := by
  have g := good_lexL good_cmpU
  refine ⟨fun a b => ?_, fun a b => ?_, fun a b d => ?_⟩ <;> unfold cmpS <;> simp only [compareBytes_lex]
  · exact g.anti _ _
  · rw [g.zero]
    constructor
    · intro h
      obtain ⟨⟨x⟩⟩ := a
      obtain ⟨⟨y⟩⟩ := b
      exact congrArg (fun l => (⟨⟨l⟩⟩ : ByteArray)) h
    · intro h; rw [h]
  · exact g.trans _ _ _


theorem bytes_getElem (s : ByteArray) (k : Nat) (h : k < s.size) (h' : k < (bytes s).length) : (bytes s)[k] = ((s[k]'h).toNat : Int) := by
  simp only [bytes, List.getElem_map, Array.getElem_toList]
  rfl
theorem str_index (s : ByteArray) (k : Nat) (i : Int) (hi : i = k) (h' : k < (bytes s).length) (w : World) :
    (Instr.index 9 (.string s) (.int .i64 i)).run Try.prog w = .ok (.int .u8 ((bytes s)[k])) w := by
  subst hi
  have h : k < s.size := by rw [bytes_len] at h'; exact h'
  rw [run_index_string w 9 s .i64 k Try.underlying9]
  rw [dif_pos ⟨Int.natCast_nonneg k, by omega⟩, bytes_getElem s k h h']
  rfl


theorem refCmp_any (a b : Int) (w : World) : Calls Try.prog 55 #[.int .i64 a, .int .i64 b] w fun e w' => e = .returned (.int .i64 (cmpI a b)) ∧ w' = w := by
  by_cases h1 : a < b
  · go_enter Try.func55, Try.ntmps55
    go_wp2
    go_ret
    exact ⟨ret_int (by simp [cmpI, h1]), rfl⟩
  · by_cases h2 : b < a
    · go_enter Try.func55, Try.ntmps55
      go_wp2
      go_ret
      exact ⟨ret_int (by simp [cmpI, h1, h2]), rfl⟩
    · go_enter Try.func55, Try.ntmps55
      go_wp2
      go_ret
      exact ⟨ret_int (by unfold cmpI; rw [if_neg (by omega), if_neg (by omega)]), rfl⟩

/-- byte by byte -/
def lexB (a b : List Int) : Int := lexL cmpI a b
theorem lexB_cmpS (s t : ByteArray) : lexB (bytes s) (bytes t) = cmpS s t := by
  unfold lexB cmpS
  rw [compareBytes_lex]
  unfold bytes
  generalize s.data.toList = l
  generalize t.data.toList = m
  induction l generalizing m with
  | nil => cases m <;> rfl
  | cons x l ih =>
    cases m with
    | nil => rfl
    | cons y m =>
      have hc : cmpI (x.toNat : Int) (y.toNat : Int) = cmpU x y := by
        unfold cmpI cmpU
        simp only [UInt8.lt_iff_toNat_lt]
        repeat' split
        all_goals omega
      simp only [List.map_cons, lexL]
      rw [hc, ih m]

def TxRel (s t : ByteArray) (w : World) (i : Value) (wr : World) : Prop :=
  ∃ k d : Nat, k ≤ s.size ∧ k ≤ t.size ∧ i = .int .i64 k ∧ wr = w.drewN d ∧ lexB (bytes s) (bytes t) = lexB ((bytes s).drop k) ((bytes t).drop k)

set_option maxRecDepth 100000 in
set_option maxHeartbeats 3200000 in
theorem refTexts_any (s t : ByteArray) (w : World) (hs : s.size ≤ 30000000000000) (ht : t.size ≤ 30000000000000) :
    Calls Try.prog 44 #[.string s, .string t] w fun e w' => e = .returned (.int .i64 (cmpS s t)) ∧ ∃ d, w' = w.drewN d := by
  rw [← lexB_cmpS]
  go_enter Try.func44, Try.ntmps44
  go_wp2_with fail
  go_loopw [5] (fun i wr => TxRel s t w i wr) (fun i _ => s.size - (intOf i).toNat)
  case atStart => exact ⟨0, 0, by omega, by omega, rfl, rfl, rfl⟩
  case round =>
    obtain ⟨k, d, hk, hk', rfl, hw, hlx⟩ := hrel
    have hk0 : (0 : Int) ≤ (k : Int) := Int.natCast_nonneg _
    have HP := Lib.hid (And.intro hw hlx)
    clear hw hlx
    by_cases h1 : k < s.size
    · have h1i : (k : Int) < (s.size : Int) := by omega
      by_cases h2 : k < t.size
      · have h2i : (k : Int) < (t.size : Int) := by omega
        have hkb : k < (bytes s).length := by rw [bytes_len]; exact h1
        have hkc : k < (bytes t).length := by rw [bytes_len]; exact h2
        have ix := str_index s k k rfl hkb
        have iy := str_index t k k rfl hkc
        obtain ⟨b, hb⟩ : ∃ b, b = (bytes s)[k] := ⟨_, rfl⟩
        obtain ⟨c, hc⟩ : ∃ c, c = (bytes t)[k] := ⟨_, rfl⟩
        rw [← hb] at ix
        rw [← hc] at iy
        have hbb := bytes_is s b (by rw [hb]; exact List.getElem_mem _)
        have hcc := bytes_is t c (by rw [hc]; exact List.getElem_mem _)
        have hstep : lexB ((bytes s).drop k) ((bytes t).drop k) = if cmpI b c ≠ 0 then cmpI b c else lexB ((bytes s).drop (k + 1)) ((bytes t).drop (k + 1)) := by
          rw [List.drop_eq_getElem_cons hkb, List.drop_eq_getElem_cons hkc, ← hb, ← hc]; rfl
        have HS := Lib.hid hstep
        clear hb hc hkb hkc hstep
        by_cases hbc : b = c
        · subst hbc
          have HR := Lib.hid (show ∀ m, TxRel s t w (.int .i64 ((k : Int) + 1)) (wr.drewN m) from fun m => ⟨k + 1, d + m, by omega, by omega, by go_num, by rw [HP.out.1]; exact World.drewN_drewN _ _ _, by rw [HP.out.2, HS.out, if_neg (by simp [good_cmpI.self])]⟩)
          have hne : (b != b) = false := by simp
          go_wp2_with fail
          go_quiet (fail)
          go_wp2
          go_roundw
          case rel => exact HR.out _
          case measure => simp [intOf]; omega
        · have hne : (b != c) = true := by simp [hbc]
          have hd : decide (b = c) = false := by simp [hbc]
          have HR := Lib.hid (show lexB (bytes s) (bytes t) = cmpI b c by rw [HP.out.2, HS.out, if_pos (fun e => hbc ((good_cmpI.zero b c).1 e))])
          have HC := Lib.hid (fun w => refCmp_any b c w)
          have HD : Hid (∀ m, ∃ d, wr.drewN m = w.drewN d) := Lib.hid fun m => ⟨d + m, by rw [HP.out.1]; exact World.drewN_drewN _ _ _⟩
          have hwb : IntKind.i64.wrap b = b := IntWalk.i64_in _ (by omega)
          have hwc : IntKind.i64.wrap c = c := IntWalk.i64_in _ (by omega)
          clear hbc
          go_wp2_with fail
          go_quiet (fail)
          obtain ⟨wq, hwq⟩ : ∃ wq, wq = wr.drewN nq := ⟨_, rfl⟩
          have HD2 : Hid (∀ m, ∃ d, wq.drewN m = w.drewN d) := Lib.hid fun m => by
            rw [hwq]
            obtain ⟨d', h⟩ := HD.out (nq + m)
            exact ⟨d', by rw [← h]; exact World.drewN_drewN _ _ _⟩
          rw [← hwq]
          clear hwq
          go_wp2_with fail
          go_quiet (first | (go_at_call 55; exact Calls.quiet_of_same (HC.out _)))
          go_wp2
          go_ret
          exact ⟨ret_int HR.out.symm, HD2.out _⟩
      · have h2i : ¬ (k : Int) < (t.size : Int) := by omega
        have HR := Lib.hid (show lexB (bytes s) (bytes t) = cmpI (s.size : Int) (t.size : Int) by
          rw [HP.out.2, List.drop_eq_getElem_cons (show k < (bytes s).length by rw [bytes_len]; exact h1), List.drop_eq_nil_of_le (show (bytes t).length ≤ k by rw [bytes_len]; omega)]
          show (1 : Int) = _
          unfold cmpI
          rw [if_neg (by omega), if_pos (by omega)])
        go_wp2_with fail
        refine (refCmp_any _ _ _).mono ?_
        rintro e w3 ⟨rfl, hw3⟩
        obtain rfl : wr = w3 := hw3.symm
        go_wp2
        go_ret
        exact ⟨ret_int HR.out.symm, d, HP.out.1⟩
    · have h1i : ¬ (k : Int) < (s.size : Int) := by omega
      have HR := Lib.hid (show lexB (bytes s) (bytes t) = cmpI (s.size : Int) (t.size : Int) by
        rw [HP.out.2, List.drop_eq_nil_of_le (show (bytes s).length ≤ k by rw [bytes_len]; omega)]
        by_cases h2 : k < t.size
        · rw [List.drop_eq_getElem_cons (show k < (bytes t).length by rw [bytes_len]; exact h2)]
          show (-1 : Int) = _
          unfold cmpI
          rw [if_pos (by omega)]
        · rw [List.drop_eq_nil_of_le (show (bytes t).length ≤ k by rw [bytes_len]; omega)]
          show (0 : Int) = _
          unfold cmpI
          rw [if_neg (by omega), if_neg (by omega)])
      go_wp2_with fail
      refine (refCmp_any _ _ _).mono ?_
      rintro e w3 ⟨rfl, hw3⟩
      obtain rfl : wr = w3 := hw3.symm
      go_wp2
      go_ret
      exact ⟨ret_int HR.out.symm, d, HP.out.1⟩


/-- an entry -/
structure En where
  s : ByteArray
  p : Int
  k : Int
deriving DecidableEq
theorem En.ext' {a b : En} (h1 : a.s = b.s) (h2 : a.p = b.p) (h3 : a.k = b.k) : a = b := by
  cases a; cases b
  simp only at h1 h2 h3
  rw [h1, h2, h3]
def ordE (a b : En) : Int := if cmpS a.s b.s ≠ 0 then cmpS a.s b.s else if cmpI a.p b.p ≠ 0 then cmpI a.p b.p else cmpI a.k b.k
theorem good_ordE : Good ordE := by
  have g := good_cmpS
  have h := good_cmpI
  refine ⟨fun a b => ?_, fun a b => ⟨fun e => ?_, fun e => ?_⟩, fun a b d => ?_⟩
  · have h1 := g.anti a.s b.s
    have h2 := h.anti a.p b.p
    have h3 := h.anti a.k b.k
    unfold ordE
    (repeat' split) <;> omega
  · unfold ordE at e
    have h1 := g.zero a.s b.s
    have h2 := h.zero a.p b.p
    have h3 := h.zero a.k b.k
    split at e
    · exact absurd e ‹_›
    · split at e
      · exact absurd e ‹_›
      · exact En.ext' (h1.1 (by omega)) (h2.1 (by omega)) (h3.1 e)
  · subst e
    unfold ordE
    rw [if_neg (by rw [(g.zero a.s a.s).2 rfl]; simp), if_neg (by rw [(h.zero a.p a.p).2 rfl]; simp)]
    exact (h.zero a.k a.k).2 rfl
  · have s1 := g.trans a.s b.s d.s
    have s2 := g.strict a.s b.s d.s
    have s3 := g.strict' a.s b.s d.s
    have p1 := h.trans a.p b.p d.p
    have p2 := h.strict a.p b.p d.p
    have p3 := h.strict' a.p b.p d.p
    have k1 := h.trans a.k b.k d.k
    intro x y
    unfold ordE at x y ⊢
    by_cases e1 : cmpS a.s b.s = 0
    · by_cases e2 : cmpS b.s d.s = 0
      · have e3 : cmpS a.s d.s = 0 := by
          have t1 := (g.zero _ _).1 e1
          have t2 := (g.zero _ _).1 e2
          rw [t1, t2]; exact g.self _
        rw [if_neg (by omega)] at x y ⊢
        by_cases f1 : cmpI a.p b.p = 0
        · by_cases f2 : cmpI b.p d.p = 0
          · have f3 : cmpI a.p d.p = 0 := by
              have t1 := (h.zero _ _).1 f1
              have t2 := (h.zero _ _).1 f2
              rw [t1, t2]; exact h.self _
            rw [if_neg (by omega)] at x y ⊢
            exact k1 x y
          · rw [if_pos f2] at y
            have := p3 (by omega) (by omega)
            rw [if_pos (by omega)]
            omega
        · rw [if_pos f1] at x
          by_cases f2 : cmpI b.p d.p = 0
          · have := p2 (by omega) (by omega)
            rw [if_pos (by omega)]
            omega
          · rw [if_pos f2] at y
            have := p2 (by omega) (by omega)
            rw [if_pos (by omega)]
            omega
      · rw [if_pos e2] at y
        have := s3 (by omega) (by omega)
        rw [if_pos (by omega)]
        omega
    · rw [if_pos e1] at x
      by_cases e2 : cmpS b.s d.s = 0
      · have := s2 (by omega) (by omega)
        rw [if_pos (by omega)]
        omega
      · rw [if_pos e2] at y
        have := s2 (by omega) (by omega)
        rw [if_pos (by omega)]
        omega
def En.vs (a : En) : List Value := [.string a.s, .int .i64 a.p, .int .i64 a.k]
def En.val (a : En) : Value := .agg #[.string a.s, .int .i64 a.p, .int .i64 a.k]
def ecs (l : List En) : List Value := l.flatMap En.vs
theorem ecs_len (l : List En) : (ecs l).length = l.length * 3 := by
  induction l with
  | nil => rfl
  | cons a l ih => simp only [ecs, List.flatMap_cons, List.length_append, List.length_cons] at ih ⊢; rw [ih]; simp [En.vs]; omega
theorem ecs_append (a b : List En) : ecs (a ++ b) = ecs a ++ ecs b := by simp [ecs]
theorem ecs_at {l : List En} {i : Nat} (h : i < l.length) : (ecs l)[i * 3]? = some (.string l[i].s) ∧ (ecs l)[i * 3 + 1]? = some (.int .i64 l[i].p) ∧ (ecs l)[i * 3 + 2]? = some (.int .i64 l[i].k) := by
  induction l generalizing i with
  | nil => simp at h
  | cons a l ih =>
    match i with
    | 0 => exact ⟨rfl, rfl, rfl⟩
    | i + 1 =>
      have h1 := ih (i := i) (by simpa using h)
      have e : ecs (a :: l) = [.string a.s, .int .i64 a.p, .int .i64 a.k] ++ ecs l := by simp [ecs, En.vs]
      rw [e, List.getElem?_append_right (by simp; omega), List.getElem?_append_right (by simp; omega), List.getElem?_append_right (by simp; omega)]
      simp only [List.length_cons, List.length_nil, List.getElem_cons_succ]
      rw [show (i + 1) * 3 - (0 + 1 + 1 + 1) = i * 3 by omega, show (i + 1) * 3 + 1 - (0 + 1 + 1 + 1) = i * 3 + 1 by omega, show (i + 1) * 3 + 2 - (0 + 1 + 1 + 1) = i * 3 + 2 by omega]
      exact h1
theorem ecs_one (l : List En) : ∀ u ∈ ecs l, u.oneCell' = true := by
  intro u hu
  simp only [ecs, List.mem_flatMap] at hu
  obtain ⟨y, _, hy⟩ := hu
  simp [En.vs] at hy
  rcases hy with rfl | rfl | rfl <;> rfl
theorem ecs_take (l : List En) (n : Nat) : (ecs l).take (n * 3) = ecs (l.take n) := by
  induction l generalizing n with
  | nil => simp [ecs]
  | cons a l ih =>
    match n with
    | 0 => simp [ecs]
    | n + 1 =>
      have e : ecs (a :: l) = .string a.s :: .int .i64 a.p :: .int .i64 a.k :: ecs l := by simp [ecs, En.vs]
      rw [e, show (n + 1) * 3 = n * 3 + 1 + 1 + 1 by omega, List.take_succ_cons, List.take_succ_cons, List.take_succ_cons, ih]
      simp [ecs, En.vs]
theorem ecs_drop (l : List En) (n : Nat) : (ecs l).drop (n * 3) = ecs (l.drop n) := by
  induction l generalizing n with
  | nil => simp [ecs]
  | cons a l ih =>
    match n with
    | 0 => simp [ecs]
    | n + 1 =>
      have e : ecs (a :: l) = .string a.s :: .int .i64 a.p :: .int .i64 a.k :: ecs l := by simp [ecs, En.vs]
      rw [e, show (n + 1) * 3 = n * 3 + 1 + 1 + 1 by omega, List.drop_succ_cons, List.drop_succ_cons, List.drop_succ_cons, ih]
      simp

set_option maxRecDepth 100000 in
set_option maxHeartbeats 3200000 in
theorem refOrderE_any (a b : En) (w : World) (ha : a.s.size ≤ 30000000000000) (hb : b.s.size ≤ 30000000000000) :
    Calls Try.prog 23 #[a.val, b.val] w fun e w' => e = .returned (.int .i64 (ordE a b)) ∧ Below w.heap.size w w' := by
  obtain ⟨s, p, k⟩ := a
  obtain ⟨t, q, j⟩ := b
  simp only at ha hb
  obtain ⟨w1, hw1⟩ : ∃ w1, w1 = w.alloc (.cells #[.string s, .int .i64 p, .int .i64 k] 35) := ⟨_, rfl⟩
  obtain ⟨w2, hw2⟩ : ∃ w2, w2 = w1.alloc (.cells #[.string t, .int .i64 q, .int .i64 j] 35) := ⟨_, rfl⟩
  have hb1 : Below w.heap.size w w1 := by rw [hw1]; exact (Below.refl _ w).alloc (Nat.le_refl _) _
  have s1 : w1.heap.size = w.heap.size + 1 := by rw [hw1]; simp
  have hb2 : Below w1.heap.size w1 w2 := by rw [hw2]; exact (Below.refl _ w1).alloc (Nat.le_refl _) _
  have hbw := hb1.trans (hb2.mono hb1.size)
  have k1 : Blk w1 w.heap.size 35 #[.string s, .int .i64 p, .int .i64 k] := by rw [hw1]; exact Blk.new _ _ _
  have k1' := k1.below hb2 (by omega)
  have k2 : Blk w2 (w.heap.size + 1) 35 #[.string t, .int .i64 q, .int .i64 j] := by rw [hw2, ← s1]; exact Blk.new _ _ _
  have HW1 := Lib.hid hw1
  have HW2 := Lib.hid hw2
  have HB := Lib.hid hbw
  have HK := Lib.hid (And.intro k1' k2)
  have c0 := k1'.cell 0
  have d0 := k2.cell 0
  simp only [List.getElem?_toArray, List.getElem?_cons_zero] at c0 d0
  rw [hw2, hw1] at c0 d0
  have HT := Lib.hid (refTexts_any s t w2 ha hb)
  clear hw1 hw2 hb1 hb2 hbw k1 k1' k2
  unfold En.val
  go_enter Try.func23, Try.ntmps23
  go_wp2_with fail
  rw [← HW1.out, ← HW2.out]
  refine HT.out.mono ?_
  rintro e w3 ⟨rfl, d, hd⟩
  have hb3 : Below w.heap.size w w3 := by rw [hd]; exact below_dN HB.out d
  have k13 : Blk w3 w.heap.size 35 #[.string s, .int .i64 p, .int .i64 k] := by rw [hd]; exact HK.out.1.drewN d
  have k23 : Blk w3 (w.heap.size + 1) 35 #[.string t, .int .i64 q, .int .i64 j] := by rw [hd]; exact HK.out.2.drewN d
  have e1 := k13.cell 1
  have e2 := k13.cell 2
  have f1 := k23.cell 1
  have f2 := k23.cell 2
  simp only [List.getElem?_toArray, List.getElem?_cons_zero, List.getElem?_cons_succ] at e1 e2 f1 f2
  have HB3 := Lib.hid hb3
  clear hd k13 k23 hb3
  obtain ⟨c, hc⟩ : ∃ c, c = cmpS s t := ⟨_, rfl⟩
  rw [← hc]
  have HC := Lib.hid hc
  clear hc
  by_cases h0 : c = 0
  · by_cases hp : p = q
    · by_cases hk : k = j
      · have HR := Lib.hid (show ordE ⟨s, p, k⟩ ⟨t, q, j⟩ = 0 by
          unfold ordE
          simp only
          rw [if_neg (by rw [← HC.out]; omega), if_neg (by rw [hp, good_cmpI.self]; simp), hk, good_cmpI.self])
        have t1 : (c != 0) = false := by simp [h0]
        have t2 : (p != q) = false := by simp [hp]
        have t3 : (k != j) = false := by simp [hk]
        have HH := Lib.hid (And.intro h0 (And.intro hp hk))
        clear h0 hp hk
        go_wp2_with fail
        go_ret
        exact ⟨by rw [HR.out]; rfl, HB3.out⟩
      · have t1 : (c != 0) = false := by simp [h0]
        have t2 : (p != q) = false := by simp [hp]
        have t3 : (k != j) = true := by simp [hk]
        by_cases hl : k < j
        · have HR := Lib.hid (show ordE ⟨s, p, k⟩ ⟨t, q, j⟩ = -1 by
            unfold ordE
            simp only
            rw [if_neg (by rw [← HC.out]; omega), if_neg (by rw [hp, good_cmpI.self]; simp)]
            unfold cmpI
            rw [if_pos hl])
          have HH := Lib.hid (And.intro h0 hp)
          clear h0 hp hk
          go_wp2_with fail
          go_ret
          exact ⟨by rw [HR.out]; rfl, HB3.out⟩
        · have HR := Lib.hid (show ordE ⟨s, p, k⟩ ⟨t, q, j⟩ = 1 by
            unfold ordE
            simp only
            rw [if_neg (by rw [← HC.out]; omega), if_neg (by rw [hp, good_cmpI.self]; simp)]
            unfold cmpI
            rw [if_neg hl, if_pos (by omega)])
          have HH := Lib.hid (And.intro h0 hp)
          clear h0 hp hk
          go_wp2_with fail
          go_ret
          exact ⟨by rw [HR.out]; rfl, HB3.out⟩
    · have t1 : (c != 0) = false := by simp [h0]
      have t2 : (p != q) = true := by simp [hp]
      by_cases hl : p < q
      · have HR := Lib.hid (show ordE ⟨s, p, k⟩ ⟨t, q, j⟩ = -1 by
          unfold ordE
          simp only
          have : cmpI p q = -1 := by unfold cmpI; rw [if_pos hl]
          rw [if_neg (by rw [← HC.out]; omega), if_pos (by omega), this])
        have HH := Lib.hid h0
        clear h0 hp
        go_wp2_with fail
        go_ret
        exact ⟨by rw [HR.out]; rfl, HB3.out⟩
      · have HR := Lib.hid (show ordE ⟨s, p, k⟩ ⟨t, q, j⟩ = 1 by
          unfold ordE
          simp only
          have : cmpI p q = 1 := by unfold cmpI; rw [if_neg hl, if_pos (by omega)]
          rw [if_neg (by rw [← HC.out]; omega), if_pos (by omega), this])
        have HH := Lib.hid h0
        clear h0 hp
        go_wp2_with fail
        go_ret
        exact ⟨by rw [HR.out]; rfl, HB3.out⟩
  · have HR := Lib.hid (show ordE ⟨s, p, k⟩ ⟨t, q, j⟩ = c by
      unfold ordE
      simp only
      rw [if_pos (by rw [← HC.out]; exact h0), HC.out])
    have t1 : (c != 0) = true := by simp [h0]
    go_wp2_with fail
    go_ret
    exact ⟨by rw [HR.out]; rfl, HB3.out⟩
end Go.Proofs.Ytiaclfldgagalaa
