/-
  Layer 5's maths: a row's key bytes, their order, and how they are read again. Nothing of the program in it.
-/
import Derived.Test.YtkdhmbfmjlpfbaaDoorRt
import Derived.Test.YtkdhmbfmjlpfbaaDoorOrdM
import Derived.Lib.ReplaceLaws
import Derived.Lib.IndexLaws
import Derived.Lib.CountLaws
namespace Go.Proofs.YtkdhmbfmjlpfbaaDoor
open Go.RowKit Go.Lib

/-! ### numbers -/
def u64 (n : Int) : Nat := ((n + 9223372036854775808) % 18446744073709551616).toNat
theorem u64_lt (n : Int) : u64 n < 18446744073709551616 := by unfold u64; omega
theorem u64_in {n : Int} (h : -9223372036854775808 ≤ n ∧ n ≤ 9223372036854775807) : (u64 n : Int) = n + 9223372036854775808 := by unfold u64; omega

/-- the k low bytes of u, the highest first -/
def be : Nat → Nat → List Int
  | 0, _ => []
  | k + 1, u => ((u / 256 ^ k % 256 : Nat) : Int) :: be k u
theorem be_len (k u : Nat) : (be k u).length = k := by induction k with
  | zero => rfl
  | succ k ih => simp [be, ih]
theorem be_bytes (k u : Nat) : IsBytes (be k u) := by induction k with
  | zero => exact .nil
  | succ k ih => exact .cons (by omega) ih

theorem lex_app {α : Type} (c : α → α → Int) : ∀ (a b : List α), a.length = b.length → ∀ r r', lexL c (a ++ r) (b ++ r') = if lexL c a b ≠ 0 then lexL c a b else lexL c r r'
  | [], [], _, r, r' => by simp [lexL]
  | x :: a, y :: b, h, r, r' => by
    have ih := lex_app c a b (by simpa using h) r r'
    simp only [List.cons_append, lexL]
    by_cases e : c x y = 0
    · simp only [e, ne_eq, not_true, if_false]; exact ih
    · simp only [ne_eq, e, not_false_eq_true, if_true]
  | [], _ :: _, h, _, _ => by simp at h
  | _ :: _, [], h, _, _ => by simp at h

theorem split_mod (u k : Nat) : u % 256 ^ (k + 1) = u / 256 ^ k % 256 * 256 ^ k + u % 256 ^ k := by
  rw [Nat.pow_succ, Nat.mod_mul, Nat.mul_comm (256 ^ k)]
  omega
theorem cmpI_nat {a b : Nat} : cmpI (a : Int) (b : Int) = if a < b then -1 else if b < a then 1 else 0 := by
  unfold cmpI; repeat' split
  all_goals omega
theorem be_cmp (k u v : Nat) : lexL cmpI (be k u) (be k v) = cmpI ((u % 256 ^ k : Nat) : Int) ((v % 256 ^ k : Nat) : Int) := by
  induction k with
  | zero => simp [be, lexL, Nat.mod_one, cmpI]
  | succ k ih =>
    simp only [be, lexL]
    rw [ih, split_mod u, split_mod v]
    have hp : 0 < 256 ^ k := Nat.pow_pos (by omega)
    have h1 := Nat.mod_lt u hp
    have h2 := Nat.mod_lt v hp
    generalize u / 256 ^ k % 256 = a at *
    generalize v / 256 ^ k % 256 = b at *
    generalize u % 256 ^ k = x at *
    generalize v % 256 ^ k = y at *
    generalize 256 ^ k = p at *
    rcases Nat.lt_trichotomy a b with h | h | h
    · have h3 : (a + 1) * p ≤ b * p := Nat.mul_le_mul_right _ h
      rw [Nat.add_mul] at h3
      have e : cmpI (a : Int) (b : Int) = -1 := by rw [cmpI_nat, if_pos h]
      have f : cmpI ((a * p + x : Nat) : Int) ((b * p + y : Nat) : Int) = -1 := by rw [cmpI_nat, if_pos (by omega)]
      rw [e, f]; simp
    · subst h
      have e : cmpI (a : Int) (a : Int) = 0 := by rw [cmpI_nat, if_neg (by omega), if_neg (by omega)]
      rw [e]
      simp only [ne_eq, not_true, if_false]
      rw [cmpI_nat, cmpI_nat]
      repeat' split
      all_goals first | rfl | (exfalso; omega)
    · have h3 : (b + 1) * p ≤ a * p := Nat.mul_le_mul_right _ h
      rw [Nat.add_mul] at h3
      have e : cmpI (a : Int) (b : Int) = 1 := by rw [cmpI_nat, if_neg (by omega), if_pos h]
      have f : cmpI ((a * p + x : Nat) : Int) ((b * p + y : Nat) : Int) = 1 := by rw [cmpI_nat, if_neg (by omega), if_pos (by omega)]
      rw [e, f]; simp

/-- the number of bytes -/
def valB (acc : Nat) (l : List Int) : Nat := l.foldl (fun a c => a * 256 + c.toNat) acc
theorem valB_be (k u acc : Nat) : valB acc (be k u) = acc * 256 ^ k + u % 256 ^ k := by
  induction k generalizing acc with
  | zero => simp [be, valB, Nat.mod_one]
  | succ k ih =>
    have h : valB acc (be (k + 1) u) = valB (acc * 256 + (u / 256 ^ k % 256)) (be k u) := by
      show List.foldl _ acc (((u / 256 ^ k % 256 : Nat) : Int) :: be k u) = _
      rw [List.foldl_cons, Int.toNat_natCast]
      rfl
    rw [h, ih, split_mod u k, Nat.pow_succ, Nat.add_mul, Nat.mul_assoc, Nat.mul_comm 256]
    omega

/-! ### texts -/
def escB : List Int → List Int
  | [] => []
  | x :: l => if x = 0 then 0 :: 255 :: escB l else x :: escB l
theorem escB_bytes {l : List Int} (h : IsBytes l) : IsBytes (escB l) := by
  induction l with
  | nil => exact .nil
  | cons x l ih =>
    have hi := ih fun y hy => h y (by simp [hy])
    unfold escB
    split
    · exact .cons (by omega) (.cons (by omega) hi)
    · exact .cons (h x (by simp)) hi
theorem escB_len (l : List Int) : (escB l).length ≤ 2 * l.length := by
  induction l with
  | nil => simp [escB]
  | cons x l ih => unfold escB; split <;> simp <;> omega

theorem esc_cmp : ∀ (a b : List Int), IsBytes a → IsBytes b → ∀ r r', lexL cmpI (escB a ++ 0 :: 1 :: r) (escB b ++ 0 :: 1 :: r') = if lexL cmpI a b ≠ 0 then lexL cmpI a b else lexL cmpI r r'
  | [], [], _, _, r, r' => by simp [escB, lexL, cmpI]
  | [], y :: b, _, hb, r, r' => by
    have hy := hb y (by simp)
    by_cases h : y = 0
    · subst h; simp [escB, lexL, cmpI]
    · have : cmpI 0 y = -1 := by unfold cmpI; rw [if_pos (by omega)]
      simp [escB, lexL, h, this]
  | x :: a, [], ha, _, r, r' => by
    have hx := ha x (by simp)
    by_cases h : x = 0
    · subst h; simp [escB, lexL, cmpI]
    · have : cmpI x 0 = 1 := by unfold cmpI; rw [if_neg (by omega), if_pos (by omega)]
      simp [escB, lexL, h, this]
  | x :: a, y :: b, ha, hb, r, r' => by
    have hx := ha x (by simp)
    have hy := hb y (by simp)
    have ih := esc_cmp a b (fun z hz => ha z (by simp [hz])) (fun z hz => hb z (by simp [hz])) r r'
    by_cases h1 : x = 0
    · subst h1
      by_cases h2 : y = 0
      · subst h2
        have e0 : cmpI 0 0 = 0 := rfl
        have e1 : cmpI 255 255 = 0 := rfl
        simp [escB, lexL, e0, e1]
        simpa using ih
      · have : cmpI 0 y = -1 := by unfold cmpI; rw [if_pos (by omega)]
        simp [escB, lexL, h2, this]
    · by_cases h2 : y = 0
      · subst h2
        have : cmpI x 0 = 1 := by unfold cmpI; rw [if_neg (by omega), if_pos (by omega)]
        simp [escB, lexL, h1, this]
      · by_cases h3 : cmpI x y = 0
        · simp only [escB, h1, h2, if_false, List.cons_append, lexL, h3, ne_eq, not_true]
          simpa using ih
        · simp [escB, lexL, h1, h2, h3]

/-! ### values and rows -/
def keyV (x : Va) : List Int := (x.k % 256) :: (if x.k = 1 then be 8 (u64 x.n) else if x.k = 2 then [x.n % 256] else if x.k = 3 then escB (bytes x.s) ++ [0, 1] else [])
def keyVs : List Va → List Int
  | [] => []
  | x :: l => keyV x ++ keyVs l
theorem keyVs_append (a b : List Va) : keyVs (a ++ b) = keyVs a ++ keyVs b := by
  induction a with
  | nil => rfl
  | cons x l ih => simp [keyVs, ih]
theorem keyV_bytes (x : Va) : IsBytes (keyV x) := by
  unfold keyV
  refine .cons (by omega) ?_
  split
  · exact be_bytes _ _
  · split
    · exact .cons (by omega) .nil
    · split
      · exact (escB_bytes (bytes_is _)).append (.cons (by omega) (.cons (by omega) .nil))
      · exact .nil
theorem keyVs_bytes (l : List Va) : IsBytes (keyVs l) := by
  induction l with
  | nil => exact .nil
  | cons x l ih => exact (keyV_bytes x).append ih
theorem keyV_pos (x : Va) : 0 < (keyV x).length := by simp [keyV]

/-- what a number of Go is within -/
def InN (x : Va) : Prop := -9223372036854775808 ≤ x.n ∧ x.n ≤ 9223372036854775807

theorem right_cases {x : Va} (h : rightVa x = true) : (x.k = 0 ∧ x.n = 0 ∧ x.s = ⟨#[]⟩) ∨ (x.k = 1 ∧ x.s = ⟨#[]⟩) ∨ (x.k = 2 ∧ (x.n = 0 ∨ x.n = 1) ∧ x.s = ⟨#[]⟩) ∨ (x.k = 3 ∧ x.n = 0 ∧ x.s.size ≤ 16) := by
  unfold rightVa rightV at h
  split at h
  · rename_i h0; simp at h; exact .inl ⟨h0, h⟩
  · split at h
    · rename_i h0; simp at h; exact .inr (.inl ⟨h0, h⟩)
    · split at h
      · rename_i h0; simp at h; exact .inr (.inr (.inl ⟨h0, h⟩))
      · split at h
        · rename_i h0; simp at h; exact .inr (.inr (.inr ⟨h0, h⟩))
        · cases h

theorem keyV_len {x : Va} (h : rightVa x = true) : (keyV x).length ≤ 40 := by
  unfold keyV
  rcases right_cases h with ⟨hk, -, -⟩ | ⟨hk, -⟩ | ⟨hk, -, -⟩ | ⟨hk, -, hs⟩
  · rw [hk]; simp
  · rw [hk]; simp [be_len]
  · rw [hk]; simp
  · have h1 := escB_len (bytes x.s)
    rw [bytes_len] at h1
    rw [hk]; simp; omega
theorem keyVs_len {l : List Va} (h : ∀ x ∈ l, rightVa x = true) : (keyVs l).length ≤ 40 * l.length := by
  induction l with
  | nil => simp [keyVs]
  | cons x l ih =>
    have h1 := keyV_len (h x (by simp))
    have h2 := ih fun y hy => h y (by simp [hy])
    simp only [keyVs, List.length_append, List.length_cons]
    omega
theorem cmpS_self (s : ByteArray) : cmpS s s = 0 := (good_cmpS.zero s s).2 rfl
theorem cmpI_self (a : Int) : cmpI a a = 0 := (good_cmpI.zero a a).2 rfl

theorem lexI_cmpS (s t : ByteArray) : lexL cmpI (bytes s) (bytes t) = cmpS s t := by
  unfold cmpS
  rw [compareBytes_lex]
  unfold bytes
  generalize s.data.toList = l
  generalize t.data.toList = m
  induction l generalizing m with
  | nil => cases m <;> rfl
  | cons x l ih =>
    cases m with
    | nil => rfl
    | cons y m =>
      have hc : cmpI (x.toNat : Int) (y.toNat : Int) = cmpU x y := by
        unfold cmpI cmpU
        simp only [UInt8.lt_iff_toNat_lt]
        repeat' split
        all_goals omega
      simp only [List.map_cons, lexL]
      rw [hc, ih m]

theorem key_cmp {x y : Va} (hx : rightVa x = true) (hy : rightVa y = true) (nx : InN x) (ny : InN y) (r r' : List Int) :
    lexL cmpI (keyV x ++ r) (keyV y ++ r') = if ordVa x y ≠ 0 then ordVa x y else lexL cmpI r r' := by
  have hkx : 0 ≤ x.k ∧ x.k ≤ 3 := by rcases right_cases hx with ⟨h, _⟩ | ⟨h, _⟩ | ⟨h, _⟩ | ⟨h, _⟩ <;> omega
  have hky : 0 ≤ y.k ∧ y.k ≤ 3 := by rcases right_cases hy with ⟨h, _⟩ | ⟨h, _⟩ | ⟨h, _⟩ | ⟨h, _⟩ <;> omega
  have ex : x.k % 256 = x.k := by omega
  have ey : y.k % 256 = y.k := by omega
  rw [ordVa_eq]
  unfold keyV
  rw [ex, ey]
  simp only [List.cons_append, lexL]
  by_cases hk : x.k = y.k
  · rw [hk, cmpI_self]
    simp only [ne_eq, not_true, if_false]
    rcases right_cases hy with ⟨k, n, s⟩ | ⟨k, s⟩ | ⟨k, n, s⟩ | ⟨k, n, s⟩
    · rcases right_cases hx with ⟨k', n', s'⟩ | ⟨k', s'⟩ | ⟨k', n', s'⟩ | ⟨k', n', s'⟩ <;> first | (exfalso; omega) | skip
      rw [k, n, n', s, s', cmpI_self, cmpS_self]; simp
    · rcases right_cases hx with ⟨k', n', s'⟩ | ⟨k', s'⟩ | ⟨k', n', s'⟩ | ⟨k', n', s'⟩ <;> first | (exfalso; omega) | skip
      rw [k, s, s', cmpS_self]
      simp only [if_true]
      rw [lex_app cmpI _ _ (by rw [be_len, be_len]), be_cmp]
      have e1 := u64_lt x.n
      have e2 := u64_lt y.n
      have e3 : (256 : Nat) ^ 8 = 18446744073709551616 := by decide
      rw [e3, Nat.mod_eq_of_lt e1, Nat.mod_eq_of_lt e2, u64_in nx, u64_in ny]
      have e4 : cmpI (x.n + 9223372036854775808) (y.n + 9223372036854775808) = cmpI x.n y.n := by
        unfold cmpI
        repeat' split
        all_goals first | rfl | (exfalso; omega)
      rw [e4]
      by_cases h0 : cmpI x.n y.n = 0 <;> simp [h0]
    · rcases right_cases hx with ⟨k', n', s'⟩ | ⟨k', s'⟩ | ⟨k', n', s'⟩ | ⟨k', n', s'⟩ <;> first | (exfalso; omega) | skip
      rw [k, s, s', cmpS_self]
      have e1 : x.n % 256 = x.n := by omega
      have e2 : y.n % 256 = y.n := by omega
      rw [e1, e2]
      by_cases h0 : cmpI x.n y.n = 0 <;> simp [h0, lexL]
    · rcases right_cases hx with ⟨k', n', s'⟩ | ⟨k', s'⟩ | ⟨k', n', s'⟩ | ⟨k', n', s'⟩ <;> first | (exfalso; omega) | skip
      rw [k, n, n', cmpI_self]
      have h := esc_cmp (bytes x.s) (bytes y.s) (bytes_is _) (bytes_is _) r r'
      rw [lexI_cmpS] at h
      simpa using h
  · have h0 : cmpI x.k y.k ≠ 0 := fun e => hk ((good_cmpI.zero _ _).1 e)
    simp [h0]

/-- one row is below the other just if its key is -/
theorem keys_cmp : ∀ (a b : List Va), (∀ x ∈ a, rightVa x = true ∧ InN x) → (∀ x ∈ b, rightVa x = true ∧ InN x) → lexL cmpI (keyVs a) (keyVs b) = ordR a b
  | [], [], _, _ => rfl
  | [], y :: b, _, _ => by
    have h := keyV_pos y
    obtain ⟨z, l, e⟩ : ∃ z l, keyV y = z :: l := ⟨_, _, rfl⟩
    simp [keyVs, ordR, e, lexL]
  | x :: a, [], _, _ => by
    obtain ⟨z, l, e⟩ : ∃ z l, keyV x = z :: l := ⟨_, _, rfl⟩
    simp [keyVs, ordR, e, lexL]
  | x :: a, y :: b, ha, hb => by
    have ih := keys_cmp a b (fun z hz => ha z (by simp [hz])) (fun z hz => hb z (by simp [hz]))
    have hx := ha x (by simp)
    have hy := hb y (by simp)
    simp only [keyVs, ordR]
    rw [key_cmp hx.1 hy.1 hx.2 hy.2, ih]

theorem key_inj {a b : List Va} (ha : ∀ x ∈ a, rightVa x = true ∧ InN x) (hb : ∀ x ∈ b, rightVa x = true ∧ InN x) (h : keyVs a = keyVs b) : a = b := by
  have h1 := keys_cmp a b ha hb
  rw [h, (good_lexL good_cmpI).self] at h1
  exact (good_ordR.zero a b).1 h1.symm

theorem keys_str (a b : List Va) (ha : ∀ x ∈ a, rightVa x = true ∧ InN x) (hb : ∀ x ∈ b, rightVa x = true ∧ InN x) : cmpS (mkStr (keyVs a)) (mkStr (keyVs b)) = ordR a b := by
  rw [← lexI_cmpS, bytes_mkStr _ (keyVs_bytes a), bytes_mkStr _ (keyVs_bytes b)]
  exact keys_cmp a b ha hb

/-! ### what is next -/
theorem lex_front (l m : List Int) : lexL cmpI l (l ++ m) ≤ 0 := by
  induction l with
  | nil => cases m <;> simp [lexL]
  | cons x l ih => simp only [List.cons_append, lexL, cmpI_self]; simpa using ih
/-- all that begins so, the rest of it being a row's key, is below what is next -/
theorem lex_next (l : List Int) (more : List Va) (hm : ∀ x ∈ more, rightVa x = true) : lexL cmpI (l ++ keyVs more) (l ++ [255]) < 0 := by
  induction l with
  | nil =>
    cases more with
    | nil => simp [keyVs, lexL]
    | cons y b =>
      have hk : 0 ≤ y.k ∧ y.k ≤ 3 := by rcases right_cases (hm y (by simp)) with ⟨h, _⟩ | ⟨h, _⟩ | ⟨h, _⟩ | ⟨h, _⟩ <;> omega
      have : cmpI (y.k % 256) 255 = -1 := by unfold cmpI; rw [if_pos (by omega)]
      simp [keyVs, keyV, lexL, this]
  | cons x l ih => simp only [List.cons_append, lexL, cmpI_self]; simpa using ih
end Go.Proofs.YtkdhmbfmjlpfbaaDoor
