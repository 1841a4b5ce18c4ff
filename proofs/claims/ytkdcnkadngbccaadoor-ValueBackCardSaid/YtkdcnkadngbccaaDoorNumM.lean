/-
  What is shown is read: numbers, texts, the null and the truths.
-/
import Derived.Test.YtkdcnkadngbccaaDoorNum4
import Derived.Test.YtkdcnkadngbccaaDoorVLift
import Derived.Lib.ItoaLen
namespace Go.Proofs.YtkdcnkadngbccaaDoor
open Go.RowKit Go.Lib

theorem digit_byte (d : Nat) (h : d < 10) : (UInt8.ofNat (48 + d)).toNat = 48 + d := by
  rw [UInt8.toNat_ofNat']
  omega
theorem parse_dec (u : Nat) : ∀ (acc : Nat) (r : List UInt8), acc * 10 ^ nDigits u + u < 18446744073709551616 → parseUint10 acc (decDigits u ++ r) = parseUint10 (acc * 10 ^ nDigits u + u) r := by
  induction u using Nat.strongRecOn with
  | _ u ih =>
    intro acc r hb
    by_cases h : u < 10
    · rw [nDigits_small h, Nat.pow_one] at hb ⊢
      rw [decDigits, dif_pos h, List.cons_append, List.nil_append, parseUint10, digit_byte u h, if_pos (by omega), if_neg (by omega), if_neg (by omega), Nat.add_sub_cancel_left]
    · rw [nDigits_big h, Nat.pow_succ] at hb ⊢
      have e : acc * (10 ^ nDigits (u / 10) * 10) + u = (acc * 10 ^ nDigits (u / 10) + u / 10) * 10 + u % 10 := by
        rw [Nat.add_mul, Nat.mul_assoc]; omega
      rw [e] at hb ⊢
      rw [decDigits, dif_neg h, List.append_assoc, ih (u / 10) (by omega) acc _ (by omega), List.cons_append, List.nil_append, parseUint10, digit_byte _ (by omega), if_pos (by omega), if_neg (by omega), if_neg (by omega), Nat.add_sub_cancel_left]
theorem dec_ne (u : Nat) : decDigits u ≠ [] := by
  intro e
  have := decDigits_length u
  rw [e] at this
  have := nDigits_pos u
  simp at *
  omega
theorem parseMag_dec (u : Nat) (h : u < 18446744073709551616) : parseMag (decDigits u) = .ok u := by
  unfold parseMag
  rw [if_neg (dec_ne u)]
  have := parse_dec u 0 [] (by simpa using h)
  rw [List.append_nil, Nat.zero_mul, Nat.zero_add] at this
  rw [this, parseUint10]
theorem dec_digits (u : Nat) : ∀ b ∈ decDigits u, 48 ≤ b.toNat ∧ b.toNat ≤ 57 := by
  induction u using Nat.strongRecOn with
  | _ u ih =>
    intro b hb
    by_cases h : u < 10
    · rw [decDigits, dif_pos h] at hb
      obtain rfl := List.mem_singleton.1 hb
      rw [digit_byte u h]; omega
    · rw [decDigits, dif_neg h] at hb
      rcases List.mem_append.1 hb with hb | hb
      · exact ih (u / 10) (by omega) b hb
      · obtain rfl := List.mem_singleton.1 hb
        rw [digit_byte _ (by omega)]; omega
theorem atoi_itoa (n : Int) (h0 : -9223372036854775808 ≤ n) (h1 : n ≤ 9223372036854775807) : atoiAll (Lib.itoa n) = .ok n := by
  by_cases hn : n < 0
  · unfold Lib.itoa
    rw [if_pos hn]
    unfold atoiAll
    have e45 : (45 : UInt8).toNat = 45 := rfl
    simp only [e45]
    rw [if_pos (by simp), parseMag_dec _ (by omega)]
    simp only
    rw [if_neg (by simp), if_neg (by omega)]
    simp
    omega
  · unfold Lib.itoa
    rw [if_neg hn]
    cases hd : decDigits n.toNat with
    | nil => exact absurd hd (dec_ne _)
    | cons c r =>
      have hc := dec_digits n.toNat c (by rw [hd]; simp)
      unfold atoiAll
      simp only
      rw [if_neg (by omega), ← hd, parseMag_dec _ (by omega)]
      simp only
      rw [if_neg (by omega), if_neg (by omega), if_neg (by omega)]
      congr 1
      omega
theorem atoiV_strI (n : Int) (h0 : -9223372036854775808 ≤ n) (h1 : n ≤ 9223372036854775807) : atoiV (strI n) = n := by
  unfold atoiV
  rw [show (strI n).data.toList = Lib.itoa n from rfl, atoi_itoa n h0 h1]
/-- the bytes of a shown number: a sign or a digit ahead, all plain -/
theorem itoa_plain (n : Int) : ∀ b ∈ Lib.itoa n, b.toNat = 45 ∨ (48 ≤ b.toNat ∧ b.toNat ≤ 57) := by
  intro b hb
  unfold Lib.itoa at hb
  split at hb
  · rcases List.mem_cons.1 hb with rfl | hb
    · exact .inl rfl
    · exact .inr (dec_digits _ b hb)
  · exact .inr (dec_digits _ b hb)
theorem strI_not (n : Int) (l : List UInt8) (hl : ∃ b r, l = b :: r ∧ 58 ≤ b.toNat) : ((strI n).toList == l) = false := by
  rw [beq_eq_false_iff_ne, ByteArray.toList_eq]
  intro e
  obtain ⟨b, r, rfl, hb⟩ := hl
  have := itoa_plain n b (by rw [show Lib.itoa n = b :: r from e]; simp)
  omega
theorem strI_head (n : Int) : (bytes (strI n)).head? ≠ some 34 := by
  intro e
  rw [bytes, List.head?_map] at e
  have e1 : (strI n).data.toList = Lib.itoa n := rfl
  rw [e1] at e
  cases h : Lib.itoa n with
  | nil => rw [h] at e; simp at e
  | cons b r =>
    rw [h] at e
    simp at e
    have := itoa_plain n b (by rw [h]; simp)
    omega

theorem hx_hexd (d : Int) (h0 : 0 ≤ d) (h1 : d < 16) : hx (hexd d) = d := by
  have h2 : d = 0 ∨ d = 1 ∨ d = 2 ∨ d = 3 ∨ d = 4 ∨ d = 5 ∨ d = 6 ∨ d = 7 ∨ d = 8 ∨ d = 9 ∨ d = 10 ∨ d = 11 ∨ d = 12 ∨ d = 13 ∨ d = 14 ∨ d = 15 := by omega
  rcases h2 with rfl | rfl | rfl | rfl | rfl | rfl | rfl | rfl | rfl | rfl | rfl | rfl | rfl | rfl | rfl | rfl <;> decide +kernel
theorem hexd_bd (d : Int) (h0 : 0 ≤ d) (h1 : d < 16) : (48 ≤ hexd d ∧ hexd d ≤ 57) ∨ (97 ≤ hexd d ∧ hexd d ≤ 102) := by
  unfold hexd
  split <;> omega
theorem isPl_bd {c : Int} (h : isPl c = true) : 32 ≤ c ∧ c ≤ 126 ∧ c ≠ 34 ∧ c ≠ 92 := by
  unfold isPl at h
  simp at h
  omega
theorem unq_quote (l : List Int) (h : IsBytes l) : unqL (qBs l ++ [34]) = l := by
  induction l with
  | nil => rfl
  | cons c l ih =>
    have hc := h c (by simp)
    have ih := ih fun x hx => h x (by simp [hx])
    simp only [qBs, qB]
    by_cases hp : isPl c = true
    · rw [if_pos hp]
      have hb := isPl_bd hp
      cases hr : qBs l ++ [34] with
      | nil => simp at hr
      | cons b r =>
        rw [hr] at ih
        rw [List.append_assoc, hr]
        cases r with
        | nil =>
          have : l = [] := by rw [← ih]; rfl
          subst this
          rfl
        | cons b' r' =>
          show unqL (c :: b :: b' :: r') = _
          rw [unqL, if_pos hb.2.2.2, ih]
    · rw [if_neg hp]
      show unqL (92 :: hexd (c / 16) :: hexd (c % 16) :: (qBs l ++ [34])) = _
      rw [unqL, if_neg (by simp), ih, hx_hexd _ (by omega) (by omega), hx_hexd _ (by omega) (by omega)]
      congr 1
      omega
theorem quoteL_bytes (l : List Int) (h : IsBytes l) : ∀ b ∈ quoteL l, 32 ≤ b ∧ b ≤ 126 := by
  have hq : ∀ l, IsBytes l → ∀ b ∈ qBs l, 32 ≤ b ∧ b ≤ 126 := by
    intro l
    induction l with
    | nil => intro _ b hb; simp [qBs] at hb
    | cons c l ih =>
      intro h b hb
      have hc := h c (by simp)
      rcases List.mem_append.1 hb with hb | hb
      · unfold qB at hb
        split at hb
        · rename_i hp
          have := isPl_bd hp
          simp at hb
          omega
        · have h1 := hexd_bd (c / 16) (by omega) (by omega)
          have h2 := hexd_bd (c % 16) (by omega) (by omega)
          simp at hb
          omega
      · exact ih (fun x hx => h x (by simp [hx])) b hb
  intro b hb
  unfold quoteL at hb
  rcases List.mem_append.1 hb with hb | hb
  · rcases List.mem_cons.1 hb with rfl | hb
    · omega
    · exact hq l h b hb
  · simp at hb; omega
theorem quoteL_isBytes (l : List Int) (h : IsBytes l) : IsBytes (quoteL l) := fun b hb => by have := quoteL_bytes l h b hb; omega

/-- what is shown of a right value means it -/
theorem meant_show (x : Va) (hx : x.In) (hr : rightVa x = true) : meantV (showVa x) = x := by
  obtain ⟨k, n, s⟩ := x
  unfold rightVa rightV at hr
  simp only at hr
  by_cases h0 : k = 0
  · simp [h0] at hr
    obtain ⟨rfl, rfl⟩ := hr
    subst h0
    decide +kernel
  · by_cases h1 : k = 1
    · simp [h1] at hr
      subst hr
      subst h1
      have e : showVa ⟨1, n, ⟨#[]⟩⟩ = strI n := by unfold showVa; rw [if_pos rfl, if_pos rfl]
      rw [e]
      unfold meantV
      rw [if_neg (by rw [strI_not n _ ⟨_, _, rfl, by decide⟩]; simp), if_neg (by rw [strI_not n _ ⟨_, _, rfl, by decide⟩]; simp), if_neg (by rw [strI_not n _ ⟨_, _, rfl, by decide⟩]; simp), if_neg (strI_head n), atoiV_strI n hx.2.1.1 hx.2.1.2]
    · by_cases h2 : k = 2
      · simp [h2] at hr
        obtain ⟨rfl | rfl, rfl⟩ := hr
        · subst h2; decide +kernel
        · subst h2; decide +kernel
      · by_cases h3 : k = 3
        · simp [h3] at hr
          obtain ⟨rfl, hs⟩ := hr
          subst h3
          have e : showVa ⟨3, 0, s⟩ = mkStr (quoteL (bytes s)) := by
            unfold showVa showV
            rw [if_neg (by simp), if_neg (by simp [rightV]; omega), if_neg (by simp), if_neg (by simp), if_neg (by simp)]
          have hb : bytes (mkStr (quoteL (bytes s))) = quoteL (bytes s) := bytes_mkStr _ (quoteL_isBytes _ (bytes_is s))
          have hh : (bytes (mkStr (quoteL (bytes s)))).head? = some 34 := by rw [hb]; rfl
          rw [e]
          unfold meantV
          rw [if_neg (by rw [str_ne hh (by decide)]; simp), if_neg (by rw [str_ne hh (by decide)]; simp), if_neg (by rw [str_ne hh (by decide)]; simp), if_pos hh]
          unfold unq
          rw [hb]
          have : (quoteL (bytes s)).tail = qBs (bytes s) ++ [34] := rfl
          rw [this, unq_quote _ (bytes_is s), mkStr_bytes]
        · simp [h0, h1, h2, h3] at hr
theorem read_show (x : Va) (hx : x.In) (hr : rightVa x = true) : readOk (showVa x) = true := by
  unfold readOk
  rw [meant_show x hx hr, hr]
  simp
theorem read_wrong (x : Va) (hr : rightVa x = false) : readOk (showVa x) = false := by
  have e : showVa x = ⟨#[63]⟩ := by
    unfold rightVa at hr
    unfold showVa
    by_cases h1 : x.k = 1
    · rw [if_pos h1, if_neg (fun h => by simp [rightV, h1, h] at hr)]
    · rw [if_neg h1]; unfold showV; rw [if_pos hr]
  rw [e]
  have e1 : meantV ⟨#[63]⟩ = ⟨1, 0, ⟨#[]⟩⟩ := by decide +kernel
  unfold readOk
  rw [e1]
  have e2 : showVa ⟨1, 0, ⟨#[]⟩⟩ = ⟨#[48]⟩ := by
    unfold showVa strI
    rw [if_pos rfl, if_pos rfl]
    rw [show Lib.itoa 0 = decDigits 0 from rfl, decDigits_one (by omega)]
    rfl
  rw [e2]
  decide +kernel
theorem show_plain (x : Va) : ∀ b ∈ bytes (showVa x), 32 ≤ b ∧ b ≤ 126 := by
  unfold showVa
  by_cases h1 : x.k = 1
  · rw [if_pos h1]
    split
    · intro b hb
      obtain ⟨u, hu, rfl⟩ := List.mem_map.1 hb
      have := itoa_plain x.n u hu
      omega
    · decide +kernel
  · rw [if_neg h1]
    unfold showV
    split
    · decide +kernel
    · split
      · decide +kernel
      · split
        · decide +kernel
        · split
          · decide +kernel
          · rw [bytes_mkStr _ (quoteL_isBytes _ (bytes_is _))]
            exact quoteL_bytes _ (bytes_is _)
theorem mkStr_size (l : List Int) (h : IsBytes l) : (mkStr l).size = l.length := by rw [← bytes_len, bytes_mkStr l h]
theorem show_len (x : Va) (hx : x.In) (hs : x.s.size ≤ 1000) : (showVa x).size ≤ 5000 := by
  unfold showVa
  split
  · split
    · have := itoa_length_le x.n hx.2.1.1 hx.2.1.2
      show (Lib.itoa x.n).toArray.size ≤ _
      simp; omega
    · decide
  · unfold showV
    split
    · decide
    · split
      · decide
      · split
        · decide
        · split
          · decide
          · rw [mkStr_size _ (quoteL_isBytes _ (bytes_is _))]
            have := qBs_len (bytes x.s)
            rw [bytes_len] at this
            simp only [quoteL, List.length_append, List.length_cons, List.length_nil]
            omega
theorem show_inj (x y : Va) (hx : x.In) (hy : y.In) (rx : rightVa x = true) (ry : rightVa y = true) (h : showVa x = showVa y) : x = y := by
  rw [← meant_show x hx rx, ← meant_show y hy ry, h]
end Go.Proofs.YtkdcnkadngbccaaDoor
