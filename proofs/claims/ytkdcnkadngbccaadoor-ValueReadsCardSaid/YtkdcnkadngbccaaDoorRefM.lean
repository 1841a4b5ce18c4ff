/-
  What the document's own Read hands back: the maths.
-/
import Derived.Test.YtkdcnkadngbccaaDoorRefN
namespace Go.Proofs.YtkdcnkadngbccaaDoor
open Go.RowKit Go.Lib

/-- a candidate that is shown and compared: it is right just if Read's answer is, and then it is that -/
theorem cand {s : ByteArray} {v : Va} (hv : v.In) (hq : rightVa v = true ∨ (bytes s).head? = some 34) (h : readOk s = true → v = meantV s) :
    decide (showVa v = s) = readOk s := by
  cases hr : readOk s with
  | true =>
    have e := h hr
    unfold readOk at hr
    rw [Bool.and_eq_true] at hr
    rw [e]
    exact hr.2
  | false =>
    rw [decide_eq_false_iff_not]
    intro e
    cases hv2 : rightVa v with
    | true =>
      have := read_show v hv hv2
      rw [e, hr] at this
      cases this
    | false =>
      rcases hq with h1 | h1
      · rw [hv2] at h1; cases h1
      · have e2 : showVa v = ⟨#[63]⟩ := by
          unfold rightVa at hv2
          unfold showVa
          by_cases h1 : v.k = 1
          · rw [if_pos h1, if_neg (fun h => by simp [rightV, h1, h] at hv2)]
          · rw [if_neg h1]; unfold showV; rw [if_pos hv2]
        rw [← e, e2] at h1
        revert h1
        decide

/-- what is right is of four kinds -/
theorem right_kinds {x : Va} (h : rightVa x = true) : x = ⟨0, 0, ⟨#[]⟩⟩ ∨ (∃ n, x = ⟨1, n, ⟨#[]⟩⟩) ∨ x = ⟨2, 0, ⟨#[]⟩⟩ ∨ x = ⟨2, 1, ⟨#[]⟩⟩ ∨ ∃ s, x = ⟨3, 0, s⟩ ∧ s.size ≤ 16 := by
  obtain ⟨k, n, s⟩ := x
  unfold rightVa rightV at h
  simp only at h
  by_cases e0 : k = 0
  · simp [e0] at h; obtain ⟨rfl, rfl⟩ := h; subst e0; exact .inl rfl
  · by_cases e1 : k = 1
    · simp [e1] at h; subst h; subst e1; exact .inr (.inl ⟨n, rfl⟩)
    · by_cases e2 : k = 2
      · simp [e2] at h
        obtain ⟨rfl | rfl, rfl⟩ := h
        · subst e2; exact .inr (.inr (.inl rfl))
        · subst e2; exact .inr (.inr (.inr (.inl rfl)))
      · by_cases e3 : k = 3
        · simp [e3] at h; obtain ⟨rfl, h1⟩ := h; subst e3; exact .inr (.inr (.inr (.inr ⟨s, rfl, h1⟩)))
        · simp [e0, e1, e2, e3] at h
theorem show_text (u : ByteArray) (h : u.size ≤ 16) : showVa ⟨3, 0, u⟩ = mkStr (quoteL (bytes u)) := by
  unfold showVa showV
  rw [if_neg (by simp), if_neg (by simp [rightV]; omega), if_neg (by simp), if_neg (by simp), if_neg (by simp)]
theorem show_num (n : Int) : showVa ⟨1, n, ⟨#[]⟩⟩ = strI n := by unfold showVa; rw [if_pos rfl, if_pos rfl]
/-- the texts that Read accepts -/
theorem ok_kinds {s : ByteArray} (h : readOk s = true) : (s = ⟨#[110, 117, 108, 108]⟩ ∧ meantV s = ⟨0, 0, ⟨#[]⟩⟩) ∨ (∃ n, s = strI n ∧ meantV s = ⟨1, n, ⟨#[]⟩⟩ ∧ -9223372036854775808 ≤ n ∧ n ≤ 9223372036854775807) ∨
    (s = ⟨#[102, 97, 108, 115, 101]⟩ ∧ meantV s = ⟨2, 0, ⟨#[]⟩⟩) ∨ (s = ⟨#[116, 114, 117, 101]⟩ ∧ meantV s = ⟨2, 1, ⟨#[]⟩⟩) ∨ ∃ u, s = mkStr (quoteL (bytes u)) ∧ meantV s = ⟨3, 0, u⟩ := by
  have hb := meantV_bd s
  unfold readOk at h
  rw [Bool.and_eq_true, decide_eq_true_eq] at h
  obtain ⟨h1, h2⟩ := h
  obtain ⟨x, hx⟩ : ∃ x, x = meantV s := ⟨_, rfl⟩
  rw [← hx] at h1 h2 hb ⊢
  clear hx
  rcases right_kinds h1 with rfl | ⟨n, rfl⟩ | rfl | rfl | ⟨u, rfl, hu⟩
  · exact .inl ⟨h2.symm, rfl⟩
  · exact .inr (.inl ⟨n, by rw [← h2, show_num], rfl, hb⟩)
  · exact .inr (.inr (.inl ⟨h2.symm, rfl⟩))
  · exact .inr (.inr (.inr (.inl ⟨h2.symm, rfl⟩)))
  · exact .inr (.inr (.inr (.inr ⟨u, by rw [← h2, show_text u hu], rfl⟩)))

/-- what is between the quotes, undone; none where it is wrong -/
def decF : List Int → Option (List Int)
  | [] => some []
  | a :: r =>
    if a ≠ 92 then (decF r).map (a :: ·)
    else match r with
      | b :: c :: r' => if plc b < 0 ∨ plc c < 0 then none else (decF r').map (((plc b * 16 + plc c) % 256) :: ·)
      | _ => none
theorem dec_plain {m : List Int} {k : Nat} (h : k < m.length) (hs : m[k] ≠ 92) : decF (m.drop k) = (decF (m.drop (k + 1))).map (m[k] :: ·) := by
  rw [List.drop_eq_getElem_cons h, decF.eq_def]
  simp only [if_pos hs]
theorem dec_short {m : List Int} {k : Nat} (h : k < m.length) (hs : m[k] = 92) (h2 : m.length ≤ k + 2) : decF (m.drop k) = none := by
  rw [List.drop_eq_getElem_cons h, decF.eq_def]
  simp only [hs, ne_eq, not_true_eq_false, if_false]
  cases hr : m.drop (k + 1) with
  | nil => rfl
  | cons b r =>
    cases r with
    | nil => rfl
    | cons c r =>
      have := congrArg List.length hr
      simp at this
      omega
theorem dec_esc {m : List Int} {k : Nat} (h : k + 2 < m.length) (hs : m[k] = 92) :
    decF (m.drop k) = if plc m[k + 1] < 0 ∨ plc m[k + 2] < 0 then none else (decF (m.drop (k + 3))).map (((plc m[k + 1] * 16 + plc m[k + 2]) % 256) :: ·) := by
  rw [List.drop_eq_getElem_cons (by omega : k < m.length), List.drop_eq_getElem_cons (by omega : k + 1 < m.length), List.drop_eq_getElem_cons h, decF.eq_def]
  simp only [hs, ne_eq, not_true_eq_false, if_false]
theorem dec_quote (l : List Int) (h : IsBytes l) : decF (qBs l) = some l := by
  induction l with
  | nil => rfl
  | cons c l ih =>
    have hc := h c (by simp)
    have ih := ih fun x hx => h x (by simp [hx])
    simp only [qBs, qB]
    by_cases hp : isPl c = true
    · rw [if_pos hp]
      have hb := isPl_bd hp
      rw [List.singleton_append, decF.eq_def]
      simp only [if_pos hb.2.2.2, ih]
      rfl
    · rw [if_neg hp]
      show decF (92 :: hexd (c / 16) :: hexd (c % 16) :: qBs l) = _
      rw [decF.eq_def]
      simp only [ne_eq, not_true_eq_false, if_false]
      rw [plc_hexd _ (by omega) (by omega), plc_hexd _ (by omega) (by omega), if_neg (by omega), ih]
      show some (_ :: l) = _
      congr 2
      omega

/-- a text in quotes: what is between is undone, and that is what Read says -/
theorem quote_ok {s : ByteArray} (h34 : (bytes s).head? = some 34) (h : readOk s = true) : ∃ u, meantV s = ⟨3, 0, u⟩ ∧ decF (((bytes s).take ((bytes s).length - 1)).drop 1) = some (bytes u) := by
  rcases ok_kinds h with ⟨e, _⟩ | ⟨n, e, _⟩ | ⟨e, _⟩ | ⟨e, _⟩ | ⟨u, e, hm⟩
  · rw [e] at h34; exact absurd h34 (by decide)
  · rw [e] at h34; exact absurd h34 (strI_head n)
  · rw [e] at h34; exact absurd h34 (by decide)
  · rw [e] at h34; exact absurd h34 (by decide)
  · refine ⟨u, hm, ?_⟩
    have hb : bytes s = quoteL (bytes u) := by rw [e]; exact bytes_mkStr _ (quoteL_isBytes _ (bytes_is u))
    rw [hb]
    have e2 : ((quoteL (bytes u)).take ((quoteL (bytes u)).length - 1)).drop 1 = qBs (bytes u) := by
      unfold quoteL
      simp
    rw [e2]
    exact dec_quote _ (bytes_is u)
theorem quote_none {s : ByteArray} (h34 : (bytes s).head? = some 34) (h : decF (((bytes s).take ((bytes s).length - 1)).drop 1) = none) : readOk s = false := by
  cases hr : readOk s with
  | false => rfl
  | true =>
    obtain ⟨u, _, h1⟩ := quote_ok h34 hr
    rw [h] at h1; cases h1
theorem quote_some {s : ByteArray} {done : List Int} (h34 : (bytes s).head? = some 34) (h : decF (((bytes s).take ((bytes s).length - 1)).drop 1) = some done) (hb : IsBytes done) (hl : done.length ≤ 1000) :
    decide (showVa ⟨3, 0, mkStr done⟩ = s) = readOk s ∧ (readOk s = true → meantV s = ⟨3, 0, mkStr done⟩) := by
  have hm : readOk s = true → (⟨3, 0, mkStr done⟩ : Va) = meantV s := fun hr => by
    obtain ⟨u, e, h1⟩ := quote_ok h34 hr
    rw [h] at h1
    obtain rfl := Option.some.inj h1
    rw [e, mkStr_bytes]
  exact ⟨cand ⟨by simp, by simp, by simp only [mkStr_size _ hb, maxLen]; omega⟩ (.inr h34) hm, fun hr => (hm hr).symm⟩
theorem bytes_head {s : ByteArray} (h : 0 < s.size) : (bytes s).head? = some ((s[0]'h).toNat : Int) := by
  have h' : 0 < (bytes s).length := by rw [bytes_len]; exact h
  rw [List.head?_eq_getElem?, List.getElem?_eq_getElem h', bytes_getElem s 0 h h']
theorem bytes_last {s : ByteArray} (h : 0 < s.size) : (bytes s).getLast? = some ((s[s.size - 1]'(by omega)).toNat : Int) := by
  have h' : s.size - 1 < (bytes s).length := by rw [bytes_len]; omega
  rw [List.getLast?_eq_getElem?, bytes_len, List.getElem?_eq_getElem h', bytes_getElem s _ (by omega) h']
theorem nDigits_le (k : Nat) : ∀ u : Nat, u < 10 ^ (k + 1) → nDigits u ≤ k + 1 := by
  induction k with
  | zero => intro u h; rw [nDigits, dif_pos (by omega)]; omega
  | succ k ih =>
    intro u h
    rw [nDigits]
    split
    · omega
    · have := ih (u / 10) (by rw [Nat.pow_succ] at h; omega)
      omega
theorem itoa_le20 (n : Int) (h0 : -9223372036854775808 ≤ n) (h1 : n ≤ 9223372036854775807) : (Lib.itoa n).length ≤ 20 := by
  unfold Lib.itoa
  split
  · have := nDigits_le 18 n.natAbs (by omega)
    simp only [List.length_cons, decDigits_length]; omega
  · have := nDigits_le 18 n.toNat (by omega)
    simp only [decDigits_length]; omega
theorem num_form (n : Int) (h0 : -9223372036854775808 ≤ n) (h1 : n ≤ 9223372036854775807) : 0 < (strI n).size ∧ (strI n).size ≤ 20 ∧ ∃ a, (bytes (strI n)).head? = some a ∧ (a = 45 ∨ (48 ≤ a ∧ a ≤ 57)) := by
  have hl : (strI n).size = (Lib.itoa n).length := by show (Lib.itoa n).toArray.size = _; simp
  have h2 := itoa_le20 n h0 h1
  obtain ⟨c, hc, hb⟩ := digL_head n.natAbs
  have hh : ∃ a, (bytes (strI n)).head? = some a ∧ (a = 45 ∨ (48 ≤ a ∧ a ≤ 57)) := by
    rw [bytes_strI]
    by_cases hn : n < 0
    · rw [if_pos hn]; exact ⟨45, rfl, .inl rfl⟩
    · rw [if_neg hn]; exact ⟨c, by rw [List.nil_append]; exact hc, .inr hb⟩
  refine ⟨?_, by omega, hh⟩
  obtain ⟨a, ha, _⟩ := hh
  rw [← bytes_len]
  cases hb : bytes (strI n) with
  | nil => rw [hb] at ha; cases ha
  | cons b r => simp
theorem quote_form (u : ByteArray) : 2 ≤ (mkStr (quoteL (bytes u))).size ∧ (bytes (mkStr (quoteL (bytes u)))).head? = some 34 ∧ (bytes (mkStr (quoteL (bytes u)))).getLast? = some 34 := by
  have hb : bytes (mkStr (quoteL (bytes u))) = quoteL (bytes u) := bytes_mkStr _ (quoteL_isBytes _ (bytes_is u))
  refine ⟨?_, by rw [hb]; rfl, by rw [hb]; unfold quoteL; exact List.getLast?_concat ..⟩
  rw [← bytes_len, hb]
  unfold quoteL
  simp
/-- a text that is neither a word, nor in quotes, nor like a number, is not read -/
theorem none_ok {s : ByteArray} (e1 : s ≠ ⟨#[110, 117, 108, 108]⟩) (e2 : s ≠ ⟨#[102, 97, 108, 115, 101]⟩) (e3 : s ≠ ⟨#[116, 114, 117, 101]⟩)
    (hq : ¬ (2 ≤ s.size ∧ (bytes s).head? = some 34 ∧ (bytes s).getLast? = some 34)) (hn : ¬ (0 < s.size ∧ s.size ≤ 20 ∧ ∃ a, (bytes s).head? = some a ∧ (a = 45 ∨ (48 ≤ a ∧ a ≤ 57)))) : readOk s = false := by
  cases hr : readOk s with
  | false => rfl
  | true =>
    rcases ok_kinds hr with ⟨e, _⟩ | ⟨n, e, _, h0, h1⟩ | ⟨e, _⟩ | ⟨e, _⟩ | ⟨u, e, _⟩
    · exact absurd e e1
    · rw [e] at hn; exact absurd (num_form n h0 h1) hn
    · exact absurd e e2
    · exact absurd e e3
    · rw [e] at hq; exact absurd (quote_form u) hq
theorem none_cand {s : ByteArray} (h : readOk s = false) (hq : ¬ (2 ≤ s.size ∧ (bytes s).head? = some 34 ∧ (bytes s).getLast? = some 34)) :
    decide (showVa ⟨3, 0, ⟨#[]⟩⟩ = s) = readOk s ∧ (readOk s = true → meantV s = ⟨3, 0, ⟨#[]⟩⟩) :=
  ⟨cand ⟨⟨by decide, by decide⟩, ⟨by decide, by decide⟩, Nat.zero_le _⟩ (.inl rfl) (fun hr => by rw [h] at hr; cases hr), fun hr => by rw [h] at hr; cases hr⟩
theorem num_cand {s : ByteArray} (e1 : s ≠ ⟨#[110, 117, 108, 108]⟩) (e2 : s ≠ ⟨#[102, 97, 108, 115, 101]⟩) (e3 : s ≠ ⟨#[116, 114, 117, 101]⟩) (hq : (bytes s).head? ≠ some 34) :
    decide (showVa ⟨1, numV s, ⟨#[]⟩⟩ = s) = readOk s ∧ (readOk s = true → meantV s = ⟨1, numV s, ⟨#[]⟩⟩) := by
  have hm : readOk s = true → (⟨1, numV s, ⟨#[]⟩⟩ : Va) = meantV s := fun hr => by
    rcases ok_kinds hr with ⟨e, _⟩ | ⟨n, e, hm, h0, h1⟩ | ⟨e, _⟩ | ⟨e, _⟩ | ⟨u, e, _⟩
    · exact absurd e e1
    · rw [hm, e, numV_strI n h0 h1]
    · exact absurd e e2
    · exact absurd e e3
    · rw [e] at hq; exact absurd (quote_form u).2.1 hq
  have hb : -9223372036854775808 ≤ numV s ∧ numV s ≤ 9223372036854775807 := by
    unfold numV
    split
    · exact numM_bd _ 0 (by omega)
    · rw [IntWalk.i64_left]; unfold Go.RowKit.wrap64; omega
  exact ⟨cand ⟨by simp, hb, Nat.zero_le _⟩ (.inl rfl) hm, fun hr => (hm hr).symm⟩
theorem word_cand {s : ByteArray} {v : Va} (hv : v.In) (hr : rightVa v = true) (hs : s = showVa v) : decide (showVa v = s) = readOk s ∧ (readOk s = true → meantV s = v) := by
  subst hs
  exact ⟨by rw [read_show v hv hr]; simp, fun _ => meant_show v hv hr⟩
end Go.Proofs.YtkdcnkadngbccaaDoor
