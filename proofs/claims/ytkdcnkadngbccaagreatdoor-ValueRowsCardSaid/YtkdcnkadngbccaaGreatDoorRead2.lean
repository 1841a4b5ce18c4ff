/-
  The contracts of layer 1's reader, more: Count, Bad, Left, Done, Text.
-/
import Derived.Test.YtkdcnkadngbccaaGreatDoorRead
namespace Go.Proofs.YtkdcnkadngbccaaGreatDoor
open Go.RowKit Go.Lib

/-- the reader spoiled, whatever state it was in -/
theorem spoil_br (g : Nat) (s : St) (w : World) (h : BR w g s) : Calls Tryz.prog 55 #[.pointer (some ⟨g, 0, none⟩)] w (RdRet g (.tuple #[]) none w) := by
  obtain ⟨A, n, c, hblk, _⟩ := h
  exact spoil_any g _ _ w hblk

theorem rint_bd (s : St) (h : ∀ l, s = some l → IsBytes l) : -9223372036854775808 ≤ (rInt s).1 ∧ (rInt s).1 ≤ 9223372036854775807 := by
  cases s with
  | none => simp [rInt]
  | some l =>
    cases hn : num l with
    | none => rw [rInt_none hn]; simp
    | some p =>
      obtain ⟨u, k⟩ := p
      rw [rInt_some hn]
      exact unfoldN_bd u (num_inv (h l rfl) hn).2.2.2.2
theorem BR.bytes {w : World} {g : Nat} {s : St} (h : BR w g s) : ∀ l, s = some l → IsBytes l := by
  intro l hl
  obtain ⟨_, _, _, _, _, _, _, _, hb, _⟩ := h
  subst hl
  exact hb

set_option maxRecDepth 100000 in
set_option maxHeartbeats 1600000 in
theorem rcount_any (g : Nat) (s : St) (most : Int) (w : World) (h : BR w g s) :
    Calls Tryz.prog 27 #[.pointer (some ⟨g, 0, none⟩), .int .i64 most] w (RdRet g (.int .i64 (rCount s most).1) (rCount s most).2 w) := by
  have hbd := rint_bd s h.bytes
  have hcall := rint_any g s w h
  have hdef : rCount s most = if (rInt s).1 < 0 ∨ most < (rInt s).1 then (0, none) else rInt s := rfl
  generalize rInt s = p at hbd hcall hdef
  obtain ⟨n, s1⟩ := p
  simp only at hbd hcall hdef
  obtain ⟨hbd1, hbd2⟩ := hbd
  have HC := Lib.hid hcall
  clear hcall h
  rcases (show (n < 0 ∨ (0 ≤ n ∧ most < n)) ∨ (0 ≤ n ∧ n ≤ most) by omega) with hc | ⟨h1, h2⟩
  · have hd : rCount s most = (0, none) := by rw [hdef, if_pos (by omega)]
    have HD := Lib.hid hd
    clear hd hdef
    rcases hc with h1 | ⟨h1, h2⟩
    all_goals
      go_enter Tryz.func27, Tryz.ntmps27
      go_wp2_with (first | (go_at_call 54; refine HC.out.mono ?_; rintro e w1 ⟨rfl, h5, h6⟩) | (go_at_call 55; refine (spoil_br g _ _ h5).mono ?_; rintro e w2 ⟨rfl, h7, h8⟩))
      go_ret
      rw [HD.out]
      exact ⟨rfl, h7, h6.trans h8⟩
  · have hd : rCount s most = (n, s1) := by rw [hdef, if_neg (by omega)]
    have HD := Lib.hid hd
    clear hd hdef
    go_enter Tryz.func27, Tryz.ntmps27
    go_wp2_with (go_at_call 54; refine HC.out.mono ?_; rintro e w1 ⟨rfl, h5, h6⟩)
    go_ret
    rw [HD.out]
    exact ⟨rfl, h5, h6⟩

set_option maxRecDepth 100000 in
set_option maxHeartbeats 800000 in
theorem rdone_any (g : Nat) (s : St) (w : World) (h : BR w g s) :
    Calls Tryz.prog 29 #[.pointer (some ⟨g, 0, none⟩)] w fun e w' => e = .returned (.bool (!s.isNone && decide (left s = 0))) ∧ w = w' := by
  obtain ⟨A, n, c, hblk, _, _, _, hr, _, _⟩ := h
  have c0 := BR.cell0 hblk
  have c1 := BR.cell1 hblk
  have hlen : left s = n := by have := hr.len; rwa [cells_len] at this
  clear hblk hr
  rw [hlen]
  clear hlen
  cases hb : s.isNone with
  | true =>
    rw [hb] at c1
    clear hb
    go_enter Tryz.func29, Tryz.ntmps29
    go_wp2
    go_ret
    exact ⟨rfl, rfl⟩
  | false =>
    rw [hb] at c1
    clear hb
    go_enter Tryz.func29, Tryz.ntmps29
    rcases Nat.eq_zero_or_pos n with h0 | h0
    · subst h0
      go_wp2
      go_ret
      exact ⟨rfl, rfl⟩
    · have hx : decide (n = 0) = false := by simp; omega
      have hy : ((n : Int) == 0) = false := by simp; omega
      rw [hx]
      go_wp2
      go_ret
      exact ⟨rfl, rfl⟩

/-- a slice of bytes, made a string -/
theorem run_str {P : Program} (w : World) (src dst e : TypeId) (A : Option Addr) (m c B : Nat) (l : List Int) (hs : P.underlying src = some (.slice e)) (he : P.underlying e = some (.int .u8)) (hd : P.underlying dst = some .string)
    (hr : Rd w B A m (cells l)) : (convert src dst (.slice A m c)).run P w = .ok (.string (mkStr l)) w := by
  rw [run_convert_bytes_string w src dst e A m c hs he hd]
  obtain ⟨hl, hc⟩ := hr
  rw [cells_len] at hl
  rcases A with _ | a
  · have hm : m = 0 := by
      rcases Nat.eq_zero_or_pos m with h0 | h0
      · exact h0
      · obtain ⟨_, h, _⟩ := hc h0; cases h
    have hn : l = [] := List.eq_nil_of_length_eq_zero (by omega)
    subst hn
    subst hm
    rfl
  · have hh := run_loadCells_list (P := P) w a (cells l) (fun j v hj => by
      have hj' : j < (cells l).length := (List.getElem?_eq_some_iff.1 hj).1
      rw [cells_len] at hj'
      obtain ⟨ad, e1, _, h2⟩ := hc (by omega)
      obtain rfl := Option.some.inj e1
      exact h2 j v hj)
    rw [cells_len, hl] at hh
    exact run_bytesToString w a m c l hh

theorem rInt_len {s : St} {n : Int} {l1 : List Int} (h : rInt s = (n, some l1)) : l1.length ≤ left s := by
  cases s with
  | none => simp [rInt] at h
  | some l =>
    cases hn : num l with
    | none => rw [rInt_none hn] at h; simp at h
    | some p =>
      obtain ⟨u, k⟩ := p
      rw [rInt_some hn] at h
      simp only [Prod.mk.injEq, Option.some.injEq] at h
      rw [← h.2, List.length_drop]
      simp [left]

/-- what a text is, told by the count ahead of it -/
theorem rText_count (s : St) :
    (rCount s (left s) = (0, none) ∧ rText s = ([], none)) ∨
    ∃ (m : Nat) (l1 : List Int), rCount s (left s) = ((m : Int), some l1) ∧ m ≤ left s ∧ rText s = if l1.length < m then ([], none) else (l1.take m, some (l1.drop m)) := by
  unfold rCount rText
  cases hi : rInt s with
  | mk n s1 =>
    cases s1 with
    | none =>
      left
      have hn : n = 0 := by
        cases s with
        | none => simp [rInt] at hi; exact hi.symm
        | some l =>
          cases hn : num l with
          | none => rw [rInt_none hn] at hi; simp at hi; exact hi.symm
          | some p => rw [rInt_some hn] at hi; simp at hi
      subst hn
      simp
    | some l1 =>
      have hl := rInt_len hi
      by_cases hc : n < 0 ∨ (left s : Int) < n
      · left
        simp only
        rw [if_pos hc, if_pos (by omega)]
        exact ⟨rfl, rfl⟩
      · right
        refine ⟨n.toNat, l1, ?_, by omega, ?_⟩
        · simp only
          rw [if_neg hc, Int.toNat_of_nonneg (by omega)]
        · simp only
          by_cases h2 : (l1.length : Int) < n
          · rw [if_pos (by omega), if_pos (by omega)]
          · rw [if_neg (by omega), if_neg (by omega)]

theorem BR.again {w : World} {g : Nat} (h : Blk w g 75 #[.slice none 0 0, .bool true]) : BR (w.setCell ⟨g, 0, none⟩ (.slice none 0 0)) g none :=
  ⟨none, 0, 0, by simpa using h.put 0 (.slice none 0 0), Nat.le_refl _, by simp [maxLen], by omega, Rd.empty, IsBytes.nil, fun _ => ⟨rfl, rfl⟩⟩

set_option maxRecDepth 100000 in
set_option maxHeartbeats 1600000 in
theorem rtext_any (g : Nat) (s : St) (w : World) (h : BR w g s) :
    Calls Tryz.prog 56 #[.pointer (some ⟨g, 0, none⟩)] w (RdRet g (.string (mkStr (rText s).1)) (rText s).2 w) := by
  have hcall := rcount_any g s (left s) w h
  have HC := Lib.hid hcall
  clear hcall
  obtain ⟨A, n, c, hblk, _, _, hn, hr, _, _⟩ := h
  have c0 := BR.cell0 hblk
  have hlen : left s = n := by have := hr.len; rwa [cells_len] at this
  clear hblk hr
  rcases rText_count s with ⟨h1, h2⟩ | ⟨m, l1, h1, h2, h3⟩
  · have HT := Lib.hid h2
    have HK := Lib.hid (show Calls Tryz.prog 27 #[.pointer (some ⟨g, 0, none⟩), .int .i64 (n : Int)] w (RdRet g (.int .i64 0) none w) by
      have h := HC.out
      rw [h1, hlen] at h
      exact h)
    have hcv0 := fun w => run_str (P := Tryz.prog) w 25 9 5 none 0 0 0 [] Tryz.underlying25 Tryz.underlying5 Tryz.underlying9 Rd.empty
    clear h1 h2 HC hlen
    go_enter Tryz.func56, Tryz.ntmps56
    go_wp2_with (go_at_call 27; refine HK.out.mono ?_; rintro e w1 ⟨rfl, h5, h6⟩; obtain ⟨A1, n1, c1, hblk1, _, _, hn1, hr1, _, hz⟩ := h5; obtain ⟨rfl, rfl⟩ := hz rfl; have d0 := BR.cell0 hblk1; have f0 := hblk1.frozen 0; obtain rfl : 0 = n1 := by have := hr1.len; rwa [cells_len] at this)
    go_ret
    rw [HT.out]
    exact ⟨rfl, BR.again hblk1, h6.trans (grown_set _ _ _ _)⟩
  · have hm : m ≤ n := by omega
    have HK := Lib.hid (show Calls Tryz.prog 27 #[.pointer (some ⟨g, 0, none⟩), .int .i64 (n : Int)] w (RdRet g (.int .i64 (m : Int)) (some l1) w) by
      have h := HC.out
      rw [h1, hlen] at h
      exact h)
    clear h1 h2 HC hlen
    by_cases hml : m ≤ l1.length
    · rw [if_neg (by omega)] at h3
      have HT := Lib.hid h3
      clear h3
      go_enter Tryz.func56, Tryz.ntmps56
      go_wp2_with (go_at_call 27; refine HK.out.mono ?_; rintro e w1 ⟨rfl, h5, h6⟩; obtain ⟨A1, n1, c1, hblk1, hnc1, hcm1, hn1, hr1, hb1, hz⟩ := h5; clear hz; have d0 := BR.cell0 hblk1; have f0 := hblk1.frozen 0; have hl1 : l1.length = n1 := (by have := hr1.len; rwa [cells_len] at this); subst hl1; have hcv := run_str (P := Tryz.prog) w1 25 9 5 A1 m c1 g (l1.take m) Tryz.underlying25 Tryz.underlying5 Tryz.underlying9 (by have h := hr1.cuth hml; simpa [cells, List.map_take] using h))
      all_goals
        go_ret
        rw [HT.out]
        first | exact ⟨rfl, BR.next_at hblk1 hnc1 hcm1 hn1 hr1 hb1 hml (by assumption), h6.trans (grown_set _ _ _ _)⟩ | exact ⟨rfl, BR.next_far hblk1 hnc1 hcm1 hn1 hr1 hb1 hml (by assumption), h6.trans (grown_set _ _ _ _)⟩
    · rw [if_pos (by omega)] at h3
      have HT := Lib.hid h3
      clear h3
      go_enter Tryz.func56, Tryz.ntmps56
      go_wp2_with (first | (go_at_call 27; refine HK.out.mono ?_; rintro e w1 ⟨rfl, h5, h6⟩; obtain ⟨A1, n1, c1, hblk1, hnc1, hcm1, hn1, hr1, hb1, hz⟩ := h5; clear hz; have d0 := BR.cell0 hblk1; obtain rfl : l1.length = n1 := by have := hr1.len; rwa [cells_len] at this) | (go_at_call 55; refine (spoil_any g _ _ _ hblk1).mono ?_; rintro e w2 ⟨rfl, h7, h8⟩))
      go_ret
      rw [HT.out]
      exact ⟨rfl, h7, h6.trans h8⟩

end Go.Proofs.YtkdcnkadngbccaaGreatDoor
