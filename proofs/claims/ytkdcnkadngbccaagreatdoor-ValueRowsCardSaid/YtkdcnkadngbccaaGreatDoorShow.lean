/-
  The contracts of strings.HasPrefix at a quote, Show and Read (but for numbers).
-/
import Derived.Test.YtkdcnkadngbccaaGreatDoorUnq
import Derived.Lib.Strings
import Derived.Laws.ResultCell
namespace Go.Proofs.YtkdcnkadngbccaaGreatDoor
open Go.RowKit Go.Lib

theorem extract_one {s : ByteArray} (h : 1 ≤ s.size) : ((s.extract 0 1).toList == [34]) = decide ((bytes s).head? = some 34) := by
  rw [extract_toList]
  obtain ⟨⟨l⟩⟩ := s
  cases l with
  | nil => exact absurd h (by decide)
  | cons a l =>
    simp only [bytes, List.map_cons, List.head?_cons, List.drop_zero, Nat.sub_zero, List.take_succ_cons, List.take_zero]
    by_cases e : a = 34
    · subst e; rfl
    · have e1 : ¬ ((a.toNat : Int) = 34) := fun h => e (UInt8.toNat_inj.1 (by have e34 : (34 : UInt8).toNat = 34 := rfl; omega))
      simp [e, e1]

theorem hasQuote_any (s : ByteArray) (w : World) :
    Calls Tryz.prog 61 #[.string s, .string ⟨#[34]⟩] w fun e w' => e = .returned (.bool (decide ((bytes s).head? = some 34))) ∧ w' = w := by
  by_cases h : 1 ≤ s.size
  · have h1 : (1 : Int) ≤ (s.size : Int) := by omega
    go_enter Tryz.func61, Tryz.ntmps61
    go_wp2
    go_ret
    refine ⟨?_, rfl⟩
    show Ending.returned (Value.bool ((s.extract 0 1).toList == [34])) = _
    rw [extract_one h]
  · have h1 : ¬ (1 : Int) ≤ (s.size : Int) := by omega
    have h2 : (bytes s).head? = none := by
      have := bytes_len s
      rw [List.head?_eq_none_iff]
      exact List.eq_nil_of_length_eq_zero (by omega)
    have HR := Lib.hid h2
    clear h2
    go_enter Tryz.func61, Tryz.ntmps61
    go_wp2
    go_ret
    exact ⟨by rw [HR.out]; rfl, rfl⟩

/-- the null and the truths, and what is wrong, shown -/
def showV (k n : Int) (s : ByteArray) : ByteArray :=
  if rightV k n s = false then ⟨#[63]⟩
  else if k = 0 then ⟨#[110, 117, 108, 108]⟩
  else if k = 2 ∧ n = 0 then ⟨#[102, 97, 108, 115, 101]⟩
  else if k = 2 then ⟨#[116, 114, 117, 101]⟩
  else mkStr (quoteL (bytes s))

set_option maxHeartbeats 1600000 in
theorem show_any (k n : Int) (s : ByteArray) (w : World) (hk : k ≠ 1) :
    Calls Tryz.prog 21 #[.agg #[.int .i64 k, .int .i64 n, .string s]] w fun e w' => e = .returned (.string (showV k n s)) ∧ Below w.heap.size w w' := by
  have heq := eqVal
  have hv := VS.new w k n s
  obtain ⟨w1, hw1⟩ : ∃ w1, w1 = w.alloc (.cells #[.int .i64 k, .int .i64 n, .string s] 40) := ⟨_, rfl⟩
  rw [← hw1] at hv
  obtain ⟨c0, c1, c2, hb⟩ := hv
  have HV := Lib.hid (show VS w w.heap.size k n s w1 from ⟨c0, c1, c2, hb⟩)
  have HW := Lib.hid hw1
  clear hw1 hb
  go_enter Tryz.func21, Tryz.ntmps21
  go_wp2_with fail
  rw [← HW.out]
  refine (right_any k n s _).mono ?_
  rintro e w2 ⟨rfl, hb2⟩
  obtain ⟨d0, d1, d2, hb3⟩ := HV.out.below hb2
  have HV2 := Lib.hid (HV.out.below hb2)
  clear c0 c1 c2 hb2 hb3
  by_cases hr : rightV k n s = false
  · rw [hr]
    have HR := Lib.hid (show showV k n s = ⟨#[63]⟩ by unfold showV; rw [if_pos hr])
    go_wp2
    go_ret
    exact ⟨by rw [HR.out]; rfl, HV2.out.2.2.2⟩
  · have hr' : rightV k n s = true := by simpa using hr
    rw [hr']
    have hcs : (k = 0 ∧ n = 0 ∧ s = ⟨#[]⟩) ∨ (k = 2 ∧ n = 0 ∧ s = ⟨#[]⟩) ∨ (k = 2 ∧ n = 1 ∧ s = ⟨#[]⟩) ∨ (k = 3 ∧ n = 0 ∧ s.size ≤ 16) := by
      unfold rightV at hr'
      by_cases e0 : k = 0
      · simp [e0] at hr'; exact .inl ⟨e0, hr'.1, hr'.2⟩
      · by_cases e2 : k = 2
        · simp [e2] at hr'
          rcases hr'.1 with h | h
          · exact .inr (.inl ⟨e2, h, hr'.2⟩)
          · exact .inr (.inr (.inl ⟨e2, h, hr'.2⟩))
        · by_cases e3 : k = 3
          · simp [e3] at hr'; exact .inr (.inr (.inr ⟨e3, hr'.1, hr'.2⟩))
          · simp [e0, hk, e2, e3] at hr'
    rcases hcs with ⟨rfl, rfl, rfl⟩ | ⟨rfl, rfl, rfl⟩ | ⟨rfl, rfl, rfl⟩ | ⟨rfl, rfl, hs16⟩
    · clear hr hr' hk
      go_wp2_with fail
      refine (null_any _).mono ?_
      rintro e w3 ⟨rfl, rfl⟩
      have HB := Lib.hid (HV2.out.2.2.2.alloc HV2.out.2.2.2.size (.cells #[.int .i64 0, .int .i64 0, .string ⟨#[]⟩] 40))
      go_wp2
      go_ret
      exact ⟨rfl, HB.out⟩
    · clear hr hr' hk
      go_wp2_with fail
      refine (null_any _).mono ?_
      rintro e w3 ⟨rfl, rfl⟩
      have hb1 := HV2.out.2.2.2.alloc HV2.out.2.2.2.size (.cells #[.int .i64 0, .int .i64 0, .string ⟨#[]⟩] 40)
      have HB := Lib.hid (hb1.alloc hb1.size (.cells #[.int .i64 2, .int .i64 0, .string ⟨#[]⟩] 40))
      clear hb1
      go_wp2_with fail
      refine (truth_any _ _).mono ?_
      rintro e w4 ⟨rfl, rfl⟩
      go_wp2
      go_ret
      exact ⟨rfl, HB.out⟩
    · clear hr hr' hk
      go_wp2_with fail
      refine (null_any _).mono ?_
      rintro e w3 ⟨rfl, rfl⟩
      have hb1 := HV2.out.2.2.2.alloc HV2.out.2.2.2.size (.cells #[.int .i64 0, .int .i64 0, .string ⟨#[]⟩] 40)
      have hb2 := hb1.alloc hb1.size (.cells #[.int .i64 2, .int .i64 0, .string ⟨#[]⟩] 40)
      have HB := Lib.hid (hb2.alloc hb2.size (.cells #[.int .i64 2, .int .i64 1, .string ⟨#[]⟩] 40))
      clear hb1 hb2
      go_wp2_with fail
      refine (truth_any _ _).mono ?_
      rintro e w4 ⟨rfl, rfl⟩
      go_wp2_with fail
      refine (truth_any _ _).mono ?_
      rintro e w5 ⟨rfl, rfl⟩
      go_wp2
      go_ret
      exact ⟨rfl, HB.out⟩
    · have HR := Lib.hid (show showV 3 0 s = mkStr (quoteL (bytes s)) by unfold showV; rw [if_neg hr]; simp)
      clear hr hr' hk
      go_wp2_with fail
      clear d0 d1 d2
      refine (null_any _).mono ?_
      rintro e w3 ⟨rfl, hw3⟩
      have HV3 := Lib.hid (show VS w w.heap.size 3 0 s w3 by rw [hw3]; exact HV2.out.below ((Below.refl _ _).alloc (Nat.le_refl _) _))
      clear hw3
      go_wp2_with fail
      refine (truth_any _ _).mono ?_
      rintro e w4 ⟨rfl, hw4⟩
      have HV4 := Lib.hid (show VS w w.heap.size 3 0 s w4 by rw [hw4]; exact HV3.out.below ((Below.refl _ _).alloc (Nat.le_refl _) _))
      clear hw4
      go_wp2_with fail
      refine (truth_any _ _).mono ?_
      rintro e w5 ⟨rfl, hw5⟩
      have HV5 := Lib.hid (show VS w w.heap.size 3 0 s w5 by rw [hw5]; exact HV4.out.below ((Below.refl _ _).alloc (Nat.le_refl _) _))
      obtain ⟨f0, f1, f2, _⟩ := HV5.out
      clear hw5
      go_wp2_with fail
      refine (quoted_any s _ (by omega)).mono ?_
      rintro e w6 ⟨rfl, hb6⟩
      have HB := Lib.hid (HV5.out.2.2.2.trans (hb6.mono HV5.out.2.2.2.size))
      clear hb6
      go_wp2
      go_ret
      exact ⟨by rw [HR.out]; rfl, HB.out⟩

/-- what is read of a text that begins with a quote -/
def unq (s : ByteArray) : ByteArray := mkStr (unqL (bytes s).tail)

theorem str_ne {s : ByteArray} {l : List UInt8} (hs : (bytes s).head? = some 34) (hl : l.head? ≠ some 34) : (s.toList == l) = false := by
  rw [beq_eq_false_iff_ne]
  intro e
  rw [ByteArray.toList_eq] at e
  apply hl
  rw [bytes, e, List.head?_map] at hs
  cases l with
  | nil => simp at hs
  | cons a l =>
    simp only [List.head?_cons, Option.map_some, Option.some.injEq] at hs ⊢
    exact UInt8.toNat_inj.1 (by have e34 : (34 : UInt8).toNat = 34 := rfl; omega)

set_option maxHeartbeats 1600000 in
theorem meant_quote (s : ByteArray) (w : World) (hq : (bytes s).head? = some 34) (hs : s.size ≤ 30000000000000) :
    Calls Tryz.prog 43 #[.string s] w fun e w' => e = .returned (.agg #[.int .i64 3, .int .i64 0, .string (unq s)]) ∧ Below w.heap.size w w' := by
  have e1 := str_ne (l := [110, 117, 108, 108]) hq (by decide)
  have e2 := str_ne (l := [102, 97, 108, 115, 101]) hq (by decide)
  have e3 := str_ne (l := [116, 114, 117, 101]) hq (by decide)
  go_enter Tryz.func43, Tryz.ntmps43
  have HQ := Lib.hid hq
  clear hq
  go_wp2_with fail
  refine (hasQuote_any s _).mono ?_
  rw [HQ.out]
  rintro e w2 ⟨rfl, rfl⟩
  go_wp2_with fail
  refine (unquoted_any s _ hs).mono ?_
  rintro e w3 ⟨rfl, hb3⟩
  have hz := (Blk.new w 40 #[.int .i64 0, .int .i64 0, .string ⟨#[]⟩])
  have hz3 := hz.below hb3 (by exact hz.lt)
  have HB := Lib.hid (((Below.refl _ w).alloc (Nat.le_refl _) _).trans (hb3.mono (by simp)))
  clear hz hb3
  go_wp2_with fail
  refine (text_val _ _).mono ?_
  rintro e w4 ⟨rfl, rfl⟩
  have hz4 := hz3.alloc (.cells #[.int .i64 3, .int .i64 0, .string (mkStr (unqL (bytes s).tail))] 40)
  have HB4 := Lib.hid (HB.out.alloc HB.out.size (.cells #[.int .i64 3, .int .i64 0, .string (mkStr (unqL (bytes s).tail))] 40))
  have z0 := hz4.cell 0
  have z1 := hz4.cell 1
  have z2 := hz4.cell 2
  simp only [List.getElem?_toArray, List.getElem?_cons_zero, List.getElem?_cons_succ] at z0 z1 z2
  have y0 := hz4.frozen 0
  have y1 := hz4.frozen 1
  have y2 := hz4.frozen 2
  obtain ⟨w5, hw5⟩ : ∃ w5, w5 = w3.alloc (.cells #[.int .i64 3, .int .i64 0, .string (mkStr (unqL (bytes s).tail))] 40) := ⟨_, rfl⟩
  rw [← hw5] at z0 z1 z2 y0 y1 y2 hz4 HB4 ⊢
  have f := ((hz4.put 0 (.int .i64 3)).put 1 (.int .i64 0)).put 2 (.string (mkStr (unqL (bytes s).tail)))
  have HF := Lib.hid f
  have HBF := Lib.hid (((HB4.out.setCell (p := ⟨w.heap.size, 0, none⟩) (Nat.le_refl _) (.int .i64 3)).setCell (p := ⟨w.heap.size, 1, none⟩) (Nat.le_refl _) (.int .i64 0)).setCell (p := ⟨w.heap.size, 2, none⟩) (Nat.le_refl _) (.string (mkStr (unqL (bytes s).tail))))
  clear hz4 hw5 f
  go_wp2
  have f0 := HF.out.cell 0
  have f1 := HF.out.cell 1
  have f2 := HF.out.cell 2
  simp at f0 f1 f2
  refine bodyPost_ret (by rw [results_cell1 rfl]; go_simp; exact rfl) rfl ?_
  exact ⟨rfl, HBF.out⟩

/-- what Read hands back -/
def ReadRet (k n : Int) (u : ByteArray) (ok : Bool) (w : World) (e : Ending) (w' : World) : Prop :=
  Below w.heap.size w w' ∧ e = .returned (.tuple #[if ok then .agg #[.int .i64 k, .int .i64 n, .string u] else .agg #[.int .i64 0, .int .i64 0, .string ⟨#[]⟩], .bool ok])

set_option maxHeartbeats 1600000 in
/-- a text is read, just if it is what is shown of what it means -/
theorem read_of (s : ByteArray) (k n : Int) (u t : ByteArray) (w : World)
    (hM : ∀ w1, Below w.heap.size w w1 → Calls Tryz.prog 43 #[.string s] w1 fun e w' => e = .returned (.agg #[.int .i64 k, .int .i64 n, .string u]) ∧ Below w1.heap.size w1 w')
    (hS : rightV k n u = true → ∀ w1, Below w.heap.size w w1 → Calls Tryz.prog 21 #[.agg #[.int .i64 k, .int .i64 n, .string u]] w1 fun e w' => e = .returned (.string t) ∧ Below w1.heap.size w1 w') :
    Calls Tryz.prog 19 #[.string s] w (ReadRet k n u (rightV k n u && decide (t = s)) w) := by
  have HM := Lib.hid (And.intro hM hS)
  clear hM hS
  go_enter Tryz.func19, Tryz.ntmps19
  go_wp2_with fail
  refine (HM.out.1 _ ((Below.refl _ w).alloc (Nat.le_refl _) _)).mono ?_
  rintro e w1 ⟨rfl, hb1⟩
  have hz := (Blk.new w 40 #[.int .i64 0, .int .i64 0, .string ⟨#[]⟩])
  have hz1 := hz.below hb1 (by exact hz.lt)
  have HB := Lib.hid (((Below.refl _ w).alloc (Nat.le_refl _) _).trans (hb1.mono (by simp)))
  have hv := VS.new w1 k n u
  clear hz hb1
  have HZ := Lib.hid (hz1.alloc (.cells #[.int .i64 k, .int .i64 n, .string u] 40))
  clear hz1
  obtain ⟨w2, hw2⟩ : ∃ w2, w2 = w1.alloc (.cells #[.int .i64 k, .int .i64 n, .string u] 40) := ⟨_, rfl⟩
  have HB2 := Lib.hid (HB.out.alloc HB.out.size (.cells #[.int .i64 k, .int .i64 n, .string u] 40))
  rw [← hw2] at hv HZ HB2
  obtain ⟨c0, c1, c2, _⟩ := hv
  have HV := Lib.hid (show VS w1 w1.heap.size k n u w2 from ⟨c0, c1, c2, ‹_›⟩)
  have HW := Lib.hid hw2
  clear hw2
  go_wp2_with fail
  rw [← HW.out]
  refine (right_any k n u _).mono ?_
  rintro e w3 ⟨rfl, hb3⟩
  have HV3 := Lib.hid (HV.out.below hb3)
  have HZ3 := Lib.hid (HZ.out.below hb3 HZ.out.lt)
  have HB3 := Lib.hid (HB2.out.trans (hb3.mono HB2.out.size))
  clear c0 c1 c2 hb3
  cases hr : rightV k n u with
  | false =>
    have HR := Lib.hid (show (rightV k n u && decide (t = s)) = false by rw [hr]; rfl)
    clear hr
    have z0 := HZ3.out.cell 0
    have z1 := HZ3.out.cell 1
    have z2 := HZ3.out.cell 2
    simp only [List.getElem?_toArray, List.getElem?_cons_zero, List.getElem?_cons_succ] at z0 z1 z2
    have y0 := HZ3.out.frozen 0
    have y1 := HZ3.out.frozen 1
    have y2 := HZ3.out.frozen 2
    have HF := Lib.hid (((HZ3.out.put 0 (.int .i64 0)).put 1 (.int .i64 0)).put 2 (.string ⟨#[]⟩))
    have HBF := Lib.hid (((HB3.out.setCell (p := ⟨w.heap.size, 0, none⟩) (Nat.le_refl _) (.int .i64 0)).setCell (p := ⟨w.heap.size, 1, none⟩) (Nat.le_refl _) (.int .i64 0)).setCell (p := ⟨w.heap.size, 2, none⟩) (Nat.le_refl _) (.string ⟨#[]⟩))
    go_wp2
    have f0 := HF.out.cell 0
    have f1 := HF.out.cell 1
    have f2 := HF.out.cell 2
    simp at f0 f1 f2
    refine bodyPost_ret (by rw [results_cell_tmp rfl]; go_simp; exact rfl) rfl ?_
    exact ⟨HBF.out, by rw [HR.out]; rfl⟩
  | true =>
    have HS := Lib.hid (HM.out.2 hr)
    have HRT := Lib.hid (show (rightV k n u && decide (t = s)) = decide (t = s) by rw [hr]; rfl)
    clear hr
    obtain ⟨d0, d1, d2, _⟩ := HV3.out
    go_wp2_with fail
    refine (HS.out _ HB3.out).mono ?_
    rintro e w4 ⟨rfl, hb4⟩
    have HV4 := Lib.hid (HV3.out.below hb4)
    have HZ4 := Lib.hid (HZ3.out.below hb4 HZ3.out.lt)
    have HB4 := Lib.hid (HB3.out.trans (hb4.mono HB3.out.size))
    clear d0 d1 d2 hb4
    have hse := str_eq t s
    obtain ⟨e0, e1, e2, _⟩ := HV4.out
    have z0 := HZ4.out.cell 0
    have z1 := HZ4.out.cell 1
    have z2 := HZ4.out.cell 2
    simp only [List.getElem?_toArray, List.getElem?_cons_zero, List.getElem?_cons_succ] at z0 z1 z2
    have y0 := HZ4.out.frozen 0
    have y1 := HZ4.out.frozen 1
    have y2 := HZ4.out.frozen 2
    by_cases hts : t = s
    · rw [decide_eq_true hts] at hse
      have HR := Lib.hid (HRT.out.trans (decide_eq_true hts))
      have HF := Lib.hid (((HZ4.out.put 0 (.int .i64 k)).put 1 (.int .i64 n)).put 2 (.string u))
      have HBF := Lib.hid (((HB4.out.setCell (p := ⟨w.heap.size, 0, none⟩) (Nat.le_refl _) (.int .i64 k)).setCell (p := ⟨w.heap.size, 1, none⟩) (Nat.le_refl _) (.int .i64 n)).setCell (p := ⟨w.heap.size, 2, none⟩) (Nat.le_refl _) (.string u))
      clear hts
      go_wp2
      have f0 := HF.out.cell 0
      have f1 := HF.out.cell 1
      have f2 := HF.out.cell 2
      simp at f0 f1 f2
      refine bodyPost_ret (by rw [results_cell_tmp rfl]; go_simp; exact rfl) rfl ?_
      exact ⟨HBF.out, by rw [HR.out]; rfl⟩
    · rw [decide_eq_false hts] at hse
      have HR := Lib.hid (HRT.out.trans (decide_eq_false hts))
      have HF := Lib.hid (((HZ4.out.put 0 (.int .i64 0)).put 1 (.int .i64 0)).put 2 (.string ⟨#[]⟩))
      have HBF := Lib.hid (((HB4.out.setCell (p := ⟨w.heap.size, 0, none⟩) (Nat.le_refl _) (.int .i64 0)).setCell (p := ⟨w.heap.size, 1, none⟩) (Nat.le_refl _) (.int .i64 0)).setCell (p := ⟨w.heap.size, 2, none⟩) (Nat.le_refl _) (.string ⟨#[]⟩))
      clear hts
      go_wp2
      have f0 := HF.out.cell 0
      have f1 := HF.out.cell 1
      have f2 := HF.out.cell 2
      simp at f0 f1 f2
      refine bodyPost_ret (by rw [results_cell_tmp rfl]; go_simp; exact rfl) rfl ?_
      exact ⟨HBF.out, by rw [HR.out]; rfl⟩
end Go.Proofs.YtkdcnkadngbccaaGreatDoor
