/-
  The document's things: Fits, Above.
-/
import Derived.Test.YtbkffcopahiilaaMoJ
namespace Go.Proofs.Ytbkffcopahiilaa
open Go.RowKit Go.Lib

theorem str_beq (s t : ByteArray) : (s.toList == t.toList) = decide (s = t) := by
  rw [ByteArray.toList_eq, ByteArray.toList_eq]
  by_cases h : s = t
  · subst h; simp
  · rw [decide_eq_false h, Bool.eq_false_iff]
    intro hb
    apply h
    have h1 : s.data.toList = t.data.toList := by simpa using hb
    obtain ⟨⟨x⟩⟩ := s
    obtain ⟨⟨y⟩⟩ := t
    exact congrArg (fun l => (⟨⟨l⟩⟩ : ByteArray)) h1
theorem str_empty {s : ByteArray} (h : s = ⟨#[]⟩) : s.toList.isEmpty = true := by rw [h, ByteArray.toList_eq]; rfl
theorem str_some {s : ByteArray} (h : ¬ s = ⟨#[]⟩) : s.toList.isEmpty = false := by
  rw [Bool.eq_false_iff]
  intro h1
  apply h
  have h2 := str_beq s ⟨#[]⟩
  rw [List.isEmpty_iff.1 h1, ByteArray.toList_eq] at h2
  exact of_decide_eq_true h2.symm
/-- a thing in a block of its own -/
structure Tg (w : World) (b : Nat) (x : Th) : Prop where
  k : w.cell? ⟨b, 0, none⟩ = some (.int .i64 x.k)
  t : w.cell? ⟨b, 1, none⟩ = some (.string x.t)
  y : w.cell? ⟨b, 2, none⟩ = some (.string x.y)
theorem tg_new (w : World) (x : Th) : Tg (w.alloc (.cells #[.int .i64 x.k, .string x.t, .string x.y] 27)) w.heap.size x ∧ Below w.heap.size w (w.alloc (.cells #[.int .i64 x.k, .string x.t, .string x.y] 27)) := by
  have h := Blk.new w 27 #[.int .i64 x.k, .string x.t, .string x.y]
  exact ⟨⟨h.cell 0, h.cell 1, h.cell 2⟩, (Below.refl _ w).alloc (Nat.le_refl _) _⟩
theorem Tg.below {w w' : World} {b C : Nat} {x : Th} (h : Tg w b x) (hb : Below C w w') (hC : b < C) : Tg w' b x :=
  ⟨(hb.cell (p := ⟨b, 0, none⟩) hC).trans h.k, (hb.cell (p := ⟨b, 1, none⟩) hC).trans h.t, (hb.cell (p := ⟨b, 2, none⟩) hC).trans h.y⟩
set_option maxRecDepth 100000 in
set_option maxHeartbeats 6400000 in
theorem rfits_any (x : Th) (w : World) : Says Try.prog 19 #[thV x] w (.bool (fitsB x)) := by
  obtain ⟨k, t, y⟩ := x
  obtain ⟨w1, hw1⟩ : ∃ w1, w1 = w.alloc (.cells #[.int .i64 k, .string t, .string y] 27) := ⟨_, rfl⟩
  obtain ⟨hT, hB⟩ := tg_new w ⟨k, t, y⟩
  simp only at hT hB
  rw [← hw1] at hT hB
  have HW := Lib.hid hw1
  have HT := Lib.hid hT
  have HB := Lib.hid hB
  have hU := fun (h : ((k = 1 ∨ k = 2) ∧ t = eS ∧ y = eS) ∨ (k = 3 ∧ y = eS) ∨ k = 4) => (show fitsB ⟨k, t, y⟩ = true from decide_eq_true h)
  have hV := fun (h : ¬ (((k = 1 ∨ k = 2) ∧ t = eS ∧ y = eS) ∨ (k = 3 ∧ y = eS) ∨ k = 4)) => (show fitsB ⟨k, t, y⟩ = false from decide_eq_false h)
  have HU := Lib.hid (And.intro hU hV)
  clear hT hB hw1 hU hV
  by_cases h1 : k = 1
  · subst h1
    by_cases ht : t = ⟨#[]⟩
    · by_cases hy : y = ⟨#[]⟩
      · have HF := Lib.hid (HU.out.1 (by unfold eS; exact .inl ⟨.inl rfl, ht, hy⟩))
        have et1 : t.toList.isEmpty = true := str_empty ht
        have et2 : t.toList = [] := List.isEmpty_iff.1 et1
        have ey1 : y.toList.isEmpty = true := str_empty hy
        have ey2 : y.toList = [] := List.isEmpty_iff.1 ey1
        clear ht hy
        go_enter Try.func19, Try.ntmps19
        go_wp2_with fail
        go_ret
        exact ⟨by rw [HF.out]; first | rfl | simp [*], by rw [← HW.out]; exact HB.out⟩
      · have HF := Lib.hid (HU.out.2 (by unfold eS; simp [hy]))
        have et1 : t.toList.isEmpty = true := str_empty ht
        have et2 : t.toList = [] := List.isEmpty_iff.1 et1
        have ey1 : y.toList.isEmpty = false := str_some hy
        have ey2 : ¬ y.toList = [] := fun h => by rw [h] at ey1; cases ey1
        clear ht hy
        go_enter Try.func19, Try.ntmps19
        go_wp2_with fail
        go_ret
        exact ⟨by rw [HF.out]; first | rfl | simp [*], by rw [← HW.out]; exact HB.out⟩
    · have HF := Lib.hid (HU.out.2 (by unfold eS; simp [ht]))
      have et1 : t.toList.isEmpty = false := str_some ht
      have et2 : ¬ t.toList = [] := fun h => by rw [h] at et1; cases et1
      clear ht
      go_enter Try.func19, Try.ntmps19
      go_wp2_with fail
      go_ret
      exact ⟨by rw [HF.out]; first | rfl | simp [*], by rw [← HW.out]; exact HB.out⟩
  by_cases h2 : k = 2
  · subst h2
    by_cases ht : t = ⟨#[]⟩
    · by_cases hy : y = ⟨#[]⟩
      · have HF := Lib.hid (HU.out.1 (by unfold eS; exact .inl ⟨.inr rfl, ht, hy⟩))
        have et1 : t.toList.isEmpty = true := str_empty ht
        have et2 : t.toList = [] := List.isEmpty_iff.1 et1
        have ey1 : y.toList.isEmpty = true := str_empty hy
        have ey2 : y.toList = [] := List.isEmpty_iff.1 ey1
        clear ht hy
        go_enter Try.func19, Try.ntmps19
        go_wp2_with fail
        go_ret
        exact ⟨by rw [HF.out]; first | rfl | simp [*], by rw [← HW.out]; exact HB.out⟩
      · have HF := Lib.hid (HU.out.2 (by unfold eS; simp [hy]))
        have et1 : t.toList.isEmpty = true := str_empty ht
        have et2 : t.toList = [] := List.isEmpty_iff.1 et1
        have ey1 : y.toList.isEmpty = false := str_some hy
        have ey2 : ¬ y.toList = [] := fun h => by rw [h] at ey1; cases ey1
        clear ht hy
        go_enter Try.func19, Try.ntmps19
        go_wp2_with fail
        go_ret
        exact ⟨by rw [HF.out]; first | rfl | simp [*], by rw [← HW.out]; exact HB.out⟩
    · have HF := Lib.hid (HU.out.2 (by unfold eS; simp [ht]))
      have et1 : t.toList.isEmpty = false := str_some ht
      have et2 : ¬ t.toList = [] := fun h => by rw [h] at et1; cases et1
      clear ht
      go_enter Try.func19, Try.ntmps19
      go_wp2_with fail
      go_ret
      exact ⟨by rw [HF.out]; first | rfl | simp [*], by rw [← HW.out]; exact HB.out⟩
  by_cases h3 : k = 3
  · subst h3
    by_cases hy : y = ⟨#[]⟩
    · have HF := Lib.hid (HU.out.1 (by unfold eS; exact .inr (.inl ⟨rfl, hy⟩)))
      have ey1 : y.toList.isEmpty = true := str_empty hy
      have ey2 : y.toList = [] := List.isEmpty_iff.1 ey1
      clear hy
      go_enter Try.func19, Try.ntmps19
      go_wp2_with fail
      go_ret
      exact ⟨by rw [HF.out]; first | rfl | simp [*], by rw [← HW.out]; exact HB.out⟩
    · have HF := Lib.hid (HU.out.2 (by unfold eS; simp [hy]))
      have ey1 : y.toList.isEmpty = false := str_some hy
      have ey2 : ¬ y.toList = [] := fun h => by rw [h] at ey1; cases ey1
      clear hy
      go_enter Try.func19, Try.ntmps19
      go_wp2_with fail
      go_ret
      exact ⟨by rw [HF.out]; first | rfl | simp [*], by rw [← HW.out]; exact HB.out⟩
  by_cases h4 : k = 4
  · subst h4
    have HF := Lib.hid (HU.out.1 (by unfold eS; exact .inr (.inr rfl)))
    skip
    go_enter Try.func19, Try.ntmps19
    go_wp2_with fail
    go_ret
    exact ⟨by rw [HF.out]; first | rfl | simp [*], by rw [← HW.out]; exact HB.out⟩
  have HF := Lib.hid (HU.out.2 (by unfold eS; simp [h1, h2, h3, h4]))
  have q1 : (k == 1) = false := by simp [h1]
  have q2 : (k == 2) = false := by simp [h2]
  have q3 : (k == 3) = false := by simp [h3]
  have q4 : (k == 4) = false := by simp [h4]
  skip
  go_enter Try.func19, Try.ntmps19
  go_wp2_with fail
  go_ret
  exact ⟨by rw [HF.out]; first | rfl | simp [*], by rw [← HW.out]; exact HB.out⟩
end Go.Proofs.Ytbkffcopahiilaa
