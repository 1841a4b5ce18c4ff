/-
  The landed modes: Fits.
-/
import Derived.Test.YtbkffcopahiilaaMoB
namespace Go.Proofs.Ytbkffcopahiilaa
open Go.RowKit Go.Lib

set_option maxRecDepth 100000 in
set_option maxHeartbeats 6400000 in
theorem fits_any (x : Th) (w : World) : Says Try.prog 18 #[thV x] w (.bool (fitsB x)) := by
  obtain ⟨k, t, y⟩ := x
  obtain ⟨w1, hw1⟩ : ∃ w1, w1 = w.alloc (.cells #[.int .i64 k, .string t, .string y] 27) := ⟨_, rfl⟩
  obtain ⟨hT, hB⟩ := tg_new w ⟨k, t, y⟩
  simp only at hT hB
  rw [← hw1] at hT hB
  have HW := Lib.hid hw1
  have HT := Lib.hid hT
  have HB := Lib.hid hB
  have hU := fun (h : ((k = 1 ∨ k = 2) ∧ t = eS ∧ y = eS) ∨ (k = 3 ∧ y = eS) ∨ k = 4) => (show fitsB ⟨k, t, y⟩ = true from decide_eq_true h)
  have hV := fun (h : ¬ (((k = 1 ∨ k = 2) ∧ t = eS ∧ y = eS) ∨ (k = 3 ∧ y = eS) ∨ k = 4)) => (show fitsB ⟨k, t, y⟩ = false from decide_eq_false h)
  have HU := Lib.hid (And.intro hU hV)
  clear hT hB hw1 hU hV
  by_cases h1 : k = 1
  · subst h1
    by_cases ht : t = ⟨#[]⟩
    · by_cases hy : y = ⟨#[]⟩
      · have HF := Lib.hid (HU.out.1 (by unfold eS; exact .inl ⟨.inl rfl, ht, hy⟩))
        have et1 : t.toList.isEmpty = true := str_empty ht
        have et2 : t.toList = [] := List.isEmpty_iff.1 et1
        have ey1 : y.toList.isEmpty = true := str_empty hy
        have ey2 : y.toList = [] := List.isEmpty_iff.1 ey1
        clear ht hy
        go_enter Try.func18, Try.ntmps18
        go_wp2_with fail
        go_ret
        exact ⟨by rw [HF.out]; first | rfl | simp [*], by rw [← HW.out]; exact HB.out⟩
      · have HF := Lib.hid (HU.out.2 (by unfold eS; simp [hy]))
        have et1 : t.toList.isEmpty = true := str_empty ht
        have et2 : t.toList = [] := List.isEmpty_iff.1 et1
        have ey1 : y.toList.isEmpty = false := str_some hy
        have ey2 : ¬ y.toList = [] := fun h => by rw [h] at ey1; cases ey1
        clear ht hy
        go_enter Try.func18, Try.ntmps18
        go_wp2_with fail
        go_ret
        exact ⟨by rw [HF.out]; first | rfl | simp [*], by rw [← HW.out]; exact HB.out⟩
    · have HF := Lib.hid (HU.out.2 (by unfold eS; simp [ht]))
      have et1 : t.toList.isEmpty = false := str_some ht
      have et2 : ¬ t.toList = [] := fun h => by rw [h] at et1; cases et1
      clear ht
      go_enter Try.func18, Try.ntmps18
      go_wp2_with fail
      go_ret
      exact ⟨by rw [HF.out]; first | rfl | simp [*], by rw [← HW.out]; exact HB.out⟩
  by_cases h2 : k = 2
  · subst h2
    by_cases ht : t = ⟨#[]⟩
    · by_cases hy : y = ⟨#[]⟩
      · have HF := Lib.hid (HU.out.1 (by unfold eS; exact .inl ⟨.inr rfl, ht, hy⟩))
        have et1 : t.toList.isEmpty = true := str_empty ht
        have et2 : t.toList = [] := List.isEmpty_iff.1 et1
        have ey1 : y.toList.isEmpty = true := str_empty hy
        have ey2 : y.toList = [] := List.isEmpty_iff.1 ey1
        clear ht hy
        go_enter Try.func18, Try.ntmps18
        go_wp2_with fail
        go_ret
        exact ⟨by rw [HF.out]; first | rfl | simp [*], by rw [← HW.out]; exact HB.out⟩
      · have HF := Lib.hid (HU.out.2 (by unfold eS; simp [hy]))
        have et1 : t.toList.isEmpty = true := str_empty ht
        have et2 : t.toList = [] := List.isEmpty_iff.1 et1
        have ey1 : y.toList.isEmpty = false := str_some hy
        have ey2 : ¬ y.toList = [] := fun h => by rw [h] at ey1; cases ey1
        clear ht hy
        go_enter Try.func18, Try.ntmps18
        go_wp2_with fail
        go_ret
        exact ⟨by rw [HF.out]; first | rfl | simp [*], by rw [← HW.out]; exact HB.out⟩
    · have HF := Lib.hid (HU.out.2 (by unfold eS; simp [ht]))
      have et1 : t.toList.isEmpty = false := str_some ht
      have et2 : ¬ t.toList = [] := fun h => by rw [h] at et1; cases et1
      clear ht
      go_enter Try.func18, Try.ntmps18
      go_wp2_with fail
      go_ret
      exact ⟨by rw [HF.out]; first | rfl | simp [*], by rw [← HW.out]; exact HB.out⟩
  by_cases h3 : k = 3
  · subst h3
    by_cases hy : y = ⟨#[]⟩
    · have HF := Lib.hid (HU.out.1 (by unfold eS; exact .inr (.inl ⟨rfl, hy⟩)))
      have ey1 : y.toList.isEmpty = true := str_empty hy
      have ey2 : y.toList = [] := List.isEmpty_iff.1 ey1
      clear hy
      go_enter Try.func18, Try.ntmps18
      go_wp2_with fail
      go_ret
      exact ⟨by rw [HF.out]; first | rfl | simp [*], by rw [← HW.out]; exact HB.out⟩
    · have HF := Lib.hid (HU.out.2 (by unfold eS; simp [hy]))
      have ey1 : y.toList.isEmpty = false := str_some hy
      have ey2 : ¬ y.toList = [] := fun h => by rw [h] at ey1; cases ey1
      clear hy
      go_enter Try.func18, Try.ntmps18
      go_wp2_with fail
      go_ret
      exact ⟨by rw [HF.out]; first | rfl | simp [*], by rw [← HW.out]; exact HB.out⟩
  by_cases h4 : k = 4
  · subst h4
    have HF := Lib.hid (HU.out.1 (by unfold eS; exact .inr (.inr rfl)))
    skip
    go_enter Try.func18, Try.ntmps18
    go_wp2_with fail
    go_ret
    exact ⟨by rw [HF.out]; first | rfl | simp [*], by rw [← HW.out]; exact HB.out⟩
  have HF := Lib.hid (HU.out.2 (by unfold eS; simp [h1, h2, h3, h4]))
  have q1 : (k == 1) = false := by simp [h1]
  have q2 : (k == 2) = false := by simp [h2]
  have q3 : (k == 3) = false := by simp [h3]
  have q4 : (k == 4) = false := by simp [h4]
  skip
  go_enter Try.func18, Try.ntmps18
  go_wp2_with fail
  go_ret
  exact ⟨by rw [HF.out]; first | rfl | simp [*], by rw [← HW.out]; exact HB.out⟩
end Go.Proofs.Ytbkffcopahiilaa
