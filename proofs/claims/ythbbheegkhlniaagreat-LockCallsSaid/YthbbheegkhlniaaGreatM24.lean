/-
  The document's modes: Join.
-/
import Derived.Test.YthbbheegkhlniaaGreatM03
import Derived.Test.YthbbheegkhlniaaGreatM05
namespace Go.Proofs.YthbbheegkhlniaaGreat
open Go.RowKit Go.Lib

set_option maxRecDepth 100000 in
set_option maxHeartbeats 6400000 in
theorem rjoin_any (a b : Int) (w : World) : Says Tryz.prog 38 #[.int .i64 a, .int .i64 b] w (.int .i64 (jnI a b)) := by
  have hco := fun (x y : Int) (w : World) => rcov_any x y w
  have hro := fun (x : Int) (w : World) => row_any x w
  have HC := Lib.hid (And.intro hco hro)
  have HB := Lib.hid (Below.refl w.heap.size w)
  clear hco hro
  go_enter Tryz.func38, Tryz.ntmps38
  go_wp2_with fail
  go_loopw [5, 6] (fun bv v wx => ∃ k : Nat, k ≤ 8 ∧ bv = .int .i64 (jnN a b k) ∧ v = .int .i64 ((k + 1 : Nat) : Int) ∧ Below w.heap.size w wx) (fun _ v _ => 9 - (intOf v).toNat)
  case atStart => exact ⟨0, by omega, rfl, rfl, HB.out⟩
  case round =>
    obtain ⟨k, hk, rfl, rfl, hb⟩ := hrel
    obtain ⟨m, hm⟩ : ∃ m, m = k + 1 := ⟨_, rfl⟩
    obtain ⟨p, hp⟩ : ∃ p, p = jnN a b k := ⟨_, rfl⟩
    have hst := jnN_step hp hm
    rw [← hm, ← hp]
    have hm0 : (0 : Int) ≤ (m : Int) := Int.natCast_nonneg _
    have HK := Lib.hid (And.intro hm hp)
    clear HB
    have HB := Lib.hid hb
    clear hb hm hp
    by_cases hlt : m ≤ 8
    · have hlt1 : (m : Int) ≤ 8 := by omega
      have hltd : decide ((m : Int) ≤ 8) = true := decide_eq_true hlt1
      cases hx : cvB (m : Int) a with
      | false =>
        have HQ := Lib.hid (show jnN a b (k + 1) = p by rw [hst, hx]; rfl)
        have HX := Lib.hid hx
        clear hx hst
        go_wp2_with (go_at_call 37; refine (HC.out.1 _ _ _).mono ?_; (first | rw [HX.out]); rintro e w1 ⟨rfl, hb⟩; have hb2 := HB.out.trans (hb.mono HB.out.size); clear HB hb; have HB := Lib.hid hb2; clear hb2)
        go_roundw
        case rel => exact ⟨k + 1, by have := HK.out.1; omega, by rw [HQ.out], by rw [← HK.out.1]; go_num, HB.out⟩
        case measure => have := HK.out.1; simp [intOf]; omega
      | true =>
        cases hy : cvB (m : Int) b with
        | false =>
          have HQ := Lib.hid (show jnN a b (k + 1) = p by rw [hst, hx, hy]; rfl)
          have HX := Lib.hid (And.intro hx hy)
          clear hx hy hst
          go_wp2_with (go_at_call 37; refine (HC.out.1 _ _ _).mono ?_; (first | rw [HX.out.1] | rw [HX.out.2]); rintro e w1 ⟨rfl, hb⟩; have hb2 := HB.out.trans (hb.mono HB.out.size); clear HB hb; have HB := Lib.hid hb2; clear hb2)
          go_roundw
          case rel => exact ⟨k + 1, by have := HK.out.1; omega, by rw [HQ.out], by rw [← HK.out.1]; go_num, HB.out⟩
          case measure => have := HK.out.1; simp [intOf]; omega
        | true =>
          have HX := Lib.hid (And.intro hx hy)
          by_cases hp0 : p = 0
          · have HQ := Lib.hid (show jnN a b (k + 1) = (m : Int) by rw [hst, hx, hy, hp0]; rfl)
            have hq0 : (p == 0) = true := by simp [hp0]
            clear hx hy hst
            go_wp2_with (go_at_call 37; refine (HC.out.1 _ _ _).mono ?_; (first | rw [HX.out.1] | rw [HX.out.2]); rintro e w1 ⟨rfl, hb⟩; have hb2 := HB.out.trans (hb.mono HB.out.size); clear HB hb; have HB := Lib.hid hb2; clear hb2)
            go_roundw
            case rel => exact ⟨k + 1, by have := HK.out.1; omega, by rw [HQ.out], by rw [← HK.out.1]; go_num, HB.out⟩
            case measure => have := HK.out.1; simp [intOf]; omega
          · have hq0 : (p == 0) = false := by simp [hp0]
            have hd0 : decide (p = 0) = false := decide_eq_false hp0
            obtain ⟨r1, hr1⟩ : ∃ r1, r1 = (rowM (m : Int)).length := ⟨_, rfl⟩
            obtain ⟨r2, hr2⟩ : ∃ r2, r2 = (rowM p).length := ⟨_, rfl⟩
            rw [hx, hy, hd0, ← hr1, ← hr2] at hst
            have HL := Lib.hid (And.intro hr1 hr2)
            have hr10 : (0 : Int) ≤ (r1 : Int) := Int.natCast_nonneg _
            have hr20 : (0 : Int) ≤ (r2 : Int) := Int.natCast_nonneg _
            clear hx hy hr1 hr2
            by_cases hl : r1 < r2
            · have hl1 : (r1 : Int) < (r2 : Int) := by omega
              have hld : decide ((r1 : Int) < (r2 : Int)) = true := decide_eq_true hl1
              have HQ := Lib.hid (show jnN a b (k + 1) = (m : Int) by rw [hst, decide_eq_true hl]; rfl)
              clear hst
              go_wp2_with (first | (go_at_call 37; refine (HC.out.1 _ _ _).mono ?_; (first | rw [HX.out.1] | rw [HX.out.2]); rintro e w1 ⟨rfl, hb⟩; have hb2 := HB.out.trans (hb.mono HB.out.size); clear HB hb; have HB := Lib.hid hb2; clear hb2) | (go_at_call 66; refine (HC.out.2 _ _).mono ?_; rintro e w1 ⟨A, n, c, rfl, hn, _, hb⟩; (first | rw [← HL.out.1] at hn | rw [← HL.out.2] at hn); subst hn; have hb2 := HB.out.trans (hb.mono HB.out.size); clear HB hb; have HB := Lib.hid hb2; clear hb2))
              go_roundw
              case rel => exact ⟨k + 1, by have := HK.out.1; omega, by rw [HQ.out], by rw [← HK.out.1]; go_num, HB.out⟩
              case measure => have := HK.out.1; simp [intOf]; omega
            · have hl1 : ¬ (r1 : Int) < (r2 : Int) := by omega
              have hld : decide ((r1 : Int) < (r2 : Int)) = false := decide_eq_false hl1
              have HQ := Lib.hid (show jnN a b (k + 1) = p by rw [hst, decide_eq_false hl]; rfl)
              clear hst
              go_wp2_with (first | (go_at_call 37; refine (HC.out.1 _ _ _).mono ?_; (first | rw [HX.out.1] | rw [HX.out.2]); rintro e w1 ⟨rfl, hb⟩; have hb2 := HB.out.trans (hb.mono HB.out.size); clear HB hb; have HB := Lib.hid hb2; clear hb2) | (go_at_call 66; refine (HC.out.2 _ _).mono ?_; rintro e w1 ⟨A, n, c, rfl, hn, _, hb⟩; (first | rw [← HL.out.1] at hn | rw [← HL.out.2] at hn); subst hn; have hb2 := HB.out.trans (hb.mono HB.out.size); clear HB hb; have HB := Lib.hid hb2; clear hb2))
              go_roundw
              case rel => exact ⟨k + 1, by have := HK.out.1; omega, by rw [HQ.out], by rw [← HK.out.1]; go_num, HB.out⟩
              case measure => have := HK.out.1; simp [intOf]; omega
    · have hlt1 : ¬ (m : Int) ≤ 8 := by omega
      have hltd : decide ((m : Int) ≤ 8) = false := decide_eq_false hlt1
      have HF := Lib.hid (show p = jnI a b by unfold jnI; rw [HK.out.2, show k = 8 by have := HK.out.1; omega])
      clear hst
      go_wp2_with fail
      go_ret
      exact ⟨by rw [← HF.out]; rfl, HB.out⟩
end Go.Proofs.YthbbheegkhlniaaGreat

/-
  The document's things: Fits, Above.
-/
namespace Go.Proofs.YthbbheegkhlniaaGreat
open Go.RowKit Go.Lib

set_option maxRecDepth 100000 in
set_option maxHeartbeats 6400000 in
theorem rfits_any (x : Th) (w : World) : Says Tryz.prog 36 #[thV x] w (.bool (fitsB x)) := by
  obtain ⟨k, t, y⟩ := x
  obtain ⟨w1, hw1⟩ : ∃ w1, w1 = w.alloc (.cells #[.int .i64 k, .string t, .string y] 32) := ⟨_, rfl⟩
  obtain ⟨hT, hB⟩ := tg_new w ⟨k, t, y⟩
  simp only at hT hB
  rw [← hw1] at hT hB
  have HW := Lib.hid hw1
  have HT := Lib.hid hT
  have HB := Lib.hid hB
  have hU := fun (h : ((k = 1 ∨ k = 2) ∧ t = eS ∧ y = eS) ∨ (k = 3 ∧ y = eS) ∨ k = 4) => (show fitsB ⟨k, t, y⟩ = true from decide_eq_true h)
  have hV := fun (h : ¬ (((k = 1 ∨ k = 2) ∧ t = eS ∧ y = eS) ∨ (k = 3 ∧ y = eS) ∨ k = 4)) => (show fitsB ⟨k, t, y⟩ = false from decide_eq_false h)
  have HU := Lib.hid (And.intro hU hV)
  clear hT hB hw1 hU hV
  by_cases h1 : k = 1
  · subst h1
    by_cases ht : t = ⟨#[]⟩
    · by_cases hy : y = ⟨#[]⟩
      · have HF := Lib.hid (HU.out.1 (by unfold eS; exact .inl ⟨.inl rfl, ht, hy⟩))
        have et1 : t.toList.isEmpty = true := str_empty ht
        have et2 : t.toList = [] := List.isEmpty_iff.1 et1
        have ey1 : y.toList.isEmpty = true := str_empty hy
        have ey2 : y.toList = [] := List.isEmpty_iff.1 ey1
        clear ht hy
        go_enter Tryz.func36, Tryz.ntmps36
        go_wp2_with fail
        go_ret
        exact ⟨by rw [HF.out]; first | rfl | simp [*], by rw [← HW.out]; exact HB.out⟩
      · have HF := Lib.hid (HU.out.2 (by unfold eS; simp [hy]))
        have et1 : t.toList.isEmpty = true := str_empty ht
        have et2 : t.toList = [] := List.isEmpty_iff.1 et1
        have ey1 : y.toList.isEmpty = false := str_some hy
        have ey2 : ¬ y.toList = [] := fun h => by rw [h] at ey1; cases ey1
        clear ht hy
        go_enter Tryz.func36, Tryz.ntmps36
        go_wp2_with fail
        go_ret
        exact ⟨by rw [HF.out]; first | rfl | simp [*], by rw [← HW.out]; exact HB.out⟩
    · have HF := Lib.hid (HU.out.2 (by unfold eS; simp [ht]))
      have et1 : t.toList.isEmpty = false := str_some ht
      have et2 : ¬ t.toList = [] := fun h => by rw [h] at et1; cases et1
      clear ht
      go_enter Tryz.func36, Tryz.ntmps36
      go_wp2_with fail
      go_ret
      exact ⟨by rw [HF.out]; first | rfl | simp [*], by rw [← HW.out]; exact HB.out⟩
  by_cases h2 : k = 2
  · subst h2
    by_cases ht : t = ⟨#[]⟩
    · by_cases hy : y = ⟨#[]⟩
      · have HF := Lib.hid (HU.out.1 (by unfold eS; exact .inl ⟨.inr rfl, ht, hy⟩))
        have et1 : t.toList.isEmpty = true := str_empty ht
        have et2 : t.toList = [] := List.isEmpty_iff.1 et1
        have ey1 : y.toList.isEmpty = true := str_empty hy
        have ey2 : y.toList = [] := List.isEmpty_iff.1 ey1
        clear ht hy
        go_enter Tryz.func36, Tryz.ntmps36
        go_wp2_with fail
        go_ret
        exact ⟨by rw [HF.out]; first | rfl | simp [*], by rw [← HW.out]; exact HB.out⟩
      · have HF := Lib.hid (HU.out.2 (by unfold eS; simp [hy]))
        have et1 : t.toList.isEmpty = true := str_empty ht
        have et2 : t.toList = [] := List.isEmpty_iff.1 et1
        have ey1 : y.toList.isEmpty = false := str_some hy
        have ey2 : ¬ y.toList = [] := fun h => by rw [h] at ey1; cases ey1
        clear ht hy
        go_enter Tryz.func36, Tryz.ntmps36
        go_wp2_with fail
        go_ret
        exact ⟨by rw [HF.out]; first | rfl | simp [*], by rw [← HW.out]; exact HB.out⟩
    · have HF := Lib.hid (HU.out.2 (by unfold eS; simp [ht]))
      have et1 : t.toList.isEmpty = false := str_some ht
      have et2 : ¬ t.toList = [] := fun h => by rw [h] at et1; cases et1
      clear ht
      go_enter Tryz.func36, Tryz.ntmps36
      go_wp2_with fail
      go_ret
      exact ⟨by rw [HF.out]; first | rfl | simp [*], by rw [← HW.out]; exact HB.out⟩
  by_cases h3 : k = 3
  · subst h3
    by_cases hy : y = ⟨#[]⟩
    · have HF := Lib.hid (HU.out.1 (by unfold eS; exact .inr (.inl ⟨rfl, hy⟩)))
      have ey1 : y.toList.isEmpty = true := str_empty hy
      have ey2 : y.toList = [] := List.isEmpty_iff.1 ey1
      clear hy
      go_enter Tryz.func36, Tryz.ntmps36
      go_wp2_with fail
      go_ret
      exact ⟨by rw [HF.out]; first | rfl | simp [*], by rw [← HW.out]; exact HB.out⟩
    · have HF := Lib.hid (HU.out.2 (by unfold eS; simp [hy]))
      have ey1 : y.toList.isEmpty = false := str_some hy
      have ey2 : ¬ y.toList = [] := fun h => by rw [h] at ey1; cases ey1
      clear hy
      go_enter Tryz.func36, Tryz.ntmps36
      go_wp2_with fail
      go_ret
      exact ⟨by rw [HF.out]; first | rfl | simp [*], by rw [← HW.out]; exact HB.out⟩
  by_cases h4 : k = 4
  · subst h4
    have HF := Lib.hid (HU.out.1 (by unfold eS; exact .inr (.inr rfl)))
    skip
    go_enter Tryz.func36, Tryz.ntmps36
    go_wp2_with fail
    go_ret
    exact ⟨by rw [HF.out]; first | rfl | simp [*], by rw [← HW.out]; exact HB.out⟩
  have HF := Lib.hid (HU.out.2 (by unfold eS; simp [h1, h2, h3, h4]))
  have q1 : (k == 1) = false := by simp [h1]
  have q2 : (k == 2) = false := by simp [h2]
  have q3 : (k == 3) = false := by simp [h3]
  have q4 : (k == 4) = false := by simp [h4]
  skip
  go_enter Tryz.func36, Tryz.ntmps36
  go_wp2_with fail
  go_ret
  exact ⟨by rw [HF.out]; first | rfl | simp [*], by rw [← HW.out]; exact HB.out⟩
end Go.Proofs.YthbbheegkhlniaaGreat
