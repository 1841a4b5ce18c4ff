/-
  The document's modes: Join.
-/
import Derived.Test.YtbkffcopahiilaaMoS
namespace Go.Proofs.Ytbkffcopahiilaa
open Go.RowKit Go.Lib

theorem jnN_step {a b p : Int} {k m : Nat} (hp : p = jnN a b k) (hm : m = k + 1) : jnN a b (k + 1) = if cvB (m : Int) a && cvB (m : Int) b && (decide (p = 0) || decide ((rowM (m : Int)).length < (rowM p).length)) then (m : Int) else p := by
  rw [hp, hm, jnN]
set_option maxRecDepth 100000 in
set_option maxHeartbeats 6400000 in
theorem rjoin_any (a b : Int) (w : World) : Says Try.prog 15 #[.int .i64 a, .int .i64 b] w (.int .i64 (jnI a b)) := by
  have hco := fun (x y : Int) (w : World) => rcov_any x y w
  have hro := fun (x : Int) (w : World) => row_any x w
  have HC := Lib.hid (And.intro hco hro)
  have HB := Lib.hid (Below.refl w.heap.size w)
  clear hco hro
  go_enter Try.func15, Try.ntmps15
  go_wp2_with fail
  go_loopw [5, 6] (fun bv v wx => ∃ k : Nat, k ≤ 8 ∧ bv = .int .i64 (jnN a b k) ∧ v = .int .i64 ((k + 1 : Nat) : Int) ∧ Below w.heap.size w wx) (fun _ v _ => 9 - (intOf v).toNat)
  case atStart => exact ⟨0, by omega, rfl, rfl, HB.out⟩
  case round =>
    obtain ⟨k, hk, rfl, rfl, hb⟩ := hrel
    obtain ⟨m, hm⟩ : ∃ m, m = k + 1 := ⟨_, rfl⟩
    obtain ⟨p, hp⟩ : ∃ p, p = jnN a b k := ⟨_, rfl⟩
    have hst := jnN_step hp hm
    rw [← hm, ← hp]
    have hm0 : (0 : Int) ≤ (m : Int) := Int.natCast_nonneg _
    have HK := Lib.hid (And.intro hm hp)
    clear HB
    have HB := Lib.hid hb
    clear hb hm hp
    by_cases hlt : m ≤ 8
    · have hlt1 : (m : Int) ≤ 8 := by omega
      have hltd : decide ((m : Int) ≤ 8) = true := decide_eq_true hlt1
      cases hx : cvB (m : Int) a with
      | false =>
        have HQ := Lib.hid (show jnN a b (k + 1) = p by rw [hst, hx]; rfl)
        have HX := Lib.hid hx
        clear hx hst
        go_wp2_with (go_at_call 13; refine (HC.out.1 _ _ _).mono ?_; (first | rw [HX.out]); rintro e w1 ⟨rfl, hb⟩; have hb2 := HB.out.trans (hb.mono HB.out.size); clear HB hb; have HB := Lib.hid hb2; clear hb2)
        go_roundw
        case rel => exact ⟨k + 1, by have := HK.out.1; omega, by rw [HQ.out], by rw [← HK.out.1]; go_num, HB.out⟩
        case measure => have := HK.out.1; simp [intOf]; omega
      | true =>
        cases hy : cvB (m : Int) b with
        | false =>
          have HQ := Lib.hid (show jnN a b (k + 1) = p by rw [hst, hx, hy]; rfl)
          have HX := Lib.hid (And.intro hx hy)
          clear hx hy hst
          go_wp2_with (go_at_call 13; refine (HC.out.1 _ _ _).mono ?_; (first | rw [HX.out.1] | rw [HX.out.2]); rintro e w1 ⟨rfl, hb⟩; have hb2 := HB.out.trans (hb.mono HB.out.size); clear HB hb; have HB := Lib.hid hb2; clear hb2)
          go_roundw
          case rel => exact ⟨k + 1, by have := HK.out.1; omega, by rw [HQ.out], by rw [← HK.out.1]; go_num, HB.out⟩
          case measure => have := HK.out.1; simp [intOf]; omega
        | true =>
          have HX := Lib.hid (And.intro hx hy)
          by_cases hp0 : p = 0
          · have HQ := Lib.hid (show jnN a b (k + 1) = (m : Int) by rw [hst, hx, hy, hp0]; rfl)
            have hq0 : (p == 0) = true := by simp [hp0]
            clear hx hy hst
            go_wp2_with (go_at_call 13; refine (HC.out.1 _ _ _).mono ?_; (first | rw [HX.out.1] | rw [HX.out.2]); rintro e w1 ⟨rfl, hb⟩; have hb2 := HB.out.trans (hb.mono HB.out.size); clear HB hb; have HB := Lib.hid hb2; clear hb2)
            go_roundw
            case rel => exact ⟨k + 1, by have := HK.out.1; omega, by rw [HQ.out], by rw [← HK.out.1]; go_num, HB.out⟩
            case measure => have := HK.out.1; simp [intOf]; omega
          · have hq0 : (p == 0) = false := by simp [hp0]
            have hd0 : decide (p = 0) = false := decide_eq_false hp0
            obtain ⟨r1, hr1⟩ : ∃ r1, r1 = (rowM (m : Int)).length := ⟨_, rfl⟩
            obtain ⟨r2, hr2⟩ : ∃ r2, r2 = (rowM p).length := ⟨_, rfl⟩
            rw [hx, hy, hd0, ← hr1, ← hr2] at hst
            have HL := Lib.hid (And.intro hr1 hr2)
            have hr10 : (0 : Int) ≤ (r1 : Int) := Int.natCast_nonneg _
            have hr20 : (0 : Int) ≤ (r2 : Int) := Int.natCast_nonneg _
            clear hx hy hr1 hr2
            by_cases hl : r1 < r2
            · have hl1 : (r1 : Int) < (r2 : Int) := by omega
              have hld : decide ((r1 : Int) < (r2 : Int)) = true := decide_eq_true hl1
              have HQ := Lib.hid (show jnN a b (k + 1) = (m : Int) by rw [hst, decide_eq_true hl]; rfl)
              clear hst
              go_wp2_with (first | (go_at_call 13; refine (HC.out.1 _ _ _).mono ?_; (first | rw [HX.out.1] | rw [HX.out.2]); rintro e w1 ⟨rfl, hb⟩; have hb2 := HB.out.trans (hb.mono HB.out.size); clear HB hb; have HB := Lib.hid hb2; clear hb2) | (go_at_call 22; refine (HC.out.2 _ _).mono ?_; rintro e w1 ⟨A, n, c, rfl, hn, _, hb⟩; (first | rw [← HL.out.1] at hn | rw [← HL.out.2] at hn); subst hn; have hb2 := HB.out.trans (hb.mono HB.out.size); clear HB hb; have HB := Lib.hid hb2; clear hb2))
              go_roundw
              case rel => exact ⟨k + 1, by have := HK.out.1; omega, by rw [HQ.out], by rw [← HK.out.1]; go_num, HB.out⟩
              case measure => have := HK.out.1; simp [intOf]; omega
            · have hl1 : ¬ (r1 : Int) < (r2 : Int) := by omega
              have hld : decide ((r1 : Int) < (r2 : Int)) = false := decide_eq_false hl1
              have HQ := Lib.hid (show jnN a b (k + 1) = p by rw [hst, decide_eq_false hl]; rfl)
              clear hst
              go_wp2_with (first | (go_at_call 13; refine (HC.out.1 _ _ _).mono ?_; (first | rw [HX.out.1] | rw [HX.out.2]); rintro e w1 ⟨rfl, hb⟩; have hb2 := HB.out.trans (hb.mono HB.out.size); clear HB hb; have HB := Lib.hid hb2; clear hb2) | (go_at_call 22; refine (HC.out.2 _ _).mono ?_; rintro e w1 ⟨A, n, c, rfl, hn, _, hb⟩; (first | rw [← HL.out.1] at hn | rw [← HL.out.2] at hn); subst hn; have hb2 := HB.out.trans (hb.mono HB.out.size); clear HB hb; have HB := Lib.hid hb2; clear hb2))
              go_roundw
              case rel => exact ⟨k + 1, by have := HK.out.1; omega, by rw [HQ.out], by rw [← HK.out.1]; go_num, HB.out⟩
              case measure => have := HK.out.1; simp [intOf]; omega
    · have hlt1 : ¬ (m : Int) ≤ 8 := by omega
      have hltd : decide ((m : Int) ≤ 8) = false := decide_eq_false hlt1
      have HF := Lib.hid (show p = jnI a b by unfold jnI; rw [HK.out.2, show k = 8 by have := HK.out.1; omega])
      clear hst
      go_wp2_with fail
      go_ret
      exact ⟨by rw [← HF.out]; rfl, HB.out⟩
end Go.Proofs.Ytbkffcopahiilaa
