/-
  The landed modes: Join.
-/
import Derived.Test.YtbkffcopahiilaaMoC
namespace Go.Proofs.Ytbkffcopahiilaa
open Go.RowKit Go.Lib

set_option maxRecDepth 100000 in
set_option maxHeartbeats 6400000 in
theorem join_any (a b : Int) (w : World) : Says Try.prog 14 #[.int .i64 a, .int .i64 b] w (.int .i64 (jnI a b)) := by
  have HC := Lib.hid (And.intro cov_any fewer_any)
  have HB := Lib.hid (Below.refl w.heap.size w)
  go_enter Try.func14, Try.ntmps14
  go_wp2_with fail
  go_loopw [5, 8] (fun bv v wx => ∃ k : Nat, k ≤ 8 ∧ bv = .int .i64 (jnN a b k) ∧ v = .int .i64 (k : Int) ∧ Below w.heap.size w wx) (fun _ v _ => 8 - (intOf v).toNat)
  case atStart => exact ⟨0, by omega, rfl, rfl, HB.out⟩
  case round =>
    obtain ⟨k, hk, rfl, rfl, hb⟩ := hrel
    obtain ⟨m, hm⟩ : ∃ m, m = k + 1 := ⟨_, rfl⟩
    obtain ⟨p, hp⟩ : ∃ p, p = jnN a b k := ⟨_, rfl⟩
    have hst := jnN_step hp hm
    rw [← hp]
    have hk0 : (0 : Int) ≤ (k : Int) := Int.natCast_nonneg _
    have HK := Lib.hid (And.intro hm hp)
    clear HB
    have HB := Lib.hid hb
    clear hb hp
    by_cases hlt : k < 8
    · have hlt1 : (k : Int) < 8 := by omega
      have hltd : decide ((k : Int) < 8) = true := decide_eq_true hlt1
      have hma : (k : Int) + 1 = (m : Int) := by omega
      have hmw : wrap64 ((k : Int) + 1) = (m : Int) := by unfold wrap64; omega
      have HM := Lib.hid (And.intro hma hmw)
      clear hm hma hmw
      cases hx : cvB (m : Int) a with
      | false =>
        have HQ := Lib.hid (show jnN a b (k + 1) = p by rw [hst, hx]; rfl)
        have HX := Lib.hid (And.intro hx hx)
        clear hx hst
        go_wp2_with (first
          | (go_at_call 12; (try rw [HM.out.1]); refine (HC.out.1 _ _ _).mono ?_; (first | rw [HX.out.1] | rw [HX.out.2]); rintro e w1 ⟨rfl, hb⟩; have hb2 := HB.out.trans (hb.mono HB.out.size); clear HB hb; have HB := Lib.hid hb2; clear hb2)
          | (go_at_call 24; (try rw [HM.out.1]); refine (HC.out.2 _ _ _).mono ?_; rw [HL.out]; rintro e w1 ⟨rfl, hb⟩; have hb2 := HB.out.trans (hb.mono HB.out.size); clear HB hb; have HB := Lib.hid hb2; clear hb2))
        go_roundw
        case rel => exact ⟨k + 1, by omega, by first | (rw [HQ.out]; done) | rw [HQ.out, HM.out.1], by go_num, HB.out⟩
        case measure => simp [intOf]; omega
      | true =>
        cases hy : cvB (m : Int) b with
        | false =>
          have HQ := Lib.hid (show jnN a b (k + 1) = p by rw [hst, hx, hy]; rfl)
          have HX := Lib.hid (And.intro hx hy)
          clear hx hy hst
          go_wp2_with (first
          | (go_at_call 12; (try rw [HM.out.1]); refine (HC.out.1 _ _ _).mono ?_; (first | rw [HX.out.1] | rw [HX.out.2]); rintro e w1 ⟨rfl, hb⟩; have hb2 := HB.out.trans (hb.mono HB.out.size); clear HB hb; have HB := Lib.hid hb2; clear hb2)
          | (go_at_call 24; (try rw [HM.out.1]); refine (HC.out.2 _ _ _).mono ?_; rw [HL.out]; rintro e w1 ⟨rfl, hb⟩; have hb2 := HB.out.trans (hb.mono HB.out.size); clear HB hb; have HB := Lib.hid hb2; clear hb2))
          go_roundw
          case rel => exact ⟨k + 1, by omega, by first | (rw [HQ.out]; done) | rw [HQ.out, HM.out.1], by go_num, HB.out⟩
          case measure => simp [intOf]; omega
        | true =>
          have HX := Lib.hid (And.intro hx hy)
          by_cases hp0 : p = 0
          · have HQ := Lib.hid (show jnN a b (k + 1) = (k : Int) + 1 by rw [HM.out.1, hst, hx, hy, hp0]; rfl)
            have hq0 : (p == 0) = true := by simp [hp0]
            clear hx hy hst
            go_wp2_with (first
          | (go_at_call 12; (try rw [HM.out.1]); refine (HC.out.1 _ _ _).mono ?_; (first | rw [HX.out.1] | rw [HX.out.2]); rintro e w1 ⟨rfl, hb⟩; have hb2 := HB.out.trans (hb.mono HB.out.size); clear HB hb; have HB := Lib.hid hb2; clear hb2)
          | (go_at_call 24; (try rw [HM.out.1]); refine (HC.out.2 _ _ _).mono ?_; rw [HL.out]; rintro e w1 ⟨rfl, hb⟩; have hb2 := HB.out.trans (hb.mono HB.out.size); clear HB hb; have HB := Lib.hid hb2; clear hb2))
            go_roundw
            case rel => exact ⟨k + 1, by omega, by first | (rw [HQ.out]; done) | rw [HQ.out, HM.out.1], by go_num, HB.out⟩
            case measure => simp [intOf]; omega
          · have hq0 : (p == 0) = false := by simp [hp0]
            have hd0 : decide (p = 0) = false := decide_eq_false hp0
            cases hl : decide ((rowM (m : Int)).length < (rowM p).length) with
            | true =>
              have HQ := Lib.hid (show jnN a b (k + 1) = (k : Int) + 1 by rw [HM.out.1, hst, hx, hy, hd0, hl]; rfl)
              have HL := Lib.hid hl
              clear hx hy hst hl
              go_wp2_with (first
          | (go_at_call 12; (try rw [HM.out.1]); refine (HC.out.1 _ _ _).mono ?_; (first | rw [HX.out.1] | rw [HX.out.2]); rintro e w1 ⟨rfl, hb⟩; have hb2 := HB.out.trans (hb.mono HB.out.size); clear HB hb; have HB := Lib.hid hb2; clear hb2)
          | (go_at_call 24; (try rw [HM.out.1]); refine (HC.out.2 _ _ _).mono ?_; rw [HL.out]; rintro e w1 ⟨rfl, hb⟩; have hb2 := HB.out.trans (hb.mono HB.out.size); clear HB hb; have HB := Lib.hid hb2; clear hb2))
              go_roundw
              case rel => exact ⟨k + 1, by omega, by first | (rw [HQ.out]; done) | rw [HQ.out, HM.out.1], by go_num, HB.out⟩
              case measure => simp [intOf]; omega
            | false =>
              have HQ := Lib.hid (show jnN a b (k + 1) = p by rw [hst, hx, hy, hd0, hl]; rfl)
              have HL := Lib.hid hl
              clear hx hy hst hl
              go_wp2_with (first
          | (go_at_call 12; (try rw [HM.out.1]); refine (HC.out.1 _ _ _).mono ?_; (first | rw [HX.out.1] | rw [HX.out.2]); rintro e w1 ⟨rfl, hb⟩; have hb2 := HB.out.trans (hb.mono HB.out.size); clear HB hb; have HB := Lib.hid hb2; clear hb2)
          | (go_at_call 24; (try rw [HM.out.1]); refine (HC.out.2 _ _ _).mono ?_; rw [HL.out]; rintro e w1 ⟨rfl, hb⟩; have hb2 := HB.out.trans (hb.mono HB.out.size); clear HB hb; have HB := Lib.hid hb2; clear hb2))
              go_roundw
              case rel => exact ⟨k + 1, by omega, by first | (rw [HQ.out]; done) | rw [HQ.out, HM.out.1], by go_num, HB.out⟩
              case measure => simp [intOf]; omega
    · have hlt1 : ¬ (k : Int) < 8 := by omega
      have hltd : decide ((k : Int) < 8) = false := decide_eq_false hlt1
      have HF := Lib.hid (show jnI a b = p by rw [HK.out.2, show k = 8 by omega]; rfl)
      clear hm hst
      go_wp2_with fail
      go_ret
      exact ⟨by rw [HF.out]; rfl, HB.out⟩
end Go.Proofs.Ytbkffcopahiilaa
