/-
  ModesJoin over the contract.
-/
import Derived.Test.YtbkffcopahiilaaMoX
namespace Go.Proofs.Ytbkffcopahiilaa
open Go.RowKit Go.Lib

theorem num_rg {x : Int} (h : rgB x = true) : NumI x := by
  unfold rgB at h
  simp only [Bool.and_eq_true, decide_eq_true_eq] at h
  unfold NumI
  omega
theorem num_m {m : Nat} (h : m ≤ 8) : NumI (m : Int) := by unfold NumI; omega
theorem more_step {x y : Int} {k m : Nat} (hm : m = k + 1) : moreN x y (k + 1) = moreN x y k + (if cfB x (m : Int) then 1 else 0) - (if cfB y (m : Int) then 1 else 0) := by rw [hm, moreN]
set_option maxRecDepth 100000 in
set_option maxHeartbeats 12800000 in
theorem mjoin_walk (I : Impl) (a b c : Int) (w : World) (ha : NumI a) (hb : NumI b) (hc : NumI c) : Says Try.prog 6 #[.int .i64 a, .int .i64 b, .int .i64 c] w (.bool true) := by
  have HI := Lib.hid I
  have HA := Lib.hid fun (w : World) => alive10_any I w
  have HN := Lib.hid (And.intro ha (And.intro hb hc))
  have HB := Lib.hid (Below.refl w.heap.size w)
  clear ha hb hc I
  cases h1 : rgB a with
  | false =>
    have HG := Lib.hid (And.intro h1 (jn_out (b := b) (.inl h1)))
    clear h1
    go_enter Try.func6, Try.ntmps6
    go_wp2_with (first
      | (go_at_call 8; refine (HA.out _).mono ?_; rintro e wx ⟨rfl, hb⟩; have hb2 := HB.out.trans (hb.mono HB.out.size); clear HB hb; have HB := Lib.hid hb2; clear hb2)
      | (go_at_call 9; refine (HI.out.right _ _ (by first | exact HN.out.1 | exact HN.out.2.1 | exact HN.out.2.2 | exact num8)).mono ?_; (first | rw [HG.out.1]); rintro e wx ⟨rfl, hb⟩; have hb2 := HB.out.trans (hb.mono HB.out.size); clear HB hb; have HB := Lib.hid hb2; clear hb2)
      | (go_at_call 14; refine (HI.out.join _ _ _ (by first | exact HN.out.1 | exact HN.out.2.1 | exact HN.out.2.2 | exact num8) (by first | exact HN.out.1 | exact HN.out.2.1 | exact HN.out.2.2 | exact num8)).mono ?_; (first | rw [HG.out.2]); rintro e wx ⟨rfl, hb⟩; have hb2 := HB.out.trans (hb.mono HB.out.size); clear HB hb; have HB := Lib.hid hb2; clear hb2))
    go_ret
    exact ⟨by first | rfl | simp, HB.out⟩
  | true =>
    cases h2 : rgB b with
    | false =>
      have HG := Lib.hid (And.intro h1 (And.intro h2 (jn_out (a := a) (.inr h2))))
      clear h1 h2
      go_enter Try.func6, Try.ntmps6
      go_wp2_with (first
        | (go_at_call 8; refine (HA.out _).mono ?_; rintro e wx ⟨rfl, hb⟩; have hb2 := HB.out.trans (hb.mono HB.out.size); clear HB hb; have HB := Lib.hid hb2; clear hb2)
        | (go_at_call 9; refine (HI.out.right _ _ (by first | exact HN.out.1 | exact HN.out.2.1 | exact HN.out.2.2 | exact num8)).mono ?_; (first | rw [HG.out.1] | rw [HG.out.2.1]); rintro e wx ⟨rfl, hb⟩; have hb2 := HB.out.trans (hb.mono HB.out.size); clear HB hb; have HB := Lib.hid hb2; clear hb2)
        | (go_at_call 14; refine (HI.out.join _ _ _ (by first | exact HN.out.1 | exact HN.out.2.1 | exact HN.out.2.2 | exact num8) (by first | exact HN.out.1 | exact HN.out.2.1 | exact HN.out.2.2 | exact num8)).mono ?_; (first | rw [HG.out.2.2]); rintro e wx ⟨rfl, hb⟩; have hb2 := HB.out.trans (hb.mono HB.out.size); clear HB hb; have HB := Lib.hid hb2; clear hb2))
      go_ret
      exact ⟨by first | rfl | simp, HB.out⟩
    | true =>
      obtain ⟨j, hj⟩ : ∃ j, j = jnI a b := ⟨_, rfl⟩
      obtain ⟨k0, hk0⟩ : ∃ k0, k0 = jnI a a := ⟨_, rfl⟩
      have hok := jn_ok h1 h2
      have hone := jn_one h1
      have hfw : ∀ c, cvB c a = true → cvB c b = true → moreN j c 8 ≤ 0 := fun c h k => by rw [hj]; exact jn_few h k
      rw [← hk0] at hone
      have hq0 : (k0 == 0) = false := by simp [hone]
      have hjba : j = jnI b a := hj.trans hok.2.2
      rw [← hj] at hok
      have hjr := cv_l hok.1
      have HG := Lib.hid (And.intro h1 (And.intro h2 (And.intro hok.1 hok.2.1)))
      have HJ := Lib.hid (And.intro (num_rg hjr) (And.intro hj (And.intro hjba (And.intro hk0 hfw))))
      clear h1 h2 hok hj hjba hk0 hjr hfw
      cases hca : cvB c a with
      | false =>
        have HC := Lib.hid hca
        clear hca
        go_enter Try.func6, Try.ntmps6
        go_wp2_with (first
          | (go_at_call 8; refine (HA.out _).mono ?_; rintro e wx ⟨rfl, hb⟩; have hb2 := HB.out.trans (hb.mono HB.out.size); clear HB hb; have HB := Lib.hid hb2; clear hb2)
          | (go_at_call 9; refine (HI.out.right _ _ (by first | exact HN.out.1 | exact HN.out.2.1 | exact HN.out.2.2 | exact num8)).mono ?_; (first | rw [HG.out.1] | rw [HG.out.2.1]); rintro e wx ⟨rfl, hb⟩; have hb2 := HB.out.trans (hb.mono HB.out.size); clear HB hb; have HB := Lib.hid hb2; clear hb2)
          | (go_at_call 12; refine (HI.out.cov _ _ _ (by first | exact HN.out.1 | exact HN.out.2.1 | exact HN.out.2.2 | exact num8 | exact HJ.out.1) (by first | exact HN.out.1 | exact HN.out.2.1 | exact HN.out.2.2 | exact num8 | exact HJ.out.1)).mono ?_; (first | rw [HG.out.2.2.1] | rw [HG.out.2.2.2] | rw [HC.out]); rintro e wx ⟨rfl, hb⟩; have hb2 := HB.out.trans (hb.mono HB.out.size); clear HB hb; have HB := Lib.hid hb2; clear hb2)
          | (go_at_call 14; refine (HI.out.join _ _ _ (by first | exact HN.out.1 | exact HN.out.2.1 | exact HN.out.2.2 | exact num8) (by first | exact HN.out.1 | exact HN.out.2.1 | exact HN.out.2.2 | exact num8)).mono ?_; (first | rw [← HJ.out.2.1] | rw [← HJ.out.2.2.1] | rw [← HJ.out.2.2.2.1]); rintro e wx ⟨rfl, hb⟩; have hb2 := HB.out.trans (hb.mono HB.out.size); clear HB hb; have HB := Lib.hid hb2; clear hb2))
        go_ret
        exact ⟨by first | rfl | simp, HB.out⟩
      | true =>
        cases hcb : cvB c b with
        | false =>
          have HC := Lib.hid (And.intro hca hcb)
          clear hca hcb
          go_enter Try.func6, Try.ntmps6
          go_wp2_with (first
            | (go_at_call 8; refine (HA.out _).mono ?_; rintro e wx ⟨rfl, hb⟩; have hb2 := HB.out.trans (hb.mono HB.out.size); clear HB hb; have HB := Lib.hid hb2; clear hb2)
            | (go_at_call 9; refine (HI.out.right _ _ (by first | exact HN.out.1 | exact HN.out.2.1 | exact HN.out.2.2 | exact num8)).mono ?_; (first | rw [HG.out.1] | rw [HG.out.2.1]); rintro e wx ⟨rfl, hb⟩; have hb2 := HB.out.trans (hb.mono HB.out.size); clear HB hb; have HB := Lib.hid hb2; clear hb2)
            | (go_at_call 12; refine (HI.out.cov _ _ _ (by first | exact HN.out.1 | exact HN.out.2.1 | exact HN.out.2.2 | exact num8 | exact HJ.out.1) (by first | exact HN.out.1 | exact HN.out.2.1 | exact HN.out.2.2 | exact num8 | exact HJ.out.1)).mono ?_; (first | rw [HG.out.2.2.1] | rw [HG.out.2.2.2] | rw [HC.out.1] | rw [HC.out.2]); rintro e wx ⟨rfl, hb⟩; have hb2 := HB.out.trans (hb.mono HB.out.size); clear HB hb; have HB := Lib.hid hb2; clear hb2)
            | (go_at_call 14; refine (HI.out.join _ _ _ (by first | exact HN.out.1 | exact HN.out.2.1 | exact HN.out.2.2 | exact num8) (by first | exact HN.out.1 | exact HN.out.2.1 | exact HN.out.2.2 | exact num8)).mono ?_; (first | rw [← HJ.out.2.1] | rw [← HJ.out.2.2.1] | rw [← HJ.out.2.2.2.1]); rintro e wx ⟨rfl, hb⟩; have hb2 := HB.out.trans (hb.mono HB.out.size); clear HB hb; have HB := Lib.hid hb2; clear hb2))
          go_ret
          exact ⟨by first | rfl | simp, HB.out⟩
        | true =>
          have HC := Lib.hid (And.intro hca (And.intro hcb (HJ.out.2.2.2.2 c hca hcb)))
          clear hca hcb
          go_enter Try.func6, Try.ntmps6
          go_wp2_with (first
            | (go_at_call 8; refine (HA.out _).mono ?_; rintro e wx ⟨rfl, hb⟩; have hb2 := HB.out.trans (hb.mono HB.out.size); clear HB hb; have HB := Lib.hid hb2; clear hb2)
            | (go_at_call 9; refine (HI.out.right _ _ (by first | exact HN.out.1 | exact HN.out.2.1 | exact HN.out.2.2 | exact num8)).mono ?_; (first | rw [HG.out.1] | rw [HG.out.2.1]); rintro e wx ⟨rfl, hb⟩; have hb2 := HB.out.trans (hb.mono HB.out.size); clear HB hb; have HB := Lib.hid hb2; clear hb2)
            | (go_at_call 12; refine (HI.out.cov _ _ _ (by first | exact HN.out.1 | exact HN.out.2.1 | exact HN.out.2.2 | exact num8 | exact HJ.out.1) (by first | exact HN.out.1 | exact HN.out.2.1 | exact HN.out.2.2 | exact num8 | exact HJ.out.1)).mono ?_; (first | rw [HG.out.2.2.1] | rw [HG.out.2.2.2] | rw [HC.out.1] | rw [HC.out.2.1]); rintro e wx ⟨rfl, hb⟩; have hb2 := HB.out.trans (hb.mono HB.out.size); clear HB hb; have HB := Lib.hid hb2; clear hb2)
            | (go_at_call 14; refine (HI.out.join _ _ _ (by first | exact HN.out.1 | exact HN.out.2.1 | exact HN.out.2.2 | exact num8) (by first | exact HN.out.1 | exact HN.out.2.1 | exact HN.out.2.2 | exact num8)).mono ?_; (first | rw [← HJ.out.2.1] | rw [← HJ.out.2.2.1] | rw [← HJ.out.2.2.2.1]); rintro e wx ⟨rfl, hb⟩; have hb2 := HB.out.trans (hb.mono HB.out.size); clear HB hb; have HB := Lib.hid hb2; clear hb2))
          go_loopw [8, 9] (fun nv mv wx => ∃ k : Nat, k ≤ 8 ∧ nv = .int .i64 (moreN j c k) ∧ mv = .int .i64 ((k + 1 : Nat) : Int) ∧ Below w.heap.size w wx) (fun _ v _ => 9 - (intOf v).toNat)
          case atStart => exact ⟨0, by omega, rfl, rfl, HB.out⟩
          case round =>
            obtain ⟨k, hk, rfl, rfl, hb⟩ := hrel
            obtain ⟨m, hm⟩ : ∃ m, m = k + 1 := ⟨_, rfl⟩
            obtain ⟨n, hn⟩ : ∃ n, n = moreN j c k := ⟨_, rfl⟩
            have hst := more_step (x := j) (y := c) hm
            have hle := more_le j c k
            rw [← hn] at hle hst
            rw [← hm, ← hn]
            have hm0 : (0 : Int) ≤ (m : Int) := Int.natCast_nonneg _
            have hn1 : -8 ≤ n := by omega
            have hn2 : n ≤ 8 := by omega
            have HK := Lib.hid (And.intro hm hn)
            clear HB
            have HB := Lib.hid hb
            clear hb hm hn hle
            by_cases hlt : m ≤ 8
            · have hlt1 : (m : Int) ≤ 8 := by omega
              have hltd : decide ((m : Int) ≤ 8) = true := decide_eq_true hlt1
              have HM := Lib.hid (num_m hlt)
              cases hx : cfB j (m : Int) with
              | false =>
                cases hy : cfB c (m : Int) with
                | false =>
                  have HQ := Lib.hid (show moreN j c (k + 1) = n by rw [hst, hx, hy]; simp)
                  have HX := Lib.hid (And.intro hx hy)
                  have w1 : wrap64 (n + 1) = n + 1 := by unfold wrap64; omega
                  have w2 : wrap64 (n - 1) = n - 1 := by unfold wrap64; omega
                  have w3 : wrap64 (n + 1 - 1) = n + 1 - 1 := by unfold wrap64; omega
                  have w4 : wrap64 n = n := by unfold wrap64; omega
                  clear hx hy hst
                  go_wp2_with (go_at_call 10; refine (HI.out.conf _ _ _ (by first | exact HJ.out.1 | exact HN.out.2.2 | exact HM.out) (by first | exact HJ.out.1 | exact HN.out.2.2 | exact HM.out)).mono ?_; (first | rw [HX.out.1] | rw [HX.out.2]); rintro e wx ⟨rfl, hb⟩; have hb2 := HB.out.trans (hb.mono HB.out.size); clear HB hb; have HB := Lib.hid hb2; clear hb2)
                  go_roundw
                  case rel => exact ⟨k + 1, by have := HK.out.1; omega, by first | (rw [HQ.out]; done) | (rw [HQ.out]; simp), by rw [← HK.out.1]; go_num, HB.out⟩
                  case measure => have := HK.out.1; simp [intOf]; omega
                | true =>
                  have HQ := Lib.hid (show moreN j c (k + 1) = n - 1 by rw [hst, hx, hy]; simp)
                  have HX := Lib.hid (And.intro hx hy)
                  have w1 : wrap64 (n + 1) = n + 1 := by unfold wrap64; omega
                  have w2 : wrap64 (n - 1) = n - 1 := by unfold wrap64; omega
                  have w3 : wrap64 (n + 1 - 1) = n + 1 - 1 := by unfold wrap64; omega
                  have w4 : wrap64 n = n := by unfold wrap64; omega
                  clear hx hy hst
                  go_wp2_with (go_at_call 10; refine (HI.out.conf _ _ _ (by first | exact HJ.out.1 | exact HN.out.2.2 | exact HM.out) (by first | exact HJ.out.1 | exact HN.out.2.2 | exact HM.out)).mono ?_; (first | rw [HX.out.1] | rw [HX.out.2]); rintro e wx ⟨rfl, hb⟩; have hb2 := HB.out.trans (hb.mono HB.out.size); clear HB hb; have HB := Lib.hid hb2; clear hb2)
                  go_roundw
                  case rel => exact ⟨k + 1, by have := HK.out.1; omega, by first | (rw [HQ.out]; done) | (rw [HQ.out]; simp), by rw [← HK.out.1]; go_num, HB.out⟩
                  case measure => have := HK.out.1; simp [intOf]; omega
              | true =>
                cases hy : cfB c (m : Int) with
                | false =>
                  have HQ := Lib.hid (show moreN j c (k + 1) = n + 1 by rw [hst, hx, hy]; simp)
                  have HX := Lib.hid (And.intro hx hy)
                  have w1 : wrap64 (n + 1) = n + 1 := by unfold wrap64; omega
                  have w2 : wrap64 (n - 1) = n - 1 := by unfold wrap64; omega
                  have w3 : wrap64 (n + 1 - 1) = n + 1 - 1 := by unfold wrap64; omega
                  have w4 : wrap64 n = n := by unfold wrap64; omega
                  clear hx hy hst
                  go_wp2_with (go_at_call 10; refine (HI.out.conf _ _ _ (by first | exact HJ.out.1 | exact HN.out.2.2 | exact HM.out) (by first | exact HJ.out.1 | exact HN.out.2.2 | exact HM.out)).mono ?_; (first | rw [HX.out.1] | rw [HX.out.2]); rintro e wx ⟨rfl, hb⟩; have hb2 := HB.out.trans (hb.mono HB.out.size); clear HB hb; have HB := Lib.hid hb2; clear hb2)
                  go_roundw
                  case rel => exact ⟨k + 1, by have := HK.out.1; omega, by first | (rw [HQ.out]; done) | (rw [HQ.out]; simp), by rw [← HK.out.1]; go_num, HB.out⟩
                  case measure => have := HK.out.1; simp [intOf]; omega
                | true =>
                  have HQ := Lib.hid (show moreN j c (k + 1) = n + 1 - 1 by rw [hst, hx, hy]; simp)
                  have HX := Lib.hid (And.intro hx hy)
                  have w1 : wrap64 (n + 1) = n + 1 := by unfold wrap64; omega
                  have w2 : wrap64 (n - 1) = n - 1 := by unfold wrap64; omega
                  have w3 : wrap64 (n + 1 - 1) = n + 1 - 1 := by unfold wrap64; omega
                  have w4 : wrap64 n = n := by unfold wrap64; omega
                  clear hx hy hst
                  go_wp2_with (go_at_call 10; refine (HI.out.conf _ _ _ (by first | exact HJ.out.1 | exact HN.out.2.2 | exact HM.out) (by first | exact HJ.out.1 | exact HN.out.2.2 | exact HM.out)).mono ?_; (first | rw [HX.out.1] | rw [HX.out.2]); rintro e wx ⟨rfl, hb⟩; have hb2 := HB.out.trans (hb.mono HB.out.size); clear HB hb; have HB := Lib.hid hb2; clear hb2)
                  go_roundw
                  case rel => exact ⟨k + 1, by have := HK.out.1; omega, by first | (rw [HQ.out]; done) | (rw [HQ.out]; simp), by rw [← HK.out.1]; go_num, HB.out⟩
                  case measure => have := HK.out.1; simp [intOf]; omega
            · have hlt1 : ¬ (m : Int) ≤ 8 := by omega
              have hltd : decide ((m : Int) ≤ 8) = false := decide_eq_false hlt1
              have hn0 : n ≤ 0 := by
                have h8 : k = 8 := by have := HK.out.1; omega
                have := HC.out.2.2
                rw [HK.out.2, h8]
                exact this
              have hnd : decide (n ≤ 0) = true := decide_eq_true hn0
              clear hst
              go_wp2_with fail
              go_ret
              exact ⟨by first | rfl | simp, HB.out⟩
end Go.Proofs.Ytbkffcopahiilaa
