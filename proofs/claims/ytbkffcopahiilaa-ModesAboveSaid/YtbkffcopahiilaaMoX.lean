/-
  ModesWays over the contract.
-/
import Derived.Test.YtbkffcopahiilaaMoW
namespace Go.Proofs.Ytbkffcopahiilaa
open Go.RowKit Go.Lib

set_option maxRecDepth 100000 in
set_option maxHeartbeats 12800000 in
theorem mways_walk (I : Impl) (a b c : Int) (w : World) (ha : NumI a) (hb : NumI b) (hc : NumI c) : Says Try.prog 5 #[.int .i64 a, .int .i64 b, .int .i64 c] w (.bool true) := by
  have HI := Lib.hid I
  have HA := Lib.hid fun (w : World) => alive10_any I w
  have HN := Lib.hid (And.intro ha (And.intro hb hc))
  have HB := Lib.hid (Below.refl w.heap.size w)
  obtain ⟨x, hx⟩ : ∃ x, x = cfB a b := ⟨_, rfl⟩
  have HX := Lib.hid (And.intro hx (hx.trans (cf_sym a b)))
  clear hx ha hb hc I
  cases hp : cvB a b with
  | false =>
    cases hu : rgB a with
    | false =>
      have HG := Lib.hid (And.intro hp hu)
      clear hp hu
      go_enter Try.func5, Try.ntmps5
      go_wp2_with (first
        | (go_at_call 8; refine (HA.out _).mono ?_; rintro e wx ⟨rfl, hb⟩; have hb2 := HB.out.trans (hb.mono HB.out.size); clear HB hb; have HB := Lib.hid hb2; clear hb2)
        | (go_at_call 9; refine (HI.out.right _ _ (by first | exact HN.out.1 | exact HN.out.2.1 | exact HN.out.2.2 | exact num8)).mono ?_; (first | rw [HG.out.2]); rintro e wx ⟨rfl, hb⟩; have hb2 := HB.out.trans (hb.mono HB.out.size); clear HB hb; have HB := Lib.hid hb2; clear hb2)
        | (go_at_call 10; refine (HI.out.conf _ _ _ (by first | exact HN.out.1 | exact HN.out.2.1 | exact HN.out.2.2 | exact num8) (by first | exact HN.out.1 | exact HN.out.2.1 | exact HN.out.2.2 | exact num8)).mono ?_; (first | rw [← HX.out.1] | rw [← HX.out.2]); rintro e wx ⟨rfl, hb⟩; have hb2 := HB.out.trans (hb.mono HB.out.size); clear HB hb; have HB := Lib.hid hb2; clear hb2)
        | (go_at_call 12; refine (HI.out.cov _ _ _ (by first | exact HN.out.1 | exact HN.out.2.1 | exact HN.out.2.2 | exact num8) (by first | exact HN.out.1 | exact HN.out.2.1 | exact HN.out.2.2 | exact num8)).mono ?_; (first | rw [HG.out.1]); rintro e wx ⟨rfl, hb⟩; have hb2 := HB.out.trans (hb.mono HB.out.size); clear HB hb; have HB := Lib.hid hb2; clear hb2))
      go_ret
      exact ⟨by first | rfl | simp, HB.out⟩
    | true =>
      have HG := Lib.hid (And.intro hp (And.intro hu (cv_rf hu)))
      clear hp hu
      go_enter Try.func5, Try.ntmps5
      go_wp2_with (first
        | (go_at_call 8; refine (HA.out _).mono ?_; rintro e wx ⟨rfl, hb⟩; have hb2 := HB.out.trans (hb.mono HB.out.size); clear HB hb; have HB := Lib.hid hb2; clear hb2)
        | (go_at_call 9; refine (HI.out.right _ _ (by first | exact HN.out.1 | exact HN.out.2.1 | exact HN.out.2.2 | exact num8)).mono ?_; (first | rw [HG.out.2.1]); rintro e wx ⟨rfl, hb⟩; have hb2 := HB.out.trans (hb.mono HB.out.size); clear HB hb; have HB := Lib.hid hb2; clear hb2)
        | (go_at_call 10; refine (HI.out.conf _ _ _ (by first | exact HN.out.1 | exact HN.out.2.1 | exact HN.out.2.2 | exact num8) (by first | exact HN.out.1 | exact HN.out.2.1 | exact HN.out.2.2 | exact num8)).mono ?_; (first | rw [← HX.out.1] | rw [← HX.out.2]); rintro e wx ⟨rfl, hb⟩; have hb2 := HB.out.trans (hb.mono HB.out.size); clear HB hb; have HB := Lib.hid hb2; clear hb2)
        | (go_at_call 12; refine (HI.out.cov _ _ _ (by first | exact HN.out.1 | exact HN.out.2.1 | exact HN.out.2.2 | exact num8) (by first | exact HN.out.1 | exact HN.out.2.1 | exact HN.out.2.2 | exact num8)).mono ?_; (first | rw [HG.out.1] | rw [HG.out.2.2.1] | rw [HG.out.2.2.2]); rintro e wx ⟨rfl, hb⟩; have hb2 := HB.out.trans (hb.mono HB.out.size); clear HB hb; have HB := Lib.hid hb2; clear hb2))
      go_ret
      exact ⟨by first | rfl | simp, HB.out⟩
  | true =>
    have hu := cv_l hp
    have HG := Lib.hid (And.intro hp (And.intro hu (cv_rf hu)))
    cases hq : cfB b c with
    | false =>
      have HQ := Lib.hid hq
      cases hs : cvB b c with
      | false =>
        have HS := Lib.hid (And.intro hs trivial)
        clear hp hu hs hq
        go_enter Try.func5, Try.ntmps5
        go_wp2_with (first
          | (go_at_call 8; refine (HA.out _).mono ?_; rintro e wx ⟨rfl, hb⟩; have hb2 := HB.out.trans (hb.mono HB.out.size); clear HB hb; have HB := Lib.hid hb2; clear hb2)
          | (go_at_call 9; refine (HI.out.right _ _ (by first | exact HN.out.1 | exact HN.out.2.1 | exact HN.out.2.2 | exact num8)).mono ?_; (first | rw [HG.out.2.1]); rintro e wx ⟨rfl, hb⟩; have hb2 := HB.out.trans (hb.mono HB.out.size); clear HB hb; have HB := Lib.hid hb2; clear hb2)
          | (go_at_call 10; refine (HI.out.conf _ _ _ (by first | exact HN.out.1 | exact HN.out.2.1 | exact HN.out.2.2 | exact num8) (by first | exact HN.out.1 | exact HN.out.2.1 | exact HN.out.2.2 | exact num8)).mono ?_; (first | rw [← HX.out.1] | rw [← HX.out.2] | rw [HQ.out]); rintro e wx ⟨rfl, hb⟩; have hb2 := HB.out.trans (hb.mono HB.out.size); clear HB hb; have HB := Lib.hid hb2; clear hb2)
          | (go_at_call 12; refine (HI.out.cov _ _ _ (by first | exact HN.out.1 | exact HN.out.2.1 | exact HN.out.2.2 | exact num8) (by first | exact HN.out.1 | exact HN.out.2.1 | exact HN.out.2.2 | exact num8)).mono ?_; (first | rw [HG.out.1] | rw [HG.out.2.2.1] | rw [HG.out.2.2.2] | rw [HS.out.1]); rintro e wx ⟨rfl, hb⟩; have hb2 := HB.out.trans (hb.mono HB.out.size); clear HB hb; have HB := Lib.hid hb2; clear hb2))
        go_ret
        exact ⟨by first | rfl | simp, HB.out⟩
      | true =>
        have HS := Lib.hid (And.intro hs (cv_tr HG.out.1 hs))
        clear hp hu hs hq
        go_enter Try.func5, Try.ntmps5
        go_wp2_with (first
          | (go_at_call 8; refine (HA.out _).mono ?_; rintro e wx ⟨rfl, hb⟩; have hb2 := HB.out.trans (hb.mono HB.out.size); clear HB hb; have HB := Lib.hid hb2; clear hb2)
          | (go_at_call 9; refine (HI.out.right _ _ (by first | exact HN.out.1 | exact HN.out.2.1 | exact HN.out.2.2 | exact num8)).mono ?_; (first | rw [HG.out.2.1]); rintro e wx ⟨rfl, hb⟩; have hb2 := HB.out.trans (hb.mono HB.out.size); clear HB hb; have HB := Lib.hid hb2; clear hb2)
          | (go_at_call 10; refine (HI.out.conf _ _ _ (by first | exact HN.out.1 | exact HN.out.2.1 | exact HN.out.2.2 | exact num8) (by first | exact HN.out.1 | exact HN.out.2.1 | exact HN.out.2.2 | exact num8)).mono ?_; (first | rw [← HX.out.1] | rw [← HX.out.2] | rw [HQ.out]); rintro e wx ⟨rfl, hb⟩; have hb2 := HB.out.trans (hb.mono HB.out.size); clear HB hb; have HB := Lib.hid hb2; clear hb2)
          | (go_at_call 12; refine (HI.out.cov _ _ _ (by first | exact HN.out.1 | exact HN.out.2.1 | exact HN.out.2.2 | exact num8) (by first | exact HN.out.1 | exact HN.out.2.1 | exact HN.out.2.2 | exact num8)).mono ?_; (first | rw [HG.out.1] | rw [HG.out.2.2.1] | rw [HG.out.2.2.2] | rw [HS.out.1] | rw [HS.out.2]); rintro e wx ⟨rfl, hb⟩; have hb2 := HB.out.trans (hb.mono HB.out.size); clear HB hb; have HB := Lib.hid hb2; clear hb2))
        go_ret
        exact ⟨by first | rfl | simp, HB.out⟩
    | true =>
      have HQ := Lib.hid (And.intro hq (cv_cf HG.out.1 hq))
      cases hs : cvB b c with
      | false =>
        have HS := Lib.hid (And.intro hs trivial)
        clear hp hu hs hq
        go_enter Try.func5, Try.ntmps5
        go_wp2_with (first
          | (go_at_call 8; refine (HA.out _).mono ?_; rintro e wx ⟨rfl, hb⟩; have hb2 := HB.out.trans (hb.mono HB.out.size); clear HB hb; have HB := Lib.hid hb2; clear hb2)
          | (go_at_call 9; refine (HI.out.right _ _ (by first | exact HN.out.1 | exact HN.out.2.1 | exact HN.out.2.2 | exact num8)).mono ?_; (first | rw [HG.out.2.1]); rintro e wx ⟨rfl, hb⟩; have hb2 := HB.out.trans (hb.mono HB.out.size); clear HB hb; have HB := Lib.hid hb2; clear hb2)
          | (go_at_call 10; refine (HI.out.conf _ _ _ (by first | exact HN.out.1 | exact HN.out.2.1 | exact HN.out.2.2 | exact num8) (by first | exact HN.out.1 | exact HN.out.2.1 | exact HN.out.2.2 | exact num8)).mono ?_; (first | rw [← HX.out.1] | rw [← HX.out.2] | rw [HQ.out.1] | rw [HQ.out.2]); rintro e wx ⟨rfl, hb⟩; have hb2 := HB.out.trans (hb.mono HB.out.size); clear HB hb; have HB := Lib.hid hb2; clear hb2)
          | (go_at_call 12; refine (HI.out.cov _ _ _ (by first | exact HN.out.1 | exact HN.out.2.1 | exact HN.out.2.2 | exact num8) (by first | exact HN.out.1 | exact HN.out.2.1 | exact HN.out.2.2 | exact num8)).mono ?_; (first | rw [HG.out.1] | rw [HG.out.2.2.1] | rw [HG.out.2.2.2] | rw [HS.out.1]); rintro e wx ⟨rfl, hb⟩; have hb2 := HB.out.trans (hb.mono HB.out.size); clear HB hb; have HB := Lib.hid hb2; clear hb2))
        go_ret
        exact ⟨by first | rfl | simp, HB.out⟩
      | true =>
        have HS := Lib.hid (And.intro hs (cv_tr HG.out.1 hs))
        clear hp hu hs hq
        go_enter Try.func5, Try.ntmps5
        go_wp2_with (first
          | (go_at_call 8; refine (HA.out _).mono ?_; rintro e wx ⟨rfl, hb⟩; have hb2 := HB.out.trans (hb.mono HB.out.size); clear HB hb; have HB := Lib.hid hb2; clear hb2)
          | (go_at_call 9; refine (HI.out.right _ _ (by first | exact HN.out.1 | exact HN.out.2.1 | exact HN.out.2.2 | exact num8)).mono ?_; (first | rw [HG.out.2.1]); rintro e wx ⟨rfl, hb⟩; have hb2 := HB.out.trans (hb.mono HB.out.size); clear HB hb; have HB := Lib.hid hb2; clear hb2)
          | (go_at_call 10; refine (HI.out.conf _ _ _ (by first | exact HN.out.1 | exact HN.out.2.1 | exact HN.out.2.2 | exact num8) (by first | exact HN.out.1 | exact HN.out.2.1 | exact HN.out.2.2 | exact num8)).mono ?_; (first | rw [← HX.out.1] | rw [← HX.out.2] | rw [HQ.out.1] | rw [HQ.out.2]); rintro e wx ⟨rfl, hb⟩; have hb2 := HB.out.trans (hb.mono HB.out.size); clear HB hb; have HB := Lib.hid hb2; clear hb2)
          | (go_at_call 12; refine (HI.out.cov _ _ _ (by first | exact HN.out.1 | exact HN.out.2.1 | exact HN.out.2.2 | exact num8) (by first | exact HN.out.1 | exact HN.out.2.1 | exact HN.out.2.2 | exact num8)).mono ?_; (first | rw [HG.out.1] | rw [HG.out.2.2.1] | rw [HG.out.2.2.2] | rw [HS.out.1] | rw [HS.out.2]); rintro e wx ⟨rfl, hb⟩; have hb2 := HB.out.trans (hb.mono HB.out.size); clear HB hb; have HB := Lib.hid hb2; clear hb2))
        go_ret
        exact ⟨by first | rfl | simp, HB.out⟩
end Go.Proofs.Ytbkffcopahiilaa
