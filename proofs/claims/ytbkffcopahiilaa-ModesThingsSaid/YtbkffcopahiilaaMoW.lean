/-
  ModesTable and ModesWays over the contract.
-/
import Derived.Test.YtbkffcopahiilaaMoI
namespace Go.Proofs.Ytbkffcopahiilaa
open Go.RowKit Go.Lib

theorem num8 : NumI 8 := by unfold NumI; omega
set_option maxRecDepth 100000 in
set_option maxHeartbeats 12800000 in
theorem mtable_walk (I : Impl) (a b : Int) (w : World) (ha : NumI a) (hb : NumI b) : Says Try.prog 3 #[.int .i64 a, .int .i64 b] w (.bool true) := by
  have HI := Lib.hid I
  have HA := Lib.hid fun (w : World) => alive10_any I w
  have HR := Lib.hid (And.intro (fun (x y : Int) (w : World) => rconf_any x y w) (And.intro (fun (x y : Int) (w : World) => rcov_any x y w) fun (x y : Int) (w : World) => rjoin_any x y w))
  have HN := Lib.hid (And.intro ha hb)
  have HB := Lib.hid (Below.refl w.heap.size w)
  obtain ⟨x, hx⟩ : ∃ x, x = cfB a b := ⟨_, rfl⟩
  obtain ⟨y, hy⟩ : ∃ y, y = cvB a b := ⟨_, rfl⟩
  obtain ⟨z, hz⟩ : ∃ z, z = jnI a b := ⟨_, rfl⟩
  have HX := Lib.hid (And.intro hx (And.intro hy hz))
  clear hx hy hz ha hb I
  by_cases h1 : 1 ≤ a
  · have d1 : decide (1 ≤ a) = true := decide_eq_true h1
    by_cases h2 : a ≤ 8
    · have d2 : decide (a ≤ 8) = true := decide_eq_true h2
      have HG := Lib.hid (show rgB a = true by unfold rgB; rw [d1, d2]; rfl)
      go_enter Try.func3, Try.ntmps3
      go_wp2_with (first
        | (go_at_call 8; refine (HA.out _).mono ?_; rintro e wx ⟨rfl, hb⟩; have hb2 := HB.out.trans (hb.mono HB.out.size); clear HB hb; have HB := Lib.hid hb2; clear hb2)
        | (go_at_call 9; refine (HI.out.right _ _ (by first | exact HN.out.1 | exact HN.out.2)).mono ?_; (first | rw [HG.out]); rintro e wx ⟨rfl, hb⟩; have hb2 := HB.out.trans (hb.mono HB.out.size); clear HB hb; have HB := Lib.hid hb2; clear hb2)
        | (go_at_call 10; refine (HI.out.conf _ _ _ (by first | exact HN.out.1 | exact HN.out.2) (by first | exact HN.out.1 | exact HN.out.2)).mono ?_; (first | rw [← HX.out.1]); rintro e wx ⟨rfl, hb⟩; have hb2 := HB.out.trans (hb.mono HB.out.size); clear HB hb; have HB := Lib.hid hb2; clear hb2)
        | (go_at_call 12; refine (HI.out.cov _ _ _ (by first | exact HN.out.1 | exact HN.out.2) (by first | exact HN.out.1 | exact HN.out.2)).mono ?_; (first | rw [← HX.out.2.1]); rintro e wx ⟨rfl, hb⟩; have hb2 := HB.out.trans (hb.mono HB.out.size); clear HB hb; have HB := Lib.hid hb2; clear hb2)
        | (go_at_call 14; refine (HI.out.join _ _ _ (by first | exact HN.out.1 | exact HN.out.2) (by first | exact HN.out.1 | exact HN.out.2)).mono ?_; (first | rw [← HX.out.2.2]); rintro e wx ⟨rfl, hb⟩; have hb2 := HB.out.trans (hb.mono HB.out.size); clear HB hb; have HB := Lib.hid hb2; clear hb2)
        | (go_at_call 11; refine (HR.out.1 _ _ _).mono ?_; (first | rw [← HX.out.1]); rintro e wx ⟨rfl, hb⟩; have hb2 := HB.out.trans (hb.mono HB.out.size); clear HB hb; have HB := Lib.hid hb2; clear hb2)
        | (go_at_call 13; refine (HR.out.2.1 _ _ _).mono ?_; (first | rw [← HX.out.2.1]); rintro e wx ⟨rfl, hb⟩; have hb2 := HB.out.trans (hb.mono HB.out.size); clear HB hb; have HB := Lib.hid hb2; clear hb2)
        | (go_at_call 15; refine (HR.out.2.2 _ _ _).mono ?_; (first | rw [← HX.out.2.2]); rintro e wx ⟨rfl, hb⟩; have hb2 := HB.out.trans (hb.mono HB.out.size); clear HB hb; have HB := Lib.hid hb2; clear hb2))
      go_ret
      exact ⟨by first | rfl | simp, HB.out⟩
    · have d2 : decide (a ≤ 8) = false := decide_eq_false h2
      have HG := Lib.hid (show rgB a = false by unfold rgB; rw [d1, d2]; rfl)
      go_enter Try.func3, Try.ntmps3
      go_wp2_with (first
        | (go_at_call 8; refine (HA.out _).mono ?_; rintro e wx ⟨rfl, hb⟩; have hb2 := HB.out.trans (hb.mono HB.out.size); clear HB hb; have HB := Lib.hid hb2; clear hb2)
        | (go_at_call 9; refine (HI.out.right _ _ (by first | exact HN.out.1 | exact HN.out.2)).mono ?_; (first | rw [HG.out]); rintro e wx ⟨rfl, hb⟩; have hb2 := HB.out.trans (hb.mono HB.out.size); clear HB hb; have HB := Lib.hid hb2; clear hb2)
        | (go_at_call 10; refine (HI.out.conf _ _ _ (by first | exact HN.out.1 | exact HN.out.2) (by first | exact HN.out.1 | exact HN.out.2)).mono ?_; (first | rw [← HX.out.1]); rintro e wx ⟨rfl, hb⟩; have hb2 := HB.out.trans (hb.mono HB.out.size); clear HB hb; have HB := Lib.hid hb2; clear hb2)
        | (go_at_call 12; refine (HI.out.cov _ _ _ (by first | exact HN.out.1 | exact HN.out.2) (by first | exact HN.out.1 | exact HN.out.2)).mono ?_; (first | rw [← HX.out.2.1]); rintro e wx ⟨rfl, hb⟩; have hb2 := HB.out.trans (hb.mono HB.out.size); clear HB hb; have HB := Lib.hid hb2; clear hb2)
        | (go_at_call 14; refine (HI.out.join _ _ _ (by first | exact HN.out.1 | exact HN.out.2) (by first | exact HN.out.1 | exact HN.out.2)).mono ?_; (first | rw [← HX.out.2.2]); rintro e wx ⟨rfl, hb⟩; have hb2 := HB.out.trans (hb.mono HB.out.size); clear HB hb; have HB := Lib.hid hb2; clear hb2)
        | (go_at_call 11; refine (HR.out.1 _ _ _).mono ?_; (first | rw [← HX.out.1]); rintro e wx ⟨rfl, hb⟩; have hb2 := HB.out.trans (hb.mono HB.out.size); clear HB hb; have HB := Lib.hid hb2; clear hb2)
        | (go_at_call 13; refine (HR.out.2.1 _ _ _).mono ?_; (first | rw [← HX.out.2.1]); rintro e wx ⟨rfl, hb⟩; have hb2 := HB.out.trans (hb.mono HB.out.size); clear HB hb; have HB := Lib.hid hb2; clear hb2)
        | (go_at_call 15; refine (HR.out.2.2 _ _ _).mono ?_; (first | rw [← HX.out.2.2]); rintro e wx ⟨rfl, hb⟩; have hb2 := HB.out.trans (hb.mono HB.out.size); clear HB hb; have HB := Lib.hid hb2; clear hb2))
      go_ret
      exact ⟨by first | rfl | simp, HB.out⟩
  · have d1 : decide (1 ≤ a) = false := decide_eq_false h1
    have HG := Lib.hid (show rgB a = false by unfold rgB; rw [d1]; rfl)
    go_enter Try.func3, Try.ntmps3
    go_wp2_with (first
      | (go_at_call 8; refine (HA.out _).mono ?_; rintro e wx ⟨rfl, hb⟩; have hb2 := HB.out.trans (hb.mono HB.out.size); clear HB hb; have HB := Lib.hid hb2; clear hb2)
      | (go_at_call 9; refine (HI.out.right _ _ (by first | exact HN.out.1 | exact HN.out.2)).mono ?_; (first | rw [HG.out]); rintro e wx ⟨rfl, hb⟩; have hb2 := HB.out.trans (hb.mono HB.out.size); clear HB hb; have HB := Lib.hid hb2; clear hb2)
      | (go_at_call 10; refine (HI.out.conf _ _ _ (by first | exact HN.out.1 | exact HN.out.2) (by first | exact HN.out.1 | exact HN.out.2)).mono ?_; (first | rw [← HX.out.1]); rintro e wx ⟨rfl, hb⟩; have hb2 := HB.out.trans (hb.mono HB.out.size); clear HB hb; have HB := Lib.hid hb2; clear hb2)
      | (go_at_call 12; refine (HI.out.cov _ _ _ (by first | exact HN.out.1 | exact HN.out.2) (by first | exact HN.out.1 | exact HN.out.2)).mono ?_; (first | rw [← HX.out.2.1]); rintro e wx ⟨rfl, hb⟩; have hb2 := HB.out.trans (hb.mono HB.out.size); clear HB hb; have HB := Lib.hid hb2; clear hb2)
      | (go_at_call 14; refine (HI.out.join _ _ _ (by first | exact HN.out.1 | exact HN.out.2) (by first | exact HN.out.1 | exact HN.out.2)).mono ?_; (first | rw [← HX.out.2.2]); rintro e wx ⟨rfl, hb⟩; have hb2 := HB.out.trans (hb.mono HB.out.size); clear HB hb; have HB := Lib.hid hb2; clear hb2)
      | (go_at_call 11; refine (HR.out.1 _ _ _).mono ?_; (first | rw [← HX.out.1]); rintro e wx ⟨rfl, hb⟩; have hb2 := HB.out.trans (hb.mono HB.out.size); clear HB hb; have HB := Lib.hid hb2; clear hb2)
      | (go_at_call 13; refine (HR.out.2.1 _ _ _).mono ?_; (first | rw [← HX.out.2.1]); rintro e wx ⟨rfl, hb⟩; have hb2 := HB.out.trans (hb.mono HB.out.size); clear HB hb; have HB := Lib.hid hb2; clear hb2)
      | (go_at_call 15; refine (HR.out.2.2 _ _ _).mono ?_; (first | rw [← HX.out.2.2]); rintro e wx ⟨rfl, hb⟩; have hb2 := HB.out.trans (hb.mono HB.out.size); clear HB hb; have HB := Lib.hid hb2; clear hb2))
    go_ret
    exact ⟨by first | rfl | simp, HB.out⟩
end Go.Proofs.Ytbkffcopahiilaa
