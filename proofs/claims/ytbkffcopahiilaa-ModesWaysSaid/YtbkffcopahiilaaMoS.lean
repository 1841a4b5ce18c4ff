/-
  The document's modes: Covers, Join.
-/
import Derived.Test.YtbkffcopahiilaaMoR
namespace Go.Proofs.Ytbkffcopahiilaa
open Go.RowKit Go.Lib

theorem cvN_down {a b : Int} : ∀ (j k : Nat), cvN a b k = false → cvN a b (k + j) = false
  | 0, _, h => h
  | j + 1, k, h => by rw [← Nat.add_assoc, cvN, cvN_down j k h, Bool.false_and]
theorem cvN_no {a b : Int} {k : Nat} (hk : k < 8) (hx : cfB b ((k + 1 : Nat) : Int) = true) (hy : cfB a ((k + 1 : Nat) : Int) = false) : cvN a b 8 = false := by
  have h : cvN a b (k + 1) = false := by rw [cvN, hx, hy]; simp
  have h2 := cvN_down (8 - (k + 1)) (k + 1) h
  rwa [show k + 1 + (8 - (k + 1)) = 8 by omega] at h2
theorem cvN_yes {a b : Int} {k : Nat} (h : cvN a b k = true) (hc : cfB b ((k + 1 : Nat) : Int) = false ∨ cfB a ((k + 1 : Nat) : Int) = true) : cvN a b (k + 1) = true := by
  rw [cvN, h]
  rcases hc with hc | hc <;> rw [hc] <;> simp
set_option maxRecDepth 100000 in
set_option maxHeartbeats 6400000 in
theorem rcov_any (a b : Int) (w : World) : Says Try.prog 13 #[.int .i64 a, .int .i64 b] w (.bool (cvB a b)) := by
  have hco := fun (x y : Int) (w : World) => rconf_any x y w
  have hri := fun (x : Int) (w : World) => rright_any x w
  have HC := Lib.hid (And.intro hco hri)
  have HB := Lib.hid (Below.refl w.heap.size w)
  clear hco hri
  cases h1 : rgB a with
  | false =>
    rw [cv_out (.inl h1)]
    have HR := Lib.hid h1
    clear h1
    go_enter Try.func13, Try.ntmps13
    go_wp2_with (go_at_call 23; refine (HC.out.2 _ _).mono ?_; (first | rw [HR.out]); rintro e w1 ⟨rfl, hb⟩; have hb2 := HB.out.trans (hb.mono HB.out.size); clear HB hb; have HB := Lib.hid hb2; clear hb2)
    go_ret
    exact ⟨rfl, HB.out⟩
  | true =>
    cases h2 : rgB b with
    | false =>
      rw [cv_out (.inr h2)]
      have HR := Lib.hid (And.intro h1 h2)
      clear h1 h2
      go_enter Try.func13, Try.ntmps13
      go_wp2_with (go_at_call 23; refine (HC.out.2 _ _).mono ?_; (first | rw [HR.out.1] | rw [HR.out.2]); rintro e w1 ⟨rfl, hb⟩; have hb2 := HB.out.trans (hb.mono HB.out.size); clear HB hb; have HB := Lib.hid hb2; clear hb2)
      go_ret
      exact ⟨rfl, HB.out⟩
    | true =>
      obtain ⟨r, hr⟩ : ∃ r, r = cvN a b 8 := ⟨_, rfl⟩
      have hcv : cvB a b = r := by unfold cvB; rw [h1, h2, hr]; rfl
      rw [hcv]
      have HR := Lib.hid (And.intro h1 (And.intro h2 hr))
      clear h1 h2 hcv hr
      go_enter Try.func13, Try.ntmps13
      go_wp2_with (go_at_call 23; refine (HC.out.2 _ _).mono ?_; (first | rw [HR.out.1] | rw [HR.out.2.1]); rintro e w1 ⟨rfl, hb⟩; have hb2 := HB.out.trans (hb.mono HB.out.size); clear HB hb; have HB := Lib.hid hb2; clear hb2)
      go_loopw [5] (fun v wx => ∃ k : Nat, k ≤ 8 ∧ v = .int .i64 ((k + 1 : Nat) : Int) ∧ cvN a b k = true ∧ Below w.heap.size w wx) (fun v _ => 9 - (intOf v).toNat)
      case atStart => exact ⟨0, by omega, rfl, rfl, HB.out⟩
      case round =>
        obtain ⟨k, hk, rfl, hcv, hb⟩ := hrel
        obtain ⟨m, hm⟩ : ∃ m, m = k + 1 := ⟨_, rfl⟩
        rw [← hm]
        have hm0 : (0 : Int) ≤ (m : Int) := Int.natCast_nonneg _
        have HK := Lib.hid (And.intro hcv hm)
        have HB := Lib.hid hb
        clear hcv hb
        by_cases hlt : m ≤ 8
        · have hlt1 : (m : Int) ≤ 8 := by omega
          have hltd : decide ((m : Int) ≤ 8) = true := decide_eq_true hlt1
          have hxx : cfB b ((k + 1 : Nat) : Int) = cfB b (m : Int) := by rw [hm]
          have hyy : cfB a ((k + 1 : Nat) : Int) = cfB a (m : Int) := by rw [hm]
          clear hm
          cases hx : cfB b (m : Int) with
          | false =>
            have HX := Lib.hid (And.intro hx (cvN_yes HK.out.1 (.inl (hxx.trans hx))))
            clear hx hxx hyy
            go_wp2_with (go_at_call 11; refine (HC.out.1 _ _ _).mono ?_; (first | rw [HX.out.1]); rintro e w1 ⟨rfl, hb⟩; have hb2 := HB.out.trans (hb.mono HB.out.size); clear HB hb; have HB := Lib.hid hb2; clear hb2)
            go_roundw
            case rel => exact ⟨k + 1, by have := HK.out.2; omega, by rw [← HK.out.2]; go_num, HX.out.2, HB.out⟩
            case measure => have := HK.out.2; simp [intOf]; omega
          | true =>
            cases hy : cfB a (m : Int) with
            | true =>
              have HX := Lib.hid (And.intro hx (And.intro hy (cvN_yes HK.out.1 (.inr (hyy.trans hy)))))
              clear hx hy hxx hyy
              go_wp2_with (go_at_call 11; refine (HC.out.1 _ _ _).mono ?_; (first | rw [HX.out.1] | rw [HX.out.2.1]); rintro e w1 ⟨rfl, hb⟩; have hb2 := HB.out.trans (hb.mono HB.out.size); clear HB hb; have HB := Lib.hid hb2; clear hb2)
              go_roundw
              case rel => exact ⟨k + 1, by have := HK.out.2; omega, by rw [← HK.out.2]; go_num, HX.out.2.2, HB.out⟩
              case measure => have := HK.out.2; simp [intOf]; omega
            | false =>
              have HX := Lib.hid (And.intro hx (And.intro hy (HR.out.2.2.trans (cvN_no (by have := HK.out.2; omega) (hxx.trans hx) (hyy.trans hy)))))
              clear hx hy hxx hyy
              go_wp2_with (go_at_call 11; refine (HC.out.1 _ _ _).mono ?_; (first | rw [HX.out.1] | rw [HX.out.2.1]); rintro e w1 ⟨rfl, hb⟩; have hb2 := HB.out.trans (hb.mono HB.out.size); clear HB hb; have HB := Lib.hid hb2; clear hb2)
              go_ret
              exact ⟨by rw [HX.out.2.2]; rfl, HB.out⟩
        · have hlt1 : ¬ (m : Int) ≤ 8 := by omega
          have hltd : decide ((m : Int) ≤ 8) = false := decide_eq_false hlt1
          clear hm
          have HF := Lib.hid (show r = true by rw [HR.out.2.2, ← HK.out.1, show k = 8 by have := HK.out.2; omega])
          go_wp2_with fail
          go_ret
          exact ⟨by rw [HF.out]; rfl, HB.out⟩
end Go.Proofs.Ytbkffcopahiilaa
