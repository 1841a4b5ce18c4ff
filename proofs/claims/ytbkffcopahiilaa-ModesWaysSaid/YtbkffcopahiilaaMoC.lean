/-
  The landed modes: Covers, fewer, Join.
-/
import Derived.Test.YtbkffcopahiilaaMoB
namespace Go.Proofs.Ytbkffcopahiilaa
open Go.RowKit Go.Lib

set_option maxRecDepth 100000 in
set_option maxHeartbeats 6400000 in
theorem cov_any (a b : Int) (w : World) : Says Try.prog 12 #[.int .i64 a, .int .i64 b] w (.bool (cvB a b)) := by
  have HC := Lib.hid (And.intro conflicts_any right_any)
  have HB := Lib.hid (Below.refl w.heap.size w)
  cases h1 : rgB a with
  | false =>
    rw [cv_out (.inl h1)]
    have HR := Lib.hid h1
    clear h1
    go_enter Try.func12, Try.ntmps12
    go_wp2_with (go_at_call 9; refine (HC.out.2 _ _).mono ?_; (first | rw [HR.out]); rintro e w1 ⟨rfl, hb⟩; have hb2 := HB.out.trans (hb.mono HB.out.size); clear HB hb; have HB := Lib.hid hb2; clear hb2)
    go_ret
    exact ⟨rfl, HB.out⟩
  | true =>
    cases h2 : rgB b with
    | false =>
      rw [cv_out (.inr h2)]
      have HR := Lib.hid (And.intro h1 h2)
      clear h1 h2
      go_enter Try.func12, Try.ntmps12
      go_wp2_with (go_at_call 9; refine (HC.out.2 _ _).mono ?_; (first | rw [HR.out.1] | rw [HR.out.2]); rintro e w1 ⟨rfl, hb⟩; have hb2 := HB.out.trans (hb.mono HB.out.size); clear HB hb; have HB := Lib.hid hb2; clear hb2)
      go_ret
      exact ⟨rfl, HB.out⟩
    | true =>
      obtain ⟨p, hp⟩ : ∃ p, p = cB a := ⟨_, rfl⟩
      obtain ⟨q, hq⟩ : ∃ q, q = cB b := ⟨_, rfl⟩
      have hh := cov_bits0 a (rg_dom h1) b (rg_dom h2)
      have hcv : cvB a b = cvN a b 8 := by unfold cvB; rw [h1, h2]; rfl
      rw [hcv]
      rw [← hp, ← hq] at hh
      have HR := Lib.hid (And.intro h1 (And.intro h2 (And.intro hp (And.intro hq hh))))
      clear h1 h2 hcv hp hq hh
      go_enter Try.func12, Try.ntmps12
      go_wp2_with (first
        | (go_at_call 9; refine (HC.out.2 _ _).mono ?_; (first | rw [HR.out.1] | rw [HR.out.2.1]); rintro e w1 ⟨rfl, hb⟩; have hb2 := HB.out.trans (hb.mono HB.out.size); clear HB hb; have HB := Lib.hid hb2; clear hb2)
        | (go_at_call 20; refine (HC.out.1 _ _).mono ?_; (first | rw [← HR.out.2.2.1] | rw [← HR.out.2.2.2.1]); rintro e w1 ⟨rfl, hb⟩; have hb2 := HB.out.trans (hb.mono HB.out.size); clear HB hb; have HB := Lib.hid hb2; clear hb2))
      go_ret
      exact ⟨by rw [← HR.out.2.2.2.2]; rfl, HB.out⟩
set_option maxRecDepth 100000 in
theorem pop_0 (w : World) : Says Try.prog 26 #[.int .u64 0] w (.int .i64 0) := by
  have HP : Hid (∀ w : World, Says Try.prog 29 #[.int .u64 0] w (.int .i64 0)) := Lib.hid (by
    intro w
    go_enter Try.func29, Try.ntmps29
    go_wp2_with fail
    go_ret
    exact ⟨by kernel_rfl, Below.refl _ _⟩)
  go_enter Try.func26, Try.ntmps26
  go_wp2_with (go_at_call 29; refine (HP.out _).mono ?_; rintro e w1 ⟨rfl, hb⟩; have HB := Lib.hid hb; clear hb)
  go_ret
  exact ⟨rfl, HB.out⟩
set_option maxRecDepth 100000 in
theorem pop_320 (w : World) : Says Try.prog 26 #[.int .u64 320] w (.int .i64 2) := by
  have HP : Hid (∀ w : World, Says Try.prog 29 #[.int .u64 320] w (.int .i64 2)) := Lib.hid (by
    intro w
    go_enter Try.func29, Try.ntmps29
    go_wp2_with fail
    go_ret
    exact ⟨by kernel_rfl, Below.refl _ _⟩)
  go_enter Try.func26, Try.ntmps26
  go_wp2_with (go_at_call 29; refine (HP.out _).mono ?_; rintro e w1 ⟨rfl, hb⟩; have HB := Lib.hid hb; clear hb)
  go_ret
  exact ⟨rfl, HB.out⟩
set_option maxRecDepth 100000 in
theorem pop_360 (w : World) : Says Try.prog 26 #[.int .u64 360] w (.int .i64 4) := by
  have HP : Hid (∀ w : World, Says Try.prog 29 #[.int .u64 360] w (.int .i64 4)) := Lib.hid (by
    intro w
    go_enter Try.func29, Try.ntmps29
    go_wp2_with fail
    go_ret
    exact ⟨by kernel_rfl, Below.refl _ _⟩)
  go_enter Try.func26, Try.ntmps26
  go_wp2_with (go_at_call 29; refine (HP.out _).mono ?_; rintro e w1 ⟨rfl, hb⟩; have HB := Lib.hid hb; clear hb)
  go_ret
  exact ⟨rfl, HB.out⟩
set_option maxRecDepth 100000 in
theorem pop_356 (w : World) : Says Try.prog 26 #[.int .u64 356] w (.int .i64 4) := by
  have HP : Hid (∀ w : World, Says Try.prog 29 #[.int .u64 356] w (.int .i64 4)) := Lib.hid (by
    intro w
    go_enter Try.func29, Try.ntmps29
    go_wp2_with fail
    go_ret
    exact ⟨by kernel_rfl, Below.refl _ _⟩)
  go_enter Try.func26, Try.ntmps26
  go_wp2_with (go_at_call 29; refine (HP.out _).mono ?_; rintro e w1 ⟨rfl, hb⟩; have HB := Lib.hid hb; clear hb)
  go_ret
  exact ⟨rfl, HB.out⟩
set_option maxRecDepth 100000 in
theorem pop_336 (w : World) : Says Try.prog 26 #[.int .u64 336] w (.int .i64 3) := by
  have HP : Hid (∀ w : World, Says Try.prog 29 #[.int .u64 336] w (.int .i64 3)) := Lib.hid (by
    intro w
    go_enter Try.func29, Try.ntmps29
    go_wp2_with fail
    go_ret
    exact ⟨by kernel_rfl, Below.refl _ _⟩)
  go_enter Try.func26, Try.ntmps26
  go_wp2_with (go_at_call 29; refine (HP.out _).mono ?_; rintro e w1 ⟨rfl, hb⟩; have HB := Lib.hid hb; clear hb)
  go_ret
  exact ⟨rfl, HB.out⟩
set_option maxRecDepth 100000 in
theorem pop_364 (w : World) : Says Try.prog 26 #[.int .u64 364] w (.int .i64 5) := by
  have HP : Hid (∀ w : World, Says Try.prog 29 #[.int .u64 364] w (.int .i64 5)) := Lib.hid (by
    intro w
    go_enter Try.func29, Try.ntmps29
    go_wp2_with fail
    go_ret
    exact ⟨by kernel_rfl, Below.refl _ _⟩)
  go_enter Try.func26, Try.ntmps26
  go_wp2_with (go_at_call 29; refine (HP.out _).mono ?_; rintro e w1 ⟨rfl, hb⟩; have HB := Lib.hid hb; clear hb)
  go_ret
  exact ⟨rfl, HB.out⟩
set_option maxRecDepth 100000 in
theorem pop_382 (w : World) : Says Try.prog 26 #[.int .u64 382] w (.int .i64 7) := by
  have HP : Hid (∀ w : World, Says Try.prog 29 #[.int .u64 382] w (.int .i64 7)) := Lib.hid (by
    intro w
    go_enter Try.func29, Try.ntmps29
    go_wp2_with fail
    go_ret
    exact ⟨by kernel_rfl, Below.refl _ _⟩)
  go_enter Try.func26, Try.ntmps26
  go_wp2_with (go_at_call 29; refine (HP.out _).mono ?_; rintro e w1 ⟨rfl, hb⟩; have HB := Lib.hid hb; clear hb)
  go_ret
  exact ⟨rfl, HB.out⟩
set_option maxRecDepth 100000 in
theorem pop_256 (w : World) : Says Try.prog 26 #[.int .u64 256] w (.int .i64 1) := by
  have HP : Hid (∀ w : World, Says Try.prog 29 #[.int .u64 256] w (.int .i64 1)) := Lib.hid (by
    intro w
    go_enter Try.func29, Try.ntmps29
    go_wp2_with fail
    go_ret
    exact ⟨by kernel_rfl, Below.refl _ _⟩)
  go_enter Try.func26, Try.ntmps26
  go_wp2_with (go_at_call 29; refine (HP.out _).mono ?_; rintro e w1 ⟨rfl, hb⟩; have HB := Lib.hid hb; clear hb)
  go_ret
  exact ⟨rfl, HB.out⟩
set_option maxRecDepth 100000 in
theorem pop_510 (w : World) : Says Try.prog 26 #[.int .u64 510] w (.int .i64 8) := by
  have HP : Hid (∀ w : World, Says Try.prog 29 #[.int .u64 510] w (.int .i64 8)) := Lib.hid (by
    intro w
    go_enter Try.func29, Try.ntmps29
    go_wp2_with fail
    go_ret
    exact ⟨by kernel_rfl, Below.refl _ _⟩)
  go_enter Try.func26, Try.ntmps26
  go_wp2_with (go_at_call 29; refine (HP.out _).mono ?_; rintro e w1 ⟨rfl, hb⟩; have HB := Lib.hid hb; clear hb)
  go_ret
  exact ⟨rfl, HB.out⟩
theorem pop_any (m : Int) (w : World) : Says Try.prog 26 #[.int .u64 (cB m : Nat)] w (.int .i64 (rowM m).length) := by
  cases h : rgB m with
  | false => rw [cB_out h, row_out h]; exact pop_0 w
  | true =>
    have hd := rg_dom h
    unfold dom at hd
    simp only [List.mem_cons, List.not_mem_nil, or_false] at hd
    rcases hd with rfl | rfl | rfl | rfl | rfl | rfl | rfl | rfl
    · exact pop_320 w
    · exact pop_360 w
    · exact pop_356 w
    · exact pop_336 w
    · exact pop_364 w
    · exact pop_382 w
    · exact pop_256 w
    · exact pop_510 w
set_option maxRecDepth 100000 in
set_option maxHeartbeats 3200000 in
theorem fewer_any (a b : Int) (w : World) : Says Try.prog 24 #[.int .i64 a, .int .i64 b] w (.bool (decide ((rowM a).length < (rowM b).length))) := by
  have HC := Lib.hid (And.intro conflicts_any pop_any)
  have HB := Lib.hid (Below.refl w.heap.size w)
  obtain ⟨p, hp⟩ : ∃ p, p = (rowM a).length := ⟨_, rfl⟩
  obtain ⟨q, hq⟩ : ∃ q, q = (rowM b).length := ⟨_, rfl⟩
  obtain ⟨x, hx⟩ : ∃ x, x = cB a := ⟨_, rfl⟩
  obtain ⟨y, hy⟩ : ∃ y, y = cB b := ⟨_, rfl⟩
  rw [← hp, ← hq]
  have HX := Lib.hid (show ∀ w, Says Try.prog 26 #[.int .u64 (x : Int)] w (.int .i64 (p : Int)) from by rw [hx, hp]; exact pop_any a)
  have HY := Lib.hid (show ∀ w, Says Try.prog 26 #[.int .u64 (y : Int)] w (.int .i64 (q : Int)) from by rw [hy, hq]; exact pop_any b)
  have HR := Lib.hid (And.intro hx hy)
  clear hx hy hp hq
  go_enter Try.func24, Try.ntmps24
  go_wp2_with (first
    | (go_at_call 26; (first | refine (HX.out _).mono ?_; clear HX | refine (HY.out _).mono ?_); rintro e w1 ⟨rfl, hb⟩; have hb2 := HB.out.trans (hb.mono HB.out.size); clear HB hb; have HB := Lib.hid hb2; clear hb2)
    | (go_at_call 20; refine (HC.out.1 _ _).mono ?_; (first | rw [← HR.out.1] | rw [← HR.out.2]); rintro e w1 ⟨rfl, hb⟩; have hb2 := HB.out.trans (hb.mono HB.out.size); clear HB hb; have HB := Lib.hid hb2; clear hb2))
  go_ret
  exact ⟨by first | rfl | (simp; rfl) | trace_state, HB.out⟩
end Go.Proofs.Ytbkffcopahiilaa
