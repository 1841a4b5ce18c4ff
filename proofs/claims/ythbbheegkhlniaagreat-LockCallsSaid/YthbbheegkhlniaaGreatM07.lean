/-
  The landed modes: Covers, fewer, Join.
-/
import Derived.Test.YthbbheegkhlniaaGreatM06
import Derived.Shelf.SlicesQ.IndexFunc
namespace Go.Proofs.YthbbheegkhlniaaGreat
open Go.RowKit Go.Lib

set_option maxRecDepth 100000 in
set_option maxHeartbeats 6400000 in
theorem cov_any (a b : Int) (w : World) : Says Tryz.prog 30 #[.int .i64 a, .int .i64 b] w (.bool (cvB a b)) := by
  have HC := Lib.hid (And.intro conflicts_any right_any)
  have HB := Lib.hid (Below.refl w.heap.size w)
  cases h1 : rgB a with
  | false =>
    rw [cv_out (.inl h1)]
    have HR := Lib.hid h1
    clear h1
    go_enter Tryz.func30, Tryz.ntmps30
    go_wp2_with (go_at_call 27; refine (HC.out.2 _ _).mono ?_; (first | rw [HR.out]); rintro e w1 ⟨rfl, hb⟩; have hb2 := HB.out.trans (hb.mono HB.out.size); clear HB hb; have HB := Lib.hid hb2; clear hb2)
    go_ret
    exact ⟨rfl, HB.out⟩
  | true =>
    cases h2 : rgB b with
    | false =>
      rw [cv_out (.inr h2)]
      have HR := Lib.hid (And.intro h1 h2)
      clear h1 h2
      go_enter Tryz.func30, Tryz.ntmps30
      go_wp2_with (go_at_call 27; refine (HC.out.2 _ _).mono ?_; (first | rw [HR.out.1] | rw [HR.out.2]); rintro e w1 ⟨rfl, hb⟩; have hb2 := HB.out.trans (hb.mono HB.out.size); clear HB hb; have HB := Lib.hid hb2; clear hb2)
      go_ret
      exact ⟨rfl, HB.out⟩
    | true =>
      obtain ⟨p, hp⟩ : ∃ p, p = cB a := ⟨_, rfl⟩
      obtain ⟨q, hq⟩ : ∃ q, q = cB b := ⟨_, rfl⟩
      have hh := cov_bits0 a (rg_dom h1) b (rg_dom h2)
      have hcv : cvB a b = cvN a b 8 := by unfold cvB; rw [h1, h2]; rfl
      rw [hcv]
      rw [← hp, ← hq] at hh
      have HR := Lib.hid (And.intro h1 (And.intro h2 (And.intro hp (And.intro hq hh))))
      clear h1 h2 hcv hp hq hh
      go_enter Tryz.func30, Tryz.ntmps30
      go_wp2_with (first
        | (go_at_call 27; refine (HC.out.2 _ _).mono ?_; (first | rw [HR.out.1] | rw [HR.out.2.1]); rintro e w1 ⟨rfl, hb⟩; have hb2 := HB.out.trans (hb.mono HB.out.size); clear HB hb; have HB := Lib.hid hb2; clear hb2)
        | (go_at_call 60; refine (HC.out.1 _ _).mono ?_; (first | rw [← HR.out.2.2.1] | rw [← HR.out.2.2.2.1]); rintro e w1 ⟨rfl, hb⟩; have hb2 := HB.out.trans (hb.mono HB.out.size); clear HB hb; have HB := Lib.hid hb2; clear hb2))
      go_ret
      exact ⟨by rw [← HR.out.2.2.2.2]; rfl, HB.out⟩
set_option maxRecDepth 100000 in
theorem pop_0 (w : World) : Says Tryz.prog 80 #[.int .u64 0] w (.int .i64 0) := by
  have HP : Hid (∀ w : World, Says Tryz.prog 105 #[.int .u64 0] w (.int .i64 0)) := Lib.hid (by
    intro w
    go_enter Tryz.func105, Tryz.ntmps105
    go_wp2_with fail
    go_ret
    exact ⟨by kernel_rfl, Below.refl _ _⟩)
  go_enter Tryz.func80, Tryz.ntmps80
  go_wp2_with (go_at_call 105; refine (HP.out _).mono ?_; rintro e w1 ⟨rfl, hb⟩; have HB := Lib.hid hb; clear hb)
  go_ret
  exact ⟨rfl, HB.out⟩
set_option maxRecDepth 100000 in
theorem pop_320 (w : World) : Says Tryz.prog 80 #[.int .u64 320] w (.int .i64 2) := by
  have HP : Hid (∀ w : World, Says Tryz.prog 105 #[.int .u64 320] w (.int .i64 2)) := Lib.hid (by
    intro w
    go_enter Tryz.func105, Tryz.ntmps105
    go_wp2_with fail
    go_ret
    exact ⟨by kernel_rfl, Below.refl _ _⟩)
  go_enter Tryz.func80, Tryz.ntmps80
  go_wp2_with (go_at_call 105; refine (HP.out _).mono ?_; rintro e w1 ⟨rfl, hb⟩; have HB := Lib.hid hb; clear hb)
  go_ret
  exact ⟨rfl, HB.out⟩
set_option maxRecDepth 100000 in
theorem pop_360 (w : World) : Says Tryz.prog 80 #[.int .u64 360] w (.int .i64 4) := by
  have HP : Hid (∀ w : World, Says Tryz.prog 105 #[.int .u64 360] w (.int .i64 4)) := Lib.hid (by
    intro w
    go_enter Tryz.func105, Tryz.ntmps105
    go_wp2_with fail
    go_ret
    exact ⟨by kernel_rfl, Below.refl _ _⟩)
  go_enter Tryz.func80, Tryz.ntmps80
  go_wp2_with (go_at_call 105; refine (HP.out _).mono ?_; rintro e w1 ⟨rfl, hb⟩; have HB := Lib.hid hb; clear hb)
  go_ret
  exact ⟨rfl, HB.out⟩
set_option maxRecDepth 100000 in
theorem pop_356 (w : World) : Says Tryz.prog 80 #[.int .u64 356] w (.int .i64 4) := by
  have HP : Hid (∀ w : World, Says Tryz.prog 105 #[.int .u64 356] w (.int .i64 4)) := Lib.hid (by
    intro w
    go_enter Tryz.func105, Tryz.ntmps105
    go_wp2_with fail
    go_ret
    exact ⟨by kernel_rfl, Below.refl _ _⟩)
  go_enter Tryz.func80, Tryz.ntmps80
  go_wp2_with (go_at_call 105; refine (HP.out _).mono ?_; rintro e w1 ⟨rfl, hb⟩; have HB := Lib.hid hb; clear hb)
  go_ret
  exact ⟨rfl, HB.out⟩
set_option maxRecDepth 100000 in
theorem pop_336 (w : World) : Says Tryz.prog 80 #[.int .u64 336] w (.int .i64 3) := by
  have HP : Hid (∀ w : World, Says Tryz.prog 105 #[.int .u64 336] w (.int .i64 3)) := Lib.hid (by
    intro w
    go_enter Tryz.func105, Tryz.ntmps105
    go_wp2_with fail
    go_ret
    exact ⟨by kernel_rfl, Below.refl _ _⟩)
  go_enter Tryz.func80, Tryz.ntmps80
  go_wp2_with (go_at_call 105; refine (HP.out _).mono ?_; rintro e w1 ⟨rfl, hb⟩; have HB := Lib.hid hb; clear hb)
  go_ret
  exact ⟨rfl, HB.out⟩
set_option maxRecDepth 100000 in
theorem pop_364 (w : World) : Says Tryz.prog 80 #[.int .u64 364] w (.int .i64 5) := by
  have HP : Hid (∀ w : World, Says Tryz.prog 105 #[.int .u64 364] w (.int .i64 5)) := Lib.hid (by
    intro w
    go_enter Tryz.func105, Tryz.ntmps105
    go_wp2_with fail
    go_ret
    exact ⟨by kernel_rfl, Below.refl _ _⟩)
  go_enter Tryz.func80, Tryz.ntmps80
  go_wp2_with (go_at_call 105; refine (HP.out _).mono ?_; rintro e w1 ⟨rfl, hb⟩; have HB := Lib.hid hb; clear hb)
  go_ret
  exact ⟨rfl, HB.out⟩
set_option maxRecDepth 100000 in
theorem pop_382 (w : World) : Says Tryz.prog 80 #[.int .u64 382] w (.int .i64 7) := by
  have HP : Hid (∀ w : World, Says Tryz.prog 105 #[.int .u64 382] w (.int .i64 7)) := Lib.hid (by
    intro w
    go_enter Tryz.func105, Tryz.ntmps105
    go_wp2_with fail
    go_ret
    exact ⟨by kernel_rfl, Below.refl _ _⟩)
  go_enter Tryz.func80, Tryz.ntmps80
  go_wp2_with (go_at_call 105; refine (HP.out _).mono ?_; rintro e w1 ⟨rfl, hb⟩; have HB := Lib.hid hb; clear hb)
  go_ret
  exact ⟨rfl, HB.out⟩
set_option maxRecDepth 100000 in
theorem pop_256 (w : World) : Says Tryz.prog 80 #[.int .u64 256] w (.int .i64 1) := by
  have HP : Hid (∀ w : World, Says Tryz.prog 105 #[.int .u64 256] w (.int .i64 1)) := Lib.hid (by
    intro w
    go_enter Tryz.func105, Tryz.ntmps105
    go_wp2_with fail
    go_ret
    exact ⟨by kernel_rfl, Below.refl _ _⟩)
  go_enter Tryz.func80, Tryz.ntmps80
  go_wp2_with (go_at_call 105; refine (HP.out _).mono ?_; rintro e w1 ⟨rfl, hb⟩; have HB := Lib.hid hb; clear hb)
  go_ret
  exact ⟨rfl, HB.out⟩
set_option maxRecDepth 100000 in
theorem pop_510 (w : World) : Says Tryz.prog 80 #[.int .u64 510] w (.int .i64 8) := by
  have HP : Hid (∀ w : World, Says Tryz.prog 105 #[.int .u64 510] w (.int .i64 8)) := Lib.hid (by
    intro w
    go_enter Tryz.func105, Tryz.ntmps105
    go_wp2_with fail
    go_ret
    exact ⟨by kernel_rfl, Below.refl _ _⟩)
  go_enter Tryz.func80, Tryz.ntmps80
  go_wp2_with (go_at_call 105; refine (HP.out _).mono ?_; rintro e w1 ⟨rfl, hb⟩; have HB := Lib.hid hb; clear hb)
  go_ret
  exact ⟨rfl, HB.out⟩
theorem pop_any (m : Int) (w : World) : Says Tryz.prog 80 #[.int .u64 (cB m : Nat)] w (.int .i64 (rowM m).length) := by
  cases h : rgB m with
  | false => rw [cB_out h, row_out h]; exact pop_0 w
  | true =>
    have hd := rg_dom h
    unfold dom at hd
    simp only [List.mem_cons, List.not_mem_nil, or_false] at hd
    rcases hd with rfl | rfl | rfl | rfl | rfl | rfl | rfl | rfl
    · exact pop_320 w
    · exact pop_360 w
    · exact pop_356 w
    · exact pop_336 w
    · exact pop_364 w
    · exact pop_382 w
    · exact pop_256 w
    · exact pop_510 w
set_option maxRecDepth 100000 in
set_option maxHeartbeats 3200000 in
theorem fewer_any (a b : Int) (w : World) : Says Tryz.prog 61 #[.int .i64 a, .int .i64 b] w (.bool (decide ((rowM a).length < (rowM b).length))) := by
  have HC := Lib.hid (And.intro conflicts_any pop_any)
  have HB := Lib.hid (Below.refl w.heap.size w)
  obtain ⟨p, hp⟩ : ∃ p, p = (rowM a).length := ⟨_, rfl⟩
  obtain ⟨q, hq⟩ : ∃ q, q = (rowM b).length := ⟨_, rfl⟩
  obtain ⟨x, hx⟩ : ∃ x, x = cB a := ⟨_, rfl⟩
  obtain ⟨y, hy⟩ : ∃ y, y = cB b := ⟨_, rfl⟩
  rw [← hp, ← hq]
  have HX := Lib.hid (show ∀ w, Says Tryz.prog 80 #[.int .u64 (x : Int)] w (.int .i64 (p : Int)) from by rw [hx, hp]; exact pop_any a)
  have HY := Lib.hid (show ∀ w, Says Tryz.prog 80 #[.int .u64 (y : Int)] w (.int .i64 (q : Int)) from by rw [hy, hq]; exact pop_any b)
  have HR := Lib.hid (And.intro hx hy)
  clear hx hy hp hq
  go_enter Tryz.func61, Tryz.ntmps61
  go_wp2_with (first
    | (go_at_call 80; (first | refine (HX.out _).mono ?_; clear HX | refine (HY.out _).mono ?_); rintro e w1 ⟨rfl, hb⟩; have hb2 := HB.out.trans (hb.mono HB.out.size); clear HB hb; have HB := Lib.hid hb2; clear hb2)
    | (go_at_call 60; refine (HC.out.1 _ _).mono ?_; (first | rw [← HR.out.1] | rw [← HR.out.2]); rintro e w1 ⟨rfl, hb⟩; have hb2 := HB.out.trans (hb.mono HB.out.size); clear HB hb; have HB := Lib.hid hb2; clear hb2))
  go_ret
  exact ⟨by first | rfl | (simp; rfl) | trace_state, HB.out⟩
end Go.Proofs.YthbbheegkhlniaaGreat

/-
  The landed modes: Join.
-/
namespace Go.Proofs.YthbbheegkhlniaaGreat
open Go.RowKit Go.Lib

set_option maxRecDepth 100000 in
set_option maxHeartbeats 6400000 in
theorem join_any (a b : Int) (w : World) : Says Tryz.prog 31 #[.int .i64 a, .int .i64 b] w (.int .i64 (jnI a b)) := by
  have HC := Lib.hid (And.intro cov_any fewer_any)
  have HB := Lib.hid (Below.refl w.heap.size w)
  go_enter Tryz.func31, Tryz.ntmps31
  go_wp2_with fail
  go_loopw [5, 8] (fun bv v wx => ∃ k : Nat, k ≤ 8 ∧ bv = .int .i64 (jnN a b k) ∧ v = .int .i64 (k : Int) ∧ Below w.heap.size w wx) (fun _ v _ => 8 - (intOf v).toNat)
  case atStart => exact ⟨0, by omega, rfl, rfl, HB.out⟩
  case round =>
    obtain ⟨k, hk, rfl, rfl, hb⟩ := hrel
    obtain ⟨m, hm⟩ : ∃ m, m = k + 1 := ⟨_, rfl⟩
    obtain ⟨p, hp⟩ : ∃ p, p = jnN a b k := ⟨_, rfl⟩
    have hst := jnN_step hp hm
    rw [← hp]
    have hk0 : (0 : Int) ≤ (k : Int) := Int.natCast_nonneg _
    have HK := Lib.hid (And.intro hm hp)
    clear HB
    have HB := Lib.hid hb
    clear hb hp
    by_cases hlt : k < 8
    · have hlt1 : (k : Int) < 8 := by omega
      have hltd : decide ((k : Int) < 8) = true := decide_eq_true hlt1
      have hma : (k : Int) + 1 = (m : Int) := by omega
      have hmw : wrap64 ((k : Int) + 1) = (m : Int) := by unfold wrap64; omega
      have HM := Lib.hid (And.intro hma hmw)
      clear hm hma hmw
      cases hx : cvB (m : Int) a with
      | false =>
        have HQ := Lib.hid (show jnN a b (k + 1) = p by rw [hst, hx]; rfl)
        have HX := Lib.hid (And.intro hx hx)
        clear hx hst
        go_wp2_with (first
          | (go_at_call 30; (try rw [HM.out.1]); refine (HC.out.1 _ _ _).mono ?_; (first | rw [HX.out.1] | rw [HX.out.2]); rintro e w1 ⟨rfl, hb⟩; have hb2 := HB.out.trans (hb.mono HB.out.size); clear HB hb; have HB := Lib.hid hb2; clear hb2)
          | (go_at_call 61; (try rw [HM.out.1]); refine (HC.out.2 _ _ _).mono ?_; rw [HL.out]; rintro e w1 ⟨rfl, hb⟩; have hb2 := HB.out.trans (hb.mono HB.out.size); clear HB hb; have HB := Lib.hid hb2; clear hb2))
        go_roundw
        case rel => exact ⟨k + 1, by omega, by first | (rw [HQ.out]; done) | rw [HQ.out, HM.out.1], by go_num, HB.out⟩
        case measure => simp [intOf]; omega
      | true =>
        cases hy : cvB (m : Int) b with
        | false =>
          have HQ := Lib.hid (show jnN a b (k + 1) = p by rw [hst, hx, hy]; rfl)
          have HX := Lib.hid (And.intro hx hy)
          clear hx hy hst
          go_wp2_with (first
          | (go_at_call 30; (try rw [HM.out.1]); refine (HC.out.1 _ _ _).mono ?_; (first | rw [HX.out.1] | rw [HX.out.2]); rintro e w1 ⟨rfl, hb⟩; have hb2 := HB.out.trans (hb.mono HB.out.size); clear HB hb; have HB := Lib.hid hb2; clear hb2)
          | (go_at_call 61; (try rw [HM.out.1]); refine (HC.out.2 _ _ _).mono ?_; rw [HL.out]; rintro e w1 ⟨rfl, hb⟩; have hb2 := HB.out.trans (hb.mono HB.out.size); clear HB hb; have HB := Lib.hid hb2; clear hb2))
          go_roundw
          case rel => exact ⟨k + 1, by omega, by first | (rw [HQ.out]; done) | rw [HQ.out, HM.out.1], by go_num, HB.out⟩
          case measure => simp [intOf]; omega
        | true =>
          have HX := Lib.hid (And.intro hx hy)
          by_cases hp0 : p = 0
          · have HQ := Lib.hid (show jnN a b (k + 1) = (k : Int) + 1 by rw [HM.out.1, hst, hx, hy, hp0]; rfl)
            have hq0 : (p == 0) = true := by simp [hp0]
            clear hx hy hst
            go_wp2_with (first
          | (go_at_call 30; (try rw [HM.out.1]); refine (HC.out.1 _ _ _).mono ?_; (first | rw [HX.out.1] | rw [HX.out.2]); rintro e w1 ⟨rfl, hb⟩; have hb2 := HB.out.trans (hb.mono HB.out.size); clear HB hb; have HB := Lib.hid hb2; clear hb2)
          | (go_at_call 61; (try rw [HM.out.1]); refine (HC.out.2 _ _ _).mono ?_; rw [HL.out]; rintro e w1 ⟨rfl, hb⟩; have hb2 := HB.out.trans (hb.mono HB.out.size); clear HB hb; have HB := Lib.hid hb2; clear hb2))
            go_roundw
            case rel => exact ⟨k + 1, by omega, by first | (rw [HQ.out]; done) | rw [HQ.out, HM.out.1], by go_num, HB.out⟩
            case measure => simp [intOf]; omega
          · have hq0 : (p == 0) = false := by simp [hp0]
            have hd0 : decide (p = 0) = false := decide_eq_false hp0
            cases hl : decide ((rowM (m : Int)).length < (rowM p).length) with
            | true =>
              have HQ := Lib.hid (show jnN a b (k + 1) = (k : Int) + 1 by rw [HM.out.1, hst, hx, hy, hd0, hl]; rfl)
              have HL := Lib.hid hl
              clear hx hy hst hl
              go_wp2_with (first
          | (go_at_call 30; (try rw [HM.out.1]); refine (HC.out.1 _ _ _).mono ?_; (first | rw [HX.out.1] | rw [HX.out.2]); rintro e w1 ⟨rfl, hb⟩; have hb2 := HB.out.trans (hb.mono HB.out.size); clear HB hb; have HB := Lib.hid hb2; clear hb2)
          | (go_at_call 61; (try rw [HM.out.1]); refine (HC.out.2 _ _ _).mono ?_; rw [HL.out]; rintro e w1 ⟨rfl, hb⟩; have hb2 := HB.out.trans (hb.mono HB.out.size); clear HB hb; have HB := Lib.hid hb2; clear hb2))
              go_roundw
              case rel => exact ⟨k + 1, by omega, by first | (rw [HQ.out]; done) | rw [HQ.out, HM.out.1], by go_num, HB.out⟩
              case measure => simp [intOf]; omega
            | false =>
              have HQ := Lib.hid (show jnN a b (k + 1) = p by rw [hst, hx, hy, hd0, hl]; rfl)
              have HL := Lib.hid hl
              clear hx hy hst hl
              go_wp2_with (first
          | (go_at_call 30; (try rw [HM.out.1]); refine (HC.out.1 _ _ _).mono ?_; (first | rw [HX.out.1] | rw [HX.out.2]); rintro e w1 ⟨rfl, hb⟩; have hb2 := HB.out.trans (hb.mono HB.out.size); clear HB hb; have HB := Lib.hid hb2; clear hb2)
          | (go_at_call 61; (try rw [HM.out.1]); refine (HC.out.2 _ _ _).mono ?_; rw [HL.out]; rintro e w1 ⟨rfl, hb⟩; have hb2 := HB.out.trans (hb.mono HB.out.size); clear HB hb; have HB := Lib.hid hb2; clear hb2))
              go_roundw
              case rel => exact ⟨k + 1, by omega, by first | (rw [HQ.out]; done) | rw [HQ.out, HM.out.1], by go_num, HB.out⟩
              case measure => simp [intOf]; omega
    · have hlt1 : ¬ (k : Int) < 8 := by omega
      have hltd : decide ((k : Int) < 8) = false := decide_eq_false hlt1
      have HF := Lib.hid (show jnI a b = p by rw [HK.out.2, show k = 8 by omega]; rfl)
      clear hm hst
      go_wp2_with fail
      go_ret
      exact ⟨by rw [HF.out]; rfl, HB.out⟩
end Go.Proofs.YthbbheegkhlniaaGreat

/-
  The landed modes: Fits.
-/
namespace Go.Proofs.YthbbheegkhlniaaGreat
open Go.RowKit Go.Lib

set_option maxRecDepth 100000 in
set_option maxHeartbeats 6400000 in
theorem fits_any (x : Th) (w : World) : Says Tryz.prog 26 #[thV x] w (.bool (fitsB x)) := by
  obtain ⟨k, t, y⟩ := x
  obtain ⟨w1, hw1⟩ : ∃ w1, w1 = w.alloc (.cells #[.int .i64 k, .string t, .string y] 32) := ⟨_, rfl⟩
  obtain ⟨hT, hB⟩ := tg_new w ⟨k, t, y⟩
  simp only at hT hB
  rw [← hw1] at hT hB
  have HW := Lib.hid hw1
  have HT := Lib.hid hT
  have HB := Lib.hid hB
  have hU := fun (h : ((k = 1 ∨ k = 2) ∧ t = eS ∧ y = eS) ∨ (k = 3 ∧ y = eS) ∨ k = 4) => (show fitsB ⟨k, t, y⟩ = true from decide_eq_true h)
  have hV := fun (h : ¬ (((k = 1 ∨ k = 2) ∧ t = eS ∧ y = eS) ∨ (k = 3 ∧ y = eS) ∨ k = 4)) => (show fitsB ⟨k, t, y⟩ = false from decide_eq_false h)
  have HU := Lib.hid (And.intro hU hV)
  clear hT hB hw1 hU hV
  by_cases h1 : k = 1
  · subst h1
    by_cases ht : t = ⟨#[]⟩
    · by_cases hy : y = ⟨#[]⟩
      · have HF := Lib.hid (HU.out.1 (by unfold eS; exact .inl ⟨.inl rfl, ht, hy⟩))
        have et1 : t.toList.isEmpty = true := str_empty ht
        have et2 : t.toList = [] := List.isEmpty_iff.1 et1
        have ey1 : y.toList.isEmpty = true := str_empty hy
        have ey2 : y.toList = [] := List.isEmpty_iff.1 ey1
        clear ht hy
        go_enter Tryz.func26, Tryz.ntmps26
        go_wp2_with fail
        go_ret
        exact ⟨by rw [HF.out]; first | rfl | simp [*], by rw [← HW.out]; exact HB.out⟩
      · have HF := Lib.hid (HU.out.2 (by unfold eS; simp [hy]))
        have et1 : t.toList.isEmpty = true := str_empty ht
        have et2 : t.toList = [] := List.isEmpty_iff.1 et1
        have ey1 : y.toList.isEmpty = false := str_some hy
        have ey2 : ¬ y.toList = [] := fun h => by rw [h] at ey1; cases ey1
        clear ht hy
        go_enter Tryz.func26, Tryz.ntmps26
        go_wp2_with fail
        go_ret
        exact ⟨by rw [HF.out]; first | rfl | simp [*], by rw [← HW.out]; exact HB.out⟩
    · have HF := Lib.hid (HU.out.2 (by unfold eS; simp [ht]))
      have et1 : t.toList.isEmpty = false := str_some ht
      have et2 : ¬ t.toList = [] := fun h => by rw [h] at et1; cases et1
      clear ht
      go_enter Tryz.func26, Tryz.ntmps26
      go_wp2_with fail
      go_ret
      exact ⟨by rw [HF.out]; first | rfl | simp [*], by rw [← HW.out]; exact HB.out⟩
  by_cases h2 : k = 2
  · subst h2
    by_cases ht : t = ⟨#[]⟩
    · by_cases hy : y = ⟨#[]⟩
      · have HF := Lib.hid (HU.out.1 (by unfold eS; exact .inl ⟨.inr rfl, ht, hy⟩))
        have et1 : t.toList.isEmpty = true := str_empty ht
        have et2 : t.toList = [] := List.isEmpty_iff.1 et1
        have ey1 : y.toList.isEmpty = true := str_empty hy
        have ey2 : y.toList = [] := List.isEmpty_iff.1 ey1
        clear ht hy
        go_enter Tryz.func26, Tryz.ntmps26
        go_wp2_with fail
        go_ret
        exact ⟨by rw [HF.out]; first | rfl | simp [*], by rw [← HW.out]; exact HB.out⟩
      · have HF := Lib.hid (HU.out.2 (by unfold eS; simp [hy]))
        have et1 : t.toList.isEmpty = true := str_empty ht
        have et2 : t.toList = [] := List.isEmpty_iff.1 et1
        have ey1 : y.toList.isEmpty = false := str_some hy
        have ey2 : ¬ y.toList = [] := fun h => by rw [h] at ey1; cases ey1
        clear ht hy
        go_enter Tryz.func26, Tryz.ntmps26
        go_wp2_with fail
        go_ret
        exact ⟨by rw [HF.out]; first | rfl | simp [*], by rw [← HW.out]; exact HB.out⟩
    · have HF := Lib.hid (HU.out.2 (by unfold eS; simp [ht]))
      have et1 : t.toList.isEmpty = false := str_some ht
      have et2 : ¬ t.toList = [] := fun h => by rw [h] at et1; cases et1
      clear ht
      go_enter Tryz.func26, Tryz.ntmps26
      go_wp2_with fail
      go_ret
      exact ⟨by rw [HF.out]; first | rfl | simp [*], by rw [← HW.out]; exact HB.out⟩
  by_cases h3 : k = 3
  · subst h3
    by_cases hy : y = ⟨#[]⟩
    · have HF := Lib.hid (HU.out.1 (by unfold eS; exact .inr (.inl ⟨rfl, hy⟩)))
      have ey1 : y.toList.isEmpty = true := str_empty hy
      have ey2 : y.toList = [] := List.isEmpty_iff.1 ey1
      clear hy
      go_enter Tryz.func26, Tryz.ntmps26
      go_wp2_with fail
      go_ret
      exact ⟨by rw [HF.out]; first | rfl | simp [*], by rw [← HW.out]; exact HB.out⟩
    · have HF := Lib.hid (HU.out.2 (by unfold eS; simp [hy]))
      have ey1 : y.toList.isEmpty = false := str_some hy
      have ey2 : ¬ y.toList = [] := fun h => by rw [h] at ey1; cases ey1
      clear hy
      go_enter Tryz.func26, Tryz.ntmps26
      go_wp2_with fail
      go_ret
      exact ⟨by rw [HF.out]; first | rfl | simp [*], by rw [← HW.out]; exact HB.out⟩
  by_cases h4 : k = 4
  · subst h4
    have HF := Lib.hid (HU.out.1 (by unfold eS; exact .inr (.inr rfl)))
    skip
    go_enter Tryz.func26, Tryz.ntmps26
    go_wp2_with fail
    go_ret
    exact ⟨by rw [HF.out]; first | rfl | simp [*], by rw [← HW.out]; exact HB.out⟩
  have HF := Lib.hid (HU.out.2 (by unfold eS; simp [h1, h2, h3, h4]))
  have q1 : (k == 1) = false := by simp [h1]
  have q2 : (k == 2) = false := by simp [h2]
  have q3 : (k == 3) = false := by simp [h3]
  have q4 : (k == 4) = false := by simp [h4]
  skip
  go_enter Tryz.func26, Tryz.ntmps26
  go_wp2_with fail
  go_ret
  exact ⟨by rw [HF.out]; first | rfl | simp [*], by rw [← HW.out]; exact HB.out⟩
end Go.Proofs.YthbbheegkhlniaaGreat

/-
  The closures that ask of a lock; slices.IndexFunc, slices.ContainsFunc over them.
-/
namespace Go.Proofs.YthbbheegkhlniaaGreat
open Go.RowKit Go.Lib Go.Shelf

abbrev encH (x : Hd) : Value := .agg (heldC x).toArray
abbrev fnOf (b : Nat) : Value := .func (.func 67) #[] #[pt b]
abbrev fnAg (b : Nat) : Value := .func (.func 75) #[] #[pt b]
def ofP (x : Int) (h : Hd) : Bool := decide (h.1 = x)
def agP (o : Hd) (h : Hd) : Bool := decide (h.1 ≠ o.1) && cfB h.2.1 o.2.1
set_option maxRecDepth 100000 in
set_option maxHeartbeats 3200000 in
theorem of_any (x : Int) (w : World) : Calls Tryz.prog 43 #[.int .i64 x] w fun e w' => e = .returned (fnOf w.heap.size) ∧ w' = w.alloc (.cells #[.int .i64 x] 3) := by
  go_enter Tryz.func43, Tryz.ntmps43
  go_wp2_with fail
  go_ret
  exact ⟨rfl, rfl⟩
set_option maxRecDepth 100000 in
set_option maxHeartbeats 3200000 in
theorem against_any (o : Hd) (w : World) : Calls Tryz.prog 53 #[.agg #[.int .i64 o.1, .int .i64 o.2.1, .bool o.2.2]] w fun e w' => e = .returned (fnAg w.heap.size) ∧ w' = w.alloc (.cells #[.int .i64 o.1, .int .i64 o.2.1, .bool o.2.2] 62) := by
  go_enter Tryz.func53, Tryz.ntmps53
  go_wp2_with fail
  go_ret
  exact ⟨rfl, rfl⟩
/-- of's answer: a number in a box -/
structure OfAt (w w' : World) (q : Nat) (x : Int) : Prop where
  low : Below w.heap.size w w'
  lt : q < w'.heap.size
  new : w.heap.size ≤ q
  cell : w'.cell? ⟨q, 0, none⟩ = some (.int .i64 x)
theorem of_at (x : Int) (w : World) : Calls Tryz.prog 43 #[.int .i64 x] w fun e w' => ∃ q, e = .returned (fnOf q) ∧ OfAt w w' q x :=
  (of_any x w).mono fun e w' ⟨he, hw⟩ => ⟨_, he, by rw [hw]; exact (Below.refl _ w).alloc (Nat.le_refl _) _, by rw [hw]; simp, Nat.le_refl _, by rw [hw]; exact (Blk.new w 3 #[.int .i64 x]).cell 0⟩
theorem eg_of : ∀ args w, (callFunc 67 args).run Tryz.prog w = .ok (.enter 67 args) w := enters_of Tryz.func67 (by kernel_rfl) rfl
theorem eg_ag : ∀ args w, (callFunc 75 args).run Tryz.prog w = .ok (.enter 75 args) w := enters_of Tryz.func75 (by kernel_rfl) rfl
set_option maxRecDepth 100000 in
set_option maxHeartbeats 3200000 in
theorem of_pred {x : Int} {b : Nat} {w : World} (hb : b < w.heap.size) (hc : w.cell? ⟨b, 0, none⟩ = some (.int .i64 x)) : PredBelow Tryz.prog 67 #[pt b] encH (ofP x) w := fun W h hB => by
  have c0 : W.cell? ⟨b, 0, none⟩ = some (.int .i64 x) := (hB.cell (p := ⟨b, 0, none⟩) hb).trans hc
  have hW : b < W.heap.size := Nat.lt_of_lt_of_le hb hB.size
  have hne : b ≠ W.heap.size := by omega
  have HB := Lib.hid hB
  clear hB hc
  show Calls Tryz.prog 67 #[.agg #[.int .i64 h.1, .int .i64 h.2.1, .bool h.2.2], pt b] W _
  obtain ⟨r, hr⟩ : ∃ r, (h.1 == x) = r := ⟨_, rfl⟩
  have e : ofP x h = r := by rw [← hr]; unfold ofP; by_cases h1 : h.1 = x <;> simp [h1]
  rw [e]
  go_enter Tryz.func67, Tryz.ntmps67
  go_wp2_with fail
  go_ret
  exact ⟨rfl, HB.out.alloc HB.out.size _⟩
structure HdAt (w : World) (b : Nat) (o : Hd) : Prop where
  x : w.cell? ⟨b, 0, none⟩ = some (.int .i64 o.1)
  m : w.cell? ⟨b, 1, none⟩ = some (.int .i64 o.2.1)
  t : w.cell? ⟨b, 2, none⟩ = some (.bool o.2.2)
theorem HdAt.below {w w' : World} {b C : Nat} {o : Hd} (h : HdAt w b o) (hb : Below C w w') (hC : b < C) : HdAt w' b o :=
  ⟨(hb.cell (p := ⟨b, 0, none⟩) hC).trans h.x, (hb.cell (p := ⟨b, 1, none⟩) hC).trans h.m, (hb.cell (p := ⟨b, 2, none⟩) hC).trans h.t⟩
theorem HdAt.new (w : World) (o : Hd) : HdAt (w.alloc (.cells #[.int .i64 o.1, .int .i64 o.2.1, .bool o.2.2] 62)) w.heap.size o := by
  have h := Blk.new w 62 #[.int .i64 o.1, .int .i64 o.2.1, .bool o.2.2]
  exact ⟨h.cell 0, h.cell 1, h.cell 2⟩
/-- against's answer: a lock in a box -/
structure AgAt (w w' : World) (q : Nat) (o : Hd) : Prop where
  low : Below w.heap.size w w'
  lt : q < w'.heap.size
  new : w.heap.size ≤ q
  at_ : HdAt w' q o
theorem AgAt.below {w w' w2 : World} {q : Nat} {o : Hd} (h : AgAt w w' q o) (hb : Below w'.heap.size w' w2) : AgAt w w2 q o :=
  ⟨h.low.trans (hb.mono h.low.size), Nat.lt_of_lt_of_le h.lt hb.size, h.new, h.at_.below hb h.lt⟩
theorem ag_at (o : Hd) (w : World) : Calls Tryz.prog 53 #[.agg #[.int .i64 o.1, .int .i64 o.2.1, .bool o.2.2]] w fun e w' => ∃ q, e = .returned (fnAg q) ∧ AgAt w w' q o :=
  (against_any o w).mono fun e w' ⟨he, hw⟩ => ⟨_, he, by rw [hw]; exact (Below.refl _ w).alloc (Nat.le_refl _) _, by rw [hw]; simp, Nat.le_refl _, by rw [hw]; exact HdAt.new w o⟩
set_option maxRecDepth 100000 in
set_option maxHeartbeats 3200000 in
theorem ag_pred {o : Hd} {b : Nat} {w : World} (hb : b < w.heap.size) (hc : HdAt w b o) : PredBelow Tryz.prog 75 #[pt b] encH (agP o) w := fun W h hB => by
  obtain ⟨c0, c1, _⟩ := hc.below hB hb
  have hW : b < W.heap.size := Nat.lt_of_lt_of_le hb hB.size
  have hne : b ≠ W.heap.size := by omega
  have hcf := fun W' => conflict_any h.2.1 o.2.1 W'
  have HC := Lib.hid hcf
  have HB := Lib.hid hB
  clear hB hc hcf
  show Calls Tryz.prog 75 #[.agg #[.int .i64 h.1, .int .i64 h.2.1, .bool h.2.2], pt b] W _
  by_cases hx : h.1 = o.1
  · have hq : (h.1 != o.1) = false := by simp [hx]
    have e : agP o h = false := by unfold agP; simp [hx]
    rw [e]
    clear e hx
    go_enter Tryz.func75, Tryz.ntmps75
    go_wp2_with fail
    go_ret
    exact ⟨rfl, HB.out.alloc HB.out.size _⟩
  · have hq : (h.1 != o.1) = true := by simp [hx]
    have e : agP o h = cfB h.2.1 o.2.1 := by unfold agP; simp [hx]
    rw [e]
    clear e hx
    go_enter Tryz.func75, Tryz.ntmps75
    go_wp2_with (go_at_call 76; refine (HC.out _).mono ?_; rintro e w2 ⟨rfl, hb2⟩; have H2 := Lib.hid hb2; clear hb2)
    go_ret
    exact ⟨rfl, (HB.out.alloc HB.out.size _).trans (H2.out.mono (by have := HB.out.size; simp; omega))⟩
def idxL (p : Hd → Bool) : List Hd → Option Nat
  | [] => none
  | a :: r => if p a = true then some 0 else (idxL p r).map (· + 1)
def idxI (o : Option Nat) : Int := match o with
  | some i => (i : Int)
  | none => -1
theorem idxL_hit {p : Hd → Bool} : ∀ {l : List Hd} {k : Nat} (hk : k < l.length), (∀ j (hj : j < l.length), j < k → p l[j] = false) → p l[k] = true → idxL p l = some k
  | a :: r, 0, _, _, h => by rw [idxL, if_pos (by simpa using h)]
  | a :: r, k + 1, hk, hb, h => by
    have h0 := hb 0 (by simp) (by omega)
    rw [idxL, if_neg (by simpa using h0), idxL_hit (l := r) (k := k) (by simpa using hk) (fun j hj hjk => by have := hb (j + 1) (by simpa using hj) (by omega); simpa using this) (by simpa using h)]
    rfl
theorem idxL_miss {p : Hd → Bool} : ∀ {l : List Hd}, (∀ j (hj : j < l.length), p l[j] = false) → idxL p l = none
  | [], _ => rfl
  | a :: r, hb => by
    have h0 := hb 0 (by simp)
    rw [idxL, if_neg (by simpa using h0), idxL_miss (l := r) (fun j hj => by have := hb (j + 1) (by simpa using hj); simpa using this)]
    rfl
/-- a lock of a row -/
theorem hdI_at {w : World} {B : Nat} {A : Option Addr} {l : List Hd} (h : RowG heldC 3 w B A l) {i : Nat} (hi : i < l.length) : ∃ ad, A = some ad ∧ ad.block < B ∧ w.cell? (ad.add (i * 3)) = some (.int .i64 l[i].1) ∧ w.cell? ⟨(ad.add (i * 3)).block, (ad.add (i * 3)).off + 1, none⟩ = some (.int .i64 l[i].2.1) ∧ w.cell? ⟨(ad.add (i * 3)).block, (ad.add (i * 3)).off + 2, none⟩ = some (.bool l[i].2.2) := by
  obtain ⟨ad, rfl, hlt⟩ := h.lo (by omega)
  have get : ∀ j u, (heldC l[i])[j]? = some u → w.cell? (ad.add (i * 3 + j)) = some u := fun j u hu => by
    obtain ⟨ad', e, hc⟩ := h.cell i hi j u hu
    obtain rfl := Option.some.inj e
    exact hc
  have addr_field : ∀ (a : Addr) (j : Nat), 0 < j → (⟨a.block, a.off + j, none⟩ : Addr) = a.add j := fun a j hj => by unfold Addr.add; rw [if_neg (by omega)]
  refine ⟨ad, rfl, hlt, get 0 _ rfl, ?_, ?_⟩
  · rw [addr_field _ _ (by omega), addr_add]; exact get 1 _ rfl
  · rw [addr_field _ _ (by omega), addr_add]; exact get 2 _ rfl
set_option maxRecDepth 100000 in
set_option maxHeartbeats 6400000 in
theorem idx_any {w : World} {B : Nat} {A : Option Addr} {n c : Nat} {l : List Hd} (h : RowG heldC 3 w B A l) (hB : B ≤ w.heap.size) (hn : n = l.length) (hl : l.length ≤ 1000000) {g : Nat} {lb : Array Value} {p : Hd → Bool} (eg : ∀ args w, (callFunc g args).run Tryz.prog w = .ok (.enter g args) w) (hp : PredBelow Tryz.prog g lb encH p w) :
    Calls Tryz.prog 52 #[.slice A n c, .func (.func g) #[] lb] w fun e w' => e = .returned (.int .i64 (idxI (idxL p l))) ∧ Below w.heap.size w w' := by
  have hn0 : (0 : Int) ≤ (n : Int) := Int.natCast_nonneg _
  have hnl : n ≤ 1000000 := by omega
  have H := Lib.hid (And.intro (h.more hB) (And.intro hn hp))
  have HB := Lib.hid (Below.refl w.heap.size w)
  clear h hB hn hl hp
  go_enter Tryz.func52, Tryz.ntmps52
  go_wp2_with fail
  go_loopw [5, 8] (fun _ iv wr => ∃ k : Nat, k ≤ n ∧ iv = .int .i64 k ∧ Below w.heap.size w wr ∧ ∀ j (hj : j < l.length), j < k → p l[j] = false) (fun _ iv _ => n - (intOf iv).toNat)
  case atStart => exact ⟨0, Nat.zero_le _, rfl, HB.out, fun j _ hj => absurd hj (by omega)⟩
  case round =>
    obtain ⟨k, hk, rfl, hb, hno⟩ := hrel
    have hk0 : (0 : Int) ≤ (k : Int) := Int.natCast_nonneg _
    have HR := Lib.hid (And.intro hb hno)
    clear HB hb hno
    by_cases hlt : k < n
    · have hlt1 : (k : Int) < (n : Int) := by omega
      have hkl : k < l.length := by rw [← H.out.2.1]; exact hlt
      obtain ⟨ad, rfl, _, a0, a1, a2⟩ := hdI_at (H.out.1.below HR.out.1 (Nat.le_refl _)) hkl
      have hcall := H.out.2.2 wr l[k] HR.out.1
      obtain ⟨y, hy⟩ : ∃ y, y = l[k] := ⟨_, rfl⟩
      rw [← hy] at a0 a1 a2 hcall
      unfold encH heldC at hcall
      have HY := Lib.hid hy
      clear hy
      cases hq : p y with
      | true =>
        rw [hq] at hcall
        have HC := Lib.hid hcall
        clear hcall
        go_wp2_with (go_at_fn g; refine HC.out.mono ?_; rintro e w' ⟨rfl, hb'⟩)
        go_ret
        refine ⟨?_, hb'⟩
        rw [idxL_hit hkl HR.out.2 (by rw [← HY.out]; exact hq)]
        rfl
      | false =>
        rw [hq] at hcall
        have HC := Lib.hid hcall
        clear hcall
        go_wp2_with (go_at_fn g; refine HC.out.mono ?_; rintro e w' ⟨rfl, hb'⟩)
        go_roundw
        case rel =>
          refine ⟨k + 1, by omega, by go_num, hb', fun j hj hjk => ?_⟩
          by_cases e : j = k
          · subst e; rw [← HY.out]; exact hq
          · exact HR.out.2 j hj (by omega)
        case measure => simp [intOf]; omega
    · have hlt1 : ¬ (k : Int) < (n : Int) := by omega
      go_wp2_with fail
      go_ret
      refine ⟨?_, HR.out.1⟩
      rw [idxL_miss fun j hj => HR.out.2 j hj (by have := H.out.2.1; omega)]
      rfl
theorem idxL_any {p : Hd → Bool} : ∀ {l : List Hd}, (idxL p l).isSome = l.any p
  | [] => rfl
  | a :: r => by
    rw [idxL, List.any_cons, ← idxL_any (l := r)]
    cases p a <;> simp
set_option maxRecDepth 100000 in
set_option maxHeartbeats 6400000 in
theorem contains_any {w : World} {B : Nat} {A : Option Addr} {n c : Nat} {l : List Hd} (h : RowG heldC 3 w B A l) (hB : B ≤ w.heap.size) (hn : n = l.length) (hl : l.length ≤ 1000000) {g : Nat} {lb : Array Value} {p : Hd → Bool} (eg : ∀ args w, (callFunc g args).run Tryz.prog w = .ok (.enter g args) w) (hp : PredBelow Tryz.prog g lb encH p w) :
    Calls Tryz.prog 62 #[.slice A n c, .func (.func g) #[] lb] w fun e w' => e = .returned (.bool (l.any p)) ∧ Below w.heap.size w w' := by
  have hc := idx_any (c := c) h hB hn hl eg hp
  have e : l.any p = decide (0 ≤ idxI (idxL p l)) := by
    rw [← idxL_any]
    cases idxL p l with
    | none => rfl
    | some i => simp [idxI]
  rw [e]
  generalize idxI (idxL p l) = r at hc ⊢
  have H := Lib.hid hc
  clear hc h hB hn hl hp e
  go_enter Tryz.func62, Tryz.ntmps62
  go_wp2_with (go_at_call 52; refine H.out.mono ?_; rintro e w' ⟨rfl, hb'⟩)
  go_ret
  exact ⟨rfl, hb'⟩
end Go.Proofs.YthbbheegkhlniaaGreat
