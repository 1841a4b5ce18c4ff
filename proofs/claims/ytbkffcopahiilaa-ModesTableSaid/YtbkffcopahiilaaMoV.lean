/-
  ModesAbove over the contract.
-/
import Derived.Test.YtbkffcopahiilaaMoQ
namespace Go.Proofs.Ytbkffcopahiilaa
open Go.RowKit Go.Lib

/-- the thing in its block, and the list of what is above it -/
structure Ma (w0 w : World) (b : Nat) (x : Th) (A : Option Addr) : Prop where
  g : Tg w b x
  lt : b < w.heap.size
  r : RowG thC 3 w w.heap.size A (abT x)
  low : Below w0.heap.size w0 w
theorem Ma.below {w0 w w' : World} {b : Nat} {x : Th} {A : Option Addr} (h : Ma w0 w b x A) (hb : Below w.heap.size w w') : Ma w0 w' b x A :=
  ⟨h.g.below hb h.lt, Nat.lt_of_lt_of_le h.lt hb.size, (h.r.below hb (Nat.le_refl _)).more hb.size, h.low.trans (hb.mono h.low.size)⟩
theorem ab_in {x : Th} (hx : x.In) {i : Nat} (hi : i < (abT x).length) : ((abT x)[i]).In := by
  have key : ∀ y ∈ abT x, Th.In y := by
    intro y hy
    unfold abT at hy
    split at hy
    · cases hy
    · split at hy
      · rcases List.mem_singleton.1 hy with rfl
        exact ⟨numI _ (by decide), by decide, by decide⟩
      · split at hy
        · rcases List.mem_cons.1 hy with rfl | hy
          · exact ⟨numI _ (by decide), by decide, by decide⟩
          · rcases List.mem_singleton.1 hy with rfl
            exact ⟨numI 3 (by decide), hx.2.1, (by decide : eS.size ≤ roomLen)⟩
        · cases hy
  exact key _ (List.getElem_mem hi)
theorem idx_facts {k n m : Nat} (hk : k < n) (hn : n ≤ 2) (hz : ¬ k = 0) (hm : m = k - 1) : m < n ∧ (0 : Int) < (k : Int) ∧ 0 < k ∧ (0 : Int) ≤ (m : Int) ∧ (k : Int) - 1 = (m : Int) ∧ wrap64 (m : Int) = (m : Int) ∧ (m : Int) < (n : Int) ∧ m + 1 = k := by
  unfold wrap64
  omega
theorem ab_prev {x : Th} {k m : Nat} (hk : k < (abT x).length) (hm : m + 1 = k) (hml : m < (abT x).length) : ((abT x)[m]).k < ((abT x)[k]).k := by
  subst hm
  exact ab_up hk
theorem ab_or (x : Th) : fitsB x = true ∨ (abT x).length = 0 := by
  cases h : fitsB x with
  | true => exact .inl rfl
  | false => exact .inr (by rw [abT_out h]; rfl)
set_option maxRecDepth 100000 in
set_option maxHeartbeats 12800000 in
theorem mabove_walk (I : Impl) (x : Th) (w : World) (hx : x.In) : Says Try.prog 7 #[thV x] w (.bool true) := by
  have hm : Try.prog.follows .mixedOrders = true := by kernel_rfl
  obtain ⟨w1, hw1⟩ : ∃ w1, w1 = w.alloc (.cells #[.int .i64 x.k, .string x.t, .string x.y] 27) := ⟨_, rfl⟩
  obtain ⟨hT, hB⟩ := tg_new w x
  rw [← hw1] at hT hB
  have hs1 : w1.heap.size = w.heap.size + 1 := by rw [hw1]; simp
  obtain ⟨b, hb⟩ : ∃ b, b = w.heap.size := ⟨_, rfl⟩
  rw [← hb] at hT
  have HI := Lib.hid I
  have HA := Lib.hid fun (w : World) => alive10_any I w
  have HX := Lib.hid hx
  have HW := Lib.hid (And.intro hw1 hb)
  have H1 := Lib.hid (And.intro hT (And.intro hB (show b < w1.heap.size by omega)))
  clear hw1 hs1 hT hB I hx
  go_enter Try.func7, Try.ntmps7
  go_upto_region 1 with fail
  rw [← hb, ← HW.out.1]; clear hb
  go_upto_region 3 with (go_at_call 8; refine (HA.out _).mono ?_; rintro e w2 ⟨rfl, hb2⟩; have H2 := Lib.hid (show Tg w2 b x ∧ Below w.heap.size w w2 ∧ b < w2.heap.size from ⟨H1.out.1.below hb2 H1.out.2.2, H1.out.2.1.trans (hb2.mono H1.out.2.1.size), Nat.lt_of_lt_of_le H1.out.2.2 hb2.size⟩); clear hb2)
  have c0 := H2.out.1.k
  have c1 := H2.out.1.t
  have c2 := H2.out.1.y
  go_upto_region 4 with (go_at_call 16; refine (HI.out.above x _ HX.out).mono ?_; rintro e w3 ⟨A, n, c, rfl, hn, _, hrow, hb3⟩; have H3 := Lib.hid (And.intro hn (Ma.mk (H2.out.1.below hb3 H2.out.2.2) (Nat.lt_of_lt_of_le H2.out.2.2 hb3.size) hrow (H2.out.2.1.trans (hb3.mono H2.out.2.1.size)))); clear hb3 hn hrow)
  clear c0 c1 c2
  have hn2 : n ≤ 2 := by rw [H3.out.1]; exact abT_len x
  have hn0 : (0 : Int) ≤ (n : Int) := Int.natCast_nonneg _
  go_wp2_with fail
  go_loopw [4] (fun i wr => ∃ k : Nat, k ≤ n ∧ i = .int .i64 k ∧ Ma w wr b x A) (fun i _ => n - (intOf i).toNat)
  case atStart => exact ⟨0, by omega, rfl, H3.out.2⟩
  case round =>
    obtain ⟨k, hk, rfl, hM⟩ := hrel
    have HM := Lib.hid hM
    have hk0 : (0 : Int) ≤ (k : Int) := Int.natCast_nonneg _
    clear hM
    by_cases hlt : k < n
    · have hk1 : (k : Int) < (n : Int) := by omega
      have hkl : k < (abT x).length := by rw [← H3.out.1]; exact hlt
      obtain ⟨hf, hless, htk⟩ := ab_at hkl
      obtain ⟨ad, hA, _, a0, a1, a2⟩ := th_at HM.out.r hkl
      have c0 := BelowBy.cell HM.out.g.k
      have hin := ab_in HX.out hkl
      obtain ⟨y, hy⟩ : ∃ y, y = (abT x)[k] := ⟨_, rfl⟩
      rw [← hy] at a0 a1 a2 hf hless htk hin
      have f0 := BelowBy.cell a0
      have f1 := BelowBy.cell a1
      have f2 := BelowBy.cell a2
      have HY := Lib.hid (And.intro hin (And.intro hf (And.intro hy htk)))
      have d1 : decide (x.k ≤ y.k) = false := decide_eq_false (by omega)
      have d2 : ¬ x.k ≤ y.k := by omega
      subst hA
      by_cases hz : k = 0
      · have z1 : ¬ (0 : Int) < (k : Int) := by omega
        have z2 : decide ((0 : Int) < (k : Int)) = false := decide_eq_false z1
        have z3 : ¬ 0 < k := by omega
        have z4 : decide (0 < k) = false := decide_eq_false z3
        clear a0 a1 a2 hf hless htk hin hy hz
        go_upto_region 7 with fail
        refine wp_region_below hm (by kernel_rfl) ?_
        repeat (first | go_big_quiet_step (first | (go_at_call 18; exact calls_below ((HI.out.fits y _ HY.out.1).to (congrArg Value.bool HY.out.2.1)))) | quiet_step (first | (go_at_call 18; exact calls_below ((HI.out.fits y _ HY.out.1).to (congrArg Value.bool HY.out.2.1)))))
        refine wpQuiet_nil ?_
        intro wz hw'
        obtain ⟨p, hw''⟩ := hw'
        obtain ⟨w5, hw5⟩ : ∃ w5, w5 = p.w' := ⟨_, rfl⟩
        have H5 := Lib.hid (show Ma w w5 b x (some ad) by rw [hw5]; exact HM.out.below p.h)
        rw [← hw5] at hw''
        subst hw''
        clear c0 f0 f1 f2 hw5
        obtain ⟨ad2, e2, _, v0, v1, v2⟩ := th_at H5.out.r hkl
        obtain rfl := Option.some.inj e2
        rw [← HY.out.2.2.1] at v0 v1 v2
        clear e2
        go_upto_region 10 with (go_at_call 16; refine (HI.out.above y _ HY.out.1).mono ?_; rintro e w6 ⟨A6, n6, c6, rfl, hn6, _, hrow6, hb6⟩; have H6 := Lib.hid (And.intro (H5.out.below hb6) (And.intro hn6 hrow6)); clear hb6 hn6 hrow6)
        clear v0 v1 v2
        obtain rfl : n6 = k := by rw [H6.out.2.1, HY.out.2.2.2, List.length_take]; omega
        go_wp2_with fail
        go_loopw [6] (fun i wr2 => ∃ q d : Nat, q ≤ n6 ∧ i = .int .i64 q ∧ wr2 = w6.drewN d) (fun i _ => n6 - (intOf i).toNat)
        case atStart => exact ⟨0, 0, by omega, rfl, rfl⟩
        case round =>
          obtain ⟨q, d, hq, rfl, hw⟩ := hrel
          have HW2 := Lib.hid hw
          have hq0 : (0 : Int) ≤ (q : Int) := Int.natCast_nonneg _
          by_cases hlt2 : q < n6
          · have hq1 : (q : Int) < (n6 : Int) := by omega
            have hq2 : (q : Int) < (n : Int) := by omega
            have hql : q < (abT x).length := by omega
            have hql2 : q < (abT y).length := by rw [← H6.out.2.1]; exact hlt2
            have hsame : (abT y)[q] = (abT x)[q] := by
              have h9 := HY.out.2.2.2
              have h8 : (abT y)[q]? = (abT x)[q]? := by rw [h9, List.getElem?_take, if_pos hlt2]
              rw [List.getElem?_eq_getElem hql, List.getElem?_eq_getElem hql2] at h8
              exact Option.some.inj h8
            obtain ⟨ad3, e3, _, a0, a1, a2⟩ := th_at H6.out.1.r hql
            obtain rfl := Option.some.inj e3
            obtain ⟨ad4, rfl, _, b0, b1, b2⟩ := th_at H6.out.2.2 hql2
            rw [hsame] at b0 b1 b2
            have hcw : ∀ a, wr.cell? a = w6.cell? a := fun a => by rw [hw]; rfl
            have i0 := (hcw _).trans a0
            have i1 := (hcw _).trans a1
            have i2 := (hcw _).trans a2
            have j0 := (hcw _).trans b0
            have j1 := (hcw _).trans b1
            have j2 := (hcw _).trans b2
            obtain ⟨u, hu⟩ : ∃ u, u = (abT x)[q] := ⟨_, rfl⟩
            rw [← hu] at i0 i1 i2 j0 j1 j2
            have hne := neqTh u
            clear hw a0 a1 a2 b0 b1 b2 hcw hu hsame e3
            go_upto_region 15 with fail
            go_quiet (fail)
            go_wp2_with fail
            go_roundw
            case rel => exact ⟨q + 1, _, by omega, by go_num, by rw [HW2.out]; exact World.drewN_drewN _ _ _⟩
            case measure => simp [intOf]; omega
          · have hkn : ¬ ((q : Int) < (n6 : Int)) := by omega
            have HB := Lib.hid (show Ma w wr b x (some ad) by rw [hw]; exact H6.out.1.below ⟨rfl, rfl, rfl, Nat.le_refl _, fun _ _ => rfl⟩)
            clear hw
            go_wp2_with fail
            go_roundw
            case rel => exact ⟨n6 + 1, by omega, by go_num, HB.out⟩
            case measure => simp [intOf]; omega
      · obtain ⟨m, hmk⟩ : ∃ m, m = k - 1 := ⟨_, rfl⟩
        obtain ⟨hmn, z1, z3, m0, m1, m2, m3, hm1⟩ := idx_facts hlt hn2 hz hmk
        have hml : m < (abT x).length := by rw [← H3.out.1]; exact hmn
        have z2 : decide ((0 : Int) < (k : Int)) = true := decide_eq_true z1
        have z4 : decide (0 < k) = true := decide_eq_true z3
        have hup : ((abT x)[m]).k < y.k := by rw [hy]; exact ab_prev hkl hm1 hml
        obtain ⟨ad9, e9, _, s0, _, _⟩ := th_at HM.out.r hml
        obtain rfl := Option.some.inj e9
        obtain ⟨z, hzz⟩ : ∃ z, z = (abT x)[m] := ⟨_, rfl⟩
        rw [← hzz] at s0 hup
        have r0 := BelowBy.cell s0
        have d3 : decide (y.k ≤ z.k) = false := decide_eq_false (by omega)
        have d4 : ¬ y.k ≤ z.k := by omega
        clear a0 a1 a2 hf hless htk hin hy hz hmk hm1 hmn hup s0 hzz e9
        go_upto_region 7 with fail
        refine wp_region_below hm (by kernel_rfl) ?_
        repeat (first | go_big_quiet_step (first | (go_at_call 18; exact calls_below ((HI.out.fits y _ HY.out.1).to (congrArg Value.bool HY.out.2.1)))) | quiet_step (first | (go_at_call 18; exact calls_below ((HI.out.fits y _ HY.out.1).to (congrArg Value.bool HY.out.2.1)))))
        refine wpQuiet_nil ?_
        intro wz hw'
        obtain ⟨p, hw''⟩ := hw'
        obtain ⟨w5, hw5⟩ : ∃ w5, w5 = p.w' := ⟨_, rfl⟩
        have H5 := Lib.hid (show Ma w w5 b x (some ad) by rw [hw5]; exact HM.out.below p.h)
        rw [← hw5] at hw''
        subst hw''
        clear c0 f0 f1 f2 hw5 r0
        obtain ⟨ad2, e2, _, v0, v1, v2⟩ := th_at H5.out.r hkl
        obtain rfl := Option.some.inj e2
        rw [← HY.out.2.2.1] at v0 v1 v2
        clear e2
        go_upto_region 10 with (go_at_call 16; refine (HI.out.above y _ HY.out.1).mono ?_; rintro e w6 ⟨A6, n6, c6, rfl, hn6, _, hrow6, hb6⟩; have H6 := Lib.hid (And.intro (H5.out.below hb6) (And.intro hn6 hrow6)); clear hb6 hn6 hrow6)
        clear v0 v1 v2
        obtain rfl : n6 = k := by rw [H6.out.2.1, HY.out.2.2.2, List.length_take]; omega
        go_wp2_with fail
        go_loopw [6] (fun i wr2 => ∃ q d : Nat, q ≤ n6 ∧ i = .int .i64 q ∧ wr2 = w6.drewN d) (fun i _ => n6 - (intOf i).toNat)
        case atStart => exact ⟨0, 0, by omega, rfl, rfl⟩
        case round =>
          obtain ⟨q, d, hq, rfl, hw⟩ := hrel
          have HW2 := Lib.hid hw
          have hq0 : (0 : Int) ≤ (q : Int) := Int.natCast_nonneg _
          by_cases hlt2 : q < n6
          · have hq1 : (q : Int) < (n6 : Int) := by omega
            have hq2 : (q : Int) < (n : Int) := by omega
            have hql : q < (abT x).length := by omega
            have hql2 : q < (abT y).length := by rw [← H6.out.2.1]; exact hlt2
            have hsame : (abT y)[q] = (abT x)[q] := by
              have h9 := HY.out.2.2.2
              have h8 : (abT y)[q]? = (abT x)[q]? := by rw [h9, List.getElem?_take, if_pos hlt2]
              rw [List.getElem?_eq_getElem hql, List.getElem?_eq_getElem hql2] at h8
              exact Option.some.inj h8
            obtain ⟨ad3, e3, _, a0, a1, a2⟩ := th_at H6.out.1.r hql
            obtain rfl := Option.some.inj e3
            obtain ⟨ad4, rfl, _, b0, b1, b2⟩ := th_at H6.out.2.2 hql2
            rw [hsame] at b0 b1 b2
            have hcw : ∀ a, wr.cell? a = w6.cell? a := fun a => by rw [hw]; rfl
            have i0 := (hcw _).trans a0
            have i1 := (hcw _).trans a1
            have i2 := (hcw _).trans a2
            have j0 := (hcw _).trans b0
            have j1 := (hcw _).trans b1
            have j2 := (hcw _).trans b2
            obtain ⟨u, hu⟩ : ∃ u, u = (abT x)[q] := ⟨_, rfl⟩
            rw [← hu] at i0 i1 i2 j0 j1 j2
            have hne := neqTh u
            clear hw a0 a1 a2 b0 b1 b2 hcw hu hsame e3
            go_upto_region 15 with fail
            go_quiet (fail)
            go_wp2_with fail
            go_roundw
            case rel => exact ⟨q + 1, _, by omega, by go_num, by rw [HW2.out]; exact World.drewN_drewN _ _ _⟩
            case measure => simp [intOf]; omega
          · have hkn : ¬ ((q : Int) < (n6 : Int)) := by omega
            have HB := Lib.hid (show Ma w wr b x (some ad) by rw [hw]; exact H6.out.1.below ⟨rfl, rfl, rfl, Nat.le_refl _, fun _ _ => rfl⟩)
            clear hw
            go_wp2_with fail
            go_roundw
            case rel => exact ⟨n6 + 1, by omega, by go_num, HB.out⟩
            case measure => simp [intOf]; omega
    · have hkn : ¬ ((k : Int) < (n : Int)) := by omega
      have c0 := HM.out.g.k
      have c1 := HM.out.g.t
      have c2 := HM.out.g.y
      obtain ⟨u, hu⟩ : ∃ u, u = fitsB x := ⟨_, rfl⟩
      have hor := ab_or x
      rw [← hu] at hor
      have HU := Lib.hid hu
      clear hu
      cases u with
      | true =>
        clear hor
        go_wp2_with (go_at_call 18; refine (HI.out.fits x _ HX.out).mono ?_; rw [← HU.out]; rintro e w6 ⟨rfl, hb⟩; have HB := Lib.hid (HM.out.low.trans (hb.mono HM.out.low.size)); clear hb)
        go_ret
        exact ⟨rfl, HB.out⟩
      | false =>
        have hn9 : n = 0 := by rw [H3.out.1]; exact hor.resolve_left (by decide)
        subst hn9
        clear hor
        go_wp2_with (go_at_call 18; refine (HI.out.fits x _ HX.out).mono ?_; rw [← HU.out]; rintro e w6 ⟨rfl, hb⟩; have HB := Lib.hid (HM.out.low.trans (hb.mono HM.out.low.size)); clear hb)
        go_ret
        exact ⟨rfl, HB.out⟩
end Go.Proofs.Ytbkffcopahiilaa
