/-
  ValueOrder returns true for all rows: the order of rows is one: turned about it is turned, what is below what is below a third one is below that, only like rows are level; the rows that are handed in are left as they were.
  No condition but the reach of the statement's form; the listed variables are tied by the card.
-/
import Derived.Test.YtkdcnkadngbccaaDoorVLift
import Derived.Test.YtkdcnkadngbccaaDoorOrdM
import Derived.Test.YtkdcnkadngbccaaDoorTie
import Derived.Test.YtkdcnkadngbccaaDoorCards
import Derived.Lay
import Derived.MakeChecks
import Derived.JoinedOf
import Derived.Stop.Joined
import Derived.HandedShaped
namespace Go.Proofs.YtkdcnkadngbccaaDoor
open Go.RowKit Go.Lib

theorem order_signs (xs ys zs : List Va) : ∃ x y z q : Int, ordR xs ys = x ∧ ordR ys zs = y ∧ ordR xs zs = z ∧ ordR ys xs = q ∧ x = -q ∧ (x = 0 ↔ xs = ys) ∧
    (-1 ≤ q ∧ q ≤ 1) ∧ (-1 ≤ x ∧ x ≤ 1) ∧ (-1 ≤ y ∧ y ≤ 1) ∧ (-1 ≤ z ∧ z ≤ 1) ∧ ¬ (x ≤ 0 ∧ y ≤ 0 ∧ 0 < z) ∧ ¬ (x < 0 ∧ y ≤ 0 ∧ 0 ≤ z) ∧ ¬ (0 ≤ x ∧ 0 ≤ y ∧ z < 0) := by
  have g := good_ordR
  refine ⟨_, _, _, _, rfl, rfl, rfl, rfl, g.anti _ _, g.zero _ _, ordR_bd _ _, ordR_bd _ _, ordR_bd _ _, ordR_bd _ _, ?_, ?_, ?_⟩
  · rintro ⟨h1, h2, h3⟩
    have := g.trans _ _ _ h1 h2
    omega
  · rintro ⟨h1, h2, h3⟩
    have := g.strict _ _ _ h1 h2
    omega
  · rintro ⟨h1, h2, h3⟩
    have := g.up _ _ _ h1 h2
    omega

set_option maxRecDepth 100000 in
set_option maxHeartbeats 6400000 in
theorem valueOrder_walk (A : Option Addr) (c : Nat) (xs : List Va) (A' : Option Addr) (c' : Nat) (ys : List Va) (A'' : Option Addr) (c'' : Nat) (zs : List Va) (w : World)
    (hr : RowIn w w.heap.size A xs) (_hi : ∀ x ∈ xs, x.In) (hl : xs.length ≤ c) (hm : c ≤ maxLen) (hr' : RowIn w w.heap.size A' ys) (_hi' : ∀ x ∈ ys, x.In) (hl' : ys.length ≤ c') (hm' : c' ≤ maxLen)
    (hr'' : RowIn w w.heap.size A'' zs) (_hi'' : ∀ x ∈ zs, x.In) (hl'' : zs.length ≤ c'') (hm'' : c'' ≤ maxLen) :
    Calls Tryd.prog 6 #[.slice A xs.length c, .slice A' ys.length c', .slice A'' zs.length c''] w (YesB w) := by
  have HX := Lib.hid (And.intro hr (And.intro hr' hr''))
  have HL := Lib.hid (And.intro (Nat.le_trans hl hm) (And.intro (Nat.le_trans hl' hm') (Nat.le_trans hl'' hm'')))
  clear hr hr' hr'' hl hl' hl'' hm hm' hm'' _hi _hi' _hi''
  go_enter Tryd.func6, Tryd.ntmps6
  go_wp2_with fail
  refine (alive_any w).mono ?_
  rintro e w1 ⟨rfl, h1⟩
  have HA := Lib.hid h1
  clear h1
  have hx1 := (HX.out.1.below HA.out (Nat.le_refl _)).more HA.out.size
  have hy1 := (HX.out.2.1.below HA.out (Nat.le_refl _)).more HA.out.size
  have hz1 := (HX.out.2.2.below HA.out (Nat.le_refl _)).more HA.out.size
  have HW := Lib.hid (And.intro hx1 (And.intro hy1 hz1))
  clear hx1 hy1 hz1
  go_wp2_with fail
  refine (long_any A c xs w1 _ HW.out.1 HL.out.1).mono ?_
  rintro e w2 ⟨rfl, rfl | ⟨rfl, _⟩⟩
  · go_wp2_with fail
    go_wp2
    go_ret
    exact ⟨rfl, HA.out⟩
  go_wp2_with fail
  refine (long_any A' c' ys _ _ HW.out.2.1 HL.out.2.1).mono ?_
  rintro e w2 ⟨rfl, rfl | ⟨rfl, _⟩⟩
  · go_wp2_with fail
    go_wp2
    go_ret
    exact ⟨rfl, HA.out⟩
  go_wp2_with fail
  refine (long_any A'' c'' zs _ _ HW.out.2.2 HL.out.2.2).mono ?_
  rintro e w2 ⟨rfl, rfl | ⟨rfl, _⟩⟩
  · go_wp2_with fail
    go_wp2
    go_ret
    exact ⟨rfl, HA.out⟩
  obtain ⟨x, y, z, q, ex, ey, ez, eq, hxq, hx0, bq, bx, by', bz, n1, n2, n3⟩ := order_signs xs ys zs
  have HN := Lib.hid (And.intro bx (And.intro by' (And.intro bz (And.intro n1 (And.intro n2 n3)))))
  have HE := Lib.hid (And.intro ex (And.intro ey (And.intro ez eq)))
  have hneg : IntKind.i64.wrap (-q) = -q := IntWalk.i64_in _ (by omega)
  have hne : (x != -q) = false := by simp [hxq]
  have HXQ := Lib.hid (And.intro hxq hx0)
  clear bx by' bz bq n1 n2 n3 ex ey ez eq hxq hx0
  go_wp2_with fail
  refine (orderRows_any A A' c c' xs ys _ HW.out.1 HW.out.2.1 HL.out.1 HL.out.2.1).mono ?_
  rw [HE.out.1]
  rintro e w3 ⟨rfl, h3⟩
  have hx3 := (HW.out.1.below h3 (Nat.le_refl _)).more h3.size
  have hy3 := (HW.out.2.1.below h3 (Nat.le_refl _)).more h3.size
  have hz3 := (HW.out.2.2.below h3 (Nat.le_refl _)).more h3.size
  have HA3 := Lib.hid (HA.out.trans (h3.mono HA.out.size))
  have HW3 := Lib.hid (And.intro hx3 (And.intro hy3 hz3))
  clear h3 hx3 hy3 hz3
  go_wp2_with fail
  refine (orderRows_any A' A'' c' c'' ys zs _ HW3.out.2.1 HW3.out.2.2 HL.out.2.1 HL.out.2.2).mono ?_
  rw [HE.out.2.1]
  rintro e w4 ⟨rfl, h3⟩
  have hx3 := (HW3.out.1.below h3 (Nat.le_refl _)).more h3.size
  have hy3 := (HW3.out.2.1.below h3 (Nat.le_refl _)).more h3.size
  have hz3 := (HW3.out.2.2.below h3 (Nat.le_refl _)).more h3.size
  have HA4 := Lib.hid (HA3.out.trans (h3.mono HA3.out.size))
  have HW4 := Lib.hid (And.intro hx3 (And.intro hy3 hz3))
  clear h3 hx3 hy3 hz3
  go_wp2_with fail
  refine (orderRows_any A A'' c c'' xs zs _ HW4.out.1 HW4.out.2.2 HL.out.1 HL.out.2.2).mono ?_
  rw [HE.out.2.2.1]
  rintro e w5 ⟨rfl, h3⟩
  have hx3 := (HW4.out.1.below h3 (Nat.le_refl _)).more h3.size
  have hy3 := (HW4.out.2.1.below h3 (Nat.le_refl _)).more h3.size
  have HA5 := Lib.hid (HA4.out.trans (h3.mono HA4.out.size))
  have HW5 := Lib.hid (And.intro hx3 hy3)
  clear h3 hx3 hy3
  go_wp2_with fail
  refine (orderRows_any A' A c' c ys xs _ HW5.out.2 HW5.out.1 HL.out.2.1 HL.out.1).mono ?_
  rw [HE.out.2.2.2]
  rintro e w6 ⟨rfl, h3⟩
  have hx3 := (HW5.out.1.below h3 (Nat.le_refl _)).more h3.size
  have hy3 := (HW5.out.2.below h3 (Nat.le_refl _)).more h3.size
  have HA6 := Lib.hid (HA5.out.trans (h3.mono HA5.out.size))
  have HW6 := Lib.hid (And.intro hx3 hy3)
  clear h3 hx3 hy3
  go_wp2_with fail
  refine (sameRow_any A A' c c' xs ys _ _ _ HW6.out.1 HW6.out.2 HL.out.1).mono ?_
  rintro e w7 ⟨rfl, d, hw7⟩
  have HA7 := Lib.hid (show Below w.heap.size w w7 by rw [hw7]; exact ⟨HA6.out.os, HA6.out.tape, HA6.out.output, HA6.out.size, HA6.out.block⟩)
  clear hw7
  obtain ⟨sm, hsm⟩ : ∃ sm, sm = decide (xs = ys) := ⟨_, rfl⟩
  rw [← hsm]
  have hs0 : (x == 0) = sm := by
    rw [hsm]
    by_cases h : xs = ys
    · rw [decide_eq_true h, HXQ.out.2.2 h]; rfl
    · rw [decide_eq_false h]; simpa using fun e => h (HXQ.out.2.1 e)
  clear hsm
  obtain ⟨bx, by', bz, n1, n2, n3⟩ := HN.out
  have hx : x = -1 ∨ x = 0 ∨ x = 1 := by omega
  have hy : y = -1 ∨ y = 0 ∨ y = 1 := by omega
  have hz : z = -1 ∨ z = 0 ∨ z = 1 := by omega
  subst hs0
  clear bx by' bz hne hneg
  rcases hx with rfl | rfl | rfl <;> rcases hy with rfl | rfl | rfl <;> rcases hz with rfl | rfl | rfl <;>
    first
    | (exfalso; omega)
    | (clear n1 n2 n3
       go_wp2
       go_ret
       exact ⟨rfl, HA7.out⟩)

section
open Go.ChangeShapes Go.WideShapes Go.ChangeAt
open Go.ChangeMaps (open_string shut_string)
set_option linter.unusedVariables false
set_option maxRecDepth 100000 in
theorem valueOrder_lifted (os : Os) (started : os.Started) (H : Type) (enc : TypeId × Value → H) :
    ReturnsInHanded {} Tryd.checked os 6 .any (fun w args => (Rows.valueOrderSpec.pre enc Tryd.prog Tryd.f6 Rows.valueOrderRow.domain false w args ∧ laidMetH Tryd.prog Rows.valueOrderRow.laid w) ∧ sizedMet enc Tryd.prog Tryd.f6 (OpenSpec.ofChange Rows.valueOrderSpec) false w args)
      (Rows.valueOrderSpec.post enc Tryd.prog Tryd.f6 false true false false) := by
  refine returnsInHanded_of_change_and (C := Tryd.checked) (X := fun w _ => laidMetH Tryd.prog Rows.valueOrderRow.laid w) (fun _ _ _ hh h => h.of_heap hh) own started (by kernel_rfl) Tryd.func6
    (ChangeSpec.witness_shaped (enc := enc) (C := Tryd.checked) (os := os) (X := fun w _ => laidMetH Tryd.prog Rows.valueOrderRow.laid w) false (World.laidAll Tryd.prog os Rows.valueOrderRow.laid) #[.slice none 0 0, .slice none 0 0, .slice none 0 0] 8 (World.laidAll_os _ _ _)
      (World.shaped_of_ZipB (by kernel_rfl) (by kernel_rfl)) (by kernel_rfl) (by kernel_rfl) (by kernel_rfl)
      (by rw [MakeChecks.laidMetH_plain _ _ _ (by kernel_rfl)]; exact laidMet_laidAll _ (by kernel_rfl) (by kernel_rfl))) ?_
  intro W base args ds gs before hval0 hW hcnd hsz hL _
  have hval : ∀ (j : Nat) t v, Tryd.f6.params[j]? = some t → args[j]? = some v → Value.okWide Tryd.prog W .any base t v := hval0
  have hW' := hW
  obtain ⟨p, q, hA0, hV, rfl, hfz, hnd⟩ := hW
  have hA : DataW.TrodAll enc Tryd.prog W 0 (fun _ => true) true Tryd.f6.params.toList args.toList ds p := hA0
  rw [Tryd.params6] at hA hval
  obtain ⟨v0, vs0, d0, ds0, p0, q0, hargs, rfl, rfl, h0, r0⟩ := trodAll_cons hA
  obtain ⟨v1, vs1, d1, ds1, p1, q1, rfl, rfl, rfl, h1, r1⟩ := trodAll_cons r0
  obtain ⟨v2, vs2, d2, ds2, p2, q2, rfl, rfl, rfl, h2, r2⟩ := trodAll_cons r1
  obtain ⟨rfl, rfl, rfl⟩ := trodAll_nil r2
  obtain rfl : args = #[v0, v1, v2] := by cases args; simp_all
  obtain ⟨rfl, rfl⟩ := trodVars_none hV
  have k0 := h0
  have lt0 : ∀ x ∈ p0, x.block < W.heap.size := by obtain ⟨m, hm⟩ := k0; exact DataW.trod_lt m _ _ _ hm
  have k1 := h1
  have lt1 : ∀ x ∈ p1, x.block < W.heap.size := by obtain ⟨m, hm⟩ := k1; exact DataW.trod_lt m _ _ _ hm
  have k2 := h2
  have lt2 : ∀ x ∈ p2, x.block < W.heap.size := by obtain ⟨m, hm⟩ := k2; exact DataW.trod_lt m _ _ _ hm
  obtain ⟨a0, len0, cap0, rfl⟩ := okWide_slice Tryd.underlying39 (hval 0 39 v0 rfl rfl)
  obtain ⟨z0, rfl, l0, m0, i0x, r0x⟩ := rd_of_rows Tryd.underlying39 Tryd.underlying23 (by kernel_rfl) ⟨rfl, by kernel_rfl, Tryd.underlying3⟩ ⟨rfl, by kernel_rfl, Tryd.underlying3⟩ ⟨rfl, by kernel_rfl, Tryd.underlying9⟩ h0
  obtain ⟨a1, len1, cap1, rfl⟩ := okWide_slice Tryd.underlying39 (hval 1 39 v1 rfl rfl)
  obtain ⟨z1, rfl, l1, m1, i1x, r1x⟩ := rd_of_rows Tryd.underlying39 Tryd.underlying23 (by kernel_rfl) ⟨rfl, by kernel_rfl, Tryd.underlying3⟩ ⟨rfl, by kernel_rfl, Tryd.underlying3⟩ ⟨rfl, by kernel_rfl, Tryd.underlying9⟩ h1
  obtain ⟨a2, len2, cap2, rfl⟩ := okWide_slice Tryd.underlying39 (hval 2 39 v2 rfl rfl)
  obtain ⟨z2, rfl, l2, m2, i2x, r2x⟩ := rd_of_rows Tryd.underlying39 Tryd.underlying23 (by kernel_rfl) ⟨rfl, by kernel_rfl, Tryd.underlying3⟩ ⟨rfl, by kernel_rfl, Tryd.underlying3⟩ ⟨rfl, by kernel_rfl, Tryd.underlying9⟩ h2
  clear hA0 hval0
  refine (valueOrder_walk a0 cap0 z0 a1 cap1 z1 a2 cap2 z2 W r0x i0x l0 m0 r1x i1x l1 m1 r2x i2x l2 m2).mono fun e W' ⟨he, bel⟩ => ?_
  subst he
  exact ⟨_, rfl, _, _, _, [], _, [], hW', trodAll_mk1 (shut_bool Tryd.underlying4 _), (trodAll_cons_mk (Below.trod laidOut (by kernel_rfl) (of_decide_eq_true (by kernel_rfl)) k0 bel lt0) (trodAll_cons_mk (Below.trod laidOut (by kernel_rfl) (of_decide_eq_true (by kernel_rfl)) k1 bel lt1) (trodAll_cons_mk (Below.trod laidOut (by kernel_rfl) (of_decide_eq_true (by kernel_rfl)) k2 bel lt2) trodAll_mk0))), rfl, bel.frame _, fun h => by cases h⟩

theorem valueOrder_over : Rows.valueOrderRow.holds Tryd.pinned (OpenSpec.ofChange Rows.valueOrderSpec) :=
  OpenClaim.holds_of_wide 6 Tryd.f6 rfl rfl rfl rfl rfl rfl rfl ⟨rfl, rfl, rfl, rfl, rfl⟩ rfl rfl rfl rfl rfl (by kernel_rfl) Tryd.func6 (by kernel_rfl)
    (of_decide_eq_true (by kernel_rfl)) (by unfold Func.isWrapper; first | (rw [if_pos (by decide +kernel)]; kernel_rfl) | (rw [if_neg (by decide +kernel)]; exact ⟨rfl, rfl⟩))
    (fun os started H enc _ => valueOrder_lifted os started H enc)

theorem valueOrder_card : Rows.ValueOrderCardSaid :=
  Claim7.holds_tied_plain_at .later [] [.data, .data, .data, .sentinel, .sentinel] true _ true
    valueOrder_over (fun _ h => by cases h) (by kernel_rfl) (fun _ h => by cases h) valueOrder_row_tie rfl ⟨rfl, rfl⟩ (by kernel_rfl) rfl
    (fun f fn hf hfn => by
      obtain rfl : f = 6 := Option.some.inj ((show Tryd.prog.funcNamed Rows.valueOrderRow.func = some 6 by kernel_rfl).symm.trans hf) |>.symm
      obtain rfl : fn = Tryd.f6 := (Option.some.inj (Tryd.func6.symm.trans hfn)).symm
      have hall : (Tryd.f6.params.toList.all fun t => !Tryd.prog.wantsStandIn t) = true := by kernel_rfl
      exact ⟨by kernel_rfl, fun j t ht => by
        have h1 := List.all_eq_true.1 hall t (List.mem_of_getElem? (by simpa using ht))
        show Tryd.prog.wantsStandIn t = false
        simpa using h1⟩)
    (by kernel_rfl)
end
#print axioms valueOrder_card
end Go.Proofs.YtkdcnkadngbccaaDoor
