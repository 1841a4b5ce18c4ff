/-
  ValueAsks returns true for all values and columns: the program and the document's own small answers say the same of what is right, in which order values lie, what can be compared, what fits and how a value is shown.
  No condition but the reach of the statement's form; the listed variables are tied by the card.
-/
import Derived.Test.YtkdcnkadngbccaaDoorVLaid
import Derived.Test.YtkdcnkadngbccaaDoorRShow
import Derived.Test.YtkdcnkadngbccaaDoorVAlive
import Derived.Test.YtkdcnkadngbccaaDoorTie
import Derived.Test.YtkdcnkadngbccaaDoorCards
import Derived.Lay
import Derived.MakeChecks
import Derived.JoinedOf
import Derived.Stop.Joined
import Derived.HandedShaped
namespace Go.Proofs.YtkdcnkadngbccaaDoor
open Go.RowKit Go.Lib

set_option maxRecDepth 100000 in
set_option maxHeartbeats 6400000 in
theorem valueAsks_walk (x y : Va) (z : Co) (w : World) (hi : x.In) (hi' : y.In) (_ht : True) (hv : Vs w) :
    Calls Tryd.prog 3 #[.agg #[.int .i64 x.k, .int .i64 x.n, .string x.s], .agg #[.int .i64 y.k, .int .i64 y.n, .string y.s], .agg #[.string z.name, .int .i64 z.k, .bool z.nn]] w (YesB w) := by
  have hm : Tryd.prog.follows .mixedOrders = true := by kernel_rfl
  obtain ⟨k, n, s⟩ := x
  obtain ⟨k', n', s'⟩ := y
  obtain ⟨name, ck, nn⟩ := z
  simp only
  obtain ⟨w2, hw2, hc, hd, hb⟩ := two_boxed w k n s k' n' s'
  have hV : VS w w.heap.size k n s w2 := ⟨hc.1, hc.2.1, hc.2.2, hb⟩
  have hV' : VS w (w.heap.size + 1) k' n' s' w2 := ⟨hd.1, hd.2.1, hd.2.2, hb⟩
  have sz : w2.heap.size = w.heap.size + 2 := by rw [hw2]; simp
  have h3 := CS.new w2 name ck nn
  rw [sz] at h3
  have hA := (Below.refl w2.heap.size w2).alloc (Nat.le_refl _) (.cells #[.string name, .int .i64 ck, .bool nn] 25)
  have hV2 := hV.below hA
  have hV2' := hV'.below hA
  obtain ⟨w1, hw1⟩ : ∃ w1, w1 = w2.alloc (.cells #[.string name, .int .i64 ck, .bool nn] 25) := ⟨_, rfl⟩
  rw [← hw1] at h3 hV2 hV2'
  rw [hw2] at hw1
  have HW := Lib.hid hw1
  have HI := Lib.hid (And.intro hi (And.intro hi' hv))
  have HV := Lib.hid (And.intro hV2 hV2')
  have HC := Lib.hid (show CS w (w.heap.size + 2) name ck nn w1 from ⟨h3.1, h3.2.1, h3.2.2.1, hV2.2.2.2⟩)
  clear hw1 hw2 hc hd hb hi hi' hv hV hV' hV2 hV2' hA h3 sz _ht
  go_enter Tryd.func3, Tryd.ntmps3
  go_wp2_with fail
  rw [← HW.out]
  refine (alive_any _).mono ?_
  rintro e w3 ⟨rfl, hb3⟩
  have HV3 := Lib.hid (And.intro (HV.out.1.below hb3) (HV.out.2.below hb3))
  have HC3 := Lib.hid (HC.out.below hb3)
  obtain ⟨c0, c1, c2, _⟩ := HV3.out.1
  obtain ⟨d0, d1, d2, _⟩ := HV3.out.2
  obtain ⟨f0, f1, f2, _⟩ := HC3.out
  clear hb3
  by_cases hg1 : 1000 < s.size
  · have hg1i : (1000 : Int) < (s.size : Int) := by omega
    go_wp2
    go_ret
    exact ⟨rfl, HV3.out.1.2.2.2⟩
  by_cases hg2 : 1000 < s'.size
  · have hg1i : ¬ (1000 : Int) < (s.size : Int) := by omega
    have hg2i : (1000 : Int) < (s'.size : Int) := by omega
    go_wp2
    go_ret
    exact ⟨rfl, HV3.out.1.2.2.2⟩
  have hg1i : ¬ (1000 : Int) < (s.size : Int) := by omega
  have hg2i : ¬ (1000 : Int) < (s'.size : Int) := by omega
  have HG := Lib.hid (And.intro hg1 hg2)
  clear hg1 hg2
  obtain ⟨CI, hCI⟩ : ∃ CI : Int, (if canCmp ⟨k, n, s⟩ ⟨k', n', s'⟩ then ordVa ⟨k, n, s⟩ ⟨k', n', s'⟩ else 0) = CI := ⟨_, rfl⟩
  obtain ⟨CB, hCB⟩ : ∃ CB : Bool, decide (canCmp ⟨k, n, s⟩ ⟨k', n', s'⟩) = CB := ⟨_, rfl⟩
  have HCC := Lib.hid (And.intro hCI hCB)
  clear hCI hCB
  go_wp2_with fail
  refine (compareV_any ⟨k, n, s⟩ ⟨k', n', s'⟩ _).mono ?_
  rintro e w4 ⟨hb4, he⟩
  rw [HCC.out.1, HCC.out.2] at he
  subst he
  have HV4 := Lib.hid (And.intro (HV3.out.1.below hb4) (HV3.out.2.below hb4))
  have HC4 := Lib.hid (HC3.out.below hb4)
  clear hb4 c0 c1 c2 d0 d1 d2 f0 f1 f2
  obtain ⟨c0, c1, c2, _⟩ := HV4.out.1
  obtain ⟨d0, d1, d2, _⟩ := HV4.out.2
  obtain ⟨f0, f1, f2, _⟩ := HC4.out
  go_wp2_with fail
  refine (refCompare_any ⟨k, n, s⟩ ⟨k', n', s'⟩ _ (by have := HG.out.1; simp only; omega) (by have := HG.out.2; simp only; omega)).mono ?_
  rintro e w5 ⟨hb5, he⟩
  rw [HCC.out.1, HCC.out.2] at he
  subst he
  have HV5 := Lib.hid (And.intro (HV4.out.1.below hb5) (HV4.out.2.below hb5))
  have HC5 := Lib.hid (HC4.out.below hb5)
  have HT := Lib.hid (HI.out.2.2.below HV5.out.1.2.2.2)
  clear hb5 c0 c1 c2 d0 d1 d2 f0 f1 f2
  obtain ⟨R, hR⟩ : ∃ R : Bool, rightV k n s = R := ⟨_, rfl⟩
  obtain ⟨O, hO⟩ : ∃ O : Int, ordV k n s k' n' s' = O := ⟨_, rfl⟩
  obtain ⟨F, hF⟩ : ∃ F : Int, fitsV ⟨k, n, s⟩ ck nn = F := ⟨_, rfl⟩
  obtain ⟨S, hS⟩ : ∃ S : ByteArray, showVa ⟨k, n, s⟩ = S := ⟨_, rfl⟩
  have HA := Lib.hid (And.intro hR (And.intro hO (And.intro hF hS)))
  clear hR hO hF hS
  have k12 : ∀ p : BelowBy w5, Calls Tryd.prog 12 #[.agg #[.int .i64 k, .int .i64 n, .string s]] p.w' fun e w'' => e = .returned (.bool R) ∧ ∃ q : BelowBy w5, w'' = q.w' := fun p => by
    rw [← HA.out.1]; exact calls_below (right_any k n s _)
  have k13 : ∀ p : BelowBy w5, Calls Tryd.prog 13 #[.agg #[.int .i64 k, .int .i64 n, .string s]] p.w' fun e w'' => e = .returned (.bool R) ∧ ∃ q : BelowBy w5, w'' = q.w' := fun p => by
    rw [← HA.out.1]; exact calls_below (refRight_any k n s _)
  have k14 : ∀ p : BelowBy w5, Calls Tryd.prog 14 #[.agg #[.int .i64 k, .int .i64 n, .string s], .agg #[.int .i64 k', .int .i64 n', .string s']] p.w' fun e w'' => e = .returned (.int .i64 O) ∧ ∃ q : BelowBy w5, w'' = q.w' := fun p => by
    rw [← HA.out.2.1]; exact calls_below (order_any k n s k' n' s' _)
  have k15 : ∀ p : BelowBy w5, Calls Tryd.prog 15 #[.agg #[.int .i64 k, .int .i64 n, .string s], .agg #[.int .i64 k', .int .i64 n', .string s']] p.w' fun e w'' => e = .returned (.int .i64 O) ∧ ∃ q : BelowBy w5, w'' = q.w' := fun p => by
    rw [← HA.out.2.1]; exact calls_below (refOrder_any k n s k' n' s' _ (by have := HG.out.1; omega) (by have := HG.out.2; omega))
  have k16 : ∀ p : BelowBy w5, Calls Tryd.prog 16 #[.agg #[.int .i64 k, .int .i64 n, .string s], .agg #[.string name, .int .i64 ck, .bool nn]] p.w' fun e w'' => e = .returned (.int .i64 F) ∧ ∃ q : BelowBy w5, w'' = q.w' := fun p => by
    rw [← HA.out.2.2.1]; exact calls_below (fits_any ⟨k, n, s⟩ name ck nn _)
  have k17 : ∀ p : BelowBy w5, Calls Tryd.prog 17 #[.agg #[.int .i64 k, .int .i64 n, .string s], .agg #[.string name, .int .i64 ck, .bool nn]] p.w' fun e w'' => e = .returned (.int .i64 F) ∧ ∃ q : BelowBy w5, w'' = q.w' := fun p => by
    rw [← HA.out.2.2.1]; exact calls_below (refFits_any ⟨k, n, s⟩ name ck nn _)
  have k18 : ∀ p : BelowBy w5, Calls Tryd.prog 18 #[.agg #[.int .i64 k, .int .i64 n, .string s]] p.w' fun e w'' => e = .returned (.string S) ∧ ∃ q : BelowBy w5, w'' = q.w' := fun p => by
    rw [← HA.out.2.2.2]; exact calls_below (show_va ⟨k, n, s⟩ _ HI.out.1.2.1.1 HI.out.1.2.1.2 (HT.out.below p.h))
  have k19 : ∀ p : BelowBy w5, Calls Tryd.prog 19 #[.agg #[.int .i64 k, .int .i64 n, .string s]] p.w' fun e w'' => e = .returned (.string S) ∧ ∃ q : BelowBy w5, w'' = q.w' := fun p => by
    rw [← HA.out.2.2.2]; exact calls_below (refShow_any ⟨k, n, s⟩ _ HI.out.1.2.1.1 HI.out.1.2.1.2)
  have K := Lib.hid (And.intro (And.intro k12 k13) (And.intro (And.intro k14 k15) (And.intro (And.intro k16 k17) (And.intro k18 k19))))
  clear k12 k13 k14 k15 k16 k17 k18 k19
  have c0 := BelowBy.cell HV5.out.1.1
  have c1 := BelowBy.cell HV5.out.1.2.1
  have c2 := BelowBy.cell HV5.out.1.2.2.1
  have d0 := BelowBy.cell HV5.out.2.1
  have d1 := BelowBy.cell HV5.out.2.2.1
  have d2 := BelowBy.cell HV5.out.2.2.2.1
  have f0 := BelowBy.cell HC5.out.1
  have f1 := BelowBy.cell HC5.out.2.1
  have f2 := BelowBy.cell HC5.out.2.2.1
  go_wp2_with fail
  refine wp_region_below hm (by kernel_rfl) ?_
  repeat (quiet_step (first | (go_at_call 12; exact K.out.1.1 _) | (go_at_call 13; exact K.out.1.2 _) | (go_at_call 14; exact K.out.2.1.1 _) | (go_at_call 15; exact K.out.2.1.2 _) | (go_at_call 16; exact K.out.2.2.1.1 _) | (go_at_call 17; exact K.out.2.2.1.2 _) | (go_at_call 18; exact K.out.2.2.2.1 _) | (go_at_call 19; exact K.out.2.2.2.2 _)))
  refine wpQuiet_nil ?_
  intro _ hw'
  obtain ⟨pq, hw''⟩ := hw'
  subst hw''
  go_wp2
  go_ret
  exact ⟨rfl, HV5.out.1.2.2.2.trans (pq.h.mono HV5.out.1.2.2.2.size)⟩

section
open Go.ChangeShapes Go.WideShapes Go.ChangeAt
open Go.ChangeMaps (open_string shut_string)
set_option linter.unusedVariables false
set_option maxRecDepth 100000 in
theorem valueAsks_lifted (os : Os) (started : os.Started) (H : Type) (enc : TypeId × Value → H) :
    ReturnsInHanded {} Tryd.checked os 3 .any (fun w args => (Rows.valueAsksSpec.pre enc Tryd.prog Tryd.f3 Rows.valueAsksRow.domain false w args ∧ laidMetH Tryd.prog Rows.valueAsksRow.laid w) ∧ sizedMet enc Tryd.prog Tryd.f3 (OpenSpec.ofChange Rows.valueAsksSpec) false w args)
      (Rows.valueAsksSpec.post enc Tryd.prog Tryd.f3 false true false false) := by
  refine returnsInHanded_of_change_and (C := Tryd.checked) (X := fun w _ => laidMetH Tryd.prog Rows.valueAsksRow.laid w) (fun _ _ _ hh h => h.of_heap hh) own started (by kernel_rfl) Tryd.func3
    (ChangeSpec.witness_shaped (enc := enc) (C := Tryd.checked) (os := os) (X := fun w _ => laidMetH Tryd.prog Rows.valueAsksRow.laid w) false (World.laidAll Tryd.prog os Rows.valueAsksRow.laid) #[.agg #[.int .i64 0, .int .i64 0, .string ByteArray.empty], .agg #[.int .i64 0, .int .i64 0, .string ByteArray.empty], .agg #[.string ByteArray.empty, .int .i64 0, .bool false]] 8 (World.laidAll_os _ _ _)
      (World.shaped_of_ZipB (by kernel_rfl) (by kernel_rfl)) (by kernel_rfl) (by kernel_rfl) (by kernel_rfl)
      (by rw [MakeChecks.laidMetH_plain _ _ _ (by kernel_rfl)]; exact laidMet_laidAll _ (by kernel_rfl) (by kernel_rfl))) ?_
  intro W base args ds gs before hval0 hW hcnd hsz hL _
  have hval : ∀ (j : Nat) t v, Tryd.f3.params[j]? = some t → args[j]? = some v → Value.okWide Tryd.prog W .any base t v := hval0
  have hW' := hW
  obtain ⟨p, q, hA0, hV, rfl, hfz, hnd⟩ := hW
  have hA : DataW.TrodAll enc Tryd.prog W 0 (fun _ => true) true Tryd.f3.params.toList args.toList ds p := hA0
  rw [Tryd.params3] at hA hval
  obtain ⟨v0, vs0, d0, ds0, p0, q0, hargs, rfl, rfl, h0, r0⟩ := trodAll_cons hA
  obtain ⟨v1, vs1, d1, ds1, p1, q1, rfl, rfl, rfl, h1, r1⟩ := trodAll_cons r0
  obtain ⟨v2, vs2, d2, ds2, p2, q2, rfl, rfl, rfl, h2, r2⟩ := trodAll_cons r1
  obtain ⟨rfl, rfl, rfl⟩ := trodAll_nil r2
  obtain rfl : args = #[v0, v1, v2] := by cases args; simp_all
  obtain ⟨rfl, rfl⟩ := trodVars_none hV
  have k0 := h0
  have lt0 : ∀ x ∈ p0, x.block < W.heap.size := by obtain ⟨m, hm⟩ := k0; exact DataW.trod_lt m _ _ _ hm
  have k1 := h1
  have lt1 : ∀ x ∈ p1, x.block < W.heap.size := by obtain ⟨m, hm⟩ := k1; exact DataW.trod_lt m _ _ _ hm
  have k2 := h2
  have lt2 : ∀ x ∈ p2, x.block < W.heap.size := by obtain ⟨m, hm⟩ := k2; exact DataW.trod_lt m _ _ _ hm
  obtain ⟨z0, i0x, rfl⟩ := val_of_wide Tryd.underlying23 (by kernel_rfl) ⟨rfl, by kernel_rfl, Tryd.underlying3⟩ ⟨rfl, by kernel_rfl, Tryd.underlying3⟩ ⟨rfl, by kernel_rfl, Tryd.underlying9⟩ (hval 0 23 v0 rfl rfl) h0
  obtain ⟨z1, i1x, rfl⟩ := val_of_wide Tryd.underlying23 (by kernel_rfl) ⟨rfl, by kernel_rfl, Tryd.underlying3⟩ ⟨rfl, by kernel_rfl, Tryd.underlying3⟩ ⟨rfl, by kernel_rfl, Tryd.underlying9⟩ (hval 1 23 v1 rfl rfl) h1
  obtain ⟨z2, i2x, rfl⟩ := col_of_wide Tryd.underlying25 (by kernel_rfl) ⟨rfl, by kernel_rfl, Tryd.underlying9⟩ ⟨rfl, by kernel_rfl, Tryd.underlying3⟩ ⟨rfl, by kernel_rfl, Tryd.underlying4⟩ (hval 2 25 v2 rfl rfl) h2
  clear hA0 hval0
  refine (valueAsks_walk z0 z1 z2 W i0x i1x i2x (vs_of_laid hL)).mono fun e W' ⟨he, bel⟩ => ?_
  subst he
  exact ⟨_, rfl, _, _, _, [], _, [], hW', trodAll_mk1 (shut_bool Tryd.underlying4 _), (trodAll_cons_mk (Below.trod laidOut (by kernel_rfl) (of_decide_eq_true (by kernel_rfl)) k0 bel lt0) (trodAll_cons_mk (Below.trod laidOut (by kernel_rfl) (of_decide_eq_true (by kernel_rfl)) k1 bel lt1) (trodAll_cons_mk (Below.trod laidOut (by kernel_rfl) (of_decide_eq_true (by kernel_rfl)) k2 bel lt2) trodAll_mk0))), rfl, bel.frame _, fun h => by cases h⟩

theorem valueAsks_over : Rows.valueAsksRow.holds Tryd.pinned (OpenSpec.ofChange Rows.valueAsksSpec) :=
  OpenClaim.holds_of_wide 3 Tryd.f3 rfl rfl rfl rfl rfl rfl rfl ⟨rfl, rfl, rfl, rfl, rfl⟩ rfl rfl rfl rfl rfl (by kernel_rfl) Tryd.func3 (by kernel_rfl)
    (of_decide_eq_true (by kernel_rfl)) (by unfold Func.isWrapper; first | (rw [if_pos (by decide +kernel)]; kernel_rfl) | (rw [if_neg (by decide +kernel)]; exact ⟨rfl, rfl⟩))
    (fun os started H enc _ => valueAsks_lifted os started H enc)

theorem valueAsks_card : Rows.ValueAsksCardSaid :=
  Claim7.holds_tied_plain_at .later [] [.data, .data, .data, .sentinel, .sentinel] true _ true
    valueAsks_over (fun _ h => by cases h) (by kernel_rfl) (fun _ h => by cases h) valueAsks_row_tie rfl ⟨rfl, rfl⟩ (by kernel_rfl) rfl
    (fun f fn hf hfn => by
      obtain rfl : f = 3 := Option.some.inj ((show Tryd.prog.funcNamed Rows.valueAsksRow.func = some 3 by kernel_rfl).symm.trans hf) |>.symm
      obtain rfl : fn = Tryd.f3 := (Option.some.inj (Tryd.func3.symm.trans hfn)).symm
      have hall : (Tryd.f3.params.toList.all fun t => !Tryd.prog.wantsStandIn t) = true := by kernel_rfl
      exact ⟨by kernel_rfl, fun j t ht => by
        have h1 := List.all_eq_true.1 hall t (List.mem_of_getElem? (by simpa using ht))
        show Tryd.prog.wantsStandIn t = false
        simpa using h1⟩)
    (by kernel_rfl)
end
#print axioms valueAsks_card
end Go.Proofs.YtkdcnkadngbccaaDoor
