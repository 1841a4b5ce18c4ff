/-
  ValueFits returns true for all values and columns: only values of a column's kind fit, or null where it may be; what fits a column that may not be null fits it when it may.
  No condition but the reach of the statement's form; the listed variables are tied by the card.
-/
import Derived.Test.YtkdcnkadngbccaaDoorFits
import Derived.Test.YtkdcnkadngbccaaDoorTie
import Derived.Test.YtkdcnkadngbccaaDoorCards
import Derived.Lay
import Derived.MakeChecks
import Derived.JoinedOf
import Derived.Stop.Joined
import Derived.HandedShaped
namespace Go.Proofs.YtkdcnkadngbccaaDoor
open Go.RowKit Go.Lib

theorem fits_cases (k n : Int) (s : ByteArray) (ck : Int) (nn : Bool) : ∃ E F, fitsV ⟨k, n, s⟩ ck nn = E ∧ fitsV ⟨k, n, s⟩ ck false = F ∧
    ((rightV k n s = false ∧ E = 10 ∧ F = 10) ∨ (rightV k n s = true ∧ k = 0 ∧ nn = true ∧ E = 16 ∧ F = 0) ∨ (rightV k n s = true ∧ k = 0 ∧ nn = false ∧ E = 0 ∧ F = 0) ∨
      (rightV k n s = true ∧ k ≠ 0 ∧ k = ck ∧ E = 0 ∧ F = 0) ∨ (rightV k n s = true ∧ k ≠ 0 ∧ k ≠ ck ∧ E = 14 ∧ F = 14)) := by
  refine ⟨_, _, rfl, rfl, ?_⟩
  unfold fitsV rightVa
  cases hr : rightV k n s with
  | false => exact .inl ⟨rfl, by simp [hr], by simp [hr]⟩
  | true =>
    by_cases hk : k = 0
    · cases nn with
      | true => exact .inr (.inl ⟨rfl, hk, rfl, by simp [hr, hk], by simp [hr, hk]⟩)
      | false => exact .inr (.inr (.inl ⟨rfl, hk, rfl, by simp [hr, hk], by simp [hr, hk]⟩))
    · by_cases hc : k = ck
      · exact .inr (.inr (.inr (.inl ⟨rfl, hk, hc, by simp [hr, hk, hc]; omega, by simp [hr, hk, hc]⟩)))
      · exact .inr (.inr (.inr (.inr ⟨rfl, hk, hc, by simp [hr, hk, hc], by simp [hr, hk, hc]⟩)))
set_option maxRecDepth 100000 in
set_option maxHeartbeats 6400000 in
theorem valueFits_walk (x : Va) (y : Co) (w : World) (_hi : x.In) (_ht : True) :
    Calls Tryd.prog 7 #[.agg #[.int .i64 x.k, .int .i64 x.n, .string x.s], .agg #[.string y.name, .int .i64 y.k, .bool y.nn]] w (YesB w) := by
  obtain ⟨k, n, s⟩ := x
  obtain ⟨name, ck, nn⟩ := y
  simp only
  clear _hi _ht
  have h1 := VS.new w k n s
  have h2 := CS.new (w.alloc (.cells #[.int .i64 k, .int .i64 n, .string s] 23)) name ck nn
  have sz : (w.alloc (.cells #[.int .i64 k, .int .i64 n, .string s] 23)).heap.size = w.heap.size + 1 := by simp
  have h3 := h1.below h2.2.2.2
  rw [sz] at h2
  obtain ⟨w2, hw2⟩ : ∃ w2, w2 = (w.alloc (.cells #[.int .i64 k, .int .i64 n, .string s] 23)).alloc (.cells #[.string name, .int .i64 ck, .bool nn] 25) := ⟨_, rfl⟩
  rw [← hw2] at h2 h3
  have HW := Lib.hid hw2
  have HV := Lib.hid h3
  have HC := Lib.hid (show CS w (w.heap.size + 1) name ck nn w2 from ⟨h2.1, h2.2.1, h2.2.2.1, h3.2.2.2⟩)
  clear h1 h2 h3 hw2 sz
  go_enter Tryd.func7, Tryd.ntmps7
  go_wp2_with fail
  rw [← HW.out]
  refine (alive_any _).mono ?_
  rintro e w3 ⟨rfl, hb3⟩
  have HV3 := Lib.hid (HV.out.below hb3)
  have HC3 := Lib.hid (HC.out.below hb3)
  obtain ⟨c0, c1, c2, _⟩ := HV3.out
  obtain ⟨d0, d1, d2, _⟩ := HC3.out
  clear hb3
  go_wp2_with fail
  obtain ⟨E, F, hE, hF, hcs⟩ := fits_cases k n s ck nn
  have HEF := Lib.hid (And.intro hE (And.intro hF hcs))
  clear hE hF hcs
  refine (fits_any ⟨k, n, s⟩ name ck nn _).mono ?_
  rw [HEF.out.1]
  rintro e w4 ⟨rfl, hb4⟩
  have HV4 := Lib.hid (HV3.out.below hb4)
  have HC4 := Lib.hid (HC3.out.below hb4)
  clear c0 c1 c2 d0 d1 d2 hb4
  have hbel := (Below.refl w4.heap.size w4).alloc (Nat.le_refl _) (.cells #[.string name, .int .i64 ck, .bool false] 25)
  have HV5 := Lib.hid (HV4.out.below hbel)
  have HC5 := Lib.hid (HC4.out.below hbel)
  obtain ⟨c0, c1, c2, _⟩ := HV5.out
  obtain ⟨f0, f1, f2, _⟩ := CS.new w4 name ck false
  obtain ⟨d0, d1, d2, _⟩ := HC4.out
  clear hbel
  go_wp2_with fail
  refine (fits_any ⟨k, n, s⟩ name ck false _).mono ?_
  rw [HEF.out.2.1]
  rintro e w6 ⟨rfl, hb6⟩
  have HV6 := Lib.hid (HV5.out.below hb6)
  have HC6 := Lib.hid (HC5.out.below hb6)
  clear c0 c1 c2 d0 d1 d2 f0 f1 f2 hb6
  obtain ⟨c0, c1, c2, _⟩ := HV6.out
  obtain ⟨d0, d1, d2, hB⟩ := HC6.out
  have HB := Lib.hid hB
  have hc := HEF.out.2.2
  clear hB
  rcases hc with ⟨hr, rfl, rfl⟩ | ⟨hr, rfl, rfl, rfl, rfl⟩ | ⟨hr, rfl, rfl, rfl, rfl⟩ | ⟨hr, hk, rfl, rfl, rfl⟩ | ⟨hr, hk, hck, rfl, rfl⟩
  · clear hr
    go_wp2
    go_ret
    exact ⟨rfl, HB.out⟩
  · clear hr
    go_wp2
    go_ret
    exact ⟨rfl, HB.out⟩
  · have HR := Lib.hid hr
    clear hr
    go_wp2_with fail
    refine (right_any _ n s _).mono ?_
    rw [HR.out]
    rintro e w7 ⟨rfl, hb7⟩
    obtain ⟨e0, e1, e2, _⟩ := HV6.out.below hb7
    obtain ⟨g0, g1, g2, hB7⟩ := HC6.out.below hb7
    have HB7 := Lib.hid hB7
    clear hb7 hB7 c0 c1 c2 d0 d1 d2
    by_cases h0 : (0 : Int) = ck
    · subst h0
      go_wp2
      go_ret
      exact ⟨rfl, HB7.out⟩
    · have hd : ((0 : Int) == ck) = false := by simp [h0]
      have hd2 : decide ((0 : Int) = ck) = false := by simp [h0]
      go_wp2
      go_ret
      exact ⟨rfl, HB7.out⟩
  · have HR := Lib.hid hr
    clear hr
    go_wp2_with fail
    refine (right_any k n s _).mono ?_
    rw [HR.out]
    rintro e w7 ⟨rfl, hb7⟩
    obtain ⟨e0, e1, e2, _⟩ := HV6.out.below hb7
    obtain ⟨g0, g1, g2, hB7⟩ := HC6.out.below hb7
    have HB7 := Lib.hid hB7
    clear hb7 hB7 c0 c1 c2 d0 d1 d2
    go_wp2
    go_ret
    exact ⟨rfl, HB7.out⟩
  · clear hr
    go_wp2
    go_ret
    exact ⟨rfl, HB.out⟩

section
open Go.ChangeShapes Go.WideShapes Go.ChangeAt
open Go.ChangeMaps (open_string shut_string)
set_option linter.unusedVariables false
set_option maxRecDepth 100000 in
theorem valueFits_lifted (os : Os) (started : os.Started) (H : Type) (enc : TypeId × Value → H) :
    ReturnsInHanded {} Tryd.checked os 7 .any (fun w args => (Rows.valueFitsSpec.pre enc Tryd.prog Tryd.f7 Rows.valueFitsRow.domain false w args ∧ laidMetH Tryd.prog Rows.valueFitsRow.laid w) ∧ sizedMet enc Tryd.prog Tryd.f7 (OpenSpec.ofChange Rows.valueFitsSpec) false w args)
      (Rows.valueFitsSpec.post enc Tryd.prog Tryd.f7 false true false false) := by
  refine returnsInHanded_of_change_and (C := Tryd.checked) (X := fun w _ => laidMetH Tryd.prog Rows.valueFitsRow.laid w) (fun _ _ _ hh h => h.of_heap hh) own started (by kernel_rfl) Tryd.func7
    (ChangeSpec.witness_shaped (enc := enc) (C := Tryd.checked) (os := os) (X := fun w _ => laidMetH Tryd.prog Rows.valueFitsRow.laid w) false (World.laidAll Tryd.prog os Rows.valueFitsRow.laid) #[.agg #[.int .i64 0, .int .i64 0, .string ByteArray.empty], .agg #[.string ByteArray.empty, .int .i64 0, .bool false]] 8 (World.laidAll_os _ _ _)
      (World.shaped_of_ZipB (by kernel_rfl) (by kernel_rfl)) (by kernel_rfl) (by kernel_rfl) (by kernel_rfl)
      (by rw [MakeChecks.laidMetH_plain _ _ _ (by kernel_rfl)]; exact laidMet_laidAll _ (by kernel_rfl) (by kernel_rfl))) ?_
  intro W base args ds gs before hval0 hW hcnd hsz hL _
  have hval : ∀ (j : Nat) t v, Tryd.f7.params[j]? = some t → args[j]? = some v → Value.okWide Tryd.prog W .any base t v := hval0
  have hW' := hW
  obtain ⟨p, q, hA0, hV, rfl, hfz, hnd⟩ := hW
  have hA : DataW.TrodAll enc Tryd.prog W 0 (fun _ => true) true Tryd.f7.params.toList args.toList ds p := hA0
  rw [Tryd.params7] at hA hval
  obtain ⟨v0, vs0, d0, ds0, p0, q0, hargs, rfl, rfl, h0, r0⟩ := trodAll_cons hA
  obtain ⟨v1, vs1, d1, ds1, p1, q1, rfl, rfl, rfl, h1, r1⟩ := trodAll_cons r0
  obtain ⟨rfl, rfl, rfl⟩ := trodAll_nil r1
  obtain rfl : args = #[v0, v1] := by cases args; simp_all
  obtain ⟨rfl, rfl⟩ := trodVars_none hV
  have k0 := h0
  have lt0 : ∀ x ∈ p0, x.block < W.heap.size := by obtain ⟨m, hm⟩ := k0; exact DataW.trod_lt m _ _ _ hm
  have k1 := h1
  have lt1 : ∀ x ∈ p1, x.block < W.heap.size := by obtain ⟨m, hm⟩ := k1; exact DataW.trod_lt m _ _ _ hm
  obtain ⟨z0, i0x, rfl⟩ := val_of_wide Tryd.underlying23 (by kernel_rfl) ⟨rfl, by kernel_rfl, Tryd.underlying3⟩ ⟨rfl, by kernel_rfl, Tryd.underlying3⟩ ⟨rfl, by kernel_rfl, Tryd.underlying9⟩ (hval 0 23 v0 rfl rfl) h0
  obtain ⟨z1, i1x, rfl⟩ := col_of_wide Tryd.underlying25 (by kernel_rfl) ⟨rfl, by kernel_rfl, Tryd.underlying9⟩ ⟨rfl, by kernel_rfl, Tryd.underlying3⟩ ⟨rfl, by kernel_rfl, Tryd.underlying4⟩ (hval 1 25 v1 rfl rfl) h1
  clear hA0 hval0
  refine (valueFits_walk z0 z1 W i0x i1x).mono fun e W' ⟨he, bel⟩ => ?_
  subst he
  exact ⟨_, rfl, _, _, _, [], _, [], hW', trodAll_mk1 (shut_bool Tryd.underlying4 _), (trodAll_cons_mk (Below.trod laidOut (by kernel_rfl) (of_decide_eq_true (by kernel_rfl)) k0 bel lt0) (trodAll_cons_mk (Below.trod laidOut (by kernel_rfl) (of_decide_eq_true (by kernel_rfl)) k1 bel lt1) trodAll_mk0)), rfl, bel.frame _, fun h => by cases h⟩

theorem valueFits_over : Rows.valueFitsRow.holds Tryd.pinned (OpenSpec.ofChange Rows.valueFitsSpec) :=
  OpenClaim.holds_of_wide 7 Tryd.f7 rfl rfl rfl rfl rfl rfl rfl ⟨rfl, rfl, rfl, rfl, rfl⟩ rfl rfl rfl rfl rfl (by kernel_rfl) Tryd.func7 (by kernel_rfl)
    (of_decide_eq_true (by kernel_rfl)) (by unfold Func.isWrapper; first | (rw [if_pos (by decide +kernel)]; kernel_rfl) | (rw [if_neg (by decide +kernel)]; exact ⟨rfl, rfl⟩))
    (fun os started H enc _ => valueFits_lifted os started H enc)

theorem valueFits_card : Rows.ValueFitsCardSaid :=
  Claim7.holds_tied_plain_at .later [] [.data, .data, .data, .sentinel, .sentinel] true _ true
    valueFits_over (fun _ h => by cases h) (by kernel_rfl) (fun _ h => by cases h) valueFits_row_tie rfl ⟨rfl, rfl⟩ (by kernel_rfl) rfl
    (fun f fn hf hfn => by
      obtain rfl : f = 7 := Option.some.inj ((show Tryd.prog.funcNamed Rows.valueFitsRow.func = some 7 by kernel_rfl).symm.trans hf) |>.symm
      obtain rfl : fn = Tryd.f7 := (Option.some.inj (Tryd.func7.symm.trans hfn)).symm
      have hall : (Tryd.f7.params.toList.all fun t => !Tryd.prog.wantsStandIn t) = true := by kernel_rfl
      exact ⟨by kernel_rfl, fun j t ht => by
        have h1 := List.all_eq_true.1 hall t (List.mem_of_getElem? (by simpa using ht))
        show Tryd.prog.wantsStandIn t = false
        simpa using h1⟩)
    (by kernel_rfl)
end
#print axioms valueFits_card
end Go.Proofs.YtkdcnkadngbccaaDoor
