/-
  ValueShown returns true for all values: unlike right values are shown by unlike texts, without line ends; one that isn't right is shown so that it isn't read.
  No condition but the reach of the statement's form; the listed variables are tied by the card.
-/
import Derived.Test.YtkdcnkadngbccaaDoorVLaid
import Derived.Test.YtkdcnkadngbccaaDoorFits
import Derived.Test.YtkdcnkadngbccaaDoorTie
import Derived.Test.YtkdcnkadngbccaaDoorCards
import Derived.Lay
import Derived.MakeChecks
import Derived.JoinedOf
import Derived.Stop.Joined
import Derived.HandedShaped
namespace Go.Proofs.YtkdcnkadngbccaaDoor
open Go.RowKit Go.Lib

def ShRel (s : ByteArray) (i : Value) : Prop := ∃ k : Nat, k ≤ s.size ∧ i = .int .i64 k

set_option maxRecDepth 100000 in
set_option maxHeartbeats 6400000 in
theorem valueShown_walk (x y : Va) (w : World) (hi : x.In) (hi' : y.In) (hv : Vs w) :
    Calls Tryd.prog 8 #[.agg #[.int .i64 x.k, .int .i64 x.n, .string x.s], .agg #[.int .i64 y.k, .int .i64 y.n, .string y.s]] w (YesB w) := by
  obtain ⟨w2, hw2, hc, hd, hb⟩ := two_boxed w x.k x.n x.s y.k y.n y.s
  have hV : VS w w.heap.size x.k x.n x.s w2 := ⟨hc.1, hc.2.1, hc.2.2, hb⟩
  have hV' : VS w (w.heap.size + 1) y.k y.n y.s w2 := ⟨hd.1, hd.2.1, hd.2.2, hb⟩
  have HW := Lib.hid hw2
  have HI := Lib.hid (And.intro hi (And.intro hi' hv))
  have HV := Lib.hid (And.intro hV hV')
  clear hw2 hc hd hb hi hi' hv hV hV'
  go_enter Tryd.func8, Tryd.ntmps8
  go_wp2_with fail
  rw [← HW.out]
  refine (alive_any _).mono ?_
  rintro e w3 ⟨rfl, hb3⟩
  have HV3 := Lib.hid (And.intro (HV.out.1.below hb3) (HV.out.2.below hb3))
  obtain ⟨c0, c1, c2, _⟩ := HV3.out.1
  obtain ⟨d0, d1, d2, _⟩ := HV3.out.2
  clear hb3
  by_cases hg1 : 500 < x.s.size
  · have hg1i : (500 : Int) < (x.s.size : Int) := by omega
    go_wp2
    go_ret
    exact ⟨rfl, HV3.out.1.2.2.2⟩
  by_cases hg2 : 500 < y.s.size
  · have hg1i : ¬ (500 : Int) < (x.s.size : Int) := by omega
    have hg2i : (500 : Int) < (y.s.size : Int) := by omega
    go_wp2
    go_ret
    exact ⟨rfl, HV3.out.1.2.2.2⟩
  have hg1i : ¬ (500 : Int) < (x.s.size : Int) := by omega
  have hg2i : ¬ (500 : Int) < (y.s.size : Int) := by omega
  have HG := Lib.hid (And.intro hg1 hg2)
  clear hg1 hg2
  go_wp2_with fail
  refine (show_va x _ HI.out.1.2.1.1 HI.out.1.2.1.2 (HI.out.2.2.below HV3.out.1.2.2.2)).mono ?_
  rintro e w4 ⟨rfl, hb4⟩
  have HV4 := Lib.hid (And.intro (HV3.out.1.below hb4) (HV3.out.2.below hb4))
  clear hb4 c0 c1 c2 d0 d1 d2
  obtain ⟨c0, c1, c2, _⟩ := HV4.out.1
  obtain ⟨d0, d1, d2, _⟩ := HV4.out.2
  go_wp2_with fail
  refine (show_va y _ HI.out.2.1.2.1.1 HI.out.2.1.2.1.2 (HI.out.2.2.below HV4.out.1.2.2.2)).mono ?_
  rintro e w5 ⟨rfl, hb5⟩
  have HV5 := Lib.hid (And.intro (HV4.out.1.below hb5) (HV4.out.2.below hb5))
  clear hb5 c0 c1 c2 d0 d1 d2
  have hpl := show_plain x
  obtain ⟨sx, hsx⟩ : ∃ sx, sx = showVa x := ⟨_, rfl⟩
  obtain ⟨sy, hsy⟩ : ∃ sy, sy = showVa y := ⟨_, rfl⟩
  have HS := Lib.hid (And.intro hsx hsy)
  rw [← hsx] at hpl
  rw [← hsx, ← hsy]
  have hln : sx.size ≤ 5000 := by rw [hsx]; exact show_len x HI.out.1 (by have := HG.out.1; omega)
  have HP := Lib.hid hpl
  clear hpl hsx hsy
  go_wp2_with fail
  go_loop [7] (fun i => ShRel sx i) (fun i => sx.size - (Lib.intOf i).toNat)
  case atStart => exact ⟨0, by omega, rfl⟩
  case round =>
    obtain ⟨k, hk, rfl⟩ := hrel
    have hk0 : (0 : Int) ≤ (k : Int) := Int.natCast_nonneg _
    by_cases hlt : k < sx.size
    · have hlt1 : (k : Int) < (sx.size : Int) := by omega
      have hkb : k < (bytes sx).length := by rw [bytes_len]; exact hlt
      have ix := str_index sx k k rfl hkb
      obtain ⟨b, hb⟩ : ∃ b, b = (bytes sx)[k] := ⟨_, rfl⟩
      have hbb := HP.out b (by rw [hb]; exact List.getElem_mem _)
      rw [← hb] at ix
      clear hb hkb
      have g1 : ¬ b < 32 := by omega
      have g2 : ¬ 126 < b := by omega
      go_wp2
      go_round
      case rel => exact ⟨k + 1, by omega, by go_num⟩
      case measure => simp [Lib.intOf]; omega
    · have hlt1 : ¬ (k : Int) < (sx.size : Int) := by omega
      have hse := str_eq sx sy
      have heq := eqVal
      go_wp2_with fail
      have hrd := read_any sx w5 (by omega) (HI.out.2.2.below HV5.out.1.2.2.2)
      cases hr : rightVa x with
      | false =>
        have hro : readOk sx = false := by rw [HS.out.1]; exact read_wrong x hr
        rw [hro] at hrd
        refine hrd.mono ?_
        rintro e w6 ⟨hb6, rfl⟩
        rw [if_neg (by simp)]
        obtain ⟨e0, e1, e2, _⟩ := (HV5.out.1.below hb6).below ((Below.refl _ _).alloc (Nat.le_refl _) (.cells #[.int .i64 0, .int .i64 0, .string ⟨#[]⟩] 23))
        have HV6 := Lib.hid ((HV5.out.1.below hb6).below ((Below.refl _ _).alloc (Nat.le_refl _) (.cells #[.int .i64 0, .int .i64 0, .string ⟨#[]⟩] 23)))
        have HR := Lib.hid (show rightV x.k x.n x.s = false from hr)
        clear hrd hb6 hr hro
        go_wp2_with fail
        refine (right_any x.k x.n x.s _).mono ?_
        rw [HR.out]
        rintro e w7 ⟨rfl, hb7⟩
        have HV7 := Lib.hid (HV6.out.below hb7)
        clear e0 e1 e2 hb7
        obtain ⟨e0, e1, e2, _⟩ := HV7.out
        go_wp2_with fail
        refine (right_any x.k x.n x.s _).mono ?_
        rw [HR.out]
        rintro e w8 ⟨rfl, hb8⟩
        have HB8 := Lib.hid (HV7.out.2.2.2.trans (hb8.mono HV7.out.2.2.2.size))
        clear e0 e1 e2 hb8
        go_wp2
        go_ret
        exact ⟨rfl, HB8.out⟩
      | true =>
        have hro : readOk sx = true := by rw [HS.out.1]; exact read_show x HI.out.1 hr
        rw [hro] at hrd
        refine hrd.mono ?_
        rintro e w6 ⟨hb6, rfl⟩
        rw [if_pos rfl]
        obtain ⟨mv, hmv⟩ : ∃ mv, mv = meantV sx := ⟨_, rfl⟩
        rw [← hmv]
        obtain ⟨e0, e1, e2, _⟩ := (HV5.out.1.below hb6).below ((Below.refl _ _).alloc (Nat.le_refl _) (.cells #[.int .i64 mv.k, .int .i64 mv.n, .string mv.s] 23))
        have HV6 := Lib.hid (And.intro ((HV5.out.1.below hb6).below ((Below.refl _ _).alloc (Nat.le_refl _) (.cells #[.int .i64 mv.k, .int .i64 mv.n, .string mv.s] 23))) ((HV5.out.2.below hb6).below ((Below.refl _ _).alloc (Nat.le_refl _) (.cells #[.int .i64 mv.k, .int .i64 mv.n, .string mv.s] 23))))
        have HR := Lib.hid (And.intro (show rightV x.k x.n x.s = true from hr) hr)
        clear hrd hb6 hr hro hmv
        go_wp2_with fail
        refine (right_any x.k x.n x.s _).mono ?_
        rw [HR.out.1]
        rintro e w7 ⟨rfl, hb7⟩
        have HV7 := Lib.hid (And.intro (HV6.out.1.below hb7) (HV6.out.2.below hb7))
        clear e0 e1 e2 hb7
        obtain ⟨e0, e1, e2, _⟩ := HV7.out.1
        go_wp2_with fail
        refine (right_any x.k x.n x.s _).mono ?_
        rw [HR.out.1]
        rintro e w8 ⟨rfl, hb8⟩
        have HV8 := Lib.hid (And.intro (HV7.out.1.below hb8) (HV7.out.2.below hb8))
        clear e0 e1 e2 hb8
        obtain ⟨e0, e1, e2, _⟩ := HV8.out.2
        go_wp2_with fail
        refine (right_any y.k y.n y.s _).mono ?_
        rintro e w9 ⟨rfl, hb9⟩
        have HV9 := Lib.hid (And.intro (HV8.out.1.below hb9) (HV8.out.2.below hb9))
        clear e0 e1 e2 hb9
        obtain ⟨e0, e1, e2, _⟩ := HV9.out.1
        obtain ⟨f0, f1, f2, _⟩ := HV9.out.2
        cases hry : rightV y.k y.n y.s with
        | false =>
          clear hry
          go_wp2
          go_ret
          exact ⟨rfl, HV9.out.1.2.2.2⟩
        | true =>
          have HY := Lib.hid (show rightVa y = true from hry)
          clear hry
          by_cases hxy : x = y
          · subst hxy
            have hss : sx = sy := by rw [HS.out.1, HS.out.2]
            subst hss
            go_wp2
            go_ret
            exact ⟨rfl, HV9.out.1.2.2.2⟩
          · have hss : ¬ sx = sy := fun e => hxy (show_inj x y HI.out.1 HI.out.2.1 HR.out.2 HY.out (by rw [← HS.out.1, ← HS.out.2]; exact e))
            have hd : (decide (x.k = y.k) && (decide (x.n = y.n) && decide (x.s = y.s))) = false := by
              obtain ⟨xk, xn, xs⟩ := x
              obtain ⟨yk, yn, ys⟩ := y
              simp only [Va.mk.injEq] at hxy
              by_cases h1 : xk = yk <;> by_cases h2 : xn = yn <;> by_cases h3 : xs = ys <;> simp_all
            rw [decide_eq_false hss] at hse
            clear hxy hss
            go_wp2
            go_ret
            exact ⟨rfl, HV9.out.1.2.2.2⟩

section
open Go.ChangeShapes Go.WideShapes Go.ChangeAt
open Go.ChangeMaps (open_string shut_string)
set_option linter.unusedVariables false
set_option maxRecDepth 100000 in
theorem valueShown_lifted (os : Os) (started : os.Started) (H : Type) (enc : TypeId × Value → H) :
    ReturnsInHanded {} Tryd.checked os 8 .any (fun w args => (Rows.valueShownSpec.pre enc Tryd.prog Tryd.f8 Rows.valueShownRow.domain false w args ∧ laidMetH Tryd.prog Rows.valueShownRow.laid w) ∧ sizedMet enc Tryd.prog Tryd.f8 (OpenSpec.ofChange Rows.valueShownSpec) false w args)
      (Rows.valueShownSpec.post enc Tryd.prog Tryd.f8 false true false false) := by
  refine returnsInHanded_of_change_and (C := Tryd.checked) (X := fun w _ => laidMetH Tryd.prog Rows.valueShownRow.laid w) (fun _ _ _ hh h => h.of_heap hh) own started (by kernel_rfl) Tryd.func8
    (ChangeSpec.witness_shaped (enc := enc) (C := Tryd.checked) (os := os) (X := fun w _ => laidMetH Tryd.prog Rows.valueShownRow.laid w) false (World.laidAll Tryd.prog os Rows.valueShownRow.laid) #[.agg #[.int .i64 0, .int .i64 0, .string ByteArray.empty], .agg #[.int .i64 0, .int .i64 0, .string ByteArray.empty]] 8 (World.laidAll_os _ _ _)
      (World.shaped_of_ZipB (by kernel_rfl) (by kernel_rfl)) (by kernel_rfl) (by kernel_rfl) (by kernel_rfl)
      (by rw [MakeChecks.laidMetH_plain _ _ _ (by kernel_rfl)]; exact laidMet_laidAll _ (by kernel_rfl) (by kernel_rfl))) ?_
  intro W base args ds gs before hval0 hW hcnd hsz hL _
  have hval : ∀ (j : Nat) t v, Tryd.f8.params[j]? = some t → args[j]? = some v → Value.okWide Tryd.prog W .any base t v := hval0
  have hW' := hW
  obtain ⟨p, q, hA0, hV, rfl, hfz, hnd⟩ := hW
  have hA : DataW.TrodAll enc Tryd.prog W 0 (fun _ => true) true Tryd.f8.params.toList args.toList ds p := hA0
  rw [Tryd.params8] at hA hval
  obtain ⟨v0, vs0, d0, ds0, p0, q0, hargs, rfl, rfl, h0, r0⟩ := trodAll_cons hA
  obtain ⟨v1, vs1, d1, ds1, p1, q1, rfl, rfl, rfl, h1, r1⟩ := trodAll_cons r0
  obtain ⟨rfl, rfl, rfl⟩ := trodAll_nil r1
  obtain rfl : args = #[v0, v1] := by cases args; simp_all
  obtain ⟨rfl, rfl⟩ := trodVars_none hV
  have k0 := h0
  have lt0 : ∀ x ∈ p0, x.block < W.heap.size := by obtain ⟨m, hm⟩ := k0; exact DataW.trod_lt m _ _ _ hm
  have k1 := h1
  have lt1 : ∀ x ∈ p1, x.block < W.heap.size := by obtain ⟨m, hm⟩ := k1; exact DataW.trod_lt m _ _ _ hm
  obtain ⟨z0, i0x, rfl⟩ := val_of_wide Tryd.underlying23 (by kernel_rfl) ⟨rfl, by kernel_rfl, Tryd.underlying3⟩ ⟨rfl, by kernel_rfl, Tryd.underlying3⟩ ⟨rfl, by kernel_rfl, Tryd.underlying9⟩ (hval 0 23 v0 rfl rfl) h0
  obtain ⟨z1, i1x, rfl⟩ := val_of_wide Tryd.underlying23 (by kernel_rfl) ⟨rfl, by kernel_rfl, Tryd.underlying3⟩ ⟨rfl, by kernel_rfl, Tryd.underlying3⟩ ⟨rfl, by kernel_rfl, Tryd.underlying9⟩ (hval 1 23 v1 rfl rfl) h1
  clear hA0 hval0
  refine (valueShown_walk z0 z1 W i0x i1x (vs_of_laid hL)).mono fun e W' ⟨he, bel⟩ => ?_
  subst he
  exact ⟨_, rfl, _, _, _, [], _, [], hW', trodAll_mk1 (shut_bool Tryd.underlying4 _), (trodAll_cons_mk (Below.trod laidOut (by kernel_rfl) (of_decide_eq_true (by kernel_rfl)) k0 bel lt0) (trodAll_cons_mk (Below.trod laidOut (by kernel_rfl) (of_decide_eq_true (by kernel_rfl)) k1 bel lt1) trodAll_mk0)), rfl, bel.frame _, fun h => by cases h⟩

theorem valueShown_over : Rows.valueShownRow.holds Tryd.pinned (OpenSpec.ofChange Rows.valueShownSpec) :=
  OpenClaim.holds_of_wide 8 Tryd.f8 rfl rfl rfl rfl rfl rfl rfl ⟨rfl, rfl, rfl, rfl, rfl⟩ rfl rfl rfl rfl rfl (by kernel_rfl) Tryd.func8 (by kernel_rfl)
    (of_decide_eq_true (by kernel_rfl)) (by unfold Func.isWrapper; first | (rw [if_pos (by decide +kernel)]; kernel_rfl) | (rw [if_neg (by decide +kernel)]; exact ⟨rfl, rfl⟩))
    (fun os started H enc _ => valueShown_lifted os started H enc)

theorem valueShown_card : Rows.ValueShownCardSaid :=
  Claim7.holds_tied_plain_at .later [] [.data, .data, .data, .sentinel, .sentinel] true _ true
    valueShown_over (fun _ h => by cases h) (by kernel_rfl) (fun _ h => by cases h) valueShown_row_tie rfl ⟨rfl, rfl⟩ (by kernel_rfl) rfl
    (fun f fn hf hfn => by
      obtain rfl : f = 8 := Option.some.inj ((show Tryd.prog.funcNamed Rows.valueShownRow.func = some 8 by kernel_rfl).symm.trans hf) |>.symm
      obtain rfl : fn = Tryd.f8 := (Option.some.inj (Tryd.func8.symm.trans hfn)).symm
      have hall : (Tryd.f8.params.toList.all fun t => !Tryd.prog.wantsStandIn t) = true := by kernel_rfl
      exact ⟨by kernel_rfl, fun j t ht => by
        have h1 := List.all_eq_true.1 hall t (List.mem_of_getElem? (by simpa using ht))
        show Tryd.prog.wantsStandIn t = false
        simpa using h1⟩)
    (by kernel_rfl)
end
#print axioms valueShown_card
end Go.Proofs.YtkdcnkadngbccaaDoor
