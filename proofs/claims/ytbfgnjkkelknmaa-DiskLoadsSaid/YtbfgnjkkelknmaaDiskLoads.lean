/-
  DiskLoads returns true for every list of bytes and every number, and leaves them as they were: every Load answers a disk with these bytes, as the document's does.
  No condition.
-/
import Derived.Test.YtbfgnjkkelknmaaSameD
namespace Go.Proofs.Ytbfgnjkkelknmaa
open Go.RowKit Go.Lib

set_option maxRecDepth 100000 in
set_option maxHeartbeats 6400000 in
theorem diskLoads_walk (A : Option Addr) (n c : Nat) (img : List Int) (m : Int) (w : World)
    (hr : Rd w w.heap.size A n (cells img)) (_h1 : ∀ z ∈ img, (Lit.int .u8 z).wf = true) (hl : img.length = n) (hnc : n ≤ c) (hcm : c ≤ maxLen) (_hb : -9223372036854775808 ≤ m ∧ m ≤ 9223372036854775807) :
    Calls Try.prog 4 #[.slice A n c, .int .i64 m] w (YesBelow w) := by
  by_cases hbig : 20000 < n
  · clear hr
    go_enter Try.func4, Try.ntmps4
    go_wp2_with (go_at_call 9; refine (alive_any _).mono ?_; rintro e w1 ⟨rfl, h1⟩)
    go_ret
    exact ⟨rfl, h1⟩
  · by_cases hmid : 100 < m ∧ m ≤ 65536
    · obtain ⟨q1, q2⟩ := hmid
      clear hr
      go_enter Try.func4, Try.ntmps4
      go_wp2_with (go_at_call 9; refine (alive_any _).mono ?_; rintro e w1 ⟨rfl, h1⟩)
      go_ret
      exact ⟨rfl, h1⟩
    · have HB := Lib.hid (And.intro hr (And.intro hl (And.intro hnc hcm)))
      clear hr hl hnc hcm
      by_cases hgood : 1 ≤ m ∧ m ≤ 100
      · obtain ⟨k, rfl⟩ : ∃ k : Nat, m = k := ⟨m.toNat, by omega⟩
        have hk1 : 1 ≤ k := by omega
        have hk2 : k ≤ 100 := by omega
        have hk3 : ¬ (100 : Int) < (k : Int) := by omega
        clear hgood hmid
        go_enter Try.func4, Try.ntmps4
        go_wp2_with fail
        refine (alive_any w).mono ?_
        rintro e w1 ⟨rfl, h1⟩
        have HA := Lib.hid (And.intro h1 ((HB.out.1.below h1 (Nat.le_refl _)).more h1.size))
        clear h1
        go_wp2_with fail
        refine (copyBytes_any A n c img w1 HA.out.2 (by omega)).mono ?_
        rintro e w2 ⟨v2, rfl, o2, b2⟩
        obtain ⟨A2, c2, rfl, hnc2, hcm2⟩ := own_shape o2
        rw [HB.out.2.1] at o2 hnc2 ⊢
        have H2 := Lib.hid (And.intro (Rd.own o2) (And.intro (HA.out.2.below b2 (Nat.le_refl _)) (And.intro (HA.out.1.trans (b2.mono HA.out.1.size)) (And.intro hnc2 hcm2))))
        have s2 := b2.size
        clear o2 b2 hnc2 hcm2
        go_wp2_with fail
        refine (load_any A2 n c2 img w2 H2.out.1 H2.out.2.2.2.1 H2.out.2.2.2.2 k hk1 (by omega)).mono ?_
        rintro e w3 ⟨g, rfl, hd3, b3⟩
        have H3 := Lib.hid (And.intro hd3 (And.intro (H2.out.1.below b3 (Nat.le_refl _)) (And.intro (H2.out.2.1.below b3 s2) (H2.out.2.2.1.trans (b3.mono H2.out.2.2.1.size)))))
        have s3 := b3.size
        clear hd3 b3
        go_wp2_with fail
        refine (refLoad_any A n c img w3 (H3.out.2.2.1.more (by omega)) HB.out.2.2.1 HB.out.2.2.2 k hk1 (by omega)).mono ?_
        rintro e w4 ⟨gr, rfl, hd4, b4⟩
        have H4 := Lib.hid (And.intro (H3.out.1.below b4) (And.intro hd4 (And.intro (H3.out.2.1.below b4 s3) (And.intro (H3.out.2.2.1.below b4 (by omega)) (H3.out.2.2.2.trans (b4.mono H3.out.2.2.2.size))))))
        clear hd4 b4
        go_wp2_with fail
        refine (sameBytes_below _ _ n _ _ img _ _ _ H4.out.2.2.1 H4.out.2.2.2.1 (by omega)).mono ?_
        rintro e w5 ⟨rfl, b5⟩
        have H5 := Lib.hid (And.intro (H4.out.1.below b5) (And.intro (H4.out.2.1.below b5) (H4.out.2.2.2.2.trans (b5.mono H4.out.2.2.2.2.size))))
        clear b5
        go_wp2_with fail
        refine (same_any H5.out.1 H5.out.2.1).mono ?_
        rintro e w6 ⟨rfl, b6⟩
        have H6 := Lib.hid (H5.out.2.2.trans (b6.mono H5.out.2.2.size))
        clear b6
        go_wp2
        go_ret
        exact ⟨rfl, H6.out⟩
      · have hbad : m < 1 ∨ 65536 < m := by omega
        have hmid2 : ¬ (100 < m ∧ m ≤ 65536) := hmid
        have HBAD := Lib.hid hbad
        clear hgood hmid hbad
        by_cases hneg : m < 1
        · have hn100 : ¬ 100 < m := by omega
          clear hmid2
          go_enter Try.func4, Try.ntmps4
          go_wp2_with fail
          refine (alive_any w).mono ?_
          rintro e w1 ⟨rfl, h1⟩
          have HA := Lib.hid (And.intro h1 ((HB.out.1.below h1 (Nat.le_refl _)).more h1.size))
          clear h1
          go_wp2_with fail
          refine (copyBytes_any A n c img w1 HA.out.2 (by omega)).mono ?_
          rintro e w2 ⟨v2, rfl, o2, b2⟩
          obtain ⟨A2, c2, rfl, hnc2, hcm2⟩ := own_shape o2
          rw [HB.out.2.1] at o2 hnc2 ⊢
          have H2 := Lib.hid (And.intro (Rd.own o2) (And.intro (HA.out.2.below b2 (Nat.le_refl _)) (HA.out.1.trans (b2.mono HA.out.1.size))))
          clear o2 b2 hnc2 hcm2
          go_wp2_with (first
            | (go_at_call 16; refine (load_no _ _ _ _ m HBAD.out).mono ?_; rintro e w3 ⟨rfl, rfl⟩)
            | (go_at_call 17; refine (refLoad_no _ _ _ _ m HBAD.out).mono ?_; rintro e w3 ⟨rfl, rfl⟩)
            | (go_at_call 18; refine (sameBytes_below _ _ n _ _ img _ _ _ H2.out.1 H2.out.2.1 (by omega)).mono ?_; rintro e w5 ⟨rfl, b5⟩))
          go_ret
          exact ⟨rfl, H2.out.2.2.trans (b5.mono H2.out.2.2.size)⟩
        · have hn100 : 100 < m := by have := HBAD.out; omega
          have hn65 : ¬ m ≤ 65536 := by have := HBAD.out; omega
          clear hmid2
          go_enter Try.func4, Try.ntmps4
          go_wp2_with fail
          refine (alive_any w).mono ?_
          rintro e w1 ⟨rfl, h1⟩
          have HA := Lib.hid (And.intro h1 ((HB.out.1.below h1 (Nat.le_refl _)).more h1.size))
          clear h1
          go_wp2_with fail
          refine (copyBytes_any A n c img w1 HA.out.2 (by omega)).mono ?_
          rintro e w2 ⟨v2, rfl, o2, b2⟩
          obtain ⟨A2, c2, rfl, hnc2, hcm2⟩ := own_shape o2
          rw [HB.out.2.1] at o2 hnc2 ⊢
          have H2 := Lib.hid (And.intro (Rd.own o2) (And.intro (HA.out.2.below b2 (Nat.le_refl _)) (HA.out.1.trans (b2.mono HA.out.1.size))))
          clear o2 b2 hnc2 hcm2
          go_wp2_with (first
            | (go_at_call 16; refine (load_no _ _ _ _ m HBAD.out).mono ?_; rintro e w3 ⟨rfl, rfl⟩)
            | (go_at_call 17; refine (refLoad_no _ _ _ _ m HBAD.out).mono ?_; rintro e w3 ⟨rfl, rfl⟩)
            | (go_at_call 18; refine (sameBytes_below _ _ n _ _ img _ _ _ H2.out.1 H2.out.2.1 (by omega)).mono ?_; rintro e w5 ⟨rfl, b5⟩))
          go_ret
          exact ⟨rfl, H2.out.2.2.trans (b5.mono H2.out.2.2.size)⟩

section
open Go.ChangeShapes Go.WideShapes Go.ChangeAt
open Go.ChangeMaps (open_string shut_string)
set_option linter.unusedVariables false
set_option maxRecDepth 100000 in
theorem diskLoads_lifted (os : Os) (started : os.Started) (H : Type) (enc : TypeId × Value → H) :
    ReturnsInHanded {} Try.checked os 4 .any (Rows.diskLoadsSpec.pre6 enc Try.prog Try.f4 Rows.diskLoadsRow.domain false) (Rows.diskLoadsSpec.post enc Try.prog Try.f4 false true false false) := by
  refine returnsInHanded_of_change (C := Try.checked) own started (by kernel_rfl) Try.func4
    (ChangeSpec.witness6 (enc := enc) (C := Try.checked) false ⟨#[], #[.slice none 0 0, .int .i64 0], []⟩ 8 (by kernel_rfl) (by kernel_rfl) (by kernel_rfl) (by kernel_rfl)) ?_
  intro W base args ds gs before hval0 hW hcnd _
  have hval : ∀ (j : Nat) t v, Try.f4.params[j]? = some t → args[j]? = some v → Value.okWide Try.prog W .any base t v := hval0
  have hW' := hW
  obtain ⟨p, q, hA0, hV, rfl, hfz, hnd⟩ := hW
  have hA : DataW.TrodAll enc Try.prog W 0 (fun _ => true) true Try.f4.params.toList args.toList ds p := hA0
  rw [Try.params4] at hA hval
  obtain ⟨v0, vs0, d0, ds0, p0, q0, hargs, rfl, rfl, h0, r0⟩ := trodAll_cons hA
  obtain ⟨v1, vs1, d1, ds1, p1, q1, rfl, rfl, rfl, h1, r1⟩ := trodAll_cons r0
  obtain ⟨rfl, rfl, rfl⟩ := trodAll_nil r1
  obtain rfl : args = #[v0, v1] := by cases args; simp_all
  obtain ⟨rfl, rfl⟩ := trodVars_none hV
  have k0 := h0
  have lt0 : ∀ x ∈ p0, x.block < W.heap.size := by obtain ⟨m, hm⟩ := k0; exact DataW.trod_lt m _ _ _ hm
  have k1 := h1
  have lt1 : ∀ x ∈ p1, x.block < W.heap.size := by obtain ⟨m, hm⟩ := k1; exact DataW.trod_lt m _ _ _ hm
  obtain ⟨a0, len0, cap0, rfl⟩ := okWide_slice Try.underlying33 (hval 0 33 v0 rfl rfl)
  obtain ⟨z0, r0x, w0, e0, l0, m0⟩ := rd_of_ints Try.underlying33 Try.underlying5 (by kernel_rfl) h0
  obtain ⟨a1, rfl, rfl, rfl, w1⟩ := open_int Try.underlying3 (hval 1 3 v1 rfl rfl) h1
  clear hA0 hval0
  refine (diskLoads_walk a0 len0 cap0 z0 a1 W r0x w0 e0 l0 m0 (bounds_i64 w1)).mono fun e W' ⟨he, bel⟩ => ?_
  subst he
  exact ⟨_, rfl, _, _, _, [], _, [], hW', trodAll_mk1 (shut_bool Try.underlying4 _), (trodAll_cons_mk (Below.trod laidOut (by kernel_rfl) (of_decide_eq_true (by kernel_rfl)) k0 bel lt0) (trodAll_cons_mk (Below.trod laidOut (by kernel_rfl) (of_decide_eq_true (by kernel_rfl)) k1 bel lt1) trodAll_mk0)), rfl, bel.frame _, fun h => by cases h⟩

theorem diskLoads_over : Rows.diskLoadsRow.holds Try.pinned (OpenSpec.ofChange Rows.diskLoadsSpec) :=
  OpenClaim.holds_of_wide 4 Try.f4 rfl rfl rfl rfl rfl rfl rfl ⟨rfl, rfl, rfl, rfl, rfl⟩ rfl rfl rfl rfl rfl (by kernel_rfl) Try.func4 (by kernel_rfl)
    (of_decide_eq_true (by kernel_rfl)) (by unfold Func.isWrapper; first | (rw [if_pos (by decide +kernel)]; kernel_rfl) | (rw [if_neg (by decide +kernel)]; exact ⟨rfl, rfl⟩))
    (fun os started H enc _ => diskLoads_lifted os started H enc)

theorem diskLoads_holds : Rows.DiskLoadsSaid := diskLoads_over
end
#print axioms diskLoads_holds
end Go.Proofs.Ytbfgnjkkelknmaa
