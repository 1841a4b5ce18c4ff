/-
  BitsOne returns true for every slice of bytes, and leaves it as it was: where a number is read, its bytes are written again as they were; where none is, the answer is 0 and nothing is left.
  No condition.
-/
import Derived.Test.YtokpealeohoagaaLift
namespace Go.Proofs.Ytokpealeohoagaa
open Go.RowKit Go.Lib

set_option maxRecDepth 100000 in
set_option maxHeartbeats 1600000 in
theorem bitsOne_walk (A : Option Addr) (n c : Nat) (l : List Int) (w : World) (hr : Rd w w.heap.size A n (cells l)) (hwf : ∀ z ∈ l, (Lit.int .u8 z).wf = true) (hlen : l.length = n) (hnc : n ≤ c) (_hcm : c ≤ maxLen) :
    Calls Try.prog 6 #[.slice A n c] w (Yes w) := by
  unfold maxLen at _hcm
  have hb := bytes_wf hwf
  clear hwf
  by_cases hn : 500 < n
  · go_enter Try.func6, Try.ntmps6
    go_wp2_with (go_at_call 9; refine (alive_any _).mono ?_; rintro e w1 ⟨rfl, h1⟩)
    go_ret
    exact ⟨rfl, h1⟩
  · cases hnum : num l with
    | none =>
      have HI := Lib.hid (rInt_none hnum)
      clear hnum hlen
      go_enter Try.func6, Try.ntmps6
      go_wp2_with (first
        | (go_at_call 9; refine (alive_any _).mono ?_; rintro e w1 ⟨rfl, h1⟩; have hr1 := (hr.below h1 (Nat.le_refl _)).more h1.size)
        | (go_at_call 18; refine (new_any A n c l _ hr1 hb (by omega)).mono ?_; rintro e w2 ⟨g, rfl, hbr, h2, hg⟩)
        | (go_at_call 19; refine (rint_any g _ _ hbr).mono ?_; rw [HI.out]; rintro e w3 h3; have b3 := h3.below h2.size hg; obtain ⟨rfl, hbr3, _⟩ := h3)
        | (go_at_call 28; refine (rbad_any g _ _ hbr3).mono ?_; rintro e w4 ⟨rfl, rfl⟩)
        | (go_at_call 29; refine (rleft_any g _ _ hbr3).mono ?_; rintro e w4 ⟨rfl, rfl⟩))
      go_ret
      exact ⟨rfl, (h1.trans (h2.mono h1.size)).trans (b3.mono h1.size)⟩
    | some p =>
      obtain ⟨u, k⟩ := p
      obtain ⟨hk0, hkl, _, henc, hu⟩ := num_inv hb hnum
      have hbd := unfoldN_bd u hu
      obtain ⟨j, hj⟩ : ∃ j, n = k + j := ⟨n - k, by omega⟩
      subst hj
      have hlj : left (some (l.drop k)) = j := by simp [left]; omega
      have HI := Lib.hid (rInt_some hnum)
      have HJ := Lib.hid hlj
      have hlk : (encI (unfoldN u)).length = k := by rw [henc, List.length_take]; omega
      have HE := Lib.hid henc
      have HK := Lib.hid hlk
      clear hnum hlen henc hlj hlk hkl
      obtain ⟨hbd1, hbd2⟩ := hbd
      generalize unfoldN u = q at HI HE HK hbd1 hbd2
      have hint : ∀ w, Calls Try.prog 11 #[.int .i64 q] w (OwnSl w.heap.size k (l.take k) w) := fun w =>
        (int_any q w hbd1 hbd2).mono fun e w' h => by
          rw [HE.out] at h
          exact h.sl (by rw [← HE.out]; exact HK.out)
      have HH := Lib.hid hint
      clear hint
      go_enter Try.func6, Try.ntmps6
      go_wp2_with (first
        | (go_at_call 9; refine (alive_any _).mono ?_; rintro e w1 ⟨rfl, h1⟩; have hr1 := (hr.below h1 (Nat.le_refl _)).more h1.size)
        | (go_at_call 18; refine (new_any A _ c l _ hr1 hb (by omega)).mono ?_; rintro e w2 ⟨g, rfl, hbr, h2, hg⟩)
        | (go_at_call 19; refine (rint_any g _ _ hbr).mono ?_; rw [HI.out]; rintro e w3 h3; have b3 := h3.below h2.size hg; obtain ⟨rfl, hbr3, _⟩ := h3)
        | (go_at_call 28; refine (rbad_any g _ _ hbr3).mono ?_; rintro e w4 ⟨rfl, rfl⟩)
        | (go_at_call 11; refine (HH.out _).mono ?_; rintro e w5 ⟨A5, c5, rfl, _, h5, b5⟩)
        | (go_at_call 29; refine (rleft_any g _ _ (hbr3.below b5 hbr3.lt)).mono ?_; rw [HJ.out]; rintro e w6 ⟨rfl, rfl⟩))
      have hz3 := (h2.trans b3).size
      have hbel5 := (h2.trans b3).trans (b5.mono hz3)
      have hc5 := (hr1.below hbel5 (Nat.le_refl _)).cuth (k := k) (by omega)
      have hc6 : Rd w5 w1.heap.size A k (cells (l.take k)) := by simpa [cells, List.map_take] using hc5
      have hz5 := h1.size
      have hz6 := hbel5.size
      refine (sameBytes_below _ _ k _ _ (l.take k) _ _ _ (Rd.of_own h5) hc6 (by omega)).mono ?_
      rintro e w7 ⟨rfl, h7⟩
      clear hc5 hc6 h5 hr hr1
      go_wp2
      go_ret
      exact ⟨rfl, (h1.trans (hbel5.mono hz5)).trans (h7.mono (by omega))⟩

section
open Go.ChangeShapes Go.WideShapes Go.ChangeAt
open Go.ChangeMaps (open_string shut_string)
set_option linter.unusedVariables false
set_option maxRecDepth 100000 in
theorem bitsOne_lifted (os : Os) (started : os.Started) (H : Type) (enc : TypeId × Value → H) :
    ReturnsInHanded {} Try.checked os 6 .any (Rows.bitsOneSpec.pre6 enc Try.prog Try.f6 Rows.bitsOneRow.domain false) (Rows.bitsOneSpec.post enc Try.prog Try.f6 false true false false) := by
  refine returnsInHanded_of_change (C := Try.checked) own started (by kernel_rfl) Try.func6
    (ChangeSpec.witness6 (enc := enc) (C := Try.checked) false ⟨#[], #[.slice none 0 0], []⟩ 8 (by kernel_rfl) (by kernel_rfl) (by kernel_rfl) (by kernel_rfl)) ?_
  intro W base args ds gs before hval0 hW hcnd _
  have hval : ∀ (j : Nat) t v, Try.f6.params[j]? = some t → args[j]? = some v → Value.okWide Try.prog W .any base t v := hval0
  have hW' := hW
  obtain ⟨p, q, hA0, hV, rfl, hfz, hnd⟩ := hW
  have hA : DataW.TrodAll enc Try.prog W 0 (fun _ => true) true Try.f6.params.toList args.toList ds p := hA0
  rw [Try.params6] at hA hval
  obtain ⟨v0, vs0, d0, ds0, p0, q0, hargs, rfl, rfl, h0, r0⟩ := trodAll_cons hA
  obtain ⟨rfl, rfl, rfl⟩ := trodAll_nil r0
  obtain rfl : args = #[v0] := by cases args; simp_all
  obtain ⟨rfl, rfl⟩ := trodVars_none hV
  have k0 := h0
  have lt0 : ∀ x ∈ p0, x.block < W.heap.size := by obtain ⟨m, hm⟩ := k0; exact DataW.trod_lt m _ _ _ hm
  obtain ⟨a0, len0, cap0, rfl⟩ := okWide_slice Try.underlying25 (hval 0 25 v0 rfl rfl)
  obtain ⟨z0, r0x, w0, e0, l0, m0⟩ := rd_of_ints Try.underlying25 Try.underlying5 (by kernel_rfl) h0
  clear hA0 hval0
  refine (bitsOne_walk a0 len0 cap0 z0 W r0x w0 e0 l0 m0).mono fun e W' ⟨he, bel⟩ => ?_
  subst he
  exact ⟨_, rfl, _, _, _, [], _, [], hW', trodAll_mk1 (shut_bool Try.underlying4 _), (trodAll_cons_mk (Below.trod laidOut (by kernel_rfl) (of_decide_eq_true (by kernel_rfl)) k0 bel lt0) trodAll_mk0), rfl, bel.frame _, fun h => by cases h⟩

theorem bitsOne_over : Rows.bitsOneRow.holds Try.pinned (OpenSpec.ofChange Rows.bitsOneSpec) :=
  OpenClaim.holds_of_wide 6 Try.f6 rfl rfl rfl rfl rfl rfl rfl ⟨rfl, rfl, rfl, rfl, rfl⟩ rfl rfl rfl rfl rfl (by kernel_rfl) Try.func6 (by kernel_rfl)
    (of_decide_eq_true (by kernel_rfl)) (by unfold Func.isWrapper; first | (rw [if_pos (by decide +kernel)]; kernel_rfl) | (rw [if_neg (by decide +kernel)]; exact ⟨rfl, rfl⟩))
    (fun os started H enc _ => bitsOne_lifted os started H enc)

theorem bitsOne_holds : Rows.BitsOneSaid := bitsOne_over
end
#print axioms bitsOne_holds
end Go.Proofs.Ytokpealeohoagaa
