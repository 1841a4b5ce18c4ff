/-
  ValueReads returns true for all texts: the program and the document's own Read say the same of every text, the value and whether it is one.
  No condition but the reach of the statement's form; the listed variables are tied by the card.
-/
import Derived.Test.YtkdcnkadngbccaaDoorVLaid
import Derived.Test.YtkdcnkadngbccaaDoorRQuote
import Derived.Test.YtkdcnkadngbccaaDoorVAlive
import Derived.Test.YtkdcnkadngbccaaDoorTie
import Derived.Test.YtkdcnkadngbccaaDoorCards
import Derived.Lay
import Derived.MakeChecks
import Derived.JoinedOf
import Derived.Stop.Joined
import Derived.HandedShaped
namespace Go.Proofs.YtkdcnkadngbccaaDoor
open Go.RowKit Go.Lib

set_option maxRecDepth 100000 in
set_option maxHeartbeats 6400000 in
theorem valueReads_walk (s : ByteArray) (w : World) (_hi : s.size ≤ maxLen) (hv : Vs w) :
    Calls Tryd.prog 4 #[.string s] w (YesB w) := by
  have heq := eqVal
  have HVV := Lib.hid hv
  clear hv
  go_enter Tryd.func4, Tryd.ntmps4
  go_wp2_with fail
  refine (alive_any _).mono ?_
  rintro e w3 ⟨rfl, hb3⟩
  have HB3 := Lib.hid hb3
  clear hb3
  by_cases hg : 1000 < s.size
  · have hgi : (1000 : Int) < (s.size : Int) := by omega
    go_wp2
    go_ret
    exact ⟨rfl, HB3.out⟩
  have hgi : ¬ (1000 : Int) < (s.size : Int) := by omega
  obtain ⟨k, hk⟩ : ∃ k, (meantV s).k = k := ⟨_, rfl⟩
  obtain ⟨n, hn⟩ : ∃ n, (meantV s).n = n := ⟨_, rfl⟩
  obtain ⟨u, hu⟩ : ∃ u, (meantV s).s = u := ⟨_, rfl⟩
  obtain ⟨ok, hok⟩ : ∃ ok, readOk s = ok := ⟨_, rfl⟩
  have h1 := fun w1 (h : Vs w1) => read_any s w1 (by omega) h
  have h2 := fun w1 => refRead_any s w1 (by omega)
  rw [hk, hn, hu, hok] at h1 h2
  obtain ⟨K, N, U, hR⟩ : ∃ (K N : Int) (U : ByteArray), (if ok then Value.agg #[.int .i64 k, .int .i64 n, .string u] else .agg #[.int .i64 0, .int .i64 0, .string ⟨#[]⟩]) = .agg #[.int .i64 K, .int .i64 N, .string U] := by
    cases ok with
    | true => exact ⟨k, n, u, rfl⟩
    | false => exact ⟨0, 0, ⟨#[]⟩, rfl⟩
  unfold ReadRet at h1 h2
  rw [hR] at h1 h2
  have H := Lib.hid (And.intro h1 h2)
  clear h1 h2 hR hk hn hu hok
  go_wp2_with fail
  refine (H.out.1 _ (HVV.out.below HB3.out)).mono ?_
  rintro e w4 ⟨hb4, rfl⟩
  have HB4 := Lib.hid (HB3.out.trans (hb4.mono HB3.out.size))
  clear hb4
  go_wp2_with fail
  refine (H.out.2 _).mono ?_
  rintro e w5 ⟨hb5, rfl⟩
  have c1 := VS.new w4 K N U
  have HC := Lib.hid (c1.below hb5)
  have hb6 := (HB4.out.alloc HB4.out.size (.cells #[.int .i64 K, .int .i64 N, .string U] 23))
  have HB5 := Lib.hid (hb6.trans (hb5.mono hb6.size))
  obtain ⟨d0, d1, d2, _⟩ := HC.out
  have c2 := VS.new w5 K N U
  have hb7 := (Below.refl w5.heap.size w5).alloc (Nat.le_refl _) (.cells #[.int .i64 K, .int .i64 N, .string U] 23)
  obtain ⟨e0, e1, e2, _⟩ := HC.out.below hb7
  clear hb5 hb6 hb7 c1
  obtain ⟨f0, f1, f2, _⟩ := c2
  have HB7 := Lib.hid (HB5.out.alloc HB5.out.size (.cells #[.int .i64 K, .int .i64 N, .string U] 23))
  go_wp2
  go_ret
  exact ⟨rfl, HB7.out⟩

section
open Go.ChangeShapes Go.WideShapes Go.ChangeAt
open Go.ChangeMaps (open_string shut_string)
set_option linter.unusedVariables false
set_option maxRecDepth 100000 in
theorem valueReads_lifted (os : Os) (started : os.Started) (H : Type) (enc : TypeId × Value → H) :
    ReturnsInHanded {} Tryd.checked os 4 .any (fun w args => (Rows.valueReadsSpec.pre enc Tryd.prog Tryd.f4 Rows.valueReadsRow.domain false w args ∧ laidMetH Tryd.prog Rows.valueReadsRow.laid w) ∧ sizedMet enc Tryd.prog Tryd.f4 (OpenSpec.ofChange Rows.valueReadsSpec) false w args)
      (Rows.valueReadsSpec.post enc Tryd.prog Tryd.f4 false true false false) := by
  refine returnsInHanded_of_change_and (C := Tryd.checked) (X := fun w _ => laidMetH Tryd.prog Rows.valueReadsRow.laid w) (fun _ _ _ hh h => h.of_heap hh) own started (by kernel_rfl) Tryd.func4
    (ChangeSpec.witness_shaped (enc := enc) (C := Tryd.checked) (os := os) (X := fun w _ => laidMetH Tryd.prog Rows.valueReadsRow.laid w) false (World.laidAll Tryd.prog os Rows.valueReadsRow.laid) #[.string ByteArray.empty] 8 (World.laidAll_os _ _ _)
      (World.shaped_of_ZipB (by kernel_rfl) (by kernel_rfl)) (by kernel_rfl) (by kernel_rfl) (by kernel_rfl)
      (by rw [MakeChecks.laidMetH_plain _ _ _ (by kernel_rfl)]; exact laidMet_laidAll _ (by kernel_rfl) (by kernel_rfl))) ?_
  intro W base args ds gs before hval0 hW hcnd hsz hL _
  have hval : ∀ (j : Nat) t v, Tryd.f4.params[j]? = some t → args[j]? = some v → Value.okWide Tryd.prog W .any base t v := hval0
  have hW' := hW
  obtain ⟨p, q, hA0, hV, rfl, hfz, hnd⟩ := hW
  have hA : DataW.TrodAll enc Tryd.prog W 0 (fun _ => true) true Tryd.f4.params.toList args.toList ds p := hA0
  rw [Tryd.params4] at hA hval
  obtain ⟨v0, vs0, d0, ds0, p0, q0, hargs, rfl, rfl, h0, r0⟩ := trodAll_cons hA
  obtain ⟨rfl, rfl, rfl⟩ := trodAll_nil r0
  obtain rfl : args = #[v0] := by cases args; simp_all
  obtain ⟨rfl, rfl⟩ := trodVars_none hV
  have k0 := h0
  have lt0 : ∀ x ∈ p0, x.block < W.heap.size := by obtain ⟨m, hm⟩ := k0; exact DataW.trod_lt m _ _ _ hm
  obtain ⟨a0, rfl, rfl, rfl, w0⟩ := open_string Tryd.underlying9 (hval 0 9 v0 rfl rfl) h0
  clear hA0 hval0
  refine (valueReads_walk a0 W w0 (vs_of_laid hL)).mono fun e W' ⟨he, bel⟩ => ?_
  subst he
  exact ⟨_, rfl, _, _, _, [], _, [], hW', trodAll_mk1 (shut_bool Tryd.underlying4 _), (trodAll_cons_mk (Below.trod laidOut (by kernel_rfl) (of_decide_eq_true (by kernel_rfl)) k0 bel lt0) trodAll_mk0), rfl, bel.frame _, fun h => by cases h⟩

theorem valueReads_over : Rows.valueReadsRow.holds Tryd.pinned (OpenSpec.ofChange Rows.valueReadsSpec) :=
  OpenClaim.holds_of_wide 4 Tryd.f4 rfl rfl rfl rfl rfl rfl rfl ⟨rfl, rfl, rfl, rfl, rfl⟩ rfl rfl rfl rfl rfl (by kernel_rfl) Tryd.func4 (by kernel_rfl)
    (of_decide_eq_true (by kernel_rfl)) (by unfold Func.isWrapper; first | (rw [if_pos (by decide +kernel)]; kernel_rfl) | (rw [if_neg (by decide +kernel)]; exact ⟨rfl, rfl⟩))
    (fun os started H enc _ => valueReads_lifted os started H enc)

theorem valueReads_card : Rows.ValueReadsCardSaid :=
  Claim7.holds_tied_plain_at .later [] [.data, .data, .data, .sentinel, .sentinel] true _ true
    valueReads_over (fun _ h => by cases h) (by kernel_rfl) (fun _ h => by cases h) valueReads_row_tie rfl ⟨rfl, rfl⟩ (by kernel_rfl) rfl
    (fun f fn hf hfn => by
      obtain rfl : f = 4 := Option.some.inj ((show Tryd.prog.funcNamed Rows.valueReadsRow.func = some 4 by kernel_rfl).symm.trans hf) |>.symm
      obtain rfl : fn = Tryd.f4 := (Option.some.inj (Tryd.func4.symm.trans hfn)).symm
      have hall : (Tryd.f4.params.toList.all fun t => !Tryd.prog.wantsStandIn t) = true := by kernel_rfl
      exact ⟨by kernel_rfl, fun j t ht => by
        have h1 := List.all_eq_true.1 hall t (List.mem_of_getElem? (by simpa using ht))
        show Tryd.prog.wantsStandIn t = false
        simpa using h1⟩)
    (by kernel_rfl)
end
#print axioms valueReads_card
end Go.Proofs.YtkdcnkadngbccaaDoor
