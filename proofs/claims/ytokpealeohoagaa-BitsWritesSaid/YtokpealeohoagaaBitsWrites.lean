/-
  BitsWrites returns true for every number, every text and every list of texts: Int, Text and Texts write the document's bytes.
  No condition.
-/
import Derived.Test.YtokpealeohoagaaLift
namespace Go.Proofs.Ytokpealeohoagaa
open Go.RowKit Go.Lib

def BwRel (ss : List ByteArray) (i : Value) : Prop := ∃ k : Nat, k ≤ ss.length ∧ i = .int .i64 k ∧ ∀ j (h : j < ss.length), j < k → ss[j].size ≤ 5000

set_option maxRecDepth 100000 in
set_option maxHeartbeats 3200000 in
theorem bitsWrites_walk (n : Int) (s : ByteArray) (A : Option Addr) (m c : Nat) (ss : List ByteArray) (w : World) (hn : -9223372036854775808 ≤ n ∧ n ≤ 9223372036854775807) (_hs : s.size ≤ maxLen)
    (hr : Rd w w.heap.size A m (strs ss)) (_hss : ∀ s ∈ ss, s.size ≤ maxLen) (hlen : ss.length = m) (hnc : m ≤ c) (_hcm : c ≤ maxLen) :
    Calls Try.prog 3 #[.int .i64 n, .string s, .slice A m c] w (Yes w) := by
  obtain ⟨hn1, hn2⟩ := hn
  subst hlen
  unfold maxLen at _hs _hcm
  by_cases hg : 5000 < s.size
  · go_enter Try.func3, Try.ntmps3
    go_wp2_with (go_at_call 9; refine (alive_any _).mono ?_; rintro e w1 ⟨rfl, h1⟩)
    go_ret
    exact ⟨rfl, h1⟩
  · by_cases hl : 200 < ss.length
    · go_enter Try.func3, Try.ntmps3
      go_wp2_with (go_at_call 9; refine (alive_any _).mono ?_; rintro e w1 ⟨rfl, h1⟩)
      go_ret
      exact ⟨rfl, h1⟩
    · go_enter Try.func3, Try.ntmps3
      go_wp2_with (go_at_call 9; refine (alive_any _).mono ?_; rintro e w1 ⟨rfl, h1⟩)
      have hr1 := hr.below h1 (Nat.le_refl _)
      clear hr
      go_loop [7] (fun i => BwRel ss i) (fun i => ss.length - (intOf i).toNat)
      case atStart => exact ⟨0, by omega, rfl, fun j _ h => absurd h (by omega)⟩
      case round =>
        obtain ⟨k, hk, rfl, hsz⟩ := hrel
        have HZ := Lib.hid hsz
        clear hsz
        by_cases hlt : k < ss.length
        · obtain ⟨ad, u, rfl, _, hu, hc⟩ := hr1.at_ hlt
          rw [strs_at hlt] at hu
          obtain rfl := Option.some.inj hu
          clear hu hr1
          by_cases h5 : 5000 < ss[k].size
          · go_wp2
            go_ret
            exact ⟨rfl, h1⟩
          · go_wp2
            go_round
            case rel => exact ⟨k + 1, by omega, by go_num, short_succ hlt HZ.out h5⟩
            case measure => simp [intOf]; omega
        · have hkn : k = ss.length := by omega
          subst hkn
          have HS := Lib.hid (short_all HZ.out)
          clear HZ
          have z1 := h1.size
          have hI : ∀ w, Calls Try.prog 11 #[.int .i64 n] w (OwnSl w.heap.size (encI n).length (encI n) w) := fun w => (int_any n w hn1 hn2).mono fun e w' h => h.sl rfl
          have hI' : ∀ w, Calls Try.prog 12 #[.int .i64 n] w (OwnSl w.heap.size (encI n).length (encI n) w) := fun w => (refInt_any n w hn1 hn2).mono fun e w' h => h.sl rfl
          have hT : ∀ w, Calls Try.prog 13 #[.string s] w (OwnSl w.heap.size (encT (bytes s)).length (encT (bytes s)) w) := fun w => (text_any s w (by omega)).mono fun e w' h => h.sl rfl
          have hT' : ∀ w, Calls Try.prog 14 #[.string s] w (OwnSl w.heap.size (encT (bytes s)).length (encT (bytes s)) w) := fun w => (refText_any s w (by omega)).mono fun e w' h => h.sl rfl
          have hX : ∀ w, Rd w w.heap.size A ss.length (strs ss) → Calls Try.prog 15 #[.slice A ss.length c] w (OwnSl w.heap.size (encTexts (ss.map bytes)).length (encTexts (ss.map bytes)) w) := fun w hr => (texts_any A _ c ss w hr (by omega) HS.out).mono fun e w' h => h.sl rfl
          have hX' : ∀ w, Rd w w.heap.size A ss.length (strs ss) → Calls Try.prog 16 #[.slice A ss.length c] w (OwnSl w.heap.size (encTexts (ss.map bytes)).length (encTexts (ss.map bytes)) w) := fun w hr => (refTexts_any A _ c ss w hr (by omega) HS.out).mono fun e w' h => h.sl rfl
          have la : (encI n).length ≤ 140000000000000 := Nat.le_trans (encI_len hn1 hn2) (by omega)
          have lb : (encT (bytes s)).length ≤ 140000000000000 := by
            rw [encT, List.length_append, bytes_len]
            have h := encI_nat (m := s.size) (by omega)
            omega
          have lc : (encTexts (ss.map bytes)).length ≤ 140000000000000 := by
            have h := tx_len (by omega) HS.out ss.length
            rw [tx_all] at h
            omega
          generalize encI n = a at hI hI' la
          generalize encT (bytes s) = b at hT hT' lb
          generalize encTexts (ss.map bytes) = d at hX hX' lc
          have HI := Lib.hid hI
          have HI' := Lib.hid hI'
          have HT := Lib.hid hT
          have HT' := Lib.hid hT'
          have HX := Lib.hid hX
          have HX' := Lib.hid hX'
          have HL := Lib.hid (And.intro la (And.intro lb lc))
          clear hI hI' hT hT' hX hX' la lb lc
          go_wp2_with fail
          refine (HI.out _).mono ?_
          rintro e w2 ⟨A2, c2, rfl, _, o2, g2⟩
          go_wp2_with fail
          refine (HI'.out _).mono ?_
          rintro e w3 ⟨A3, c3, rfl, _, o3, g3⟩
          have o2' := own_below o2 g3 (Nat.le_refl _)
          go_wp2_with fail
          refine (sameBytes_below _ _ _ _ _ a _ _ _ (Rd.of_own o2') (Rd.of_own o3) HL.out.1).mono ?_
          rintro e w4 ⟨rfl, g4⟩
          have z2 := g2.size
          have z3 := g3.size
          have f4 := (h1.trans (g2.mono z1)).trans ((g3.mono (by omega)).trans (g4.mono (by omega)))
          have r4 := hr1.below ((g2.mono z1).trans ((g3.mono (by omega)).trans (g4.mono (by omega)))) (Nat.le_refl _)
          have z4 := f4.size
          clear o2 o2' o3 g2 g3 g4 hr1
          go_wp2_with fail
          refine (HT.out _).mono ?_
          rintro e w5 ⟨A5, c5, rfl, _, o5, g5⟩
          go_wp2_with fail
          refine (HT'.out _).mono ?_
          rintro e w6 ⟨A6, c6, rfl, _, o6, g6⟩
          have o5' := own_below o5 g6 (Nat.le_refl _)
          go_wp2_with fail
          refine (sameBytes_below _ _ _ _ _ b _ _ _ (Rd.of_own o5') (Rd.of_own o6) HL.out.2.1).mono ?_
          rintro e w7 ⟨rfl, g7⟩
          have z5 := g5.size
          have z6 := g6.size
          have b7 := ((g5.mono z4).trans ((g6.mono (by omega)).trans (g7.mono (by omega))))
          have f7 := f4.trans b7
          have r7 := (r4.below b7 (Nat.le_refl _)).more f7.size
          have z7 := f7.size
          clear o5 o5' o6 g5 g6 g7 r4 b7
          go_wp2_with fail
          refine (HX.out _ r7).mono ?_
          rintro e w8 ⟨A8, c8, rfl, _, o8, g8⟩
          have r8 := (r7.below g8 (Nat.le_refl _)).more g8.size
          go_wp2_with fail
          refine (HX'.out _ r8).mono ?_
          rintro e w9 ⟨A9, c9, rfl, _, o9, g9⟩
          have o8' := own_below o8 g9 (Nat.le_refl _)
          go_wp2_with fail
          refine (sameBytes_below _ _ _ _ _ d _ _ _ (Rd.of_own o8') (Rd.of_own o9) HL.out.2.2).mono ?_
          rintro e w10 ⟨rfl, g10⟩
          have z8 := g8.size
          have z9 := g9.size
          have f10 := f7.trans ((g8.mono z7).trans ((g9.mono (by omega)).trans (g10.mono (by omega))))
          clear o8 o8' o9 g8 g9 g10 r7 r8
          go_wp2
          go_ret
          exact ⟨rfl, f10⟩

section
open Go.ChangeShapes Go.WideShapes Go.ChangeAt
open Go.ChangeMaps (open_string shut_string)
set_option linter.unusedVariables false
set_option maxRecDepth 100000 in
theorem bitsWrites_lifted (os : Os) (started : os.Started) (H : Type) (enc : TypeId × Value → H) :
    ReturnsInHanded {} Try.checked os 3 .any (Rows.bitsWritesSpec.pre6 enc Try.prog Try.f3 Rows.bitsWritesRow.domain false) (Rows.bitsWritesSpec.post enc Try.prog Try.f3 false true false false) := by
  refine returnsInHanded_of_change (C := Try.checked) own started (by kernel_rfl) Try.func3
    (ChangeSpec.witness6 (enc := enc) (C := Try.checked) false ⟨#[], #[.int .i64 0, .string ByteArray.empty, .slice none 0 0], []⟩ 8 (by kernel_rfl) (by kernel_rfl) (by kernel_rfl) (by kernel_rfl)) ?_
  intro W base args ds gs before hval0 hW hcnd _
  have hval : ∀ (j : Nat) t v, Try.f3.params[j]? = some t → args[j]? = some v → Value.okWide Try.prog W .any base t v := hval0
  have hW' := hW
  obtain ⟨p, q, hA0, hV, rfl, hfz, hnd⟩ := hW
  have hA : DataW.TrodAll enc Try.prog W 0 (fun _ => true) true Try.f3.params.toList args.toList ds p := hA0
  rw [Try.params3] at hA hval
  obtain ⟨v0, vs0, d0, ds0, p0, q0, hargs, rfl, rfl, h0, r0⟩ := trodAll_cons hA
  obtain ⟨v1, vs1, d1, ds1, p1, q1, rfl, rfl, rfl, h1, r1⟩ := trodAll_cons r0
  obtain ⟨v2, vs2, d2, ds2, p2, q2, rfl, rfl, rfl, h2, r2⟩ := trodAll_cons r1
  obtain ⟨rfl, rfl, rfl⟩ := trodAll_nil r2
  obtain rfl : args = #[v0, v1, v2] := by cases args; simp_all
  obtain ⟨rfl, rfl⟩ := trodVars_none hV
  have k0 := h0
  have lt0 : ∀ x ∈ p0, x.block < W.heap.size := by obtain ⟨m, hm⟩ := k0; exact DataW.trod_lt m _ _ _ hm
  have k1 := h1
  have lt1 : ∀ x ∈ p1, x.block < W.heap.size := by obtain ⟨m, hm⟩ := k1; exact DataW.trod_lt m _ _ _ hm
  have k2 := h2
  have lt2 : ∀ x ∈ p2, x.block < W.heap.size := by obtain ⟨m, hm⟩ := k2; exact DataW.trod_lt m _ _ _ hm
  obtain ⟨a0, rfl, rfl, rfl, w0⟩ := open_int Try.underlying3 (hval 0 3 v0 rfl rfl) h0
  obtain ⟨a1, rfl, rfl, rfl, w1⟩ := open_string Try.underlying9 (hval 1 9 v1 rfl rfl) h1
  obtain ⟨a2, len2, cap2, rfl⟩ := okWide_slice Try.underlying22 (hval 2 22 v2 rfl rfl)
  obtain ⟨z2, r2x, w2, e2, l2, m2⟩ := rd_of_strs Try.underlying22 Try.underlying9 (by kernel_rfl) h2
  clear hA0 hval0
  refine (bitsWrites_walk a0 a1 a2 len2 cap2 z2 W (bounds_i64 w0) w1 r2x w2 e2 l2 m2).mono fun e W' ⟨he, bel⟩ => ?_
  subst he
  exact ⟨_, rfl, _, _, _, [], _, [], hW', trodAll_mk1 (shut_bool Try.underlying4 _), (trodAll_cons_mk (Below.trod laidOut (by kernel_rfl) (of_decide_eq_true (by kernel_rfl)) k0 bel lt0) (trodAll_cons_mk (Below.trod laidOut (by kernel_rfl) (of_decide_eq_true (by kernel_rfl)) k1 bel lt1) (trodAll_cons_mk (Below.trod laidOut (by kernel_rfl) (of_decide_eq_true (by kernel_rfl)) k2 bel lt2) trodAll_mk0))), rfl, bel.frame _, fun h => by cases h⟩

theorem bitsWrites_over : Rows.bitsWritesRow.holds Try.pinned (OpenSpec.ofChange Rows.bitsWritesSpec) :=
  OpenClaim.holds_of_wide 3 Try.f3 rfl rfl rfl rfl rfl rfl rfl ⟨rfl, rfl, rfl, rfl, rfl⟩ rfl rfl rfl rfl rfl (by kernel_rfl) Try.func3 (by kernel_rfl)
    (of_decide_eq_true (by kernel_rfl)) (by unfold Func.isWrapper; first | (rw [if_pos (by decide +kernel)]; kernel_rfl) | (rw [if_neg (by decide +kernel)]; exact ⟨rfl, rfl⟩))
    (fun os started H enc _ => bitsWrites_lifted os started H enc)

theorem bitsWrites_holds : Rows.BitsWritesSaid := bitsWrites_over
end
#print axioms bitsWrites_holds
end Go.Proofs.Ytokpealeohoagaa
