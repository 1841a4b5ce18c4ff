/-
  BitsShort returns true for every number, every text and every cut: a number's bytes without their end are no number, a text's neither.
  No condition.
-/
import Derived.Test.YtokpealeohoagaaLift
namespace Go.Proofs.Ytokpealeohoagaa
open Go.RowKit Go.Lib

theorem rText_short (t : List Int) (ht : t.length ≤ 1000) (k : Nat) (hk : k < (encT t).length) : rText (some ((encT t).take k)) = ([], none) := by
  unfold rText
  rcases Nat.lt_or_ge k (encI t.length).length with h | h
  · have e : (encT t).take k = (encI t.length).take k := by rw [encT, List.take_append_of_le_length (by omega)]
    rw [e, rInt_none (num_short t.length (by omega) (by omega) k h)]
  · have e : (encT t).take k = encI t.length ++ t.take (k - (encI t.length).length) := by rw [encT, List.take_append, List.take_of_length_le h]
    rw [e, rInt_enc _ _ (by omega) (by omega)]
    rw [encT, List.length_append] at hk
    simp only
    rw [if_pos (by rw [List.length_take]; omega)]

theorem mk_nil : mkStr [] = ⟨#[]⟩ := rfl

set_option maxRecDepth 100000 in
set_option maxHeartbeats 3200000 in
theorem bitsShort_walk (n : Int) (s : ByteArray) (cut : Int) (w : World) (hn : -9223372036854775808 ≤ n ∧ n ≤ 9223372036854775807) (_hs : s.size ≤ maxLen) (hcut : -9223372036854775808 ≤ cut ∧ cut ≤ 9223372036854775807) :
    Calls Try.prog 7 #[.int .i64 n, .string s, .int .i64 cut] w (Yes w) := by
  obtain ⟨hn1, hn2⟩ := hn
  obtain ⟨hc1, hc2⟩ := hcut
  unfold maxLen at _hs
  by_cases hg : 1000 < s.size
  · go_enter Try.func7, Try.ntmps7
    go_wp2_with (go_at_call 9; refine (alive_any _).mono ?_; rintro e w1 ⟨rfl, h1⟩)
    go_ret
    exact ⟨rfl, h1⟩
  · by_cases hneg : cut < 0
    · go_enter Try.func7, Try.ntmps7
      go_wp2_with (go_at_call 9; refine (alive_any _).mono ?_; rintro e w1 ⟨rfl, h1⟩)
      go_ret
      exact ⟨rfl, h1⟩
    · obtain ⟨k, rfl⟩ : ∃ k : Nat, cut = (k : Int) := ⟨cut.toNat, by omega⟩
      have hint : ∀ w, Calls Try.prog 11 #[.int .i64 n] w (OwnSl w.heap.size (encI n).length (encI n) w) := fun w => (int_any n w hn1 hn2).mono fun e w' h => h.sl rfl
      have htext : ∀ w, Calls Try.prog 13 #[.string s] w (OwnSl w.heap.size (encT (bytes s)).length (encT (bytes s)) w) := fun w => (text_any s w (by omega)).mono fun e w' h => h.sl rfl
      have hA : k < (encI n).length → rInt (some ((encI n).take k)) = (0, none) := fun h => rInt_none (num_short n hn1 hn2 k h)
      have hB : k < (encT (bytes s)).length → rText (some ((encT (bytes s)).take k)) = ([], none) := fun h => rText_short _ (by rw [bytes_len]; omega) k h
      have hla := encI_len hn1 hn2
      have hlb : (encT (bytes s)).length ≤ 1010 := by
        rw [encT, List.length_append, bytes_len]
        have h := encI_nat (m := s.size) (by omega)
        omega
      have bA := encI_bytes n
      have bB : IsBytes (encT (bytes s)) := (encI_bytes _).append (bytes_is s)
      generalize encI n = a at hint hA hla bA
      generalize encT (bytes s) = b at htext hB hlb bB
      generalize ea : a.length = la at hint hA hla
      generalize eb : b.length = lb at htext hB hlb
      have HI := Lib.hid hint
      have HT := Lib.hid htext
      have HA := Lib.hid hA
      have HB := Lib.hid hB
      have HN := Lib.hid (show rText none = ([], none) from rfl)
      have HZ := Lib.hid (show rInt none = (0, none) from rfl)
      clear hint htext hA hB hneg ea eb
      by_cases h1 : k < la
      · by_cases h2 : k < lb
        · go_enter Try.func7, Try.ntmps7
          go_wp2_with (first
            | (go_at_call 9; refine (alive_any _).mono ?_; rintro e w1 ⟨rfl, g1⟩)
            | (go_at_call 11; refine (HI.out _).mono ?_; rintro e w2 ⟨A2, c2, rfl, l2, o2, g2⟩)
            | (go_at_call 13; refine (HT.out _).mono ?_; rintro e w3 ⟨A3, c3, rfl, l3, o3, g3⟩))
          have z1 := g1.size
          have z2 := g2.size
          have z3 := g3.size
          have f3 : Below w.heap.size w w3 := (g1.trans (g2.mono z1)).trans (g3.mono (by omega))
          have RA : Rd w3 w3.heap.size A2 k (cells (a.take k)) := by
            have h := (Rd.of_own (own_below o2 g3 (Nat.le_refl _))).cuth (k := k) (by omega)
            simpa [cells, List.map_take] using h
          refine (new_any A2 k c2 (a.take k) _ RA (bA.take k) (by omega)).mono ?_
          rintro e w4 ⟨g, rfl, hbr, g4, hgg⟩
          go_wp2_with fail
          refine (rint_any g _ _ hbr).mono ?_
          rw [HA.out h1]
          rintro e w5 h5
          have g5 := h5.below g4.size hgg
          obtain ⟨rfl, hbr5, _⟩ := h5
          go_wp2_with fail
          refine (rbad_any g _ _ hbr5).mono ?_
          rintro e w6 ⟨rfl, rfl⟩
          have q5 := g4.trans g5
          have f5 : Below w.heap.size w w5 := f3.trans (q5.mono (by omega))
          have z5 := q5.size
          clear RA hbr hbr5 g4 g5
          go_wp2_with fail
          have RB : Rd w5 w5.heap.size A3 k (cells (b.take k)) := by
            have h := (Rd.of_own (own_below o3 q5 (Nat.le_refl _))).cuth (k := k) (by omega)
            simpa [cells, List.map_take] using h
          refine (new_any A3 k c3 (b.take k) _ RB (bB.take k) (by omega)).mono ?_
          rintro e w7 ⟨g', rfl, hbr7, g7, hg7⟩
          go_wp2_with fail
          refine (rtext_any g' _ _ hbr7).mono ?_
          rw [HB.out h2, mk_nil]
          rintro e w8 h8
          have g8 := h8.below g7.size hg7
          obtain ⟨rfl, hbr8, _⟩ := h8
          go_wp2_with fail
          refine (rbad_any g' _ _ hbr8).mono ?_
          rintro e w9 ⟨rfl, rfl⟩
          have z8 := g8.size
          have z7 := g7.size
          go_wp2_with fail
          refine (rtext_any g' _ _ hbr8).mono ?_
          rw [HN.out, mk_nil]
          rintro e w9 h9
          have g9 := h9.below (Nat.le_trans z7 z8) hg7
          obtain ⟨rfl, hbr9, _⟩ := h9
          have z9 := g9.size
          go_wp2_with fail
          refine (rint_any g' _ _ hbr9).mono ?_
          rw [HZ.out]
          rintro e w10 h10
          have g10 := h10.below (Nat.le_trans (Nat.le_trans z7 z8) z9) hg7
          obtain ⟨rfl, hbr10, _⟩ := h10
          have q10 := ((g7.trans g8).trans g9).trans g10
          have f10 : Below w.heap.size w w10 := f5.trans (q10.mono (by omega))
          clear RB hbr7 hbr8 hbr9 hbr10 g7 g8 g9 g10
          go_wp2
          go_ret
          exact ⟨rfl, f10⟩
        · go_enter Try.func7, Try.ntmps7
          go_wp2_with (first
            | (go_at_call 9; refine (alive_any _).mono ?_; rintro e w1 ⟨rfl, g1⟩)
            | (go_at_call 11; refine (HI.out _).mono ?_; rintro e w2 ⟨A2, c2, rfl, l2, o2, g2⟩)
            | (go_at_call 13; refine (HT.out _).mono ?_; rintro e w3 ⟨A3, c3, rfl, l3, o3, g3⟩))
          have z1 := g1.size
          have z2 := g2.size
          have z3 := g3.size
          have f3 : Below w.heap.size w w3 := (g1.trans (g2.mono z1)).trans (g3.mono (by omega))
          have RA : Rd w3 w3.heap.size A2 k (cells (a.take k)) := by
            have h := (Rd.of_own (own_below o2 g3 (Nat.le_refl _))).cuth (k := k) (by omega)
            simpa [cells, List.map_take] using h
          refine (new_any A2 k c2 (a.take k) _ RA (bA.take k) (by omega)).mono ?_
          rintro e w4 ⟨g, rfl, hbr, g4, hgg⟩
          go_wp2_with fail
          refine (rint_any g _ _ hbr).mono ?_
          rw [HA.out h1]
          rintro e w5 h5
          have g5 := h5.below g4.size hgg
          obtain ⟨rfl, hbr5, _⟩ := h5
          go_wp2_with fail
          refine (rbad_any g _ _ hbr5).mono ?_
          rintro e w6 ⟨rfl, rfl⟩
          have q5 := g4.trans g5
          have f5 : Below w.heap.size w w5 := f3.trans (q5.mono (by omega))
          have z5 := q5.size
          clear RA hbr hbr5 g4 g5
          go_wp2_with fail
          go_ret
          exact ⟨rfl, f5⟩
      · by_cases h2 : k < lb
        · go_enter Try.func7, Try.ntmps7
          go_wp2_with (first
            | (go_at_call 9; refine (alive_any _).mono ?_; rintro e w1 ⟨rfl, g1⟩)
            | (go_at_call 11; refine (HI.out _).mono ?_; rintro e w2 ⟨A2, c2, rfl, l2, o2, g2⟩)
            | (go_at_call 13; refine (HT.out _).mono ?_; rintro e w3 ⟨A3, c3, rfl, l3, o3, g3⟩))
          have z1 := g1.size
          have z2 := g2.size
          have z3 := g3.size
          have f3 : Below w.heap.size w w3 := (g1.trans (g2.mono z1)).trans (g3.mono (by omega))
          have RB : Rd w3 w3.heap.size A3 k (cells (b.take k)) := by
            have h := (Rd.of_own (o3)).cuth (k := k) (by omega)
            simpa [cells, List.map_take] using h
          refine (new_any A3 k c3 (b.take k) _ RB (bB.take k) (by omega)).mono ?_
          rintro e w7 ⟨g', rfl, hbr7, g7, hg7⟩
          go_wp2_with fail
          refine (rtext_any g' _ _ hbr7).mono ?_
          rw [HB.out h2, mk_nil]
          rintro e w8 h8
          have g8 := h8.below g7.size hg7
          obtain ⟨rfl, hbr8, _⟩ := h8
          go_wp2_with fail
          refine (rbad_any g' _ _ hbr8).mono ?_
          rintro e w9 ⟨rfl, rfl⟩
          have z8 := g8.size
          have z7 := g7.size
          go_wp2_with fail
          refine (rtext_any g' _ _ hbr8).mono ?_
          rw [HN.out, mk_nil]
          rintro e w9 h9
          have g9 := h9.below (Nat.le_trans z7 z8) hg7
          obtain ⟨rfl, hbr9, _⟩ := h9
          have z9 := g9.size
          go_wp2_with fail
          refine (rint_any g' _ _ hbr9).mono ?_
          rw [HZ.out]
          rintro e w10 h10
          have g10 := h10.below (Nat.le_trans (Nat.le_trans z7 z8) z9) hg7
          obtain ⟨rfl, hbr10, _⟩ := h10
          have q10 := ((g7.trans g8).trans g9).trans g10
          have f10 : Below w.heap.size w w10 := f3.trans (q10.mono (by omega))
          clear RB hbr7 hbr8 hbr9 hbr10 g7 g8 g9 g10
          go_wp2
          go_ret
          exact ⟨rfl, f10⟩
        · go_enter Try.func7, Try.ntmps7
          go_wp2_with (first
            | (go_at_call 9; refine (alive_any _).mono ?_; rintro e w1 ⟨rfl, g1⟩)
            | (go_at_call 11; refine (HI.out _).mono ?_; rintro e w2 ⟨A2, c2, rfl, l2, o2, g2⟩)
            | (go_at_call 13; refine (HT.out _).mono ?_; rintro e w3 ⟨A3, c3, rfl, l3, o3, g3⟩))
          have z1 := g1.size
          have z2 := g2.size
          have z3 := g3.size
          have f3 : Below w.heap.size w w3 := (g1.trans (g2.mono z1)).trans (g3.mono (by omega))
          go_ret
          exact ⟨rfl, f3⟩

section
open Go.ChangeShapes Go.WideShapes Go.ChangeAt
open Go.ChangeMaps (open_string shut_string)
set_option linter.unusedVariables false
set_option maxRecDepth 100000 in
theorem bitsShort_lifted (os : Os) (started : os.Started) (H : Type) (enc : TypeId × Value → H) :
    ReturnsInHanded {} Try.checked os 7 .any (Rows.bitsShortSpec.pre6 enc Try.prog Try.f7 Rows.bitsShortRow.domain false) (Rows.bitsShortSpec.post enc Try.prog Try.f7 false true false false) := by
  refine returnsInHanded_of_change (C := Try.checked) own started (by kernel_rfl) Try.func7
    (ChangeSpec.witness6 (enc := enc) (C := Try.checked) false ⟨#[], #[.int .i64 0, .string ByteArray.empty, .int .i64 0], []⟩ 8 (by kernel_rfl) (by kernel_rfl) (by kernel_rfl) (by kernel_rfl)) ?_
  intro W base args ds gs before hval0 hW hcnd _
  have hval : ∀ (j : Nat) t v, Try.f7.params[j]? = some t → args[j]? = some v → Value.okWide Try.prog W .any base t v := hval0
  have hW' := hW
  obtain ⟨p, q, hA0, hV, rfl, hfz, hnd⟩ := hW
  have hA : DataW.TrodAll enc Try.prog W 0 (fun _ => true) true Try.f7.params.toList args.toList ds p := hA0
  rw [Try.params7] at hA hval
  obtain ⟨v0, vs0, d0, ds0, p0, q0, hargs, rfl, rfl, h0, r0⟩ := trodAll_cons hA
  obtain ⟨v1, vs1, d1, ds1, p1, q1, rfl, rfl, rfl, h1, r1⟩ := trodAll_cons r0
  obtain ⟨v2, vs2, d2, ds2, p2, q2, rfl, rfl, rfl, h2, r2⟩ := trodAll_cons r1
  obtain ⟨rfl, rfl, rfl⟩ := trodAll_nil r2
  obtain rfl : args = #[v0, v1, v2] := by cases args; simp_all
  obtain ⟨rfl, rfl⟩ := trodVars_none hV
  have k0 := h0
  have lt0 : ∀ x ∈ p0, x.block < W.heap.size := by obtain ⟨m, hm⟩ := k0; exact DataW.trod_lt m _ _ _ hm
  have k1 := h1
  have lt1 : ∀ x ∈ p1, x.block < W.heap.size := by obtain ⟨m, hm⟩ := k1; exact DataW.trod_lt m _ _ _ hm
  have k2 := h2
  have lt2 : ∀ x ∈ p2, x.block < W.heap.size := by obtain ⟨m, hm⟩ := k2; exact DataW.trod_lt m _ _ _ hm
  obtain ⟨a0, rfl, rfl, rfl, w0⟩ := open_int Try.underlying3 (hval 0 3 v0 rfl rfl) h0
  obtain ⟨a1, rfl, rfl, rfl, w1⟩ := open_string Try.underlying9 (hval 1 9 v1 rfl rfl) h1
  obtain ⟨a2, rfl, rfl, rfl, w2⟩ := open_int Try.underlying3 (hval 2 3 v2 rfl rfl) h2
  clear hA0 hval0
  refine (bitsShort_walk a0 a1 a2 W (bounds_i64 w0) w1 (bounds_i64 w2)).mono fun e W' ⟨he, bel⟩ => ?_
  subst he
  exact ⟨_, rfl, _, _, _, [], _, [], hW', trodAll_mk1 (shut_bool Try.underlying4 _), (trodAll_cons_mk (Below.trod laidOut (by kernel_rfl) (of_decide_eq_true (by kernel_rfl)) k0 bel lt0) (trodAll_cons_mk (Below.trod laidOut (by kernel_rfl) (of_decide_eq_true (by kernel_rfl)) k1 bel lt1) (trodAll_cons_mk (Below.trod laidOut (by kernel_rfl) (of_decide_eq_true (by kernel_rfl)) k2 bel lt2) trodAll_mk0))), rfl, bel.frame _, fun h => by cases h⟩

theorem bitsShort_over : Rows.bitsShortRow.holds Try.pinned (OpenSpec.ofChange Rows.bitsShortSpec) :=
  OpenClaim.holds_of_wide 7 Try.f7 rfl rfl rfl rfl rfl rfl rfl ⟨rfl, rfl, rfl, rfl, rfl⟩ rfl rfl rfl rfl rfl (by kernel_rfl) Try.func7 (by kernel_rfl)
    (of_decide_eq_true (by kernel_rfl)) (by unfold Func.isWrapper; first | (rw [if_pos (by decide +kernel)]; kernel_rfl) | (rw [if_neg (by decide +kernel)]; exact ⟨rfl, rfl⟩))
    (fun os started H enc _ => bitsShort_lifted os started H enc)

theorem bitsShort_holds : Rows.BitsShortSaid := bitsShort_over
end
#print axioms bitsShort_holds
end Go.Proofs.Ytokpealeohoagaa
