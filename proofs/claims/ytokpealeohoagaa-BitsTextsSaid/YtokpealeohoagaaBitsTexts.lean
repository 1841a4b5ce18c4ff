/-
  BitsTexts returns true for every list of texts, and leaves it as it was: the bytes of a list are how many there are, and each text's bytes, one behind the other.
  No condition.
-/
import Derived.Test.YtokpealeohoagaaLift
namespace Go.Proofs.Ytokpealeohoagaa
open Go.RowKit Go.Lib

theorem tx_len_k {ss : List ByteArray} (hn : ss.length ≤ 200) : ∀ k, (∀ j (h : j < ss.length), j < k → ss[j].size ≤ 5000) → (tx ss k).length ≤ 10 + min k 200 * 5010 := by
  intro k
  induction k with
  | zero => intro _; rw [tx_zero]; exact Nat.le_trans (encI_nat (m := ss.length) (by omega)) (by omega)
  | succ j ih =>
    intro hs
    have hj0 := ih fun i hi hij => hs i hi (by omega)
    rcases Nat.lt_or_ge j ss.length with hj | hj
    · rw [tx_succ hj, List.length_append, encT, List.length_append, bytes_len]
      have h1 := hs j hj (by omega)
      have h2 := encI_nat (m := ss[j].size) (by omega)
      generalize (encI ss[j].size).length = q at h2 ⊢
      generalize (tx ss j).length = p at hj0 ⊢
      omega
    · have h3 : tx ss (j + 1) = tx ss j := by unfold tx; rw [List.take_of_length_le (by omega), List.take_of_length_le (by omega)]
      rw [h3]; exact Nat.le_trans hj0 (by omega)

def TlRel (ss : List ByteArray) (w : World) (v i : Value) (wr : World) : Prop :=
  ∃ k : Nat, k ≤ ss.length ∧ i = .int .i64 k ∧ wr.ownsRow w.heap.size 5 1 v (tx ss k).length (cells (tx ss k)) ∧ Below w.heap.size w wr ∧ ∀ j (h : j < ss.length), j < k → ss[j].size ≤ 5000

set_option maxRecDepth 100000 in
set_option maxHeartbeats 1600000 in
theorem bitsTexts_walk (A : Option Addr) (n c : Nat) (ss : List ByteArray) (w : World) (hr : Rd w w.heap.size A n (strs ss)) (_hs : ∀ s ∈ ss, s.size ≤ maxLen) (hlen : ss.length = n) (hnc : n ≤ c) (_hcm : c ≤ maxLen) :
    Calls Try.prog 8 #[.slice A n c] w (Yes w) := by
  subst hlen
  unfold maxLen at _hcm
  obtain ⟨i0, hi, hz0, hz1, hz2⟩ := info_parts Try.info5
  by_cases hn : 200 < ss.length
  · go_enter Try.func8, Try.ntmps8
    go_wp2_with (go_at_call 9; refine (alive_any _).mono ?_; rintro e w1 ⟨rfl, h1⟩)
    go_ret
    exact ⟨rfl, h1⟩
  · go_enter Try.func8, Try.ntmps8
    go_wp2_with (first | (go_at_call 9; refine (alive_any _).mono ?_; rintro e w1 ⟨rfl, h1⟩) | (go_at_call 11; refine (int_any _ _ (by omega) (by omega)).mono ?_; rintro e w2 ⟨v2, rfl, h2, h3⟩))
    have b2 := h1.trans (h3.mono h1.size)
    have o2 := own_base h2 h1.size
    have HO := Lib.hid o2
    clear o2 h1 h2 h3
    go_loopw [3, 4] (fun v i wr => TlRel ss w v i wr) (fun _ i _ => ss.length - (intOf i).toNat)
    case atStart => exact ⟨0, by omega, rfl, by rw [tx_zero]; exact HO.out, b2, fun j _ h => absurd h (by omega)⟩
    case round =>
      obtain ⟨k, hk, rfl, hown, hbel, hsz⟩ := hrel
      have hr' := hr.below hbel (Nat.le_refl _)
      have hbs := hbel.size
      have HZ := Lib.hid hsz
      have HT := Lib.hid (tx_len_k (by omega) k hsz)
      clear b2 HO hsz
      by_cases hlt : k < ss.length
      · obtain ⟨ad, u, rfl, _, hu, hc⟩ := hr'.at_ hlt
        rw [strs_at hlt] at hu
        obtain rfl := Option.some.inj hu
        clear hu
        by_cases h5 : 5000 < ss[k].size
        · clear hr hr'
          go_wp2
          go_ret
          exact ⟨rfl, hbel⟩
        · have HL := Lib.hid (show (tx ss k).length + (encT (bytes ss[k])).length ≤ 2000000 by
            rw [encT, List.length_append, bytes_len]
            have h2 := encI_nat (m := ss[k].size) (by omega)
            have h3 := HT.out
            generalize (encI ss[k].size).length = q at h2 ⊢
            generalize (tx ss k).length = p at h3 ⊢
            omega)
          clear hr hr'
          go_wp2_with (first | (go_at_call 13; refine (text_any ss[k] _ (by omega)).mono ?_; rintro e w2 ⟨v2, rfl, h5, h6⟩; have h7 := own_below hown h6 (Nat.le_refl _); have hsz2 := h6.size; obtain ⟨A2, c2, rfl, _, _⟩ := own_shape h5) | (at_builtin; refine wpList_append_rd _ rfl (.tmp 25) (.tmp 30) 25 rfl w.heap.size 5 i0 (.int .u8 0) 1 Try.underlying25 hi hz0 hz1 hz2 rfl _ _ _ rfl h7 _ A2 _ c2 _ rfl (Rd.of_own h5) (cells_one _) ?c3 ?c4 ?c5 ?_))
          case c3 => have := HL.out; simp [maxLen]; omega
          case c4 => have := HL.out; simp; omega
          case c5 => omega
          intro v' w3 hown3 hgrow
          have hb3 := below_own h7 hgrow (by omega)
          have hfin : TlRel ss w v' (.int .i64 ((k : Int) + 1)) w3 := ⟨k + 1, by omega, by go_num, by rw [tx_succ hlt, List.length_append, cells_append]; exact hown3, (hbel.trans (h6.mono hbs)).trans hb3,
            fun j hj hjk => by rcases Nat.lt_or_ge j k with h | h
                               · exact HZ.out j hj h
                               · obtain rfl : j = k := by omega
                                 omega⟩
          have HF := Lib.hid hfin
          clear hfin hown3 hgrow h7 h5 hown
          go_wp2
          go_roundw
          case rel => exact HF.out
          case measure => simp [intOf]; omega
      · have hkn : k = ss.length := by omega
        subst hkn
        have HS := Lib.hid (show ∀ s ∈ ss, s.size ≤ 5000 by
          intro s hs
          obtain ⟨j, hj, rfl⟩ := List.mem_iff_getElem.1 hs
          exact HZ.out j hj hj)
        have HB := Lib.hid (show (encTexts (ss.map bytes)).length ≤ 1100000 by have h := tx_len (by omega) HS.out ss.length; rwa [tx_all] at h)
        have hrr := hr'.more hbs
        rw [tx_all] at hown
        obtain ⟨Aw, cw, rfl, _, _⟩ := own_shape hown
        clear hr hr' HZ HT
        go_wp2_with (first | (go_at_call 15; refine (texts_any A _ c ss _ hrr (by omega) HS.out).mono ?_; rintro e w2 ⟨v2, rfl, h5, h6⟩; have h7 := own_below hown h6 (Nat.le_refl _); have hsz2 := h6.size; obtain ⟨A2, c2, rfl, _, _⟩ := own_shape h5) | (go_at_call 10; refine (sameBytes_below _ _ _ _ _ _ _ _ _ (Rd.of_own h5) (Rd.of_own h7) (Nat.le_trans HB.out (by omega))).mono ?_; rintro e w3 ⟨rfl, h8⟩))
        go_ret
        exact ⟨rfl, (hbel.trans (h6.mono hbs)).trans (h8.mono (by omega))⟩

section
open Go.ChangeShapes Go.WideShapes Go.ChangeAt
open Go.ChangeMaps (open_string shut_string)
set_option linter.unusedVariables false
set_option maxRecDepth 100000 in
theorem bitsTexts_lifted (os : Os) (started : os.Started) (H : Type) (enc : TypeId × Value → H) :
    ReturnsInHanded {} Try.checked os 8 .any (Rows.bitsTextsSpec.pre6 enc Try.prog Try.f8 Rows.bitsTextsRow.domain false) (Rows.bitsTextsSpec.post enc Try.prog Try.f8 false true false false) := by
  refine returnsInHanded_of_change (C := Try.checked) own started (by kernel_rfl) Try.func8
    (ChangeSpec.witness6 (enc := enc) (C := Try.checked) false ⟨#[], #[.slice none 0 0], []⟩ 8 (by kernel_rfl) (by kernel_rfl) (by kernel_rfl) (by kernel_rfl)) ?_
  intro W base args ds gs before hval0 hW hcnd _
  have hval : ∀ (j : Nat) t v, Try.f8.params[j]? = some t → args[j]? = some v → Value.okWide Try.prog W .any base t v := hval0
  have hW' := hW
  obtain ⟨p, q, hA0, hV, rfl, hfz, hnd⟩ := hW
  have hA : DataW.TrodAll enc Try.prog W 0 (fun _ => true) true Try.f8.params.toList args.toList ds p := hA0
  rw [Try.params8] at hA hval
  obtain ⟨v0, vs0, d0, ds0, p0, q0, hargs, rfl, rfl, h0, r0⟩ := trodAll_cons hA
  obtain ⟨rfl, rfl, rfl⟩ := trodAll_nil r0
  obtain rfl : args = #[v0] := by cases args; simp_all
  obtain ⟨rfl, rfl⟩ := trodVars_none hV
  have k0 := h0
  have lt0 : ∀ x ∈ p0, x.block < W.heap.size := by obtain ⟨m, hm⟩ := k0; exact DataW.trod_lt m _ _ _ hm
  obtain ⟨a0, len0, cap0, rfl⟩ := okWide_slice Try.underlying22 (hval 0 22 v0 rfl rfl)
  obtain ⟨z0, r0x, w0, e0, l0, m0⟩ := rd_of_strs Try.underlying22 Try.underlying9 (by kernel_rfl) h0
  clear hA0 hval0
  refine (bitsTexts_walk a0 len0 cap0 z0 W r0x w0 e0 l0 m0).mono fun e W' ⟨he, bel⟩ => ?_
  subst he
  exact ⟨_, rfl, _, _, _, [], _, [], hW', trodAll_mk1 (shut_bool Try.underlying4 _), (trodAll_cons_mk (Below.trod laidOut (by kernel_rfl) (of_decide_eq_true (by kernel_rfl)) k0 bel lt0) trodAll_mk0), rfl, bel.frame _, fun h => by cases h⟩

theorem bitsTexts_over : Rows.bitsTextsRow.holds Try.pinned (OpenSpec.ofChange Rows.bitsTextsSpec) :=
  OpenClaim.holds_of_wide 8 Try.f8 rfl rfl rfl rfl rfl rfl rfl ⟨rfl, rfl, rfl, rfl, rfl⟩ rfl rfl rfl rfl rfl (by kernel_rfl) Try.func8 (by kernel_rfl)
    (of_decide_eq_true (by kernel_rfl)) (by unfold Func.isWrapper; first | (rw [if_pos (by decide +kernel)]; kernel_rfl) | (rw [if_neg (by decide +kernel)]; exact ⟨rfl, rfl⟩))
    (fun os started H enc _ => bitsTexts_lifted os started H enc)

theorem bitsTexts_holds : Rows.BitsTextsSaid := bitsTexts_over
end
#print axioms bitsTexts_holds
end Go.Proofs.Ytokpealeohoagaa
