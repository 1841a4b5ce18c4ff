/-
  The document's timers: Set.
-/
import Derived.Test.YtcjhkafdfeopfaaTmD
import Derived.Deep.DeepCutAuto
namespace Go.Proofs.Ytcjhkafdfeopfaa
open Go.RowKit Go.Lib

theorem plO_step {x : On} {l : List On} {k : Nat} (hk : k < l.length) : plO x (l.drop k) = if ltO l[k] x then plO x (l.drop (k + 1)) + 1 else 0 := by
  rw [List.drop_eq_getElem_cons hk, plO]
/-- the place, as a loop finds it -/
theorem plO_at {x : On} {l : List On} {k : Nat} (h : k + plO x (l.drop k) = plO x l) (hk : k < l.length) : (k < plO x l ↔ ltO l[k] x) ∧ (ltO l[k] x → (k + 1) + plO x (l.drop (k + 1)) = plO x l) := by
  have hs := plO_step (x := x) hk
  constructor
  · constructor
    · intro hlt
      rcases Classical.em (ltO l[k] x) with h1 | h1
      · exact h1
      · rw [if_neg h1] at hs; omega
    · intro h1
      rw [if_pos h1] at hs
      omega
  · intro h1
    rw [if_pos h1] at hs
    omega
set_option maxRecDepth 100000 in
set_option maxHeartbeats 12800000 in
theorem rset_any {B tb : Nat} {D : Nat → Prop} {w0 : World} {l0 : List On} (h0 : RmV B D w0 tb l0) (hl0 : l0.length ≤ 900000) (hB0 : B ≤ w0.heap.size) (id at_ : Int) :
    Calls Try.prog 10 #[.pointer (some ⟨tb, 0, none⟩), .int .i64 id, .int .i64 at_] w0 fun r w' => r = .returned (.tuple #[]) ∧ RmTo B tb D w0 (setO ⟨id, at_⟩ l0) w' := by
  obtain ⟨i0, hi, hz0, hz1, hz2⟩ := info_parts Try.infoone
  have HD := Lib.hid (rdrop_any h0 (by omega) hB0 id)
  have hlen := dropO_len id l0
  have H0 := Lib.hid (And.intro h0 (And.intro hB0 (show (dropO id l0).length ≤ 900000 by omega)))
  clear h0 hl0 hB0 hlen
  go_enter Try.func10, Try.ntmps10
  go_wp2_with fail
  refine HD.out.mono ?_
  rintro r w ⟨rfl, hto⟩
  obtain ⟨l, hll⟩ : ∃ l, l = dropO id l0 := ⟨_, rfl⟩
  have hl1 := H0.out.2.2
  rw [← hll] at hto hl1
  have HLL := Lib.hid hll
  have HTO := Lib.hid hto
  obtain ⟨A, n, c, hX⟩ := hto.1
  have c0 := hX.cell
  have hn : n ≤ 900000 := by rw [hX.len]; exact hl1
  have hn0 : (0 : Int) ≤ (n : Int) := Int.natCast_nonneg _
  have hnc := hX.cap.1
  have hcm := hX.cap.2
  unfold maxLen at hcm
  have H := Lib.hid hX
  have hBw : B ≤ w.heap.size := Nat.le_trans H0.out.2.1 hto.2.size
  have HBB := Lib.hid hBw
  obtain ⟨p, hp⟩ : ∃ p, p = plO ⟨id, at_⟩ l := ⟨_, rfl⟩
  have hpn : p ≤ n := by rw [hp, hX.len]; exact plO_le _ _
  have HP := Lib.hid hp
  clear hX hl1 hto hll hBw hp HD
  go_wp2_with fail
  go_loop [6] (fun i => ∃ k : Nat, k ≤ p ∧ i = .int .i64 k ∧ k + plO ⟨id, at_⟩ (l.drop k) = plO ⟨id, at_⟩ l) (fun i => p - (intOf i).toNat)
  case atStart => exact ⟨0, Nat.zero_le _, rfl, by rw [List.drop_zero, Nat.zero_add]⟩
  case round =>
    obtain ⟨k, hk, rfl, hpl⟩ := hrel
    have hk0 : (0 : Int) ≤ (k : Int) := Int.natCast_nonneg _
    have HPL := Lib.hid hpl
    clear hpl
    go_upto_region 2 with fail
    go_cut [53] (fun v wx => v = .bool (decide (k < p)) ∧ wx = w)
    case first =>
      by_cases hlt : k < n
      · have hlt1 : (k : Int) < (n : Int) := by omega
        have hltd : decide ((k : Int) < (n : Int)) = true := decide_eq_true hlt1
        obtain ⟨ad, hkl, rfl, d0, d1⟩ := H.out.at_ hlt
        obtain ⟨hiff, -⟩ := plO_at HPL.out hkl
        rw [← HP.out] at hiff
        obtain ⟨y, hy⟩ : ∃ y, y = l[k] := ⟨_, rfl⟩
        rw [← hy] at d0 d1 hiff
        have HIFF := Lib.hid hiff
        clear hy hiff
        by_cases h1 : y.t < at_
        · have b1 : decide (y.t < at_) = true := decide_eq_true h1
          have hv : decide (k < p) = true := decide_eq_true (HIFF.out.2 (.inl h1))
          go_wp2_with fail
          go_meet
          exact ⟨congrArg Value.bool hv.symm, rfl⟩
        · have b1 : decide (y.t < at_) = false := decide_eq_false h1
          by_cases h2 : y.t = at_
          · have b2 : (y.t == at_) = true := by simp [h2]
            by_cases h3 : y.i < id
            · have b3 : decide (y.i < id) = true := decide_eq_true h3
              have hv : decide (k < p) = true := decide_eq_true (HIFF.out.2 (.inr ⟨h2, h3⟩))
              have HV := Lib.hid hv
              clear h2 hv
              go_wp2_with fail
              go_meet
              exact ⟨congrArg Value.bool HV.out.symm, rfl⟩
            · have b3 : decide (y.i < id) = false := decide_eq_false h3
              have hv : decide (k < p) = false := decide_eq_false fun hh => by
                rcases HIFF.out.1 hh with h | h
                · exact h1 h
                · exact h3 h.2
              have HV := Lib.hid hv
              clear h2 hv
              go_wp2_with fail
              go_meet
              exact ⟨congrArg Value.bool HV.out.symm, rfl⟩
          · have b2 : (y.t == at_) = false := by simp [h2]
            have hv : decide (k < p) = false := decide_eq_false fun hh => by
              rcases HIFF.out.1 hh with h | h
              · exact h1 h
              · exact h2 h.1
            go_wp2_with fail
            go_meet
            exact ⟨congrArg Value.bool hv.symm, rfl⟩
      · have hlt1 : ¬ (k : Int) < (n : Int) := by omega
        have hltd : decide ((k : Int) < (n : Int)) = false := decide_eq_false hlt1
        have hv : decide (k < p) = false := decide_eq_false (by omega)
        go_wp2_with fail
        go_meet
        exact ⟨congrArg Value.bool hv.symm, rfl⟩
    case rest =>
      obtain ⟨rfl, hwx⟩ := hcut
      have hwx' := hwx.symm
      clear hwx
      subst hwx'
      by_cases hgo : k < p
      · have b3 : decide (k < p) = true := decide_eq_true hgo
        have hkl : k < l.length := by rw [← H.out.len]; omega
        obtain ⟨hiff, hnx⟩ := plO_at HPL.out hkl
        rw [← HP.out] at hiff
        have HF := Lib.hid (hnx (hiff.1 hgo))
        rw [b3]
        clear hiff hnx
        go_wp2_with fail
        go_round
        case rel => exact ⟨k + 1, by omega, by go_num, HF.out⟩
        case measure => simp [intOf]; omega
      · have b3 : decide (k < p) = false := decide_eq_false hgo
        rw [b3]
        obtain rfl : k = p := by omega
        rcases A with _ | ad
        · have hX := H.out
          obtain rfl : c = 0 := hX.nil rfl
          obtain rfl : n = 0 := by omega
          obtain rfl : k = 0 := by omega
          obtain ⟨w1, hw1⟩ : ∃ w1, w1 = w.alloc (.cells #[] 58) := ⟨_, rfl⟩
          have hb1 : Below w.heap.size w w1 := by rw [hw1]; exact (Below.refl _ w).alloc (Nat.le_refl _) _
          have ho1 : w1.ownsRow w.heap.size 58 2 (.slice (some ⟨w.heap.size, 0, none⟩) 0 0) 0 [] := by
            rw [hw1]
            have h9 := World.ownsRow_lit (base := w.heap.size) (size := 2) (e := 58) w #[] 0 (by simp) (by simp [maxLen]) (by simp)
            exact h9
          have hX1 := hX.below hb1
          have c1 := hX1.cell
          have H1 := Lib.hid (And.intro hb1 (And.intro ho1 hX1))
          have HW1 := Lib.hid hw1
          clear hb1 ho1 hX1 hw1 hX
          go_upto_region 5 with fail
          rw [← HW1.out]
          go_upto_region 6 with (at_builtin; refine wpList_append_row rfl _ _ 27 rfl w.heap.size 58 i0 (.agg #[.int .i64 0, .int .i64 0]) 2 16 Try.underlying27 hi hz0 hz1 hz2 rfl (by decide) _ 0 _ H1.out.2.1 (by rfl) none 0 0 [] (by rfl) rfl (fun _ => rfl) (fun ad' had => by cases had) (fun u hu => by cases hu) (by first | (simp [maxLen]; done) | (simp [maxLen]; omega)) (by omega) H1.out.1.size ?_; intro A5 c5 w5 hR5; have HR5 := Lib.hid hR5; clear hR5)
          have hb5 : Below w.heap.size w w5 := H1.out.1.trans (HR5.out.chg.below (fun q hq => by cases hq; exact Nat.le_refl _) H1.out.1.size)
          have ho5 := HR5.out.own
          rw [Nat.zero_add, List.nil_append] at ho5
          obtain ⟨w6, hw6⟩ : ∃ w6, w6 = w5.alloc (.cells #[.int .i64 id, .int .i64 at_] 58) := ⟨_, rfl⟩
          have hb6 : Below w5.heap.size w5 w6 := by rw [hw6]; exact (Below.refl _ w5).alloc (Nat.le_refl _) _
          have hbw6 := hb5.trans (hb6.mono hb5.size)
          have ho6 := own_chg ho5 (F := Non) (Chg.of_below hb6) fun _ _ hf => hf
          have hnew6 : ∀ j u, ([.int .i64 id, .int .i64 at_] : List Value)[j]? = some u → w6.cell? ((⟨w5.heap.size, 0, none⟩ : Addr).add j) = some u := by rw [hw6]; exact World.news_of_block (heap_alloc_new w5 _)
          have H6 := Lib.hid (And.intro hbw6 (And.intro ho6 hnew6))
          have HW6 := Lib.hid hw6
          have H5 := Lib.hid hb5
          clear hb5 ho5 hb6 hbw6 ho6 hnew6 hw6 c1
          go_upto_region 7 with (at_builtin; refine wpList_append_row rfl _ _ 27 rfl w.heap.size 58 i0 (.agg #[.int .i64 0, .int .i64 0]) 2 16 Try.underlying27 hi hz0 hz1 hz2 rfl (by decide) _ 0 _ (by rw [← HW6.out]; exact H6.out.2.1) (by rfl) (some ⟨w5.heap.size, 0, none⟩) 1 1 [.int .i64 id, .int .i64 at_] (by rfl) rfl (fun h => by cases h) (fun ad' had => by cases had; rw [← HW6.out]; exact H6.out.2.2) (fun u hu => by simp at hu; rcases hu with rfl | rfl <;> rfl) (by first | (simp [maxLen]; done) | (simp [maxLen]; omega)) (by omega) (by rw [← HW6.out]; exact H6.out.1.size) ?_; intro A7 c7 w7 hR7; rw [← HW6.out] at hR7; have HR7 := Lib.hid hR7; clear hR7)
          have hb7 : Below w.heap.size w w7 := H6.out.1.trans (HR7.out.chg.below (fun q hq => (H6.out.2.1.lt q hq).1) H6.out.1.size)
          have hX7 := H.out.below hb7
          have e7 := hX7.cell
          have f7 := hX7.blk.frozen 0
          have H7 := Lib.hid (And.intro hb7 (And.intro hX7 HR7.out.own))
          clear hb7 hX7
          go_wp2_with (at_builtin; refine wpList_append_row rfl _ _ 27 rfl w.heap.size 58 i0 (.agg #[.int .i64 0, .int .i64 0]) 2 16 Try.underlying27 hi hz0 hz1 hz2 rfl (by decide) _ (0 + 1) _ H7.out.2.2 (by rfl) none 0 0 [] (by rfl) rfl (fun _ => rfl) (fun ad' had => by cases had) (fun u hu => by cases hu) (by first | (simp [maxLen]; done) | (simp [maxLen]; omega)) (by omega) H7.out.1.size ?_; intro A9 c9 w9 hR9; have HR9 := Lib.hid hR9; have hb9 := H7.out.1.trans (hR9.chg.below (fun q hq => (H7.out.2.2.lt q hq).1) H7.out.1.size); have hX9 := H.out.below hb9; have f9 := hX9.blk.frozen 0; have e9 := hX9.cell; have H9 := Lib.hid hb9; clear hR9 hb9 hX9)
          have hfin := H.out.store HBB.out H9.out (A5 := A9) (n5 := (0 + 1) + 0) (c5 := c9) (l' := insO ⟨id, at_⟩ l) (by
            have h9 := HR9.out.own
            unfold insO
            rw [← HP.out, oncs_append, oncs_append]
            have hl0 : l = [] := List.eq_nil_of_length_eq_zero H.out.len.symm
            rw [hl0]
            exact h9) (by have := insO_len ⟨id, at_⟩ l; have := H.out.len; omega) rfl
          have HFIN := Lib.hid (HTO.out.trans hfin (fun q hq => (H0.out.1.foot hq).1) H0.out.2.1)
          clear hfin e9 f9 e7 f7
          go_wp2_with fail
          go_end0
          rw [HLL.out] at HFIN
          exact ⟨rfl, HFIN.out⟩
        · have hX := H.out
          obtain ⟨w1, hw1⟩ : ∃ w1, w1 = w.alloc (.cells #[] 58) := ⟨_, rfl⟩
          have hb1 : Below w.heap.size w w1 := by rw [hw1]; exact (Below.refl _ w).alloc (Nat.le_refl _) _
          have ho1 : w1.ownsRow w.heap.size 58 2 (.slice (some ⟨w.heap.size, 0, none⟩) 0 0) 0 [] := by
            rw [hw1]
            have h9 := World.ownsRow_lit (base := w.heap.size) (size := 2) (e := 58) w #[] 0 (by simp) (by simp [maxLen]) (by simp)
            exact h9
          have hX1 := hX.below hb1
          have c1 := hX1.cell
          have H1 := Lib.hid (And.intro hb1 (And.intro ho1 hX1))
          have hkc : (k : Int) ≤ (c : Int) := by omega
          have hkn : (k : Int) ≤ (n : Int) := by omega
          have hnci : (n : Int) ≤ (c : Int) := by omega
          have HW1 := Lib.hid hw1
          clear hb1 ho1 hX1 hw1 hX
          go_upto_region 5 with fail
          rw [← HW1.out]
          go_upto_region 6 with (at_builtin; refine wpList_append_row rfl _ _ 27 rfl w.heap.size 58 i0 (.agg #[.int .i64 0, .int .i64 0]) 2 16 Try.underlying27 hi hz0 hz1 hz2 rfl (by decide) _ 0 _ H1.out.2.1 (by rfl) (some ad) k c (oncs (l.take k)) (by rfl) (by rw [oncs_len, List.length_take]; have := H.out.len; omega) (fun h => by cases h) (fun ad' had => by cases had; exact H1.out.2.2.first_ k) (oncs_one _) (by first | (simp [maxLen]; done) | (simp [maxLen]; omega)) (by omega) H1.out.1.size ?_; intro A5 c5 w5 hR5; have HR5 := Lib.hid hR5; clear hR5)
          have hb5 : Below w.heap.size w w5 := H1.out.1.trans (HR5.out.chg.below (fun q hq => by cases hq; exact Nat.le_refl _) H1.out.1.size)
          have ho5 := HR5.out.own
          rw [Nat.zero_add, List.nil_append] at ho5
          obtain ⟨w6, hw6⟩ : ∃ w6, w6 = w5.alloc (.cells #[.int .i64 id, .int .i64 at_] 58) := ⟨_, rfl⟩
          have hb6 : Below w5.heap.size w5 w6 := by rw [hw6]; exact (Below.refl _ w5).alloc (Nat.le_refl _) _
          have hbw6 := hb5.trans (hb6.mono hb5.size)
          have ho6 := own_chg ho5 (F := Non) (Chg.of_below hb6) fun _ _ hf => hf
          have hnew6 : ∀ j u, ([.int .i64 id, .int .i64 at_] : List Value)[j]? = some u → w6.cell? ((⟨w5.heap.size, 0, none⟩ : Addr).add j) = some u := by rw [hw6]; exact World.news_of_block (heap_alloc_new w5 _)
          have H6 := Lib.hid (And.intro hbw6 (And.intro ho6 hnew6))
          have HW6 := Lib.hid hw6
          have H5 := Lib.hid hb5
          clear hb5 ho5 hb6 hbw6 ho6 hnew6 hw6 c1
          go_upto_region 7 with (at_builtin; refine wpList_append_row rfl _ _ 27 rfl w.heap.size 58 i0 (.agg #[.int .i64 0, .int .i64 0]) 2 16 Try.underlying27 hi hz0 hz1 hz2 rfl (by decide) _ k _ (by rw [← HW6.out]; exact H6.out.2.1) (by rfl) (some ⟨w5.heap.size, 0, none⟩) 1 1 [.int .i64 id, .int .i64 at_] (by rfl) rfl (fun h => by cases h) (fun ad' had => by cases had; rw [← HW6.out]; exact H6.out.2.2) (fun u hu => by simp at hu; rcases hu with rfl | rfl <;> rfl) (by first | (simp [maxLen]; done) | (simp [maxLen]; omega)) (by omega) (by rw [← HW6.out]; exact H6.out.1.size) ?_; intro A7 c7 w7 hR7; rw [← HW6.out] at hR7; have HR7 := Lib.hid hR7; clear hR7)
          have hb7 : Below w.heap.size w w7 := H6.out.1.trans (HR7.out.chg.below (fun q hq => (H6.out.2.1.lt q hq).1) H6.out.1.size)
          have hX7 := H.out.below hb7
          have e7 := hX7.cell
          have f7 := hX7.blk.frozen 0
          have H7 := Lib.hid (And.intro hb7 (And.intro hX7 HR7.out.own))
          clear hb7 hX7
          by_cases hcz : c = k
          · subst hcz
            obtain rfl : n = c := by omega
            go_wp2_with (at_builtin; refine wpList_append_row rfl _ _ 27 rfl w.heap.size 58 i0 (.agg #[.int .i64 0, .int .i64 0]) 2 16 Try.underlying27 hi hz0 hz1 hz2 rfl (by decide) _ (n + 1) _ H7.out.2.2 (by rfl) (some ad) 0 0 [] (by rfl) rfl (fun _ => rfl) (fun ad' had j u hj => by simp at hj) (fun u hu => by cases hu) (by first | (simp [maxLen]; done) | (simp [maxLen]; omega)) (by omega) H7.out.1.size ?_; intro A9 c9 w9 hR9; have HR9 := Lib.hid hR9; have hb9 := H7.out.1.trans (hR9.chg.below (fun q hq => (H7.out.2.2.lt q hq).1) H7.out.1.size); have hX9 := H.out.below hb9; have f9 := hX9.blk.frozen 0; have e9 := hX9.cell; have H9 := Lib.hid hb9; clear hR9 hb9 hX9)
            have hfin := H.out.store HBB.out H9.out (A5 := A9) (n5 := (n + 1) + 0) (c5 := c9) (l' := insO ⟨id, at_⟩ l) (by
              have h9 := HR9.out.own
              unfold insO
              rw [← HP.out, oncs_append, oncs_append]
              rw [List.drop_eq_nil_of_le (Nat.le_of_eq H.out.len.symm)]
              exact h9) (by have := insO_len ⟨id, at_⟩ l; have := H.out.len; omega) rfl
            have HFIN := Lib.hid (HTO.out.trans hfin (fun q hq => (H0.out.1.foot hq).1) H0.out.2.1)
            clear hfin e9 f9 e7 f7
            go_wp2_with fail
            go_end0
            rw [HLL.out] at HFIN
            exact ⟨rfl, HFIN.out⟩
          · have HCELL := Lib.hid (H7.out.2.1.from_ k)
            have hcz0 : ¬ (c - k = 0) := by omega
            have hcz1 : ((c - k) == 0) = false := by rw [beq_eq_false_iff_ne]; exact hcz0
            go_wp2_with (at_builtin; refine wpList_append_row rfl _ _ 27 rfl w.heap.size 58 i0 (.agg #[.int .i64 0, .int .i64 0]) 2 16 Try.underlying27 hi hz0 hz1 hz2 rfl (by decide) _ (k + 1) _ H7.out.2.2 (by rfl) (some (ad.add (k * 2))) (n - k) (c - k) (oncs (l.drop k)) (by rfl) (by rw [oncs_len, List.length_drop]; have := H.out.len; omega) (fun h => by cases h) (fun ad' had => by cases had; exact HCELL.out) (oncs_one _) (by first | (simp [maxLen]; done) | (simp [maxLen]; omega)) (by omega) H7.out.1.size ?_; intro A9 c9 w9 hR9; have HR9 := Lib.hid hR9; have hb9 := H7.out.1.trans (hR9.chg.below (fun q hq => (H7.out.2.2.lt q hq).1) H7.out.1.size); have hX9 := H.out.below hb9; have f9 := hX9.blk.frozen 0; have e9 := hX9.cell; have H9 := Lib.hid hb9; clear hR9 hb9 hX9)
            have hfin := H.out.store HBB.out H9.out (A5 := A9) (n5 := (k + 1) + (n - k)) (c5 := c9) (l' := insO ⟨id, at_⟩ l) (by
              have h9 := HR9.out.own
              unfold insO
              rw [← HP.out, oncs_append, oncs_append]
              exact h9) (by have := insO_len ⟨id, at_⟩ l; have := H.out.len; omega) rfl
            have HFIN := Lib.hid (HTO.out.trans hfin (fun q hq => (H0.out.1.foot hq).1) H0.out.2.1)
            clear hfin e9 f9 e7 f7
            go_wp2_with fail
            go_end0
            rw [HLL.out] at HFIN
            exact ⟨rfl, HFIN.out⟩
end Go.Proofs.Ytcjhkafdfeopfaa
