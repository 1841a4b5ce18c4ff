/-
  The document's timers: Drop.
-/
import Derived.Test.YtcjhkafdfeopfaaTmR
import Derived.Deep.RegionHeld3
import Derived.Deep.Cut
namespace Go.Proofs.Ytcjhkafdfeopfaa
open Go.RowKit Go.Lib

theorem Try.infoone : (Try.prog.info? 58).map (fun i => (i.zero, i.size, i.bytes)) = some (some (.agg #[.int .i64 0, .int .i64 0]), 2, 16) := by kernel_rfl
theorem RmX.store {B tb : Nat} {D : Nat → Prop} {w w5 w6 : World} {A A5 : Option Addr} {n c n5 c5 : Nat} {l l' : List On} (h : RmX B D w tb A n c l) (hB : B ≤ w.heap.size) (hb : Below w.heap.size w w5)
    (hown : w5.ownsRow w.heap.size 58 2 (.slice A5 n5 c5) n5 (oncs l')) (hn : n5 = l'.length) (hw6 : w6 = w5.setCell ⟨tb, 0, none⟩ (.slice A5 n5 c5)) : RmTo B tb D w l' w6 := by
  have hlt := h.blk.lt
  have hb5 := h.blk.below hb hlt
  have hc6 : Chg (fun k => k = tb) w5 w6 := by rw [hw6]; exact (Chg.refl (fun k => k = tb) w5).setCell (p := ⟨tb, 0, none⟩) (fun _ => rfl) _
  have s5 := hb.size
  have s6 := hc6.size
  have ho6 := own_chg hown hc6 fun k hk he => by have := (hown.lt k hk).1; omega
  refine ⟨⟨A5, n5, c5, by rw [hw6]; exact hb5.put 0 _, hn, own_caps hown, fun e => by subst e; exact (own_nil hown).2.1, RowG.of_rows (fun _ => rfl) ho6 hn, fun ad ha h0 => ?_, .inl h.db, fun k hk => hk.elim (fun hk => ⟨(h.foot k hk).1, by have := (h.foot k hk).2; omega⟩) fun hk => ⟨by omega, hk.2⟩⟩, (Chg.of_below hb).trans' hc6 fun k _ hk => by subst hk; exact h.db⟩
  subst ha
  obtain ⟨g, hg⟩ := own_form' hown h0
  injection hg with hg
  subst hg
  have h1 := hown.lt g rfl
  exact ⟨.inr ⟨h1.1, by show g < _; omega⟩, fun e => by have e2 : g = tb := e; omega⟩
theorem RmTo.same {B tb : Nat} {D : Nat → Prop} {w w' : World} {l : List On} (h : RmV B D w tb l) (h1 : Below w.heap.size w w') (hB : B ≤ w.heap.size) : RmTo B tb D w l w' := by
  obtain ⟨A, n, c, h⟩ := h
  have h2 := h.below h1
  exact ⟨⟨A, n, c, h2.blk, h2.len, h2.cap, h2.nil, h2.row, fun ad ha h0 => ⟨.inl (h2.ard ad ha h0).1, (h2.ard ad ha h0).2⟩, .inl h2.db, fun k hk => hk.elim (fun hk => h2.foot k hk) fun hk => ⟨by omega, hk.2⟩⟩, Chg.of_below h1⟩
theorem dropO_step {id : Int} {l : List On} {k : Nat} (hk : k < l.length) (he : l[k].i ≠ id) : dropO id (l.drop k) = l[k] :: dropO id (l.drop (k + 1)) := by
  rw [List.drop_eq_getElem_cons hk, dropO, if_neg he]
theorem dropO_hit {id : Int} {l : List On} {k : Nat} (hk : k < l.length) (he : l[k].i = id) : dropO id (l.drop k) = l.drop (k + 1) := by
  rw [List.drop_eq_getElem_cons hk, dropO, if_pos he]
/-- the list's cells, from an element on -/
theorem RmX.from_ {B tb n c : Nat} {D : Nat → Prop} {w : World} {ad : Addr} {l : List On} (h : RmX B D w tb (some ad) n c l) (k : Nat) : ∀ j u, (oncs (l.drop k))[j]? = some u → w.cell? ((ad.add (k * 2)).add j) = some u := by
  intro j u hj
  have hjl := (List.getElem?_eq_some_iff.1 hj).1
  rw [oncs_len, List.length_drop] at hjl
  have hq : k + j / 2 < l.length := by omega
  have hjj : j = j / 2 * 2 + j % 2 := by omega
  have hm : j % 2 < 2 := Nat.mod_lt _ (by omega)
  have h1 := flat_cell (cell := onC) (S := 2) (fun _ => rfl) (l.drop k) (j / 2) (j % 2) (by rw [List.length_drop]; omega) hm
  rw [← hjj] at h1
  change (oncs (l.drop k))[j]? = _ at h1
  rw [h1, List.getElem_drop] at hj
  obtain ⟨ad', e, hc⟩ := h.row.cell (k + j / 2) hq (j % 2) u hj
  obtain rfl := Option.some.inj e
  rw [addr_add, show k * 2 + j = (k + j / 2) * 2 + j % 2 by omega]
  exact hc
theorem RmX.first_ {B tb n c : Nat} {D : Nat → Prop} {w : World} {ad : Addr} {l : List On} (h : RmX B D w tb (some ad) n c l) (k : Nat) : ∀ j u, (oncs (l.take k))[j]? = some u → w.cell? (ad.add j) = some u := by
  intro j u hj
  have h1 := h.from_ 0 j u
  rw [List.drop_zero, Nat.zero_mul, addr_add, Nat.zero_add] at h1
  refine h1 ?_
  rw [← List.take_append_drop k l, oncs_append]
  have hjl := (List.getElem?_eq_some_iff.1 hj).1
  rw [List.getElem?_append_left hjl]
  exact hj
set_option maxRecDepth 100000 in
set_option maxHeartbeats 6400000 in
theorem rdrop_any {B tb : Nat} {D : Nat → Prop} {w : World} {l : List On} (h : RmV B D w tb l) (hl : l.length ≤ 1000000) (hB : B ≤ w.heap.size) (id : Int) :
    Calls Try.prog 12 #[.pointer (some ⟨tb, 0, none⟩), .int .i64 id] w fun r w' => r = .returned (.bool (atO id l).isSome) ∧ RmTo B tb D w (dropO id l) w' := by
  obtain ⟨i0, hi, hz0, hz1, hz2⟩ := info_parts Try.infoone
  obtain ⟨A, n, c, hX⟩ := h
  have c0 := hX.cell
  have hn : n ≤ 1000000 := by rw [hX.len]; exact hl
  have hn0 : (0 : Int) ≤ (n : Int) := Int.natCast_nonneg _
  have hnc := hX.cap.1
  have hcm := hX.cap.2
  unfold maxLen at hcm
  have H := Lib.hid hX
  have HBB := Lib.hid hB
  clear hX hl hB
  go_enter Try.func12, Try.ntmps12
  go_wp2_with fail
  go_loop [5] (fun i => ∃ k : Nat, k ≤ n ∧ i = .int .i64 k ∧ atO id (l.drop k) = atO id l ∧ dropO id l = l.take k ++ dropO id (l.drop k)) (fun i => n - (intOf i).toNat)
  case atStart => exact ⟨0, Nat.zero_le _, rfl, by rw [List.drop_zero], by rw [List.drop_zero]; rfl⟩
  case round =>
    obtain ⟨k, hk, rfl, hat, hdr⟩ := hrel
    have hk0 : (0 : Int) ≤ (k : Int) := Int.natCast_nonneg _
    have HAT := Lib.hid (And.intro hat hdr)
    clear hat hdr
    by_cases hlt : k < n
    · have hlt1 : (k : Int) < (n : Int) := by omega
      obtain ⟨ad, hkl, rfl, d0, d1⟩ := H.out.at_ hlt
      have hst := atO_step (id := id) hkl
      by_cases he : l[k].i = id
      · have hh := dropO_hit hkl he
        rw [if_pos he] at hst
        have HH := Lib.hid (show (atO id l).isSome = true ∧ dropO id l = l.take k ++ l.drop (k + 1) from ⟨by rw [← HAT.out.1, hst]; rfl, by rw [HAT.out.2, hh]⟩)
        rw [he] at d0
        have hq : (id == id) = true := by simp
        obtain ⟨w1, hw1⟩ : ∃ w1, w1 = w.alloc (.cells #[] 58) := ⟨_, rfl⟩
        have hb1 : Below w.heap.size w w1 := by rw [hw1]; exact (Below.refl _ w).alloc (Nat.le_refl _) _
        have ho1 : w1.ownsRow w.heap.size 58 2 (.slice (some ⟨w.heap.size, 0, none⟩) 0 0) 0 [] := by
          rw [hw1]
          have h9 := World.ownsRow_lit (base := w.heap.size) (size := 2) (e := 58) w #[] 0 (by simp) (by simp [maxLen]) (by simp)
          exact h9
        have hX1 := H.out.below hb1
        have c1 := hX1.cell
        have H1 := Lib.hid (And.intro hb1 (And.intro ho1 hX1))
        have hkc : (k : Int) ≤ (c : Int) := by omega
        have hkn : (k : Int) ≤ (n : Int) := by omega
        have hk1c : (k : Int) + 1 ≤ (c : Int) := by omega
        have hk1n : (k : Int) + 1 ≤ (n : Int) := by omega
        have hnci : (n : Int) ≤ (c : Int) := by omega
        have HW1 := Lib.hid hw1
        rw [hw1] at c1
        clear hst he hh d1 hb1 ho1 hX1 hw1
        go_upto_region 6 with fail
        rw [← HW1.out] at c1 ⊢
        go_upto_region 7 with (at_builtin; refine wpList_append_row rfl _ _ 27 rfl w.heap.size 58 i0 (.agg #[.int .i64 0, .int .i64 0]) 2 16 Try.underlying27 hi hz0 hz1 hz2 rfl (by decide) _ 0 [] H1.out.2.1 (by rfl) (some ad) k c (oncs (l.take k)) (by rfl) (by rw [oncs_len, List.length_take]; have := H.out.len; omega) (fun h => by cases h) (fun ad' had => by cases had; exact H1.out.2.2.first_ k) (oncs_one _) (by simp [maxLen]; omega) (by omega) H1.out.1.size ?_; intro A5 c5 w5 hR5; have HR5 := Lib.hid hR5; clear hR5)
        have hb5 : Below w.heap.size w w5 := H1.out.1.trans (HR5.out.chg.below (fun q hq => by cases hq; exact Nat.le_refl _) H1.out.1.size)
        have hX5 := H.out.below hb5
        have e1 := hX5.cell
        have f1 := hX5.blk.frozen 0
        have ho5 := HR5.out.own
        rw [Nat.zero_add, List.nil_append] at ho5
        have H5 := Lib.hid (And.intro hb5 (And.intro hX5 ho5))
        clear ho5
        have hwr : IntKind.i64.wrap ((k : Int) + 1) = (k : Int) + 1 := by rw [IntKind.wrap_i64]; omega
        clear c1 hb5 hX5 d0
        by_cases hcz : c = k + 1
        · subst hcz
          obtain rfl : n = k + 1 := by omega
          go_wp2_with (at_builtin; refine wpList_append_row rfl _ _ 27 rfl w.heap.size 58 i0 (.agg #[.int .i64 0, .int .i64 0]) 2 16 Try.underlying27 hi hz0 hz1 hz2 rfl (by decide) _ k _ H5.out.2.2 (by rfl) (some ad) 0 0 [] (by rfl) rfl (fun _ => rfl) (fun ad' had j u hj => by simp at hj) (fun u hu => by cases hu) (by simp [maxLen]; omega) (by omega) H5.out.1.size ?_; intro A7 c7 w7 hR7; have HR7 := Lib.hid hR7; have hb7 := H5.out.1.trans (hR7.chg.below (fun q hq => (H5.out.2.2.lt q hq).1) H5.out.1.size); have hX7 := H.out.below hb7; have f7 := hX7.blk.frozen 0; have e7 := hX7.cell; have H7 := Lib.hid hb7; clear hR7 hb7 hX7)
          have hfin := H.out.store HBB.out H7.out (A5 := A7) (n5 := k + 0) (c5 := c7) (l' := l.take k ++ l.drop (k + 1)) (by
            have h9 := HR7.out.own
            rw [List.drop_eq_nil_of_le (by rw [← H.out.len]; exact Nat.le_refl _)]
            rw [oncs_append]
            exact h9) (by rw [List.length_append, List.length_take, List.length_drop]; have := H.out.len; omega) rfl
          have HFIN := Lib.hid hfin
          clear hfin e7 f7 e1 f1
          go_wp2_with fail
          go_ret
          rw [HH.out.1, HH.out.2]
          exact ⟨rfl, HFIN.out⟩
        · have HCELL := Lib.hid (H5.out.2.1.from_ (k + 1))
          have hcz0 : ¬ (c - (k + 1) = 0) := by omega
          have hcz1 : ((c - (k + 1)) == 0) = false := by rw [beq_eq_false_iff_ne]; exact hcz0
          go_wp2_with (at_builtin; refine wpList_append_row rfl _ _ 27 rfl w.heap.size 58 i0 (.agg #[.int .i64 0, .int .i64 0]) 2 16 Try.underlying27 hi hz0 hz1 hz2 rfl (by decide) _ k _ H5.out.2.2 (by rfl) (some (ad.add ((k + 1) * 2))) (n - (k + 1)) (c - (k + 1)) (oncs (l.drop (k + 1))) (by rfl) (by rw [oncs_len, List.length_drop]; have := H.out.len; omega) (fun h => by cases h) (fun ad' had => by cases had; exact HCELL.out) (oncs_one _) (by simp [maxLen]; omega) (by omega) H5.out.1.size ?_; intro A7 c7 w7 hR7; have HR7 := Lib.hid hR7; have hb7 := H5.out.1.trans (hR7.chg.below (fun q hq => (H5.out.2.2.lt q hq).1) H5.out.1.size); have hX7 := H.out.below hb7; have f7 := hX7.blk.frozen 0; have e7 := hX7.cell; have H7 := Lib.hid hb7; clear hR7 hb7 hX7)
          have hfin := H.out.store HBB.out H7.out (A5 := A7) (n5 := k + (n - (k + 1))) (c5 := c7) (l' := l.take k ++ l.drop (k + 1)) (by
            have h9 := HR7.out.own
            rw [oncs_append]
            exact h9) (by rw [List.length_append, List.length_take, List.length_drop]; have := H.out.len; omega) rfl
          have HFIN := Lib.hid hfin
          clear hfin e7 f7 e1 f1
          go_wp2_with fail
          go_ret
          rw [HH.out.1, HH.out.2]
          exact ⟨rfl, HFIN.out⟩
      · have hq : (l[k].i == id) = false := by simp [he]
        rw [if_neg he] at hst
        have hds := dropO_step hkl he
        have HF := Lib.hid (show atO id (l.drop (k + 1)) = atO id l ∧ dropO id l = l.take (k + 1) ++ dropO id (l.drop (k + 1)) from ⟨by rw [← hst, HAT.out.1], by rw [HAT.out.2, hds, List.take_succ_eq_append_getElem hkl, List.append_assoc]; rfl⟩)
        obtain ⟨x, hx⟩ : ∃ x, x = l[k] := ⟨_, rfl⟩
        rw [← hx] at d0 hq
        clear hst hds hx d1
        go_wp2_with fail
        go_round
        case rel => exact ⟨k + 1, by omega, by go_num, HF.out⟩
        case measure => simp [intOf]; omega
    · have hlt1 : ¬ (k : Int) < (n : Int) := by omega
      have hkn : l.length ≤ k := by rw [← H.out.len]; omega
      have hno : atO id l = none := by rw [← HAT.out.1, List.drop_eq_nil_of_le hkn]; rfl
      have hdl : dropO id l = l := by
        rw [HAT.out.2, List.drop_eq_nil_of_le hkn, List.take_of_length_le hkn]
        exact List.append_nil l
      have HN := Lib.hid (And.intro hno hdl)
      clear hno hdl hkn
      go_wp2_with fail
      go_ret
      rw [HN.out.1, HN.out.2]
      exact ⟨rfl, RmTo.same ⟨A, n, c, H.out⟩ (Below.refl _ _) HBB.out⟩
end Go.Proofs.Ytcjhkafdfeopfaa
