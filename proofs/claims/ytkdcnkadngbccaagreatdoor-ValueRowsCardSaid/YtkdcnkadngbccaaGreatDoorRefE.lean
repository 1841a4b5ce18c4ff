/-
  The document's own Encode (layer 4).
-/
import Derived.Test.YtkdcnkadngbccaaGreatDoorRefI
import Derived.Test.YtkdcnkadngbccaaGreatDoorRRz
import Derived.Test.YtkdcnkadngbccaaGreatDoorBackM
namespace Go.Proofs.YtkdcnkadngbccaaGreatDoor
open Go.RowKit Go.Lib

theorem OwnRet.onto {base : Nat} {a b : List Int} {w1 w2 : World} {v : Value} {n : Nat} (hown : w2.ownsRow base 5 1 v n (cells a ++ cells b)) (hn : n = a.length + b.length) : w2.ownsRow base 5 1 v (a ++ b).length (cells (a ++ b)) := by
  subst hn
  rw [List.length_append, cells_append]
  exact hown

set_option maxRecDepth 100000 in
set_option maxHeartbeats 12800000 in
theorem refEncode_any (A : Option Addr) (c : Nat) (vs : List Va) (w : World) (h : RowIn w w.heap.size A vs) (hm : vs.length ≤ maxLen) (hok : ∀ x ∈ vs, VaOk x) :
    Calls Tryz.prog 8 #[.slice A vs.length c] w (EncRet vs w) := by
  obtain ⟨i0, hi, hz0, hz1, hz2⟩ := info_parts Tryz.info5
  have H := Lib.hid (And.intro h hok)
  go_enter Tryz.func8, Tryz.ntmps8
  go_wp2_with fail
  refine (refRightRow_any A c vs w h hm).mono ?_
  clear h hok
  rintro e w1 ⟨rfl, hb1⟩
  have HB1 := Lib.hid hb1
  clear hb1
  cases hr : rightR vs with
  | false =>
    have HR := Lib.hid hr
    clear hr
    go_wp2
    refine bodyPost_ret (results_tmp2 rfl _ _ _) rfl ?_
    exact ⟨HB1.out, .inl ⟨HR.out, rfl⟩⟩
  | true =>
    have h8 := (right_all hr).1
    have HA := Lib.hid (right_all hr).2
    have HR := Lib.hid hr
    clear hr hm
    go_wp2_with fail
    refine (refInt_any (vs.length : Int) _ (by omega) (by omega)).mono ?_
    rintro e w2 ⟨v2, rfl, hown2, hb2⟩
    have HO2 := Lib.hid (own_base hown2 HB1.out.size)
    have HB2 := Lib.hid (HB1.out.trans (hb2.mono HB1.out.size))
    clear hown2 hb2
    go_wp2_with fail
    go_loopw [4, 5] (fun v i wr => EcRel vs w v i wr) (fun _ i _ => vs.length - (intOf i).toNat)
    case atStart => exact ⟨0, by omega, rfl, by simpa [encVs] using HO2.out, HB2.out⟩
    case round =>
      obtain ⟨k, hk, rfl, hown, hb⟩ := hrel
      have hk0 : (0 : Int) ≤ (k : Int) := Int.natCast_nonneg _
      by_cases hlt : k < vs.length
      · have hlt1 : (k : Int) < (vs.length : Int) := by omega
        obtain ⟨ad, rfl, hadlt, c0, c1, c2⟩ := (H.out.1.below hb (Nat.le_refl _)).at_ hlt
        obtain ⟨x, hx⟩ : ∃ x, x = vs[k] := ⟨_, rfl⟩
        rw [← hx] at c0 c1 c2
        have hxm : x ∈ vs := by rw [hx]; exact List.getElem_mem _
        have hxo := H.out.2 x hxm
        have hxr := HA.out x hxm
        have hnext : encI vs.length ++ encVs (vs.take (k + 1)) = (encI vs.length ++ encVs (vs.take k)) ++ encV x := by
          rw [List.take_succ_eq_append_getElem hlt, encVs_append, ← hx]
          simp [encVs]
        have hlk : (encI vs.length ++ encVs (vs.take k)).length ≤ 100000 := by
          have h1 := encI_len (n := (vs.length : Int)) (by omega) (by omega)
          have h2 := encVs_len (vs := vs.take k) (fun y hy => H.out.2 y (List.mem_of_mem_take hy))
          rw [List.length_take] at h2
          rw [List.length_append]
          omega
        have hcell : ∀ wz, Below w.heap.size wr wz → wz.cell? (ad.add (k * 3)) = some (.int .i64 x.k) ∧ wz.cell? ⟨(ad.add (k * 3)).block, (ad.add (k * 3)).off + 1, none⟩ = some (.int .i64 x.n) ∧ wz.cell? ⟨(ad.add (k * 3)).block, (ad.add (k * 3)).off + 2, none⟩ = some (.string x.s) := fun wz hz =>
          ⟨(hz.cell (p := ad.add (k * 3)) (by rw [addr_block]; exact hadlt)).trans c0, (hz.cell (p := ⟨(ad.add (k * 3)).block, (ad.add (k * 3)).off + 1, none⟩) (by show (ad.add (k * 3)).block < _; rw [addr_block]; exact hadlt)).trans c1, (hz.cell (p := ⟨(ad.add (k * 3)).block, (ad.add (k * 3)).off + 2, none⟩) (by show (ad.add (k * 3)).block < _; rw [addr_block]; exact hadlt)).trans c2⟩
        obtain ⟨L, hL⟩ : ∃ L, L = encI vs.length ++ encVs (vs.take k) := ⟨_, rfl⟩
        rw [← hL] at hown hnext hlk
        have HQ := Lib.hid (And.intro hown (And.intro hb (And.intro hnext hcell)))
        have HXO := Lib.hid (And.intro hxo hxr)
        have hsz := hb.size
        have hkl := encI_len hxo.k.1 hxo.k.2
        have hnl := encI_len hxo.n.1 hxo.n.2
        have htl : (encT (bytes x.s)).length ≤ 10010 := by
          have h5 := encI_len (n := ((bytes x.s).length : Int)) (by omega) (by rw [bytes_len]; have := hxo.s; omega)
          unfold encT
          rw [List.length_append]
          rw [bytes_len] at h5 ⊢
          have := hxo.s
          omega
        have HLen := Lib.hid (And.intro hkl (And.intro hnl (And.intro htl hlk)))
        clear hown hb hnext hx hcell hxm hxo hxr hL hkl hnl htl hlk
        go_wp2_with fail
        refine (refInt_any x.k _ HXO.out.1.k.1 HXO.out.1.k.2).mono ?_
        rintro e w4 ⟨v4, rfl, hown4, hb4⟩
        obtain ⟨A4, c4, rfl, _, _⟩ := own_shape hown4
        have HO4 := Lib.hid hown4
        have HB4 := Lib.hid hb4
        have hsz4 := hb4.size
        clear hown4 hb4 c0 c1 c2
        go_wp2_with (at_builtin; refine wpList_append_rd _ rfl (.tmp 18) (.tmp 24) 25 rfl w.heap.size 5 i0 (.int .u8 0) 1 Tryz.underlying25 hi hz0 hz1 hz2 rfl _ _ _ rfl (own_below HQ.out.1 HB4.out (Nat.le_refl _)) w4.heap.size A4 (encI x.k).length c4 _ rfl (Rd.of_own HO4.out) (cells_one _) ?c3 ?c4 ?c5 ?_)
        case c3 => have := HLen.out; unfold maxLen; omega
        case c4 => have := HLen.out; omega
        case c5 => omega
        intro v5 w5 hown5 hgrow
        have hb5 : Below w.heap.size wr w5 := (HB4.out.mono hsz).trans (below_own (own_below HQ.out.1 HB4.out (Nat.le_refl _)) hgrow (by omega))
        have H5 := Lib.hid (And.intro (OwnRet.onto (w1 := w4) hown5 rfl) (And.intro (HQ.out.2.1.trans hb5) (HQ.out.2.2.2 w5 hb5)))
        have hb5s := hb5.size
        have HB5 := Lib.hid hb5
        clear hown5 hgrow hb5
        obtain ⟨c0, c1, c2⟩ := H5.out.2.2
        obtain ⟨xk, xn, xs⟩ := x
        simp only at c0 c1 c2 H5 HQ HXO HLen ⊢
        rcases right_four HXO.out.2 with ⟨rfl, -, -⟩ | ⟨rfl, -⟩ | ⟨rfl, -⟩ | ⟨rfl, -, -⟩
        · have HN := Lib.hid (show EcRel vs w v5 (.int .i64 ((k : Int) + 1)) w5 from ⟨k + 1, by omega, by go_num, by rw [HQ.out.2.2.1, show encV ⟨0, xn, xs⟩ = encI 0 by simp [encV]]; exact H5.out.1, H5.out.2.1⟩)
          go_wp2
          go_roundw
          case rel => exact HN.out
          case measure => simp [intOf]; omega
        · go_wp2_with fail
          refine (refInt_any xn _ HXO.out.1.n.1 HXO.out.1.n.2).mono ?_
          rintro e w6 ⟨v6, rfl, hown6, hb6⟩
          obtain ⟨A6, c6, rfl, _, _⟩ := own_shape hown6
          have HO6 := Lib.hid hown6
          have HB6 := Lib.hid hb6
          have hsz6 := hb6.size
          have hsz5 := H5.out.2.1.size
          clear hown6 hb6 c0 c1 c2
          go_wp2_with (at_builtin; refine wpList_append_rd _ rfl (.tmp 40) (.tmp 46) 25 rfl w.heap.size 5 i0 (.int .u8 0) 1 Tryz.underlying25 hi hz0 hz1 hz2 rfl _ _ _ rfl (own_below H5.out.1 HB6.out (Nat.le_refl _)) w6.heap.size A6 (encI xn).length c6 _ rfl (Rd.of_own HO6.out) (cells_one _) ?c3 ?c4 ?c5 ?_)
          case c3 => have := HLen.out; unfold maxLen; rw [List.length_append]; omega
          case c4 => have := HLen.out; rw [List.length_append]; omega
          case c5 => omega
          intro v7 w7 hown7 hgrow
          have hb7 : Below w.heap.size w5 w7 := (HB6.out.mono hsz5).trans (below_own (own_below H5.out.1 HB6.out (Nat.le_refl _)) hgrow (by omega))
          have hc7 := HQ.out.2.2.2 w7 (HB5.out.trans hb7)
          have HN := Lib.hid (show EcRel vs w v7 (.int .i64 ((k : Int) + 1)) w7 from ⟨k + 1, by omega, by go_num, by rw [HQ.out.2.2.1, show encV ⟨1, xn, xs⟩ = encI 1 ++ encI xn by simp [encV], ← List.append_assoc]; exact OwnRet.onto (w1 := w6) hown7 (by rw [List.length_append]), H5.out.2.1.trans hb7⟩)
          clear hown7 hgrow hb7
          obtain ⟨c0, c1, c2⟩ := hc7
          go_wp2
          go_roundw
          case rel => exact HN.out
          case measure => simp [intOf]; omega
        · go_wp2_with fail
          refine (refInt_any xn _ HXO.out.1.n.1 HXO.out.1.n.2).mono ?_
          rintro e w6 ⟨v6, rfl, hown6, hb6⟩
          obtain ⟨A6, c6, rfl, _, _⟩ := own_shape hown6
          have HO6 := Lib.hid hown6
          have HB6 := Lib.hid hb6
          have hsz6 := hb6.size
          have hsz5 := H5.out.2.1.size
          clear hown6 hb6 c0 c1 c2
          go_wp2_with (at_builtin; refine wpList_append_rd _ rfl (.tmp 40) (.tmp 46) 25 rfl w.heap.size 5 i0 (.int .u8 0) 1 Tryz.underlying25 hi hz0 hz1 hz2 rfl _ _ _ rfl (own_below H5.out.1 HB6.out (Nat.le_refl _)) w6.heap.size A6 (encI xn).length c6 _ rfl (Rd.of_own HO6.out) (cells_one _) ?c3 ?c4 ?c5 ?_)
          case c3 => have := HLen.out; unfold maxLen; rw [List.length_append]; omega
          case c4 => have := HLen.out; rw [List.length_append]; omega
          case c5 => omega
          intro v7 w7 hown7 hgrow
          have hb7 : Below w.heap.size w5 w7 := (HB6.out.mono hsz5).trans (below_own (own_below H5.out.1 HB6.out (Nat.le_refl _)) hgrow (by omega))
          have hc7 := HQ.out.2.2.2 w7 (HB5.out.trans hb7)
          have HN := Lib.hid (show EcRel vs w v7 (.int .i64 ((k : Int) + 1)) w7 from ⟨k + 1, by omega, by go_num, by rw [HQ.out.2.2.1, show encV ⟨2, xn, xs⟩ = encI 2 ++ encI xn by simp [encV], ← List.append_assoc]; exact OwnRet.onto (w1 := w6) hown7 (by rw [List.length_append]), H5.out.2.1.trans hb7⟩)
          clear hown7 hgrow hb7
          obtain ⟨c0, c1, c2⟩ := hc7
          go_wp2
          go_roundw
          case rel => exact HN.out
          case measure => simp [intOf]; omega
        · go_wp2_with fail
          refine (refText_any xs _ (by have := HXO.out.1.s; simp only at this; omega)).mono ?_
          rintro e w6 ⟨v6, rfl, hown6, hb6⟩
          obtain ⟨A6, c6, rfl, _, _⟩ := own_shape hown6
          have HO6 := Lib.hid hown6
          have HB6 := Lib.hid hb6
          have hsz6 := hb6.size
          have hsz5 := H5.out.2.1.size
          clear hown6 hb6 c0 c1 c2
          go_wp2_with (at_builtin; refine wpList_append_rd _ rfl (.tmp 54) (.tmp 60) 25 rfl w.heap.size 5 i0 (.int .u8 0) 1 Tryz.underlying25 hi hz0 hz1 hz2 rfl _ _ _ rfl (own_below H5.out.1 HB6.out (Nat.le_refl _)) w6.heap.size A6 (encT (bytes xs)).length c6 _ rfl (Rd.of_own HO6.out) (cells_one _) ?c3 ?c4 ?c5 ?_)
          case c3 => have := HLen.out; unfold maxLen; rw [List.length_append]; omega
          case c4 => have := HLen.out; rw [List.length_append]; omega
          case c5 => omega
          intro v7 w7 hown7 hgrow
          have hb7 : Below w.heap.size w5 w7 := (HB6.out.mono hsz5).trans (below_own (own_below H5.out.1 HB6.out (Nat.le_refl _)) hgrow (by omega))
          have HN := Lib.hid (show EcRel vs w v7 (.int .i64 ((k : Int) + 1)) w7 from ⟨k + 1, by omega, by go_num, by rw [HQ.out.2.2.1, show encV ⟨3, xn, xs⟩ = encI 3 ++ encT (bytes xs) by simp [encV], ← List.append_assoc]; exact OwnRet.onto (w1 := w6) hown7 (by rw [List.length_append]), H5.out.2.1.trans hb7⟩)
          clear hown7 hgrow hb7
          go_wp2
          go_roundw
          case rel => exact HN.out
          case measure => simp [intOf]; omega
      · have hlt1 : ¬ (k : Int) < (vs.length : Int) := by omega
        rw [List.take_of_length_le (by omega)] at hown
        have HF := Lib.hid (And.intro hown hb)
        clear hown hb
        go_wp2
        refine bodyPost_ret (results_tmp2 rfl _ _ _) rfl ?_
        exact ⟨HF.out.2, .inr ⟨HR.out, _, rfl, HF.out.1⟩⟩
end Go.Proofs.YtkdcnkadngbccaaGreatDoor
