/-
  The document's own Encode of a row.
-/
import Derived.Test.YtkdhmbfmjlpfbaaDoorKOne
namespace Go.Proofs.YtkdhmbfmjlpfbaaDoor
open Go.RowKit Go.Lib

set_option maxRecDepth 100000 in
set_option maxHeartbeats 1600000 in
theorem refEncode_any (A : Option Addr) (c : Nat) (vs : List Va) (w : World) (h : RowIn w w.heap.size A vs) (hm : vs.length ≤ maxLen) (hok : ∀ x ∈ vs, InN x) :
    Calls Tryd.prog 14 #[.slice A vs.length c] w (KeyRet vs w) := by
  obtain ⟨i0, hi, hz0, hz1, hz2⟩ := info_parts Tryd.info5
  have H := Lib.hid (And.intro h hok)
  go_enter Tryd.func14, Tryd.ntmps14
  go_wp2_with fail
  refine (refRightRow_any A c vs w h hm).mono ?_
  clear h hok
  rintro e w1 ⟨rfl, hb1⟩
  have HB1 := Lib.hid hb1
  clear hb1
  cases hr : rightR vs with
  | false =>
    have HR := Lib.hid hr
    have HK := Lib.hid (show keyS vs = ⟨#[]⟩ by unfold keyS; rw [hr]; rfl)
    clear hr
    go_wp2
    refine bodyPost_ret (results_tmp2 rfl _ _ _) rfl ?_
    exact ⟨HB1.out, by rw [HK.out, HR.out]; rfl⟩
  | true =>
    have h8 := (right_all hr).1
    have HA := Lib.hid (right_all hr).2
    have HR := Lib.hid hr
    have HK := Lib.hid (show keyS vs = mkStr (keyVs vs) by unfold keyS; rw [hr]; rfl)
    have HO1 := Lib.hid (show (w1.alloc (.cells #[] 5)).ownsRow w.heap.size 5 1 (.slice (some ⟨w1.heap.size, 0, none⟩) 0 0) 0 (cells []) from
      own_base (World.ownsRow_lit (base := w1.heap.size) w1 #[] 0 (Nat.le_refl _) (by simp [maxLen]) (by simp)) HB1.out.size)
    have HB2 := Lib.hid (HB1.out.alloc HB1.out.size (.cells #[] 5))
    clear hr hm
    go_wp2_with fail
    go_loopw [4, 5] (fun v i wr => KeRel vs w v i wr) (fun _ i _ => vs.length - (Lib.intOf i).toNat)
    case atStart => exact ⟨0, by omega, rfl, by simpa [keyVs, cells] using HO1.out, HB2.out⟩
    case round =>
      obtain ⟨k, hk, rfl, hown, hb⟩ := hrel
      have hk0 : (0 : Int) ≤ (k : Int) := Int.natCast_nonneg _
      by_cases hlt : k < vs.length
      · have hlt1 : (k : Int) < (vs.length : Int) := by omega
        obtain ⟨ad, rfl, _, c0, c1, c2⟩ := (H.out.1.below hb (Nat.le_refl _)).at_ hlt
        obtain ⟨x, hx⟩ : ∃ x, x = vs[k] := ⟨_, rfl⟩
        rw [← hx] at c0 c1 c2
        have hxm : x ∈ vs := by rw [hx]; exact List.getElem_mem _
        have hxo := H.out.2 x hxm
        have hxr := HA.out x hxm
        have hnext : keyVs (vs.take (k + 1)) = keyVs (vs.take k) ++ keyV x := by
          rw [List.take_succ_eq_append_getElem hlt, keyVs_append, ← hx]
          simp [keyVs]
        have hlk : (keyVs (vs.take k)).length ≤ 400 := by
          have h2 := keyVs_len (l := vs.take k) (fun y hy => HA.out y (List.mem_of_mem_take hy))
          rw [List.length_take] at h2
          omega
        have HQ := Lib.hid (And.intro hown (And.intro hb (And.intro hnext (And.intro hlk (keyV_len hxr)))))
        have hsz := hb.size
        have HXO := Lib.hid (And.intro hxo hxr)
        clear hown hb hnext hlk hx hxm hxo hxr
        go_wp2_with fail
        refine (refOne_any x _ HXO.out.2 HXO.out.1).mono ?_
        rintro e w4 ⟨v4, rfl, hown4, hb4⟩
        obtain ⟨A4, c4, rfl, _, _⟩ := own_shape hown4
        have HO4 := Lib.hid hown4
        have HB4 := Lib.hid hb4
        have hsz4 := hb4.size
        clear hown4 hb4 c0 c1 c2
        go_wp2_with (at_builtin; refine wpList_append_rd _ rfl (.tmp 16) (.tmp 21) 44 rfl w.heap.size 5 i0 (.int .u8 0) 1 Tryd.underlying44 hi hz0 hz1 hz2 rfl _ _ _ rfl (own_below HQ.out.1 HB4.out (Nat.le_refl _)) w4.heap.size A4 (keyV x).length c4 _ rfl (Rd.of_own HO4.out) (cells_one _) ?c3 ?c4 ?c5 ?_)
        case c3 => have := HQ.out.2.2.2; simp [maxLen] at *; omega
        case c4 => have := HQ.out.2.2.2; omega
        case c5 => omega
        intro v' w5 hown5 hgrow
        have HR' := Lib.hid (show KeRel vs w v' (.int .i64 ((k : Int) + 1)) w5 from ⟨k + 1, by omega, by go_num, by rw [HQ.out.2.2.1, List.length_append, cells_append]; simpa using hown5, (HQ.out.2.1.trans (HB4.out.mono hsz)).trans (below_own (own_below HQ.out.1 HB4.out (Nat.le_refl _)) hgrow (by omega))⟩)
        clear hown5 hgrow
        go_wp2
        go_roundw
        case rel => exact HR'.out
        case measure => simp [Lib.intOf]; omega
      · have hlt1 : ¬ (k : Int) < (vs.length : Int) := by omega
        rw [List.take_of_length_le (by omega)] at hown
        obtain ⟨A2, c2, rfl, _, _⟩ := own_shape hown
        have hst := run_strw (P := Tryd.prog) wr 44 9 5 A2 _ c2 _ (keyVs vs) Tryd.underlying44 Tryd.underlying5 Tryd.underlying9 (Rd.of_own hown)
        have HF := Lib.hid hb
        clear hown hb
        go_wp2
        refine bodyPost_ret (results_tmp2 rfl _ _ _) rfl ?_
        exact ⟨HF.out, by rw [HK.out, HR.out]; rfl⟩
end Go.Proofs.YtkdhmbfmjlpfbaaDoor
