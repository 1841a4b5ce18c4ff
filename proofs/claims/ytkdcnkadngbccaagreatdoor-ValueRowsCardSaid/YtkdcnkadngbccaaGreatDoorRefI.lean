/-
  The contracts of the document's own writers (layer 1): Int, Text, Texts; and of SameBytes, SameTexts, CopyBytes.
-/
import Derived.Test.YtkdcnkadngbccaaGreatDoorNum
namespace Go.Proofs.YtkdcnkadngbccaaGreatDoor
open Go.RowKit Go.Lib


set_option maxRecDepth 100000 in
set_option maxHeartbeats 1600000 in
theorem refInt_any (n : Int) (w : World) (h1 : -9223372036854775808 ≤ n) (h2 : n ≤ 9223372036854775807) :
    Calls Tryz.prog 24 #[.int .i64 n] w (OwnRet w.heap.size (encI n) w) := by
  obtain ⟨i0, hi, hz0, hz1, hz2⟩ := info_parts Tryz.info5
  have hf := foldN_lt n h1 h2
  have HL := Lib.hid (enc_len64 hf)
  have HF := Lib.hid hf
  clear hf
  have HO := Lib.hid (show (w.alloc (.cells #[] 5)).ownsRow w.heap.size 5 1 (.slice (some ⟨w.heap.size, 0, none⟩) 0 0) ([] ++ [] : List Int).length (cells ([] ++ [])) from
    World.ownsRow_lit w #[] 0 (Nat.le_refl _) (by simp [maxLen]) (by simp))
  have HN := Lib.hid (show n < 0 → (foldN n : Int) = 2 * (-(n + 1)) + 1 from foldN_neg)
  have HP := Lib.hid (show ¬ n < 0 → (foldN n : Int) = n * 2 from fun h => by rw [foldN_pos h]; omega)
  by_cases hn : n < 0
  all_goals
    go_enter Tryz.func24, Tryz.ntmps24
    go_wp2
    go_loopw [4, 3] (fun v u wr => AddRel w.heap.size [] (foldN n) w v u wr) (fun _ u _ => (intOf u).toNat)
    case atStart => exact ⟨[], foldN n, val_int (by first | (rw [HN.out hn]; omega) | (rw [HP.out hn]; omega) | rw [HP.out hn]), HF.out, rfl, HO.out, (Below.refl _ _).alloc (Nat.le_refl _) _⟩
    case round =>
      obtain ⟨done, x, rfl, hx, he, hown', hbel⟩ := hrel
      have hdl : done.length ≤ 10 := by have := HL.out; rw [← he, List.length_append] at this; omega
      have hsz := hbel.size
      have HE := Lib.hid he
      have HX := Lib.hid hx
      clear he hx
      by_cases h128 : x < 128
      · go_wp2_with (at_builtin; refine wpList_append_own _ rfl (.tmp 28) (.tmp 31) 25 rfl w.heap.size 5 i0 (.int .u8 0) 1 1 Tryz.underlying25 hi hz0 hz1 hz2 rfl (by decide) _ _ _ rfl (hown'.alloc _) ⟨wr.heap.size, 0, none⟩ 1 1 [.int .u8 (x : Int)] rfl rfl (cell_one_new _ _ _) ?c2 ?c3 ?c4 ?c5 ?_)
        case c2 => intro u hu; simp at hu; subst hu; rfl
        case c3 => simp [maxLen]; omega
        case c4 => simp; omega
        case c5 => simp; omega
        intro v' w1 hown1 hgrow _
        have hb1 : Below w.heap.size wr w1 := ((Below.refl _ _).alloc (by omega) _).trans (below_own (hown'.alloc _) hgrow (by simp; omega))
        have hfin := AddRel.stop (l := []) (done := done) (n := done.length + 1) h128 HE.out hbel hb1 (by simp) (by simpa using hown1)
        clear hown1 hgrow hown'
        go_wp2
        go_ret
        exact hfin
      · have hxi : (x : Int) ≤ 18446744073709551615 := by have := HX.out; omega
        go_wp2_with (at_builtin; refine wpList_append_own _ rfl (.tmp 19) (.tmp 24) 25 rfl w.heap.size 5 i0 (.int .u8 0) 1 1 Tryz.underlying25 hi hz0 hz1 hz2 rfl (by decide) _ _ _ rfl (hown'.alloc _) ⟨wr.heap.size, 0, none⟩ 1 1 [.int .u8 ((x : Int) % 128 + 128)] rfl rfl (cell_one_new _ _ _) ?d2 ?d3 ?d4 ?d5 ?_)
        case d2 => intro u hu; simp at hu; subst hu; rfl
        case d3 => simp [maxLen]; omega
        case d4 => simp; omega
        case d5 => simp; omega
        intro v' w1 hown1 hgrow _
        have hb1 : Below w.heap.size wr w1 := ((Below.refl _ _).alloc (by omega) _).trans (below_own (hown'.alloc _) hgrow (by simp; omega))
        have hfin := Lib.hid (AddRel.step (l := []) (done := done) (n := done.length + 1) h128 HX.out HE.out hbel hb1 (by simp) (by simpa using hown1))
        clear hown1 hgrow hown'
        go_wp2
        go_roundw
        case rel => exact hfin.out
        case measure => simp [intOf]; omega

theorem bytesRow_cells (w : World) (s : ByteArray) (cap : Nat) (fr : Nat × Nat) : ∀ j u, (strCells s)[j]? = some u → ((w.alloc (.cells (bytesRow s cap) 5 fr)).drew).cell? ((⟨w.heap.size, 0, none⟩ : Addr).add j) = some u := by
  intro j u hu
  have hadd : (⟨w.heap.size, 0, none⟩ : Addr).add j = ⟨w.heap.size, j, none⟩ := by unfold Addr.add; split <;> simp_all
  rw [hadd]
  show (w.alloc (.cells (bytesRow s cap) 5 fr)).cell? _ = _
  rw [World.cell?_alloc_mark, ← hu, bytesRow]
  have hj : j < s.data.size := by
    have := (List.getElem?_eq_some_iff.1 hu).1
    rwa [strCells_length] at this
  rw [Array.getElem?_append_left (by simpa using hj)]
  simp [strCells]

set_option maxRecDepth 100000 in
set_option maxHeartbeats 800000 in
theorem refText_any (s : ByteArray) (w : World) (hs : s.size ≤ 30000000000000) :
    Calls Tryz.prog 25 #[.string s] w (OwnRet w.heap.size (encT (bytes s)) w) := by
  obtain ⟨i0, hi, hz0, hz1, hz2⟩ := info_parts Tryz.info5
  have HE := Lib.hid (encI_nat hs)
  have hcv := fun w => run_bytes_of_string (P := Tryz.prog) w 9 25 5 s Tryz.underlying9 Tryz.underlying25 Tryz.underlying5
  go_enter Tryz.func25, Tryz.ntmps25
  go_wp2_with (first | (go_at_call 24; refine (refInt_any _ _ (by omega) (by omega)).mono ?_; rintro e w1 ⟨v1, rfl, h3, h4⟩; have hsz := h4.size) | (at_builtin; refine wpList_append_own _ rfl (.tmp 5) (.tmp 7) 25 rfl w.heap.size 5 i0 (.int .u8 0) 1 1 Tryz.underlying25 hi hz0 hz1 hz2 rfl (by decide) v1 _ _ rfl (h3.alloc _).drew ⟨w1.heap.size, 0, none⟩ s.size _ (strCells s) rfl (by simp [strCells_length]) ?c1 (strCells_oneCell s) ?c3 ?c4 ?c5 ?_))
  case c1 => exact bytesRow_cells _ _ _ _
  case c3 => have := HE.out; simp [maxLen]; omega
  case c4 => have := HE.out; simp; omega
  case c5 => simp; omega
  intro v' w2 hown2 hgrow _
  have hb1 : Below w.heap.size w1 w2 := (((Below.refl _ _).alloc (by omega) _).drew).trans (below_own ((h3.alloc _).drew) hgrow (by simp; omega))
  have hfin := OwnRet.text (l := []) (s := s) (n := (encI s.size).length) (by simp) h4 hb1 (by simpa using hown2)
  clear hown2 hgrow h3
  go_wp2
  go_ret
  exact hfin

end Go.Proofs.YtkdcnkadngbccaaGreatDoor
