/-
  The contracts of the document's own writers (layer 1): Int, Text, Texts; and of SameBytes, SameTexts, CopyBytes.
-/
import Derived.Test.YtokpealeohoagaaEnc
namespace Go.Proofs.Ytokpealeohoagaa
open Go.RowKit Go.Lib

theorem val_int {k : IntKind} {a b : Int} (h : a = b) : Value.int k a = Value.int k b := by rw [h]

set_option maxRecDepth 100000 in
set_option maxHeartbeats 1600000 in
theorem refInt_any (n : Int) (w : World) (h1 : -9223372036854775808 ≤ n) (h2 : n ≤ 9223372036854775807) :
    Calls Try.prog 12 #[.int .i64 n] w (OwnRet w.heap.size (encI n) w) := by
  obtain ⟨i0, hi, hz0, hz1, hz2⟩ := info_parts Try.info5
  have hf := foldN_lt n h1 h2
  have HL := Lib.hid (enc_len64 hf)
  have HF := Lib.hid hf
  clear hf
  have HO := Lib.hid (show (w.alloc (.cells #[] 5)).ownsRow w.heap.size 5 1 (.slice (some ⟨w.heap.size, 0, none⟩) 0 0) ([] ++ [] : List Int).length (cells ([] ++ [])) from
    World.ownsRow_lit w #[] 0 (Nat.le_refl _) (by simp [maxLen]) (by simp))
  have HN := Lib.hid (show n < 0 → (foldN n : Int) = 2 * (-(n + 1)) + 1 from foldN_neg)
  have HP := Lib.hid (show ¬ n < 0 → (foldN n : Int) = n * 2 from fun h => by rw [foldN_pos h]; omega)
  by_cases hn : n < 0
  all_goals
    go_enter Try.func12, Try.ntmps12
    go_wp2
    go_loopw [4, 3] (fun v u wr => AddRel w.heap.size [] (foldN n) w v u wr) (fun _ u _ => (intOf u).toNat)
    case atStart => exact ⟨[], foldN n, val_int (by first | (rw [HN.out hn]; omega) | (rw [HP.out hn]; omega) | rw [HP.out hn]), HF.out, rfl, HO.out, (Below.refl _ _).alloc (Nat.le_refl _) _⟩
    case round =>
      obtain ⟨done, x, rfl, hx, he, hown', hbel⟩ := hrel
      have hdl : done.length ≤ 10 := by have := HL.out; rw [← he, List.length_append] at this; omega
      have hsz := hbel.size
      have HE := Lib.hid he
      have HX := Lib.hid hx
      clear he hx
      by_cases h128 : x < 128
      · go_wp2_with (at_builtin; refine wpList_append_own _ rfl (.tmp 28) (.tmp 31) 25 rfl w.heap.size 5 i0 (.int .u8 0) 1 1 Try.underlying25 hi hz0 hz1 hz2 rfl (by decide) _ _ _ rfl (hown'.alloc _) ⟨wr.heap.size, 0, none⟩ 1 1 [.int .u8 (x : Int)] rfl rfl (cell_one_new _ _ _) ?c2 ?c3 ?c4 ?c5 ?_)
        case c2 => intro u hu; simp at hu; subst hu; rfl
        case c3 => simp [maxLen]; omega
        case c4 => simp; omega
        case c5 => simp; omega
        intro v' w1 hown1 hgrow _
        have hb1 : Below w.heap.size wr w1 := ((Below.refl _ _).alloc (by omega) _).trans (below_own (hown'.alloc _) hgrow (by simp; omega))
        have hfin := AddRel.stop (l := []) (done := done) (n := done.length + 1) h128 HE.out hbel hb1 (by simp) (by simpa using hown1)
        clear hown1 hgrow hown'
        go_wp2
        go_ret
        exact hfin
      · have hxi : (x : Int) ≤ 18446744073709551615 := by have := HX.out; omega
        go_wp2_with (at_builtin; refine wpList_append_own _ rfl (.tmp 19) (.tmp 24) 25 rfl w.heap.size 5 i0 (.int .u8 0) 1 1 Try.underlying25 hi hz0 hz1 hz2 rfl (by decide) _ _ _ rfl (hown'.alloc _) ⟨wr.heap.size, 0, none⟩ 1 1 [.int .u8 ((x : Int) % 128 + 128)] rfl rfl (cell_one_new _ _ _) ?d2 ?d3 ?d4 ?d5 ?_)
        case d2 => intro u hu; simp at hu; subst hu; rfl
        case d3 => simp [maxLen]; omega
        case d4 => simp; omega
        case d5 => simp; omega
        intro v' w1 hown1 hgrow _
        have hb1 : Below w.heap.size wr w1 := ((Below.refl _ _).alloc (by omega) _).trans (below_own (hown'.alloc _) hgrow (by simp; omega))
        have hfin := Lib.hid (AddRel.step (l := []) (done := done) (n := done.length + 1) h128 HX.out HE.out hbel hb1 (by simp) (by simpa using hown1))
        clear hown1 hgrow hown'
        go_wp2
        go_roundw
        case rel => exact hfin.out
        case measure => simp [intOf]; omega

theorem bytesRow_cells (w : World) (s : ByteArray) (cap : Nat) (fr : Nat × Nat) : ∀ j u, (strCells s)[j]? = some u → ((w.alloc (.cells (bytesRow s cap) 5 fr)).drew).cell? ((⟨w.heap.size, 0, none⟩ : Addr).add j) = some u := by
  intro j u hu
  have hadd : (⟨w.heap.size, 0, none⟩ : Addr).add j = ⟨w.heap.size, j, none⟩ := by unfold Addr.add; split <;> simp_all
  rw [hadd]
  show (w.alloc (.cells (bytesRow s cap) 5 fr)).cell? _ = _
  rw [World.cell?_alloc_mark, ← hu, bytesRow]
  have hj : j < s.data.size := by
    have := (List.getElem?_eq_some_iff.1 hu).1
    rwa [strCells_length] at this
  rw [Array.getElem?_append_left (by simpa using hj)]
  simp [strCells]

set_option maxRecDepth 100000 in
set_option maxHeartbeats 800000 in
theorem refText_any (s : ByteArray) (w : World) (hs : s.size ≤ 30000000000000) :
    Calls Try.prog 14 #[.string s] w (OwnRet w.heap.size (encT (bytes s)) w) := by
  obtain ⟨i0, hi, hz0, hz1, hz2⟩ := info_parts Try.info5
  have HE := Lib.hid (encI_nat hs)
  have hcv := fun w => run_bytes_of_string (P := Try.prog) w 9 25 5 s Try.underlying9 Try.underlying25 Try.underlying5
  go_enter Try.func14, Try.ntmps14
  go_wp2_with (first | (go_at_call 12; refine (refInt_any _ _ (by omega) (by omega)).mono ?_; rintro e w1 ⟨v1, rfl, h3, h4⟩; have hsz := h4.size) | (at_builtin; refine wpList_append_own _ rfl (.tmp 5) (.tmp 7) 25 rfl w.heap.size 5 i0 (.int .u8 0) 1 1 Try.underlying25 hi hz0 hz1 hz2 rfl (by decide) v1 _ _ rfl (h3.alloc _).drew ⟨w1.heap.size, 0, none⟩ s.size _ (strCells s) rfl (by simp [strCells_length]) ?c1 (strCells_oneCell s) ?c3 ?c4 ?c5 ?_))
  case c1 => exact bytesRow_cells _ _ _ _
  case c3 => have := HE.out; simp [maxLen]; omega
  case c4 => have := HE.out; simp; omega
  case c5 => simp; omega
  intro v' w2 hown2 hgrow _
  have hb1 : Below w.heap.size w1 w2 := (((Below.refl _ _).alloc (by omega) _).drew).trans (below_own ((h3.alloc _).drew) hgrow (by simp; omega))
  have hfin := OwnRet.text (l := []) (s := s) (n := (encI s.size).length) (by simp) h4 hb1 (by simpa using hown2)
  clear hown2 hgrow h3
  go_wp2
  go_ret
  exact hfin

set_option maxRecDepth 100000 in
set_option maxHeartbeats 800000 in
theorem refTexts_any (A : Option Addr) (n c : Nat) (ss : List ByteArray) (w : World) (hr : Rd w w.heap.size A n (strs ss)) (hn : ss.length ≤ 200) (hs : ∀ s ∈ ss, s.size ≤ 5000) :
    Calls Try.prog 16 #[.slice A n c] w (OwnRet w.heap.size (encTexts (ss.map bytes)) w) := by
  obtain ⟨i0, hi, hz0, hz1, hz2⟩ := info_parts Try.info5
  have hlen : ss.length = n := by have := hr.len; rwa [strs_len] at this
  subst hlen
  have HT := Lib.hid (tx_len hn hs)
  have HS := Lib.hid hs
  clear hs
  go_enter Try.func16, Try.ntmps16
  go_wp2_with (go_at_call 12; refine (refInt_any _ _ (by omega) (by omega)).mono ?_; rintro e w1 ⟨v1, rfl, h3, h4⟩)
  go_loopw [3, 4] (fun v i wr => TxRel ss w v i wr) (fun _ i _ => ss.length - (intOf i).toNat)
  case atStart => exact ⟨0, by omega, rfl, by simpa [tx_zero] using h3, h4⟩
  case round =>
    obtain ⟨k, hk, rfl, hown, hbel⟩ := hrel
    have hr' := hr.below hbel (Nat.le_refl _)
    have hsz := hbel.size
    clear h3 h4
    by_cases hlt : k < ss.length
    · obtain ⟨ad, u, rfl, _, hu, hc⟩ := hr'.at_ hlt
      rw [strs_at hlt] at hu
      obtain rfl := Option.some.inj hu
      clear hu
      have HB := Lib.hid (HT.out (k + 1))
      have hs5 : ss[k].size ≤ 5000 := HS.out ss[k] (List.getElem_mem hlt)
      have HL := Lib.hid (show (tx ss k).length + (encT (bytes ss[k])).length ≤ 1100000 by have := HT.out (k + 1); rwa [tx_succ hlt, List.length_append] at this)
      go_wp2_with (first | (go_at_call 14; refine (refText_any ss[k] _ (by omega)).mono ?_; rintro e w2 ⟨v2, rfl, h5, h6⟩; have h7 := own_below hown h6 (Nat.le_refl _); have hsz2 := h6.size; obtain ⟨A2, c2, rfl, _, _⟩ := own_shape h5) | (at_builtin; refine wpList_append_rd _ rfl (.tmp 14) (.tmp 19) 25 rfl w.heap.size 5 i0 (.int .u8 0) 1 Try.underlying25 hi hz0 hz1 hz2 rfl _ _ _ rfl h7 _ A2 _ c2 _ rfl (Rd.of_own h5) (cells_one _) ?c3 ?c4 ?c5 ?_))
      case c3 => have := HL.out; simp [maxLen]; omega
      case c4 => have := HL.out; simp; omega
      case c5 => omega
      intro v' w3 hown3 hgrow
      have hb3 := below_own h7 hgrow (by omega)
      have hfin : TxRel ss w v' (.int .i64 ((k : Int) + 1)) w3 := ⟨k + 1, by omega, by go_num, by rw [tx_succ hlt, List.length_append, cells_append]; exact hown3, (hbel.trans (h6.mono hsz)).trans hb3⟩
      have HF := Lib.hid hfin
      clear hfin hown3 hgrow h7 h5 hown
      go_wp2
      go_roundw
      case rel => exact HF.out
      case measure => simp [intOf]; omega
    · have hkn : k = ss.length := by omega
      have hfin : ∀ v, wr.ownsRow w.heap.size 5 1 v (tx ss k).length (cells (tx ss k)) → OwnRet w.heap.size (encTexts (ss.map bytes)) w (.returned v) wr := by
        intro v hv
        subst hkn
        rw [tx_all] at hv
        exact ⟨v, rfl, hv, hbel⟩
      have HK := Lib.hid hkn
      clear hkn
      have hf := hfin _ hown
      clear hfin
      go_wp2
      go_ret
      exact hf

end Go.Proofs.Ytokpealeohoagaa
