/-
  The document's own page: Bytes.
-/
import Derived.Test.YtmgjoogfhkfooaaDoorRefA
import Derived.Deep.RegionLaw
import Derived.Deep.Cut
namespace Go.Proofs.YtmgjoogfhkfooaaDoor
open Go.RowKit Go.Lib

theorem bytes_no {s : List Slot} {w w' : World} (h : ¬ CanP s) (hb : Below w.heap.size w w') : BsRet (bytesP s) w (.returned (.tuple #[.slice none 0 0, .bool false])) w' :=
  bs_no (by unfold bytesP; rw [if_neg h]) hb

/-- how far the loop is -/
def ByRel (w1 : World) (g : Nat) (s : List Slot) (end' i : Value) (wr : World) : Prop :=
  ∃ k : Nat, k ≤ s.length ∧ i = .int .i64 k ∧ end' = .int .i64 ((256 - wtP (s.take k) : Nat) : Int) ∧ k + wtP (s.take k) ≤ 255 ∧ s.length + wtP (s.take k) ≤ 255 ∧ (∀ o ∈ s.take k, (bsS o).length ≤ 200) ∧ Blk wr g 5 (cells (stg s k)).toArray ∧ Below w1.heap.size w1 wr

theorem stg_len {s : List Slot} {k : Nat} (hk : k ≤ s.length) (h : k + wtP (s.take k) ≤ 255) : (stg s k).length = 256 := by
  have : wtP (s.take k) = (rowsP (s.take k)).length := rfl
  simp [stg, marks_len]
  omega
theorem marks_byte {s : List Slot} (o : Slot) : True := trivial

set_option maxRecDepth 100000 in
set_option maxHeartbeats 6400000 in
theorem refBytes_any (w : World) (A : Option Addr) (n c : Nat) (xs : List Sv) (h : PgR w A n c xs) :
    Calls Tryd.prog 39 #[.agg #[.slice A n c]] w (BsRet (bytesP (slotsOf xs)) w) := by
  have hq := q22
  have hmk := make256
  have hc := h.cap
  have hct := h.top
  unfold maxLen at hct
  have HLE := Lib.hid (show (slotsOf xs).length = n by rw [slotsOf_len]; exact h.len)
  have hba := (Below.refl w.heap.size w).alloc (Nat.le_refl _) (.cells #[.slice A n c] 45)
  have hbx : Blk (w.alloc (.cells #[.slice A n c] 45)) w.heap.size 45 #[.slice A n c] := Blk.new _ _ _
  have hp1 := h.below hba
  obtain ⟨w1, hw1⟩ : ∃ w1, w1 = w.alloc (.cells #[.slice A n c] 45) := ⟨_, rfl⟩
  rw [← hw1] at hba hbx hp1
  have HW1 := Lib.hid hw1
  have H1 := Lib.hid (And.intro hba (And.intro hbx hp1))
  clear hba hbx hp1 hw1 h
  have hb2 := (Below.refl w1.heap.size w1).alloc (Nat.le_refl _) (.cells zarr 5)
  have HB2 := Lib.hid hb2
  have HG := Lib.hid (show Blk (w1.alloc (.cells zarr 5)) w1.heap.size 5 zarr from Blk.new _ _ _)
  clear hb2
  have hc0 : w1.cell? ⟨w.heap.size, 0, none⟩ = some (.slice A n c) := by rw [H1.out.2.1.cell]; rfl
  have hc1 : (w1.alloc (.cells zarr 5)).cell? ⟨w.heap.size, 0, none⟩ = some (.slice A n c) := (HB2.out.cell (p := ⟨w.heap.size, 0, none⟩) H1.out.2.1.lt).trans hc0
  have hz0 : (w1.alloc (.cells zarr 5)).cell? ⟨w1.heap.size, 0, none⟩ = some (.int .u8 0) := by rw [HG.out.cell, zarr_cells]; rfl
  have hfz := HG.out.frozen 0
  by_cases hbig : 255 < n
  · have HN := Lib.hid (show ¬ CanP (slotsOf xs) from fun h => by have := h.1; rw [HLE.out] at this; omega)
    go_enter Tryd.func39, Tryd.ntmps39
    go_upto_region 1 with (fail)
    rw [← HW1.out]
    go_wp2
    go_ret2
    exact bytes_no HN.out (H1.out.1.trans (HB2.out.mono H1.out.1.size))
  have hwn : IntKind.u8.wrap (n : Int) = (n : Int) := by rw [IntKind.wrap_u8]; omega
  have HZ := Lib.hid (show (zarr.setIfInBounds 0 (.int .u8 (n : Int))) = (cells (stg (slotsOf xs) 0)).toArray by
    rw [zarr_cells, List.setIfInBounds_toArray, set_cells, ← HLE.out]
    rw [show zeros.set 0 ((slotsOf xs).length : Int) = stg (slotsOf xs) 0 from stg_zero _])
  have HST := Lib.hid (show Blk (w1.alloc (.cells (zarr.setIfInBounds 0 (.int .u8 (n : Int))) 5)) w1.heap.size 5 (cells (stg (slotsOf xs) 0)).toArray from by rw [HZ.out]; exact Blk.new _ _ _)
  have HSB := Lib.hid ((Below.refl w1.heap.size w1).alloc (Nat.le_refl _) (.cells (zarr.setIfInBounds 0 (.int .u8 (n : Int))) 5))
  go_enter Tryd.func39, Tryd.ntmps39
  go_upto_region 1 with (fail)
  rw [← HW1.out]
  go_wp2_with fail
  clear hc1 hz0 hfz hc0
  go_loopw [5, 6] (fun e i wr => ByRel w1 w1.heap.size (slotsOf xs) e i wr) (fun _ i _ => n - (intOf i).toNat)
  case atStart => exact ⟨0, by omega, rfl, rfl, by simp [wt_nil], by rw [HLE.out, List.take_zero, wt_nil]; omega, (by intro o ho; rw [List.take_zero] at ho; cases ho), HST.out, HSB.out⟩
  case round =>
    obtain ⟨k, hk, rfl, rfl, hkw, hsw, hsm, hblk, hbel⟩ := hrel
    have hk0 : (0 : Int) ≤ (k : Int) := Int.natCast_nonneg _
    have hcb : wr.cell? ⟨w.heap.size, 0, none⟩ = some (.slice A n c) := (hbel.cell (p := ⟨w.heap.size, 0, none⟩) H1.out.2.1.lt).trans (by rw [H1.out.2.1.cell]; rfl)
    have HK := Lib.hid (And.intro hblk hbel)
    have HSM := Lib.hid hsm
    rw [HLE.out] at hk hsw
    obtain ⟨W, hW⟩ : ∃ W, W = wtP ((slotsOf xs).take k) := ⟨_, rfl⟩
    obtain ⟨E, hE⟩ : ∃ E, E = 256 - W := ⟨_, rfl⟩
    rw [← hW, ← hE]
    rw [← hW] at hkw hsw
    have HWE := Lib.hid hW
    have hEW : E + W = 256 := by omega
    have hE0 : (0 : Int) ≤ (E : Int) := Int.natCast_nonneg _
    clear hblk hbel hW hE hsm
    by_cases hlt : k < n
    · obtain ⟨ad, x, rfl, hx, hcell1, hok1, hso⟩ := H1.out.2.2.at_ hlt
      have hcell := (HK.out.2.cell (p := ad.add k) (World.block_lt_of_cell? _ _ hcell1)).trans hcell1
      have hok := hok1.below HK.out.2
      have HC1 := Lib.hid hcell1
      have HOK1 := Lib.hid hok1
      clear hcell1 hok1
      have HSO := Lib.hid hso
      cases hxo : x.o with
      | none =>
        rw [hok.free hxo] at hcell
        have HF := Lib.hid (show ByRel w1 w1.heap.size (slotsOf xs) (.int .i64 (E : Int)) (.int .i64 ((k : Int) + 1)) wr from by
          have h1 : (slotsOf xs)[k]? = some none := by rw [HSO.out, hxo]
          have h2 : wtP ((slotsOf xs).take (k + 1)) = wtP ((slotsOf xs).take k) := by rw [wt_take_succ h1]; rfl
          have h3 : (slotsOf xs).take (k + 1) = (slotsOf xs).take k ++ [none] := take_succ_at h1
          refine ⟨k + 1, by rw [HLE.out]; omega, by simp, by rw [h2, ← HWE.out]; congr 1; omega, by rw [h2, ← HWE.out]; omega, by rw [h2, ← HWE.out, HLE.out]; omega, fun o ho => ?_, ?_, HK.out.2⟩
          · rw [h3] at ho
            rcases List.mem_append.1 ho with ho | ho
            · exact HSM.out o ho
            · rw [List.mem_singleton.1 ho]; simp [bsS]
          · rw [stg_none h1 (by rw [← HWE.out]; omega)]
            exact HK.out.1)
        clear hx hok hso hxo
        go_wp2
        go_roundw
        case rel => exact HF.out
        case measure => simp [intOf]; omega
      | some b =>
        obtain ⟨⟨a, ha⟩, hrd, hbb, hbl, hxc, hxt⟩ := hok.got hxo
        have h1 : (slotsOf xs)[k]? = some (some b) := by rw [hso, hxo]
        have H1S := Lib.hid h1
        unfold Sv.val at hcell
        rw [ha] at hcell hrd
        have hcv : x.val = .slice (some a) x.n x.c := by unfold Sv.val; rw [ha]
        rw [hcv] at HC1
        obtain ⟨xn, hxn⟩ : ∃ xn, xn = x.n := ⟨_, rfl⟩
        obtain ⟨xc, hxcc⟩ : ∃ xc, xc = x.c := ⟨_, rfl⟩
        rw [← hxn] at hcell hrd hbl hxc HC1
        rw [← hxcc] at hcell hxc hxt HC1
        unfold maxLen at hxt
        have HRD := Lib.hid hrd
        have RD1 := Lib.hid (show Rd w1 w1.heap.size (some a) xn (cells b) from by
          obtain ⟨_, h, _⟩ := HOK1.out.got hxo
          rw [ha, ← hxn] at h
          exact h)
        have HBL := Lib.hid hbl
        clear hx hok hso hxo ha hrd hbb hbl hxn hxcc h1 hcv
        have hn0 : (0 : Int) ≤ (xn : Int) := Int.natCast_nonneg _
        by_cases h200 : 200 < xn
        · have HN := Lib.hid (show ¬ CanP (slotsOf xs) from fun h => by
            have := h.2 _ (List.mem_of_getElem? H1S.out)
            simp only [bsS] at this
            rw [HBL.out] at this
            omega)
          have HBF := Lib.hid (H1.out.1.trans (HK.out.2.mono H1.out.1.size))
          go_wp2
          go_ret2
          exact bytes_no HN.out HBF.out
        by_cases hrm : (E : Int) - (xn : Int) < 1 + (n : Int)
        · have HN := Lib.hid (show ¬ CanP (slotsOf xs) from fun h => by
            have h3 := h.1
            have h2 := wt_take_le' H1S.out
            simp only [bsS] at h2
            rw [HBL.out, ← HWE.out] at h2
            rw [HLE.out] at h3
            omega)
          have HBF := Lib.hid (H1.out.1.trans (HK.out.2.mono H1.out.1.size))
          go_wp2
          go_ret2
          exact bytes_no HN.out HBF.out
        obtain ⟨e', he'⟩ : ∃ e' : Nat, e' = E - xn := ⟨_, rfl⟩
        have hei : (E : Int) - (xn : Int) = (e' : Int) := by omega
        have he0 : (0 : Int) ≤ (e' : Int) := Int.natCast_nonneg _
        have hle : e' + xn ≤ 256 := by omega
        have he2 : e' ≤ 256 := by omega
        have he3 : (e' : Int) ≤ 256 := by omega
        have HE2 := Lib.hid he'
        clear he'
        have hstl : (stg (slotsOf xs) k).length = 256 := stg_len (by rw [HLE.out]; omega) (by rw [← HWE.out]; omega)
        have hc1 : ∃ v, wr.cell? ⟨w1.heap.size, 1 + k, none⟩ = some v := by
          rw [HK.out.1.cell]
          exact ⟨_, Array.getElem?_eq_getElem (by simp [cells_len, hstl]; omega)⟩
        obtain ⟨v1, hc1⟩ := hc1
        have hf1 := HK.out.1.frozen (1 + k)
        have hw8 : IntKind.u8.wrap ((xn : Int) + 1) = (xn : Int) + 1 := by rw [IntKind.wrap_u8]; omega
        have HP := Lib.hid (And.intro (show Blk (wr.setCell ⟨w1.heap.size, 1 + k, none⟩ (.int .u8 ((xn : Int) + 1))) w1.heap.size 5 (cells ((stg (slotsOf xs) k).set (1 + k) ((xn : Int) + 1))).toArray from by
          have h := HK.out.1.put (1 + k) (.int .u8 ((xn : Int) + 1))
          simp only [List.setIfInBounds_toArray, set_cells] at h
          exact h) (HK.out.2.setCell (p := ⟨w1.heap.size, 1 + k, none⟩) (Nat.le_refl _) (.int .u8 ((xn : Int) + 1))))
        go_wp2_with fail
        obtain ⟨wq, hwq⟩ : ∃ wq, wq = wr.setCell ⟨w1.heap.size, 1 + k, none⟩ (.int .u8 ((xn : Int) + 1)) := ⟨_, rfl⟩
        rw [← hwq] at HP ⊢
        have hcbq : wq.cell? ⟨w.heap.size, 0, none⟩ = some (.slice (some ad) n c) := (HP.out.2.cell (p := ⟨w.heap.size, 0, none⟩) H1.out.2.1.lt).trans (by rw [H1.out.2.1.cell]; rfl)
        have hcellq := (HP.out.2.cell (p := ad.add k) (World.block_lt_of_cell? _ _ HC1.out)).trans HC1.out
        have HRQ := Lib.hid (show Rd wq w1.heap.size (some a) xn (cells b) from RD1.out.below HP.out.2 (Nat.le_refl _))
        clear hwq hcell hcb hc1 hf1
        have HSL := Lib.hid (show (cells ((stg (slotsOf xs) k).set (1 + k) ((xn : Int) + 1))).length = 256 by rw [cells_len, List.length_set, hstl])
        have HFIN := Lib.hid (show ∀ w4, w4.heap[w1.heap.size]? = some (.cells (splice (cells ((stg (slotsOf xs) k).set (1 + k) ((xn : Int) + 1))) e' (cells b)).toArray 5 (0, 0)) → Below w1.heap.size w1 w4 →
            ByRel w1 w1.heap.size (slotsOf xs) (.int .i64 (e' : Int)) (.int .i64 ((k : Int) + 1)) w4 from fun w4 hg4 hb4 => by
          have h2 : wtP ((slotsOf xs).take (k + 1)) = W + xn := by rw [wt_take_succ H1S.out, ← HWE.out]; simp only [bsS]; rw [HBL.out]
          have h3 : (slotsOf xs).take (k + 1) = (slotsOf xs).take k ++ [some b] := take_succ_at H1S.out
          have h4 := stg_some H1S.out (by rw [← HWE.out, HBL.out]; omega)
          rw [HBL.out, ← HWE.out, show 256 - W - xn = e' by have := HE2.out; omega] at h4
          refine ⟨k + 1, by rw [HLE.out]; omega, by simp, by rw [h2]; congr 1; have := HE2.out; omega, by rw [h2]; omega, by rw [h2, HLE.out]; omega, fun o ho => ?_, ?_, hb4⟩
          · rw [h3] at ho
            rcases List.mem_append.1 ho with ho | ho
            · exact HSM.out o ho
            · rw [List.mem_singleton.1 ho]; simp only [bsS]; rw [HBL.out]; omega
          · rw [splice_cells, h4] at hg4
            exact hg4)
        clear hstl
        by_cases he256 : 256 = e'
        · subst he256
          have hx0 : xn = 0 := by omega
          go_region_law (refine step_copy_splice rfl (.tmp 62) (.tmp 67) 22 22 rfl 5 Tryd.underlying22 Tryd.dksize5 _ _ _ _ _ _ (by rfl) (by rfl) w1.heap.size 256 (cells ((stg (slotsOf xs) k).set (1 + k) ((xn : Int) + 1))) 5 HP.out.1 (cells b) (by rw [cells_len, HBL.out, hx0]; rfl) (fun h => absurd h (by rw [cells_len, HBL.out]; omega)) (by rw [HSL.out, cells_len, HBL.out]; omega) (cells_one _) w1.heap.size w1 HP.out.2.drew (Nat.le_refl _) ?_; intro w4 hg4 hb4)
          have HF := Lib.hid (HFIN.out w4 hg4.out hb4)
          clear hg4 hb4
          go_wp2
          go_roundw
          case rel => exact HF.out
          case measure => simp [intOf]; omega
        · have he4 : ¬ e' = 256 := fun h => he256 h.symm
          go_region_law (refine step_copy_splice rfl (.tmp 62) (.tmp 67) 22 22 rfl 5 Tryd.underlying22 Tryd.dksize5 _ _ _ _ _ _ (by rfl) (by rfl) w1.heap.size e' (cells ((stg (slotsOf xs) k).set (1 + k) ((xn : Int) + 1))) 5 HP.out.1 (cells b) (by rw [cells_len, HBL.out]; exact (Nat.min_eq_left (by omega)).symm) (fun h => ⟨rfl, _, rfl, fun j v hv => by
            obtain ⟨ad', e1, _, hcc⟩ := HRQ.out.2 (by rw [cells_len, HBL.out] at h; exact h)
            obtain rfl := Option.some.inj e1
            exact hcc j v hv⟩) (by rw [HSL.out, cells_len, HBL.out]; omega) (cells_one _) w1.heap.size w1 HP.out.2.drew (Nat.le_refl _) ?_; intro w4 hg4 hb4)
          have HF := Lib.hid (HFIN.out w4 hg4.out hb4)
          clear hg4 hb4
          go_wp2
          go_roundw
          case rel => exact HF.out
          case measure => simp [intOf]; omega
    · obtain rfl : k = n := by omega
      have htk : (slotsOf xs).take k = slotsOf xs := List.take_of_length_le (by rw [HLE.out]; exact Nat.le_refl _)
      rw [htk] at HWE HSM
      have HST2 := Lib.hid (show Blk wr w1.heap.size 5 (cells (imgP (slotsOf xs))).toArray from by have h := HK.out.1; rw [← HLE.out, stg_all] at h; exact h)
      have HB3 := Lib.hid (H1.out.1.trans (HK.out.2.mono H1.out.1.size))
      have HLO := Lib.hid H1.out.1.size
      have HCAN := Lib.hid (show CanP (slotsOf xs) from ⟨by rw [HLE.out, ← HWE.out]; omega, HSM.out⟩)
      have hle1 : (1 : Int) + (k : Int) ≤ (E : Int) := by omega
      clear htk
      go_wp2
      go_ret2
      have hl := can_img HCAN.out
      refine ⟨_, by unfold bytesP; rw [if_pos HCAN.out]; rfl, ?_, HB3.out⟩
      unfold bytesP
      rw [if_pos HCAN.out]
      have h := own_blk (base := w.heap.size) HST2.out HLO.out (by rw [hl]; simp [maxLen])
      rw [hl] at h
      simpa [hl] using h
end Go.Proofs.YtmgjoogfhkfooaaDoor
