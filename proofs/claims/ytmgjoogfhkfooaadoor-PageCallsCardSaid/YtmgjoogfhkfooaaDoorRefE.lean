/-
  The document's own page: Room.
-/
import Derived.Test.YtmgjoogfhkfooaaDoorRefD
import Derived.Deep.RegionHeld3
namespace Go.Proofs.YtmgjoogfhkfooaaDoor
open Go.RowKit Go.Lib

def RmRel (w1 : World) (s : List Slot) (i : Value) (wr : World) : Prop :=
  ∃ u : Nat, u ≤ 201 ∧ i = .int .i64 ((u : Int) - 1) ∧ roomI s (ffP s) ≤ (u : Int) - 1 ∧ Below w1.heap.size w1 wr
theorem room_low {s : List Slot} (h : Fit s) : -1 ≤ roomI s (ffP s) ∧ roomI s (ffP s) ≤ 200 := by
  have h1 := h.room
  have h2 := ff_le s
  unfold roomI roomP
  split
  · omega
  · rw [Int.toNat_natCast]
    omega
theorem rput_zeros {s : List Slot} (h : Fit s) (ht : TrimP s) (n : Nat) : (rputP s (ffP s) (List.replicate n 0)).isSome = decide ((n : Int) ≤ roomI s (ffP s)) := by
  rw [rput_put h ht _ (zeros_bytes n)]
  simp only [putP, List.length_replicate]
  split
  · rename_i h; rw [decide_eq_true h]; rfl
  · rename_i h; rw [decide_eq_false h]; rfl

set_option maxRecDepth 100000 in
set_option maxHeartbeats 3200000 in
theorem refRoom_any (w : World) (A : Option Addr) (n c : Nat) (xs : List Sv) (h : PgR w A n c xs) (hn : n ≤ 300) (hf : Fit (slotsOf xs)) (ht : TrimP (slotsOf xs)) :
    Calls Tryd.prog 26 #[.agg #[.slice A n c]] w fun e w' => e = .returned (.int .i64 (roomI (slotsOf xs) (ffP (slotsOf xs)))) ∧ Below w.heap.size w w' := by
  have hba := (Below.refl w.heap.size w).alloc (Nat.le_refl _) (.cells #[.slice A n c] 45)
  have HB := Lib.hid hba
  have HBX := Lib.hid (Blk.new w 45 #[.slice A n c])
  have H1 := Lib.hid (h.below hba)
  obtain ⟨w1, hw1⟩ : ∃ w1, w1 = w.alloc (.cells #[.slice A n c] 45) := ⟨_, rfl⟩
  rw [← hw1] at HB H1 HBX
  have HW1 := Lib.hid hw1
  have hlow := room_low hf
  have HZ := Lib.hid (fun n => rput_zeros hf ht n)
  obtain ⟨R, hR⟩ : ∃ R, R = roomI (slotsOf xs) (ffP (slotsOf xs)) := ⟨_, rfl⟩
  rw [← hR] at hlow HZ ⊢
  have HR := Lib.hid hR
  obtain ⟨hlo, hhi⟩ := hlow
  clear hba hw1 h hf ht hR
  go_enter Tryd.func26, Tryd.ntmps26
  go_upto_region 1 with (fail)
  rw [← HW1.out]
  go_wp2_with fail
  go_loopw [3] (fun i wr => RmRel w1 (slotsOf xs) i wr) (fun i _ => (intOf i + 1).toNat)
  case atStart => exact ⟨201, by omega, rfl, by rw [← HR.out]; omega, Below.refl _ _⟩
  case round =>
    obtain ⟨u, hu, rfl, hRu, hbel⟩ := hrel
    have HBL := Lib.hid hbel
    rw [← HR.out] at hRu
    clear hbel
    by_cases hu0 : u = 0
    · subst hu0
      have hRe : R = -1 := by omega
      subst hRe
      have HF := Lib.hid (HB.out.trans (HBL.out.mono HB.out.size))
      go_wp2
      go_ret
      exact ⟨rfl, HF.out⟩
    · obtain ⟨q, rfl⟩ : ∃ q, u = q + 1 := ⟨u - 1, by omega⟩
      have hq0 : (0 : Int) ≤ (q : Int) := Int.natCast_nonneg _
      have hq200 : q ≤ 200 := by omega
      rw [show ((q + 1 : Nat) : Int) - 1 = (q : Int) by omega] at hRu ⊢
      have hmk : ∀ w : World, (Instr.makeSlice 22 (.int .i64 (q : Int)) (.int .i64 (q : Int))).run Tryd.prog w = .ok (.slice (some ⟨w.heap.size, 0, none⟩) q q) (w.alloc (.cells (cells (List.replicate q 0)).toArray 5)) := fun w => make_zeros w q _ rfl (by omega)
      have hcb : wr.cell? ⟨w.heap.size, 0, none⟩ = some (.slice A n c) := (HBL.out.cell (p := ⟨w.heap.size, 0, none⟩) HBX.out.lt).trans (by rw [HBX.out.cell]; rfl)
      have hba : Below wr.heap.size wr (wr.alloc (.cells (cells (List.replicate q 0)).toArray 5)).drew := ((Below.refl _ _).alloc (Nat.le_refl _) _).drew
      have HBA := Lib.hid hba
      have HADD := Lib.hid (refAdd_any _ A n c xs ((H1.out.below HBL.out).below hba) hn (some ⟨wr.heap.size, 0, none⟩) q q (List.replicate q 0) (rd_made wr q) (zeros_bytes q) (by omega))
      have HZQ := Lib.hid (HZ.out q)
      clear hba
      go_wp2_with fail
      go_region_held3 (fun w' => w'.cell? ⟨w.heap.size, 0, none⟩ = some (.slice A n c)) (first | exact HC5.out | exact hcb | go_keep)
        (first | (go_at_call 24; refine HADD.out.mono ?_; rintro e w5 ⟨v5, rfl, hown5, hb5⟩; have HC5 := Lib.hid ((((HBA.out.trans (hb5.mono HBA.out.size))).cell (p := ⟨w.heap.size, 0, none⟩) (World.block_lt_of_cell? _ _ hcb)).trans hcb)))
      have HB5 := Lib.hid (HBL.out.trans ((HBA.out.trans (hb5.mono HBA.out.size)).mono HBL.out.size))
      rw [HZQ.out]
      clear hown5 hb5 HADD HZQ hcb
      by_cases hok : (q : Int) ≤ R
      · have hRq : R = (q : Int) := by omega
        have HF := Lib.hid (HB.out.trans (HB5.out.mono HB.out.size))
        rw [decide_eq_true hok]
        subst hRq
        go_wp2
        go_ret
        exact ⟨rfl, HF.out⟩
      · have HF := Lib.hid (show RmRel w1 (slotsOf xs) (.int .i64 ((q : Int) - 1)) w5 from ⟨q, by omega, rfl, by rw [← HR.out]; omega, HB5.out⟩)
        rw [decide_eq_false hok]
        go_wp2
        go_roundw
        case rel => exact HF.out
        case measure => simp [intOf]
end Go.Proofs.YtmgjoogfhkfooaaDoor
