/-
  The contract of New.
-/
import Derived.Test.YtdnegfjddpdmhaaDoorFnA
import Derived.Test.YtdnegfjddpdmhaaDoorLibC
import Derived.Test.YtdnegfjddpdmhaaDoorWithM
import Derived.OrdersHeld
import Derived.Deep.RegionHeld3
namespace Go.Proofs.YtdnegfjddpdmhaaDoor
open Go.RowKit Go.Lib

/-- a page of the call's own is handed back -/
def PgRet (l : List Int) (w : World) (e : Ending) (w' : World) : Prop :=
  ∃ g, e = .returned (.slice (some ⟨g, 0, none⟩) 256 256) ∧ Blk w' g 5 (cells l).toArray ∧ w.heap.size ≤ g ∧ Below w.heap.size w w'

theorem zeros_len : zeros.length = 256 := by rw [zeros, List.length_replicate]
def zarr : Array Value := (cells zeros).toArray
theorem make256 (w : World) : (Instr.makeSlice 33 (.int .i64 256) (.int .i64 256)).run Tryd.prog w = .ok (.slice (some ⟨w.heap.size, 0, none⟩) 256 256) (w.alloc (.cells zarr 5)) := by
  obtain ⟨i0, hi, hz0, hz1, hz2⟩ := info_parts Tryd.dkinfo5
  have h := run_make (P := Tryd.prog) w 33 5 i0 _ Tryd.underlying33 hi hz0 .i64 .i64 256 256 (by omega) (Int.le_refl _) (by rw [hz2]; omega) (by omega)
  rw [hz1] at h
  rw [h]
  have e : madeCells (Value.int .u8 0).cells ((256 : Int).toNat * 1) = zarr := by
    apply Array.ext'
    apply List.ext_getElem?
    intro q
    have hz : zarr.toList[q]? = if q < 256 then some (.int .u8 0) else none := by
      show (cells zeros)[q]? = _
      simp only [cells, zeros, List.map_replicate]
      exact List.getElem?_replicate
    rw [hz]
    by_cases hq : q < 256
    · rw [if_pos hq]; simp [madeCells, Value.cells, hq, Nat.mod_one]
    · rw [if_neg hq]; simp [madeCells, Value.cells]; omega
  rw [e]
  rfl
theorem zarr_cells : zarr = (cells zeros).toArray := rfl
set_option maxRecDepth 100000 in
theorem new_any (w : World) : Calls Tryd.prog 75 #[] w (PgRet zeros w) := by
  have hmk := make256
  have HF := Lib.hid (show PgRet zeros w (.returned (.slice (some ⟨w.heap.size, 0, none⟩) 256 256)) (w.alloc (.cells zarr 5)) from ⟨_, rfl, Blk.new _ _ _, Nat.le_refl _, (Below.refl _ _).alloc (Nat.le_refl _) _⟩)
  go_enter Tryd.func75, Tryd.ntmps75
  go_wp2
  go_ret
  exact HF.out

end Go.Proofs.YtdnegfjddpdmhaaDoor
