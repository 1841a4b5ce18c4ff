/-
  What the listed variables give: the table of powers, the two errors.
-/
import Derived.Test.YtkdcnkadngbccaaDoorNumM
import Derived.MakeChecks
import Derived.Stop.LaidErr
import Derived.Lib.LaidTab
namespace Go.Proofs.YtkdcnkadngbccaaDoor
open Go.RowKit Go.Lib

theorem gRngT : (Tryd.prog.globals[3]?).map (·.type) = some 76 := by kernel_rfl
theorem gSynT : (Tryd.prog.globals[2]?).map (·.type) = some 76 := by kernel_rfl
theorem gRngN : Tryd.prog.globalNamed nRng = some 3 := by kernel_rfl
theorem gSynN : Tryd.prog.globalNamed nSyn = some 2 := by kernel_rfl
theorem gPowN : Tryd.prog.globalNamed nPow = some 1 := by kernel_rfl
theorem gPowT : (Tryd.prog.globals[1]?).map (·.type) = some 107 := by kernel_rfl
theorem rowErr (u : TypeId) (nm : String) (hn : Tryd.prog.typeName? 3 120 = some nm) (h : Tryd.prog.typeName? 3 u = some nm) : u = 120 :=
  typeName_ptr_named (nm := "errors.errorString") (by kernel_rfl) (by kernel_rfl) (by decide) u (h.trans (hn.symm.trans (by kernel_rfl)))
theorem vs_of_laid {W : World} (h : laidMetH Tryd.prog Rows.valueShownRow.laid W) : Vs W := by
  rw [MakeChecks.laidMetH_plain _ _ _ (by kernel_rfl)] at h
  have h2 := h.tail.tail
  have h3 := h2.tail
  have h4 := h3.tail
  refine ⟨?_, ?_, ?_⟩
  · exact tabIs_of_head gPowN gPowT Tryd.underlying107 Tryd.underlying90 (by kernel_rfl) (by kernel_rfl) h2
  · obtain ⟨a, s, hv, _⟩ := laid_sentinel h4 gSynN gSynT Tryd.underlying76 (fun u h => rowErr u _ (by kernel_rfl) h) Tryd.underlying120 Tryd.underlying122 rfl rfl Tryd.underlying9 (by kernel_rfl) (by kernel_rfl)
    exact ⟨_, _, hv⟩
  · obtain ⟨a, s, hv, _⟩ := laid_sentinel h3 gRngN gRngT Tryd.underlying76 (fun u h => rowErr u _ (by kernel_rfl) h) Tryd.underlying120 Tryd.underlying122 rfl rfl Tryd.underlying9 (by kernel_rfl) (by kernel_rfl)
    exact ⟨_, _, hv⟩
end Go.Proofs.YtkdcnkadngbccaaDoor
