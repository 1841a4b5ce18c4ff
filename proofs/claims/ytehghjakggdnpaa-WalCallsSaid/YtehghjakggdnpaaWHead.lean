/-
  The contract of a head's bytes.
-/
import Derived.Test.YtehghjakggdnpaaWPut
import Derived.StillTailTactics
namespace Go.Proofs.Ytehghjakggdnpaa
open Go.RowKit Go.Lib

set_option maxRecDepth 100000 in
set_option maxHeartbeats 400000 in
theorem headBytes_any (w : World) (gen area first : Int) (hg : 0 ≤ gen ∧ gen < 4294967296) (ha : 0 ≤ area ∧ area < 256) (hf : 0 ≤ first ∧ first < 4294967296) :
    Calls Try.prog 59 #[.agg #[.int .i64 gen, .int .i64 area, .int .i64 first]] w fun e w' => ∃ q, e = .returned (.slice (some ⟨q, 0, none⟩) 64 64) ∧ Blk w' q 5 (cells (headB gen area first)).toArray ∧ w.heap.size ≤ q ∧ Below w.heap.size w w' := by
  have hmk := make64
  go_enter Try.func59, Try.ntmps59
  go_wp2_with fail
  have hz : Blk ((w.alloc (.cells #[.int .i64 gen, .int .i64 area, .int .i64 first] 91)).alloc (.cells zarr 5)) (w.heap.size + 1) 5 (cells zeros).toArray := by
    rw [zeros_cells]; exact Blk.new_at _ _ _ (by simp)
  have hB : Blk ((w.alloc (.cells #[.int .i64 gen, .int .i64 area, .int .i64 first] 91)).alloc (.cells zarr 5)) w.heap.size 91 #[.int .i64 gen, .int .i64 area, .int .i64 first] := (Blk.new _ _ _).alloc _
  have hl : Below w.heap.size w ((w.alloc (.cells #[.int .i64 gen, .int .i64 area, .int .i64 first] 91)).alloc (.cells zarr 5)) := ((Below.refl _ _).alloc (Nat.le_refl _) _).alloc (by simp) _
  refine (stamp_any _ (w.heap.size + 1) zeros gen hz (by simp [zeros]) hg).mono ?_
  rintro e w1 ⟨rfl, h1, hc1⟩
  have hne : ∀ k, One (w.heap.size + 1) k → w.heap.size ≤ k := fun k hk => by unfold One at hk; omega
  have hl1 := hl.trans (hc1.below hne (by simp; omega))
  have hB1 := hB.chg hc1 (by unfold One; omega)
  obtain ⟨u, hu⟩ : ∃ u, w1.cell? ⟨w.heap.size + 1, 4, none⟩ = some u := ⟨_, h1.src 4 _ (List.getElem?_eq_getElem (by rw [cells_len, stampL_len]; simp [zeros]))⟩
  have hf4 := h1.frozen 4
  have d0 := hB1.cell 0
  have d1 := hB1.cell 1
  have d2 := hB1.cell 2
  simp only [List.getElem?_toArray, List.getElem?_cons_zero, List.getElem?_cons_succ] at d0 d1 d2
  have hz1 := h1.put 4 (.int .u8 area)
  rw [cells_put] at hz1
  have hB2 := hB1.far (p := ⟨w.heap.size + 1, 4, none⟩) (by simp) (.int .u8 area)
  have hl2 := hl1.setCell (p := ⟨w.heap.size + 1, 4, none⟩) (by simp) (.int .u8 area)
  have H2 := Lib.hid (And.intro hz1 (And.intro hB2 hl2))
  have e2 := hB2.cell 2
  simp only [List.getElem?_toArray, List.getElem?_cons_zero, List.getElem?_cons_succ] at e2
  clear hz hB hl hc1 hl1 hB1 h1 hz1 hB2 hl2
  go_wp2_with fail
  obtain ⟨w2, hw2⟩ : ∃ w2, w2 = w1.setCell ⟨w.heap.size + 1, 4, none⟩ (.int .u8 area) := ⟨_, rfl⟩
  rw [← hw2] at H2 e2 ⊢
  clear hw2 d0 d1 d2 hu hf4
  go_still_tail 5, (by kernel_rfl)
  change wpList _ _ _ _ _ w2.drew
  go_wp2_with fail
  refine (putNumber_any _ (w.heap.size + 1) 5 59 59 ((stampL zeros gen).set 4 area) first H2.out.1.drew (by rw [List.length_set, stampL_len]; simp [zeros]) (by omega) hf).mono ?_
  rintro e w3 ⟨rfl, h3, hc3⟩
  have H3 := Lib.hid (And.intro h3 (H2.out.2.2.drew.trans (hc3.below hne H2.out.2.2.drew.size)))
  clear h3 hc3
  go_wp2
  go_ret
  exact ⟨_, rfl, H3.out.1, by omega, H3.out.2⟩
end Go.Proofs.Ytehghjakggdnpaa
