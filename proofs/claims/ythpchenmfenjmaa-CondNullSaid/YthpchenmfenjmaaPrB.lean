/-
  The program's Place and Truth.
-/
import Derived.Test.YthpchenmfenjmaaPrA
namespace Go.Proofs.Ythpchenmfenjmaa
open Go.RowKit Go.Lib Go.Shelf

abbrev pt (b : Nat) : Value := .pointer (some ⟨b, 0, none⟩)
theorem eg_place : ∀ args w, (callFunc 26 args).run Try.prog w = .ok (.enter 26 args) w := enters_of Try.func26 (by kernel_rfl) rfl
set_option maxRecDepth 100000 in
set_option maxHeartbeats 3200000 in
theorem place_ask {s : ByteArray} {b : Nat} {w : World} (hb : b < w.heap.size) (hc : w.cell? ⟨b, 0, none⟩ = some (.string s)) : AskP 26 #[pt b] coV (fun c => decide (c.name = s)) w := fun W h hB => by
  have c0 : W.cell? ⟨b, 0, none⟩ = some (.string s) := (hB.cell (p := ⟨b, 0, none⟩) hb).trans hc
  have hW : b < W.heap.size := Nat.lt_of_lt_of_le hb hB.size
  have hne : b ≠ W.heap.size := by omega
  have HB := Lib.hid hB
  clear hB hc
  show Calls Try.prog 26 #[.agg #[.string h.name, .int .i64 h.k, .bool h.nn], pt b] W _
  have hr := str_eq h.name s
  obtain ⟨r, hr2⟩ : ∃ r, decide (h.name = s) = r := ⟨_, rfl⟩
  simp only [hr2] at hr ⊢
  clear hr2
  go_enter Try.func26, Try.ntmps26
  go_wp2_with fail
  go_ret
  exact ⟨rfl, HB.out.alloc HB.out.size _⟩
set_option maxRecDepth 100000 in
set_option maxHeartbeats 3200000 in
theorem place_any {w : World} {A : Option Addr} {n c : Nat} {cols : List Co} (s : ByteArray) (h : CoR w A n cols) :
    Calls Try.prog 14 #[.slice A n c, .string s] w fun e w' => e = .returned (.tuple #[.int .i64 ((placeL cols s).getD 0), .bool (placeL cols s).isSome]) ∧ Below w.heap.size w w' := by
  obtain ⟨w1, hw1⟩ : ∃ w1, w1 = w.alloc (.cells #[.string s] 9) := ⟨_, rfl⟩
  have hb1 : Below w.heap.size w w1 := by rw [hw1]; exact (Below.refl _ w).alloc (Nat.le_refl _) _
  have hq : Blk w1 w.heap.size 9 #[.string s] := by rw [hw1]; exact Blk.new _ _ _
  have hca := idxCo_any (c := c) (h.below hb1).row (Nat.le_refl _) h.len (by have := h.few; omega) eg_place (place_ask hq.lt (hq.cell 0))
  rw [← place_idx] at hca
  have HB := Lib.hid hb1
  have HW := Lib.hid hw1
  have HC := Lib.hid hca
  clear hca hw1 hb1 hq h
  cases hp : placeL cols s with
  | none =>
    rw [hp] at HC
    go_enter Try.func14, Try.ntmps14
    go_upto_region 1 with fail
    rw [← HW.out]
    go_wp2_with (go_at_call 25; refine HC.out.mono ?_; rintro e w' ⟨rfl, hb'⟩; unfold idxI)
    refine bodyPost_ret (results_tmp2 rfl _ _ _) rfl ?_
    exact ⟨rfl, HB.out.trans (hb'.mono HB.out.size)⟩
  | some k =>
    rw [hp] at HC
    have hk0 : (0 : Int) ≤ (k : Int) := Int.natCast_nonneg _
    have hk1 : ¬ (k : Int) < 0 := by omega
    go_enter Try.func14, Try.ntmps14
    go_upto_region 1 with fail
    rw [← HW.out]
    go_wp2_with (go_at_call 25; refine HC.out.mono ?_; rintro e w' ⟨rfl, hb'⟩; unfold idxI)
    refine bodyPost_ret (results_tmp2 rfl _ _ _) rfl ?_
    exact ⟨rfl, HB.out.trans (hb'.mono HB.out.size)⟩
end Go.Proofs.Ythpchenmfenjmaa
