/-
  The program's Holds, Refuses.
-/
import Derived.Test.YthpchenmfenjmaaPrT
namespace Go.Proofs.Ythpchenmfenjmaa
open Go.RowKit Go.Lib Go.Shelf

theorem eg_holds : ∀ args w, (callFunc 20 args).run Try.prog w = .ok (.enter 20 args) w := enters_of Try.func20 (by kernel_rfl) rfl
theorem eg_refuses : ∀ args w, (callFunc 21 args).run Try.prog w = .ok (.enter 21 args) w := enters_of Try.func21 (by kernel_rfl) rfl
/-- columns and row in boxes -/
structure Bx (w : World) (b1 b2 : Nat) (A2 : Option Addr) (n2 c2 : Nat) (cols : List Co) (A3 : Option Addr) (n3 c3 : Nat) (r : List Va) : Prop where
  l1 : b1 < w.heap.size
  l2 : b2 < w.heap.size
  s1 : w.cell? ⟨b1, 0, none⟩ = some (.slice A2 n2 c2)
  s2 : w.cell? ⟨b2, 0, none⟩ = some (.slice A3 n3 c3)
  co : CoR w A2 n2 cols
  va : VaR w A3 n3 r
section
variable {w w' : World} {b1 b2 : Nat} {A2 : Option Addr} {n2 c2 : Nat} {cols : List Co} {A3 : Option Addr} {n3 c3 : Nat} {r : List Va}
theorem Bx.below (h : Bx w b1 b2 A2 n2 c2 cols A3 n3 c3 r) (hb : Below w.heap.size w w') : Bx w' b1 b2 A2 n2 c2 cols A3 n3 c3 r :=
  ⟨Nat.lt_of_lt_of_le h.l1 hb.size, Nat.lt_of_lt_of_le h.l2 hb.size, (hb.cell (p := ⟨b1, 0, none⟩) h.l1).trans h.s1, (hb.cell (p := ⟨b2, 0, none⟩) h.l2).trans h.s2, h.co.below hb, h.va.below hb⟩
theorem Bx.new (w : World) (c2 c3 : Nat) (h2 : CoR w A2 n2 cols) (h3 : VaR w A3 n3 r) : Bx ((w.alloc (.cells #[.slice A2 n2 c2] 26)).alloc (.cells #[.slice A3 n3 c3] 28)) w.heap.size (w.heap.size + 1) A2 n2 c2 cols A3 n3 c3 r := by
  have hb1 : Below w.heap.size w (w.alloc (.cells #[.slice A2 n2 c2] 26)) := (Below.refl _ w).alloc (Nat.le_refl _) _
  have hb := hb1.alloc hb1.size (.cells #[.slice A3 n3 c3] 28)
  have q1 := (Blk.new w 26 #[.slice A2 n2 c2]).alloc (.cells #[.slice A3 n3 c3] 28)
  have q2 := Blk.new (w.alloc (.cells #[.slice A2 n2 c2] 26)) 28 #[.slice A3 n3 c3]
  rw [show (w.alloc (.cells #[.slice A2 n2 c2] 26)).heap.size = w.heap.size + 1 by simp] at q2
  exact ⟨q1.lt, q2.lt, q1.cell 0, q2.cell 0, h2.below hb, h3.below hb⟩
set_option maxRecDepth 100000 in
set_option maxHeartbeats 6400000 in
theorem holds_ask (h : Bx w b1 b2 A2 n2 c2 cols A3 n3 c3 r) : AskP 20 #[pt b1, pt b2] cdV (fun c => decide (truthL c cols r ≠ 1)) w := fun W c hB => by
  obtain ⟨l1, l2, s1, s2, hco, hva⟩ := h.below hB
  obtain ⟨w1, hw1⟩ : ∃ w1, w1 = W.alloc (.cells #[.string c.col, .int .i64 c.op, .int .i64 c.w.k, .int .i64 c.w.n, .string c.w.s] 25) := ⟨_, rfl⟩
  have hb1 : Below W.heap.size W w1 := by rw [hw1]; exact (Below.refl _ W).alloc (Nat.le_refl _) _
  have hq : Blk w1 W.heap.size 25 #[.string c.col, .int .i64 c.op, .int .i64 c.w.k, .int .i64 c.w.n, .string c.w.s] := by rw [hw1]; exact Blk.new _ _ _
  have t1 := (hb1.cell (p := ⟨b1, 0, none⟩) l1).trans s1
  have t2 := (hb1.cell (p := ⟨b2, 0, none⟩) l2).trans s2
  have hc := truthL_any (c2 := c2) (c3 := c3) c (hco.below hb1) (hva.below hb1)
  have z0 : w1.cell? ⟨W.heap.size, 0, none⟩ = some (.string c.col) := hq.cell 0
  have z1 : w1.cell? ⟨W.heap.size, 1, none⟩ = some (.int .i64 c.op) := hq.cell 1
  have z2 : w1.cell? ⟨W.heap.size, 2, none⟩ = some (.int .i64 c.w.k) := hq.cell 2
  have z3 : w1.cell? ⟨W.heap.size, 3, none⟩ = some (.int .i64 c.w.n) := hq.cell 3
  have z4 : w1.cell? ⟨W.heap.size, 4, none⟩ = some (.string c.w.s) := hq.cell 4
  obtain ⟨x, hx⟩ : ∃ x, x = truthL c cols r := ⟨_, rfl⟩
  rw [← hx] at hc
  have HB := Lib.hid (hB.trans (hb1.mono hB.size))
  have HW := Lib.hid hw1
  have HC := Lib.hid hc
  have HX := Lib.hid hx
  clear hw1 hb1 hq hc hx hB h hco hva s1 s2 l1 l2
  show Calls Try.prog 20 #[.agg #[.string c.col, .int .i64 c.op, .int .i64 c.w.k, .int .i64 c.w.n, .string c.w.s], pt b1, pt b2] W _
  go_enter Try.func20, Try.ntmps20
  go_upto_region 1 with fail
  rw [← HW.out]
  go_wp2_with (go_at_call 9; refine HC.out.mono ?_; rintro e w2 ⟨rfl, hb⟩)
  go_ret
  exact ⟨by rw [← HX.out]; exact congrArg (fun b => Ending.returned (.bool b)) (show (x != 1) = decide (x ≠ 1) by by_cases h : x = 1 <;> simp [h]), HB.out.trans (hb.mono HB.out.size)⟩
set_option maxRecDepth 100000 in
set_option maxHeartbeats 6400000 in
theorem refuses_ask (h : Bx w b1 b2 A2 n2 c2 cols A3 n3 c3 r) : AskP 21 #[pt b1, pt b2] cdV (fun c => decide (truthL c cols r = 0)) w := fun W c hB => by
  obtain ⟨l1, l2, s1, s2, hco, hva⟩ := h.below hB
  obtain ⟨w1, hw1⟩ : ∃ w1, w1 = W.alloc (.cells #[.string c.col, .int .i64 c.op, .int .i64 c.w.k, .int .i64 c.w.n, .string c.w.s] 25) := ⟨_, rfl⟩
  have hb1 : Below W.heap.size W w1 := by rw [hw1]; exact (Below.refl _ W).alloc (Nat.le_refl _) _
  have hq : Blk w1 W.heap.size 25 #[.string c.col, .int .i64 c.op, .int .i64 c.w.k, .int .i64 c.w.n, .string c.w.s] := by rw [hw1]; exact Blk.new _ _ _
  have t1 := (hb1.cell (p := ⟨b1, 0, none⟩) l1).trans s1
  have t2 := (hb1.cell (p := ⟨b2, 0, none⟩) l2).trans s2
  have hc := truthL_any (c2 := c2) (c3 := c3) c (hco.below hb1) (hva.below hb1)
  have z0 : w1.cell? ⟨W.heap.size, 0, none⟩ = some (.string c.col) := hq.cell 0
  have z1 : w1.cell? ⟨W.heap.size, 1, none⟩ = some (.int .i64 c.op) := hq.cell 1
  have z2 : w1.cell? ⟨W.heap.size, 2, none⟩ = some (.int .i64 c.w.k) := hq.cell 2
  have z3 : w1.cell? ⟨W.heap.size, 3, none⟩ = some (.int .i64 c.w.n) := hq.cell 3
  have z4 : w1.cell? ⟨W.heap.size, 4, none⟩ = some (.string c.w.s) := hq.cell 4
  obtain ⟨x, hx⟩ : ∃ x, x = truthL c cols r := ⟨_, rfl⟩
  rw [← hx] at hc
  have HB := Lib.hid (hB.trans (hb1.mono hB.size))
  have HW := Lib.hid hw1
  have HC := Lib.hid hc
  have HX := Lib.hid hx
  clear hw1 hb1 hq hc hx hB h hco hva s1 s2 l1 l2
  show Calls Try.prog 21 #[.agg #[.string c.col, .int .i64 c.op, .int .i64 c.w.k, .int .i64 c.w.n, .string c.w.s], pt b1, pt b2] W _
  go_enter Try.func21, Try.ntmps21
  go_upto_region 1 with fail
  rw [← HW.out]
  go_wp2_with (go_at_call 9; refine HC.out.mono ?_; rintro e w2 ⟨rfl, hb⟩)
  go_ret
  exact ⟨by rw [← HX.out]; exact congrArg (fun b => Ending.returned (.bool b)) (show (x == 0) = decide (x = 0) by by_cases h : x = 0 <;> simp [h]), HB.out.trans (hb.mono HB.out.size)⟩
end
theorem holds_not (l : List Cd) (cols : List Co) (r : List Va) : holdsL l cols r = !(l.any fun c => decide (truthL c cols r ≠ 1)) := by
  unfold holdsL
  induction l with
  | nil => rfl
  | cons c l ih =>
    rw [List.all_cons, List.any_cons, ih]
    by_cases h : truthL c cols r = 1 <;> simp [h]
set_option maxRecDepth 100000 in
set_option maxHeartbeats 6400000 in
theorem holdsC_any {w : World} {A : Option Addr} {n c : Nat} {l : List Cd} {A2 : Option Addr} {n2 c2 : Nat} {cols : List Co} {A3 : Option Addr} {n3 c3 : Nat} {r : List Va} (h1 : CdR w A n l) (h2 : CoR w A2 n2 cols) (h3 : VaR w A3 n3 r) :
    Calls Try.prog 10 #[.slice A n c, .slice A2 n2 c2, .slice A3 n3 c3] w fun e w' => e = .returned (.bool (holdsL l cols r)) ∧ Below w.heap.size w w' := by
  have hx := Bx.new w c2 c3 h2 h3
  obtain ⟨w1, hw1⟩ : ∃ w1, w1 = (w.alloc (.cells #[.slice A2 n2 c2] 26)).alloc (.cells #[.slice A3 n3 c3] 28) := ⟨_, rfl⟩
  rw [← hw1] at hx
  have hb1 : Below w.heap.size w w1 := by
    rw [hw1]
    have hb1 : Below w.heap.size w (w.alloc (.cells #[.slice A2 n2 c2] 26)) := (Below.refl _ w).alloc (Nat.le_refl _) _
    exact hb1.alloc hb1.size _
  have hca := containsCd_any (c := c) (h1.below hb1).row (Nat.le_refl _) h1.len (by have := h1.few; omega) eg_holds (holds_ask hx)
  rw [holds_not]
  obtain ⟨x, hx2⟩ : ∃ x, x = l.any fun c => decide (truthL c cols r ≠ 1) := ⟨_, rfl⟩
  rw [← hx2] at hca ⊢
  have HB := Lib.hid hb1
  have HW := Lib.hid hw1
  have HC := Lib.hid hca
  clear hca hw1 hb1 hx h1 h2 h3 hx2
  go_enter Try.func10, Try.ntmps10
  go_upto_region 1 with fail
  rw [← HW.out]
  go_wp2_with (go_at_call 19; refine HC.out.mono ?_; rintro e w' ⟨rfl, hb'⟩)
  go_ret
  exact ⟨rfl, HB.out.trans (hb'.mono HB.out.size)⟩
set_option maxRecDepth 100000 in
set_option maxHeartbeats 6400000 in
theorem refusesC_any {w : World} {A : Option Addr} {n c : Nat} {l : List Cd} {A2 : Option Addr} {n2 c2 : Nat} {cols : List Co} {A3 : Option Addr} {n3 c3 : Nat} {r : List Va} (h1 : CdR w A n l) (h2 : CoR w A2 n2 cols) (h3 : VaR w A3 n3 r) :
    Calls Try.prog 11 #[.slice A n c, .slice A2 n2 c2, .slice A3 n3 c3] w fun e w' => e = .returned (.bool (refusesL l cols r)) ∧ Below w.heap.size w w' := by
  have hx := Bx.new w c2 c3 h2 h3
  obtain ⟨w1, hw1⟩ : ∃ w1, w1 = (w.alloc (.cells #[.slice A2 n2 c2] 26)).alloc (.cells #[.slice A3 n3 c3] 28) := ⟨_, rfl⟩
  rw [← hw1] at hx
  have hb1 : Below w.heap.size w w1 := by
    rw [hw1]
    have hb1 : Below w.heap.size w (w.alloc (.cells #[.slice A2 n2 c2] 26)) := (Below.refl _ w).alloc (Nat.le_refl _) _
    exact hb1.alloc hb1.size _
  have hca := containsCd_any (c := c) (h1.below hb1).row (Nat.le_refl _) h1.len (by have := h1.few; omega) eg_refuses (refuses_ask hx)
  unfold refusesL
  obtain ⟨x, hx2⟩ : ∃ x, x = l.any fun c => decide (truthL c cols r = 0) := ⟨_, rfl⟩
  rw [← hx2] at hca ⊢
  have HB := Lib.hid hb1
  have HW := Lib.hid hw1
  have HC := Lib.hid hca
  clear hca hw1 hb1 hx h1 h2 h3 hx2
  go_enter Try.func11, Try.ntmps11
  go_upto_region 1 with fail
  rw [← HW.out]
  go_wp2_with (go_at_call 19; refine HC.out.mono ?_; rintro e w' ⟨rfl, hb'⟩)
  go_ret
  exact ⟨rfl, HB.out.trans (hb'.mono HB.out.size)⟩
end Go.Proofs.Ythpchenmfenjmaa
