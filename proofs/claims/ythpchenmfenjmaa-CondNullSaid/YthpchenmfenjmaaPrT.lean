/-
  The program's Truth.
-/
import Derived.Test.YthpchenmfenjmaaPrB
namespace Go.Proofs.Ythpchenmfenjmaa
open Go.RowKit Go.Lib Go.Shelf

/-- where Truth stands: its condition in a box, columns, row -/
structure TrS (w0 w : World) (b : Nat) (col : ByteArray) (op : Int) (v : Va) (A2 : Option Addr) (n2 : Nat) (cols : List Co) (A3 : Option Addr) (n3 : Nat) (r : List Va) : Prop where
  low : Below w0.heap.size w0 w
  q : Blk w b 25 #[.string col, .int .i64 op, .int .i64 v.k, .int .i64 v.n, .string v.s]
  co : CoR w A2 n2 cols
  va : VaR w A3 n3 r
section
variable {w0 w w' : World} {b : Nat} {col : ByteArray} {op : Int} {v : Va} {A2 : Option Addr} {n2 : Nat} {cols : List Co} {A3 : Option Addr} {n3 : Nat} {r : List Va}
theorem TrS.below (h : TrS w0 w b col op v A2 n2 cols A3 n3 r) (hb : Below w.heap.size w w') : TrS w0 w' b col op v A2 n2 cols A3 n3 r := ⟨h.low.trans (hb.mono h.low.size), h.q.below hb h.q.lt, h.co.below hb, h.va.below hb⟩
theorem TrS.cells (h : TrS w0 w b col op v A2 n2 cols A3 n3 r) : w.cell? ⟨b, 0, none⟩ = some (.string col) ∧ w.cell? ⟨b, 1, none⟩ = some (.int .i64 op) ∧ w.cell? ⟨b, 2, none⟩ = some (.int .i64 v.k) ∧ w.cell? ⟨b, 3, none⟩ = some (.int .i64 v.n) ∧ w.cell? ⟨b, 4, none⟩ = some (.string v.s) := ⟨h.q.cell 0, h.q.cell 1, h.q.cell 2, h.q.cell 3, h.q.cell 4⟩
end
theorem cmp_below {w : World} {p : BelowBy w} (x y : Va) : Calls Try.prog 18 #[.agg #[.int .i64 x.k, .int .i64 x.n, .string x.s], .agg #[.int .i64 y.k, .int .i64 y.n, .string y.s]] p.w' fun e w'' => e = .returned (.tuple #[.int .i64 (if canCmp x y then ordVa x y else 0), .bool (decide (canCmp x y))]) ∧ ∃ q : BelowBy w, w'' = q.w' :=
  calls_below ((compareV_any x y _).mono fun _ _ h => ⟨h.2, h.1⟩)
set_option maxRecDepth 100000 in
set_option maxHeartbeats 12800000 in
theorem truth_none {w : World} {A2 : Option Addr} {n2 c2 : Nat} {cols : List Co} {A3 : Option Addr} {n3 c3 : Nat} {r : List Va} {col : ByteArray} {op : Int} {y : Va} (h2 : CoR w A2 n2 cols) (h3 : VaR w A3 n3 r) (hp : placeL cols col = none) :
    Calls Try.prog 9 #[.agg #[.string col, .int .i64 op, .int .i64 y.k, .int .i64 y.n, .string y.s], .slice A2 n2 c2, .slice A3 n3 c3] w fun e w' => e = .returned (.int .i64 (-1)) ∧ Below w.heap.size w w' := by
  obtain ⟨w1, hw1⟩ : ∃ w1, w1 = w.alloc (.cells #[.string col, .int .i64 op, .int .i64 y.k, .int .i64 y.n, .string y.s] 25) := ⟨_, rfl⟩
  have hS : TrS w w1 w.heap.size col op y A2 n2 cols A3 n3 r := by
    have hb1 : Below w.heap.size w w1 := by rw [hw1]; exact (Below.refl _ w).alloc (Nat.le_refl _) _
    exact ⟨hb1, by rw [hw1]; exact Blk.new _ _ _, h2.below hb1, h3.below hb1⟩
  have H1 := Lib.hid hS
  have HW := Lib.hid hw1
  have hm : Try.prog.follows .mixedOrders = true := by kernel_rfl
  clear hw1 hS h2 h3
  have HP := Lib.hid hp
  clear hp
  go_enter Try.func9, Try.ntmps9
  go_upto_region 1 with fail
  rw [← HW.out]
  obtain ⟨z0, z1, z2, z3, z4⟩ := H1.out.cells
  go_wp2_with (go_at_call 14; refine (place_any (c := c2) col H1.out.co).mono ?_; rintro e w2 ⟨rfl, hb⟩; have H2 := Lib.hid (H1.out.below hb); clear z0 z1 z2 z3 z4; obtain ⟨z0, z1, z2, z3, z4⟩ := H2.out.cells; clear hb; rw [HP.out]; simp only [Option.isSome, Option.getD])
  go_ret
  exact ⟨rfl, H2.out.low⟩
set_option maxRecDepth 100000 in
set_option maxHeartbeats 12800000 in
theorem truth_out {w : World} {A2 : Option Addr} {n2 c2 : Nat} {cols : List Co} {A3 : Option Addr} {n3 c3 : Nat} {r : List Va} {col : ByteArray} {op : Int} {y : Va} (h2 : CoR w A2 n2 cols) (h3 : VaR w A3 n3 r) {k : Nat} (hp : placeL cols col = some k) (hk : n3 ≤ k) :
    Calls Try.prog 9 #[.agg #[.string col, .int .i64 op, .int .i64 y.k, .int .i64 y.n, .string y.s], .slice A2 n2 c2, .slice A3 n3 c3] w fun e w' => e = .returned (.int .i64 (-1)) ∧ Below w.heap.size w w' := by
  obtain ⟨w1, hw1⟩ : ∃ w1, w1 = w.alloc (.cells #[.string col, .int .i64 op, .int .i64 y.k, .int .i64 y.n, .string y.s] 25) := ⟨_, rfl⟩
  have hS : TrS w w1 w.heap.size col op y A2 n2 cols A3 n3 r := by
    have hb1 : Below w.heap.size w w1 := by rw [hw1]; exact (Below.refl _ w).alloc (Nat.le_refl _) _
    exact ⟨hb1, by rw [hw1]; exact Blk.new _ _ _, h2.below hb1, h3.below hb1⟩
  have H1 := Lib.hid hS
  have HW := Lib.hid hw1
  have hm : Try.prog.follows .mixedOrders = true := by kernel_rfl
  clear hw1 hS h2 h3
  have HP := Lib.hid hp
  have hge : (n3 : Int) ≤ (k : Int) := by omega
  have hge1 : decide ((n3 : Int) ≤ (k : Int)) = true := decide_eq_true hge
  clear hp
  go_enter Try.func9, Try.ntmps9
  go_upto_region 1 with fail
  rw [← HW.out]
  obtain ⟨z0, z1, z2, z3, z4⟩ := H1.out.cells
  go_wp2_with (go_at_call 14; refine (place_any (c := c2) col H1.out.co).mono ?_; rintro e w2 ⟨rfl, hb⟩; have H2 := Lib.hid (H1.out.below hb); clear z0 z1 z2 z3 z4; obtain ⟨z0, z1, z2, z3, z4⟩ := H2.out.cells; clear hb; rw [HP.out]; simp only [Option.isSome, Option.getD])
  go_ret
  exact ⟨rfl, H2.out.low⟩
set_option maxRecDepth 100000 in
set_option maxHeartbeats 12800000 in
theorem truth_null {w : World} {A2 : Option Addr} {n2 c2 : Nat} {cols : List Co} {A3 : Option Addr} {n3 c3 : Nat} {r : List Va} {col : ByteArray} {y : Va} (h2 : CoR w A2 n2 cols) (h3 : VaR w A3 n3 r) {k : Nat} {v : Va} (hp : placeL cols col = some k) (hk : k < n3) (hv : r[k]? = some v) :
    Calls Try.prog 9 #[.agg #[.string col, .int .i64 5, .int .i64 y.k, .int .i64 y.n, .string y.s], .slice A2 n2 c2, .slice A3 n3 c3] w fun e w' => e = .returned (.int .i64 (numB (nullVa v))) ∧ Below w.heap.size w w' := by
  obtain ⟨w1, hw1⟩ : ∃ w1, w1 = w.alloc (.cells #[.string col, .int .i64 5, .int .i64 y.k, .int .i64 y.n, .string y.s] 25) := ⟨_, rfl⟩
  have hS : TrS w w1 w.heap.size col 5 y A2 n2 cols A3 n3 r := by
    have hb1 : Below w.heap.size w w1 := by rw [hw1]; exact (Below.refl _ w).alloc (Nat.le_refl _) _
    exact ⟨hb1, by rw [hw1]; exact Blk.new _ _ _, h2.below hb1, h3.below hb1⟩
  have H1 := Lib.hid hS
  have HW := Lib.hid hw1
  have hm : Try.prog.follows .mixedOrders = true := by kernel_rfl
  clear hw1 hS h2 h3
  have HP := Lib.hid hp
  have HK := Lib.hid hk
  have hge : ¬ (n3 : Int) ≤ (k : Int) := by omega
  have hge1 : decide ((n3 : Int) ≤ (k : Int)) = false := decide_eq_false hge
  have hk0 : (0 : Int) ≤ (k : Int) := Int.natCast_nonneg _
  have hlt : (k : Int) < (n3 : Int) := by omega
  have hkn : k < r.length := by rw [← H1.out.va.len]; exact hk
  have HV := Lib.hid (show r[k] = v from Option.some.inj ((List.getElem?_eq_getElem hkn).symm.trans hv))
  clear hp hk hv
  go_enter Try.func9, Try.ntmps9
  go_upto_region 1 with fail
  rw [← HW.out]
  obtain ⟨z0, z1, z2, z3, z4⟩ := H1.out.cells
  go_wp2_with (first
    | (go_at_call 14; refine (place_any (c := c2) col H1.out.co).mono ?_; rintro e w2 ⟨rfl, hb⟩; have H2 := Lib.hid (H1.out.below hb); clear z0 z1 z2 z3 z4; obtain ⟨z0, z1, z2, z3, z4⟩ := H2.out.cells; clear hb; rw [HP.out]; simp only [Option.isSome, Option.getD]; obtain ⟨ad, rfl, _, a0, a1, a2⟩ := va_at H2.out.va.row (i := k) (by rw [← H2.out.va.len]; exact HK.out); rw [HV.out] at a0 a1 a2)
    | (go_at_call 17; refine (nullc_any v _).mono ?_; rintro e w3 ⟨rfl, hb3⟩; have H3 := Lib.hid (H2.out.below hb3); clear hb3)
    | (go_at_call 16; refine (truthc_any _ _).mono ?_; rintro e w4 ⟨rfl, hb4⟩; have H4 := Lib.hid (H3.out.below hb4); clear hb4))
  go_ret
  exact ⟨rfl, H4.out.low⟩
set_option maxRecDepth 100000 in
set_option maxHeartbeats 12800000 in
theorem truth_some {w : World} {A2 : Option Addr} {n2 c2 : Nat} {cols : List Co} {A3 : Option Addr} {n3 c3 : Nat} {r : List Va} {col : ByteArray} {y : Va} (h2 : CoR w A2 n2 cols) (h3 : VaR w A3 n3 r) {k : Nat} {v : Va} (hp : placeL cols col = some k) (hk : k < n3) (hv : r[k]? = some v) :
    Calls Try.prog 9 #[.agg #[.string col, .int .i64 6, .int .i64 y.k, .int .i64 y.n, .string y.s], .slice A2 n2 c2, .slice A3 n3 c3] w fun e w' => e = .returned (.int .i64 (numB (!nullVa v))) ∧ Below w.heap.size w w' := by
  obtain ⟨w1, hw1⟩ : ∃ w1, w1 = w.alloc (.cells #[.string col, .int .i64 6, .int .i64 y.k, .int .i64 y.n, .string y.s] 25) := ⟨_, rfl⟩
  have hS : TrS w w1 w.heap.size col 6 y A2 n2 cols A3 n3 r := by
    have hb1 : Below w.heap.size w w1 := by rw [hw1]; exact (Below.refl _ w).alloc (Nat.le_refl _) _
    exact ⟨hb1, by rw [hw1]; exact Blk.new _ _ _, h2.below hb1, h3.below hb1⟩
  have H1 := Lib.hid hS
  have HW := Lib.hid hw1
  have hm : Try.prog.follows .mixedOrders = true := by kernel_rfl
  clear hw1 hS h2 h3
  have HP := Lib.hid hp
  have HK := Lib.hid hk
  have hge : ¬ (n3 : Int) ≤ (k : Int) := by omega
  have hge1 : decide ((n3 : Int) ≤ (k : Int)) = false := decide_eq_false hge
  have hk0 : (0 : Int) ≤ (k : Int) := Int.natCast_nonneg _
  have hlt : (k : Int) < (n3 : Int) := by omega
  have hkn : k < r.length := by rw [← H1.out.va.len]; exact hk
  have HV := Lib.hid (show r[k] = v from Option.some.inj ((List.getElem?_eq_getElem hkn).symm.trans hv))
  clear hp hk hv
  go_enter Try.func9, Try.ntmps9
  go_upto_region 1 with fail
  rw [← HW.out]
  obtain ⟨z0, z1, z2, z3, z4⟩ := H1.out.cells
  go_wp2_with (first
    | (go_at_call 14; refine (place_any (c := c2) col H1.out.co).mono ?_; rintro e w2 ⟨rfl, hb⟩; have H2 := Lib.hid (H1.out.below hb); clear z0 z1 z2 z3 z4; obtain ⟨z0, z1, z2, z3, z4⟩ := H2.out.cells; clear hb; rw [HP.out]; simp only [Option.isSome, Option.getD]; obtain ⟨ad, rfl, _, a0, a1, a2⟩ := va_at H2.out.va.row (i := k) (by rw [← H2.out.va.len]; exact HK.out); rw [HV.out] at a0 a1 a2)
    | (go_at_call 17; refine (nullc_any v _).mono ?_; rintro e w3 ⟨rfl, hb3⟩; have H3 := Lib.hid (H2.out.below hb3); clear hb3)
    | (go_at_call 16; refine (truthc_any _ _).mono ?_; rintro e w4 ⟨rfl, hb4⟩; have H4 := Lib.hid (H3.out.below hb4); clear hb4))
  go_ret
  exact ⟨rfl, H4.out.low⟩
set_option maxRecDepth 100000 in
set_option maxHeartbeats 12800000 in
theorem truth_no {w : World} {A2 : Option Addr} {n2 c2 : Nat} {cols : List Co} {A3 : Option Addr} {n3 c3 : Nat} {r : List Va} {col : ByteArray} {op : Int} {y : Va} (h2 : CoR w A2 n2 cols) (h3 : VaR w A3 n3 r) {k : Nat} {v : Va} (hp : placeL cols col = some k) (hk : k < n3) (hv : r[k]? = some v) (h5 : op ≠ 5) (h6 : op ≠ 6) (hc : ¬ canCmp v y) :
    Calls Try.prog 9 #[.agg #[.string col, .int .i64 op, .int .i64 y.k, .int .i64 y.n, .string y.s], .slice A2 n2 c2, .slice A3 n3 c3] w fun e w' => e = .returned (.int .i64 (-1)) ∧ Below w.heap.size w w' := by
  obtain ⟨w1, hw1⟩ : ∃ w1, w1 = w.alloc (.cells #[.string col, .int .i64 op, .int .i64 y.k, .int .i64 y.n, .string y.s] 25) := ⟨_, rfl⟩
  have hS : TrS w w1 w.heap.size col op y A2 n2 cols A3 n3 r := by
    have hb1 : Below w.heap.size w w1 := by rw [hw1]; exact (Below.refl _ w).alloc (Nat.le_refl _) _
    exact ⟨hb1, by rw [hw1]; exact Blk.new _ _ _, h2.below hb1, h3.below hb1⟩
  have H1 := Lib.hid hS
  have HW := Lib.hid hw1
  have hm : Try.prog.follows .mixedOrders = true := by kernel_rfl
  clear hw1 hS h2 h3
  have HP := Lib.hid hp
  have HK := Lib.hid hk
  have hge : ¬ (n3 : Int) ≤ (k : Int) := by omega
  have hge1 : decide ((n3 : Int) ≤ (k : Int)) = false := decide_eq_false hge
  have hk0 : (0 : Int) ≤ (k : Int) := Int.natCast_nonneg _
  have hlt : (k : Int) < (n3 : Int) := by omega
  have hkn : k < r.length := by rw [← H1.out.va.len]; exact hk
  have HV := Lib.hid (show r[k] = v from Option.some.inj ((List.getElem?_eq_getElem hkn).symm.trans hv))
  have o5 : (op == 5) = false := by simp [h5]
  have o6 : (op == 6) = false := by simp [h6]
  have o5d : decide (op = 5) = false := by simp [h5]
  have o6d : decide (op = 6) = false := by simp [h6]
  have HC := Lib.hid hc
  clear hp hk hv hc h5 h6
  go_enter Try.func9, Try.ntmps9
  go_upto_region 1 with fail
  rw [← HW.out]
  obtain ⟨z0, z1, z2, z3, z4⟩ := H1.out.cells
  go_wp2_with (go_at_call 14; refine (place_any (c := c2) col H1.out.co).mono ?_; rintro e w2 ⟨rfl, hb⟩; have H2 := Lib.hid (H1.out.below hb); clear z0 z1 z2 z3 z4; obtain ⟨z0, z1, z2, z3, z4⟩ := H2.out.cells; clear hb; rw [HP.out]; simp only [Option.isSome, Option.getD]; obtain ⟨ad, rfl, _, a0, a1, a2⟩ := va_at H2.out.va.row (i := k) (by rw [← H2.out.va.len]; exact HK.out); rw [HV.out] at a0 a1 a2)
  have f0 := BelowBy.cell a0
  have f1 := BelowBy.cell a1
  have f2 := BelowBy.cell a2
  have g1 := BelowBy.cell z1
  have g2 := BelowBy.cell z2
  have g3 := BelowBy.cell z3
  have g4 := BelowBy.cell z4
  refine wp_region_below hm (by kernel_rfl) ?_
  repeat (quiet_step ((go_at_call 18; exact cmp_below v y)))
  refine wpQuiet_nil ?_
  intro _ hw'
  obtain ⟨pq, hw''⟩ := hw'
  subst hw''
  have H3 := Lib.hid (H2.out.below pq.h)
  have e1 := g1 pq
  clear f0 f1 f2 g1 g2 g3 g4
  obtain ⟨w5, hw5⟩ : ∃ w5, w5 = pq.w' := ⟨_, rfl⟩
  rw [← hw5] at e1 H3 ⊢
  clear hw5
  rw [if_neg HC.out, decide_eq_false HC.out]
  go_wp2_with fail
  go_ret
  exact ⟨rfl, H3.out.low⟩
set_option maxRecDepth 100000 in
set_option maxHeartbeats 12800000 in
theorem truth_op1 {w : World} {A2 : Option Addr} {n2 c2 : Nat} {cols : List Co} {A3 : Option Addr} {n3 c3 : Nat} {r : List Va} {col : ByteArray} {y : Va} (h2 : CoR w A2 n2 cols) (h3 : VaR w A3 n3 r) {k : Nat} {v : Va} (hp : placeL cols col = some k) (hk : k < n3) (hv : r[k]? = some v) (hc : canCmp v y) :
    Calls Try.prog 9 #[.agg #[.string col, .int .i64 1, .int .i64 y.k, .int .i64 y.n, .string y.s], .slice A2 n2 c2, .slice A3 n3 c3] w fun e w' => e = .returned (.int .i64 (numB (decide (ordVa v y = 0)))) ∧ Below w.heap.size w w' := by
  obtain ⟨w1, hw1⟩ : ∃ w1, w1 = w.alloc (.cells #[.string col, .int .i64 1, .int .i64 y.k, .int .i64 y.n, .string y.s] 25) := ⟨_, rfl⟩
  have hS : TrS w w1 w.heap.size col 1 y A2 n2 cols A3 n3 r := by
    have hb1 : Below w.heap.size w w1 := by rw [hw1]; exact (Below.refl _ w).alloc (Nat.le_refl _) _
    exact ⟨hb1, by rw [hw1]; exact Blk.new _ _ _, h2.below hb1, h3.below hb1⟩
  have H1 := Lib.hid hS
  have HW := Lib.hid hw1
  have hm : Try.prog.follows .mixedOrders = true := by kernel_rfl
  clear hw1 hS h2 h3
  have HP := Lib.hid hp
  have HK := Lib.hid hk
  have hge : ¬ (n3 : Int) ≤ (k : Int) := by omega
  have hge1 : decide ((n3 : Int) ≤ (k : Int)) = false := decide_eq_false hge
  have hk0 : (0 : Int) ≤ (k : Int) := Int.natCast_nonneg _
  have hlt : (k : Int) < (n3 : Int) := by omega
  have hkn : k < r.length := by rw [← H1.out.va.len]; exact hk
  have HV := Lib.hid (show r[k] = v from Option.some.inj ((List.getElem?_eq_getElem hkn).symm.trans hv))
  have HC := Lib.hid hc
  clear hp hk hv hc
  go_enter Try.func9, Try.ntmps9
  go_upto_region 1 with fail
  rw [← HW.out]
  obtain ⟨z0, z1, z2, z3, z4⟩ := H1.out.cells
  go_wp2_with (go_at_call 14; refine (place_any (c := c2) col H1.out.co).mono ?_; rintro e w2 ⟨rfl, hb⟩; have H2 := Lib.hid (H1.out.below hb); clear z0 z1 z2 z3 z4; obtain ⟨z0, z1, z2, z3, z4⟩ := H2.out.cells; clear hb; rw [HP.out]; simp only [Option.isSome, Option.getD]; obtain ⟨ad, rfl, _, a0, a1, a2⟩ := va_at H2.out.va.row (i := k) (by rw [← H2.out.va.len]; exact HK.out); rw [HV.out] at a0 a1 a2)
  have f0 := BelowBy.cell a0
  have f1 := BelowBy.cell a1
  have f2 := BelowBy.cell a2
  have g1 := BelowBy.cell z1
  have g2 := BelowBy.cell z2
  have g3 := BelowBy.cell z3
  have g4 := BelowBy.cell z4
  refine wp_region_below hm (by kernel_rfl) ?_
  repeat (quiet_step ((go_at_call 18; exact cmp_below v y)))
  refine wpQuiet_nil ?_
  intro _ hw'
  obtain ⟨pq, hw''⟩ := hw'
  subst hw''
  have H3 := Lib.hid (H2.out.below pq.h)
  have e1 := g1 pq
  clear f0 f1 f2 g1 g2 g3 g4
  obtain ⟨w5, hw5⟩ : ∃ w5, w5 = pq.w' := ⟨_, rfl⟩
  rw [← hw5] at e1 H3 ⊢
  clear hw5
  rw [if_pos HC.out, decide_eq_true HC.out]
  obtain ⟨x, hx⟩ : ∃ x, x = ordVa v y := ⟨_, rfl⟩
  rw [← hx]
  have HX := Lib.hid hx
  clear hx
  go_wp2_with (go_at_call 16; refine (truthc_any _ _).mono ?_; rintro e w4 ⟨rfl, hb4⟩; have H4 := Lib.hid (H3.out.below hb4); clear hb4)
  go_ret
  exact ⟨by rw [← HX.out]; first | rfl | exact congrArg (fun b => Ending.returned (.int .i64 (numB b))) (show (x != 0) = decide (x ≠ 0) by by_cases h : x = 0 <;> simp [h]), H4.out.low⟩
set_option maxRecDepth 100000 in
set_option maxHeartbeats 12800000 in
theorem truth_op2 {w : World} {A2 : Option Addr} {n2 c2 : Nat} {cols : List Co} {A3 : Option Addr} {n3 c3 : Nat} {r : List Va} {col : ByteArray} {y : Va} (h2 : CoR w A2 n2 cols) (h3 : VaR w A3 n3 r) {k : Nat} {v : Va} (hp : placeL cols col = some k) (hk : k < n3) (hv : r[k]? = some v) (hc : canCmp v y) :
    Calls Try.prog 9 #[.agg #[.string col, .int .i64 2, .int .i64 y.k, .int .i64 y.n, .string y.s], .slice A2 n2 c2, .slice A3 n3 c3] w fun e w' => e = .returned (.int .i64 (numB (decide (ordVa v y ≠ 0)))) ∧ Below w.heap.size w w' := by
  obtain ⟨w1, hw1⟩ : ∃ w1, w1 = w.alloc (.cells #[.string col, .int .i64 2, .int .i64 y.k, .int .i64 y.n, .string y.s] 25) := ⟨_, rfl⟩
  have hS : TrS w w1 w.heap.size col 2 y A2 n2 cols A3 n3 r := by
    have hb1 : Below w.heap.size w w1 := by rw [hw1]; exact (Below.refl _ w).alloc (Nat.le_refl _) _
    exact ⟨hb1, by rw [hw1]; exact Blk.new _ _ _, h2.below hb1, h3.below hb1⟩
  have H1 := Lib.hid hS
  have HW := Lib.hid hw1
  have hm : Try.prog.follows .mixedOrders = true := by kernel_rfl
  clear hw1 hS h2 h3
  have HP := Lib.hid hp
  have HK := Lib.hid hk
  have hge : ¬ (n3 : Int) ≤ (k : Int) := by omega
  have hge1 : decide ((n3 : Int) ≤ (k : Int)) = false := decide_eq_false hge
  have hk0 : (0 : Int) ≤ (k : Int) := Int.natCast_nonneg _
  have hlt : (k : Int) < (n3 : Int) := by omega
  have hkn : k < r.length := by rw [← H1.out.va.len]; exact hk
  have HV := Lib.hid (show r[k] = v from Option.some.inj ((List.getElem?_eq_getElem hkn).symm.trans hv))
  have HC := Lib.hid hc
  clear hp hk hv hc
  go_enter Try.func9, Try.ntmps9
  go_upto_region 1 with fail
  rw [← HW.out]
  obtain ⟨z0, z1, z2, z3, z4⟩ := H1.out.cells
  go_wp2_with (go_at_call 14; refine (place_any (c := c2) col H1.out.co).mono ?_; rintro e w2 ⟨rfl, hb⟩; have H2 := Lib.hid (H1.out.below hb); clear z0 z1 z2 z3 z4; obtain ⟨z0, z1, z2, z3, z4⟩ := H2.out.cells; clear hb; rw [HP.out]; simp only [Option.isSome, Option.getD]; obtain ⟨ad, rfl, _, a0, a1, a2⟩ := va_at H2.out.va.row (i := k) (by rw [← H2.out.va.len]; exact HK.out); rw [HV.out] at a0 a1 a2)
  have f0 := BelowBy.cell a0
  have f1 := BelowBy.cell a1
  have f2 := BelowBy.cell a2
  have g1 := BelowBy.cell z1
  have g2 := BelowBy.cell z2
  have g3 := BelowBy.cell z3
  have g4 := BelowBy.cell z4
  refine wp_region_below hm (by kernel_rfl) ?_
  repeat (quiet_step ((go_at_call 18; exact cmp_below v y)))
  refine wpQuiet_nil ?_
  intro _ hw'
  obtain ⟨pq, hw''⟩ := hw'
  subst hw''
  have H3 := Lib.hid (H2.out.below pq.h)
  have e1 := g1 pq
  clear f0 f1 f2 g1 g2 g3 g4
  obtain ⟨w5, hw5⟩ : ∃ w5, w5 = pq.w' := ⟨_, rfl⟩
  rw [← hw5] at e1 H3 ⊢
  clear hw5
  rw [if_pos HC.out, decide_eq_true HC.out]
  obtain ⟨x, hx⟩ : ∃ x, x = ordVa v y := ⟨_, rfl⟩
  rw [← hx]
  have HX := Lib.hid hx
  clear hx
  go_wp2_with (go_at_call 16; refine (truthc_any _ _).mono ?_; rintro e w4 ⟨rfl, hb4⟩; have H4 := Lib.hid (H3.out.below hb4); clear hb4)
  go_ret
  exact ⟨by rw [← HX.out]; first | rfl | exact congrArg (fun b => Ending.returned (.int .i64 (numB b))) (show (x != 0) = decide (x ≠ 0) by by_cases h : x = 0 <;> simp [h]), H4.out.low⟩
set_option maxRecDepth 100000 in
set_option maxHeartbeats 12800000 in
theorem truth_op3 {w : World} {A2 : Option Addr} {n2 c2 : Nat} {cols : List Co} {A3 : Option Addr} {n3 c3 : Nat} {r : List Va} {col : ByteArray} {y : Va} (h2 : CoR w A2 n2 cols) (h3 : VaR w A3 n3 r) {k : Nat} {v : Va} (hp : placeL cols col = some k) (hk : k < n3) (hv : r[k]? = some v) (hc : canCmp v y) :
    Calls Try.prog 9 #[.agg #[.string col, .int .i64 3, .int .i64 y.k, .int .i64 y.n, .string y.s], .slice A2 n2 c2, .slice A3 n3 c3] w fun e w' => e = .returned (.int .i64 (numB (decide (ordVa v y < 0)))) ∧ Below w.heap.size w w' := by
  obtain ⟨w1, hw1⟩ : ∃ w1, w1 = w.alloc (.cells #[.string col, .int .i64 3, .int .i64 y.k, .int .i64 y.n, .string y.s] 25) := ⟨_, rfl⟩
  have hS : TrS w w1 w.heap.size col 3 y A2 n2 cols A3 n3 r := by
    have hb1 : Below w.heap.size w w1 := by rw [hw1]; exact (Below.refl _ w).alloc (Nat.le_refl _) _
    exact ⟨hb1, by rw [hw1]; exact Blk.new _ _ _, h2.below hb1, h3.below hb1⟩
  have H1 := Lib.hid hS
  have HW := Lib.hid hw1
  have hm : Try.prog.follows .mixedOrders = true := by kernel_rfl
  clear hw1 hS h2 h3
  have HP := Lib.hid hp
  have HK := Lib.hid hk
  have hge : ¬ (n3 : Int) ≤ (k : Int) := by omega
  have hge1 : decide ((n3 : Int) ≤ (k : Int)) = false := decide_eq_false hge
  have hk0 : (0 : Int) ≤ (k : Int) := Int.natCast_nonneg _
  have hlt : (k : Int) < (n3 : Int) := by omega
  have hkn : k < r.length := by rw [← H1.out.va.len]; exact hk
  have HV := Lib.hid (show r[k] = v from Option.some.inj ((List.getElem?_eq_getElem hkn).symm.trans hv))
  have HC := Lib.hid hc
  clear hp hk hv hc
  go_enter Try.func9, Try.ntmps9
  go_upto_region 1 with fail
  rw [← HW.out]
  obtain ⟨z0, z1, z2, z3, z4⟩ := H1.out.cells
  go_wp2_with (go_at_call 14; refine (place_any (c := c2) col H1.out.co).mono ?_; rintro e w2 ⟨rfl, hb⟩; have H2 := Lib.hid (H1.out.below hb); clear z0 z1 z2 z3 z4; obtain ⟨z0, z1, z2, z3, z4⟩ := H2.out.cells; clear hb; rw [HP.out]; simp only [Option.isSome, Option.getD]; obtain ⟨ad, rfl, _, a0, a1, a2⟩ := va_at H2.out.va.row (i := k) (by rw [← H2.out.va.len]; exact HK.out); rw [HV.out] at a0 a1 a2)
  have f0 := BelowBy.cell a0
  have f1 := BelowBy.cell a1
  have f2 := BelowBy.cell a2
  have g1 := BelowBy.cell z1
  have g2 := BelowBy.cell z2
  have g3 := BelowBy.cell z3
  have g4 := BelowBy.cell z4
  refine wp_region_below hm (by kernel_rfl) ?_
  repeat (quiet_step ((go_at_call 18; exact cmp_below v y)))
  refine wpQuiet_nil ?_
  intro _ hw'
  obtain ⟨pq, hw''⟩ := hw'
  subst hw''
  have H3 := Lib.hid (H2.out.below pq.h)
  have e1 := g1 pq
  clear f0 f1 f2 g1 g2 g3 g4
  obtain ⟨w5, hw5⟩ : ∃ w5, w5 = pq.w' := ⟨_, rfl⟩
  rw [← hw5] at e1 H3 ⊢
  clear hw5
  rw [if_pos HC.out, decide_eq_true HC.out]
  obtain ⟨x, hx⟩ : ∃ x, x = ordVa v y := ⟨_, rfl⟩
  rw [← hx]
  have HX := Lib.hid hx
  clear hx
  go_wp2_with (go_at_call 16; refine (truthc_any _ _).mono ?_; rintro e w4 ⟨rfl, hb4⟩; have H4 := Lib.hid (H3.out.below hb4); clear hb4)
  go_ret
  exact ⟨by rw [← HX.out]; first | rfl | exact congrArg (fun b => Ending.returned (.int .i64 (numB b))) (show (x != 0) = decide (x ≠ 0) by by_cases h : x = 0 <;> simp [h]), H4.out.low⟩
set_option maxRecDepth 100000 in
set_option maxHeartbeats 12800000 in
theorem truth_op4 {w : World} {A2 : Option Addr} {n2 c2 : Nat} {cols : List Co} {A3 : Option Addr} {n3 c3 : Nat} {r : List Va} {col : ByteArray} {y : Va} (h2 : CoR w A2 n2 cols) (h3 : VaR w A3 n3 r) {k : Nat} {v : Va} (hp : placeL cols col = some k) (hk : k < n3) (hv : r[k]? = some v) (hc : canCmp v y) :
    Calls Try.prog 9 #[.agg #[.string col, .int .i64 4, .int .i64 y.k, .int .i64 y.n, .string y.s], .slice A2 n2 c2, .slice A3 n3 c3] w fun e w' => e = .returned (.int .i64 (numB (decide (0 < ordVa v y)))) ∧ Below w.heap.size w w' := by
  obtain ⟨w1, hw1⟩ : ∃ w1, w1 = w.alloc (.cells #[.string col, .int .i64 4, .int .i64 y.k, .int .i64 y.n, .string y.s] 25) := ⟨_, rfl⟩
  have hS : TrS w w1 w.heap.size col 4 y A2 n2 cols A3 n3 r := by
    have hb1 : Below w.heap.size w w1 := by rw [hw1]; exact (Below.refl _ w).alloc (Nat.le_refl _) _
    exact ⟨hb1, by rw [hw1]; exact Blk.new _ _ _, h2.below hb1, h3.below hb1⟩
  have H1 := Lib.hid hS
  have HW := Lib.hid hw1
  have hm : Try.prog.follows .mixedOrders = true := by kernel_rfl
  clear hw1 hS h2 h3
  have HP := Lib.hid hp
  have HK := Lib.hid hk
  have hge : ¬ (n3 : Int) ≤ (k : Int) := by omega
  have hge1 : decide ((n3 : Int) ≤ (k : Int)) = false := decide_eq_false hge
  have hk0 : (0 : Int) ≤ (k : Int) := Int.natCast_nonneg _
  have hlt : (k : Int) < (n3 : Int) := by omega
  have hkn : k < r.length := by rw [← H1.out.va.len]; exact hk
  have HV := Lib.hid (show r[k] = v from Option.some.inj ((List.getElem?_eq_getElem hkn).symm.trans hv))
  have HC := Lib.hid hc
  clear hp hk hv hc
  go_enter Try.func9, Try.ntmps9
  go_upto_region 1 with fail
  rw [← HW.out]
  obtain ⟨z0, z1, z2, z3, z4⟩ := H1.out.cells
  go_wp2_with (go_at_call 14; refine (place_any (c := c2) col H1.out.co).mono ?_; rintro e w2 ⟨rfl, hb⟩; have H2 := Lib.hid (H1.out.below hb); clear z0 z1 z2 z3 z4; obtain ⟨z0, z1, z2, z3, z4⟩ := H2.out.cells; clear hb; rw [HP.out]; simp only [Option.isSome, Option.getD]; obtain ⟨ad, rfl, _, a0, a1, a2⟩ := va_at H2.out.va.row (i := k) (by rw [← H2.out.va.len]; exact HK.out); rw [HV.out] at a0 a1 a2)
  have f0 := BelowBy.cell a0
  have f1 := BelowBy.cell a1
  have f2 := BelowBy.cell a2
  have g1 := BelowBy.cell z1
  have g2 := BelowBy.cell z2
  have g3 := BelowBy.cell z3
  have g4 := BelowBy.cell z4
  refine wp_region_below hm (by kernel_rfl) ?_
  repeat (quiet_step ((go_at_call 18; exact cmp_below v y)))
  refine wpQuiet_nil ?_
  intro _ hw'
  obtain ⟨pq, hw''⟩ := hw'
  subst hw''
  have H3 := Lib.hid (H2.out.below pq.h)
  have e1 := g1 pq
  clear f0 f1 f2 g1 g2 g3 g4
  obtain ⟨w5, hw5⟩ : ∃ w5, w5 = pq.w' := ⟨_, rfl⟩
  rw [← hw5] at e1 H3 ⊢
  clear hw5
  rw [if_pos HC.out, decide_eq_true HC.out]
  obtain ⟨x, hx⟩ : ∃ x, x = ordVa v y := ⟨_, rfl⟩
  rw [← hx]
  have HX := Lib.hid hx
  clear hx
  go_wp2_with (go_at_call 16; refine (truthc_any _ _).mono ?_; rintro e w4 ⟨rfl, hb4⟩; have H4 := Lib.hid (H3.out.below hb4); clear hb4)
  go_ret
  exact ⟨by rw [← HX.out]; first | rfl | exact congrArg (fun b => Ending.returned (.int .i64 (numB b))) (show (x != 0) = decide (x ≠ 0) by by_cases h : x = 0 <;> simp [h]), H4.out.low⟩
set_option maxRecDepth 100000 in
set_option maxHeartbeats 12800000 in
theorem truth_other {w : World} {A2 : Option Addr} {n2 c2 : Nat} {cols : List Co} {A3 : Option Addr} {n3 c3 : Nat} {r : List Va} {col : ByteArray} {op : Int} {y : Va} (h2 : CoR w A2 n2 cols) (h3 : VaR w A3 n3 r) {k : Nat} {v : Va} (hp : placeL cols col = some k) (hk : k < n3) (hv : r[k]? = some v) (h5 : op ≠ 5) (h6 : op ≠ 6) (h1 : op ≠ 1) (h2' : op ≠ 2) (h3' : op ≠ 3) (h4 : op ≠ 4) (hc : canCmp v y) :
    Calls Try.prog 9 #[.agg #[.string col, .int .i64 op, .int .i64 y.k, .int .i64 y.n, .string y.s], .slice A2 n2 c2, .slice A3 n3 c3] w fun e w' => e = .returned (.int .i64 (-1)) ∧ Below w.heap.size w w' := by
  obtain ⟨w1, hw1⟩ : ∃ w1, w1 = w.alloc (.cells #[.string col, .int .i64 op, .int .i64 y.k, .int .i64 y.n, .string y.s] 25) := ⟨_, rfl⟩
  have hS : TrS w w1 w.heap.size col op y A2 n2 cols A3 n3 r := by
    have hb1 : Below w.heap.size w w1 := by rw [hw1]; exact (Below.refl _ w).alloc (Nat.le_refl _) _
    exact ⟨hb1, by rw [hw1]; exact Blk.new _ _ _, h2.below hb1, h3.below hb1⟩
  have H1 := Lib.hid hS
  have HW := Lib.hid hw1
  have hm : Try.prog.follows .mixedOrders = true := by kernel_rfl
  clear hw1 hS h2 h3
  have HP := Lib.hid hp
  have HK := Lib.hid hk
  have hge : ¬ (n3 : Int) ≤ (k : Int) := by omega
  have hge1 : decide ((n3 : Int) ≤ (k : Int)) = false := decide_eq_false hge
  have hk0 : (0 : Int) ≤ (k : Int) := Int.natCast_nonneg _
  have hlt : (k : Int) < (n3 : Int) := by omega
  have hkn : k < r.length := by rw [← H1.out.va.len]; exact hk
  have HV := Lib.hid (show r[k] = v from Option.some.inj ((List.getElem?_eq_getElem hkn).symm.trans hv))
  have o5 : (op == 5) = false := by simp [h5]
  have o6 : (op == 6) = false := by simp [h6]
  have o5d : decide (op = 5) = false := by simp [h5]
  have o6d : decide (op = 6) = false := by simp [h6]
  have o1 : (op == 1) = false := by simp [h1]
  have o1d : decide (op = 1) = false := by simp [h1]
  have o2 : (op == 2) = false := by simp [h2']
  have o2d : decide (op = 2) = false := by simp [h2']
  have o3 : (op == 3) = false := by simp [h3']
  have o3d : decide (op = 3) = false := by simp [h3']
  have o4 : (op == 4) = false := by simp [h4]
  have o4d : decide (op = 4) = false := by simp [h4]
  have HC := Lib.hid hc
  clear hp hk hv hc h5 h6 h1 h2' h3' h4
  go_enter Try.func9, Try.ntmps9
  go_upto_region 1 with fail
  rw [← HW.out]
  obtain ⟨z0, z1, z2, z3, z4⟩ := H1.out.cells
  go_wp2_with (go_at_call 14; refine (place_any (c := c2) col H1.out.co).mono ?_; rintro e w2 ⟨rfl, hb⟩; have H2 := Lib.hid (H1.out.below hb); clear z0 z1 z2 z3 z4; obtain ⟨z0, z1, z2, z3, z4⟩ := H2.out.cells; clear hb; rw [HP.out]; simp only [Option.isSome, Option.getD]; obtain ⟨ad, rfl, _, a0, a1, a2⟩ := va_at H2.out.va.row (i := k) (by rw [← H2.out.va.len]; exact HK.out); rw [HV.out] at a0 a1 a2)
  have f0 := BelowBy.cell a0
  have f1 := BelowBy.cell a1
  have f2 := BelowBy.cell a2
  have g1 := BelowBy.cell z1
  have g2 := BelowBy.cell z2
  have g3 := BelowBy.cell z3
  have g4 := BelowBy.cell z4
  refine wp_region_below hm (by kernel_rfl) ?_
  repeat (quiet_step ((go_at_call 18; exact cmp_below v y)))
  refine wpQuiet_nil ?_
  intro _ hw'
  obtain ⟨pq, hw''⟩ := hw'
  subst hw''
  have H3 := Lib.hid (H2.out.below pq.h)
  have e1 := g1 pq
  clear f0 f1 f2 g1 g2 g3 g4
  obtain ⟨w5, hw5⟩ : ∃ w5, w5 = pq.w' := ⟨_, rfl⟩
  rw [← hw5] at e1 H3 ⊢
  clear hw5
  rw [if_pos HC.out, decide_eq_true HC.out]
  go_wp2_with fail
  go_ret
  exact ⟨rfl, H3.out.low⟩
theorem truthL_any {w : World} {A2 : Option Addr} {n2 c2 : Nat} {cols : List Co} {A3 : Option Addr} {n3 c3 : Nat} {r : List Va} (c : Cd) (h2 : CoR w A2 n2 cols) (h3 : VaR w A3 n3 r) :
    Calls Try.prog 9 #[cdV c, .slice A2 n2 c2, .slice A3 n3 c3] w fun e w' => e = .returned (.int .i64 (truthL c cols r)) ∧ Below w.heap.size w w' := by
  obtain ⟨col, op, y⟩ := c
  unfold truthL
  simp only
  cases hp : placeL cols col with
  | none => exact truth_none h2 h3 hp
  | some k =>
    simp only
    by_cases hk : k < n3
    · have hkl : k < r.length := by rw [← h3.len]; exact hk
      obtain ⟨v, hv⟩ : ∃ v, r[k]? = some v := ⟨_, List.getElem?_eq_getElem hkl⟩
      rw [hv]
      simp only
      unfold truthV
      simp only
      by_cases h5 : op = 5
      · subst h5; exact truth_null h2 h3 hp hk hv
      · rw [if_neg h5]
        by_cases h6 : op = 6
        · subst h6; exact truth_some h2 h3 hp hk hv
        · rw [if_neg h6]
          by_cases hc : canCmp v y
          · rw [if_pos hc]
            by_cases h1 : op = 1
            · subst h1; exact truth_op1 h2 h3 hp hk hv hc
            · rw [if_neg h1]
              by_cases h2' : op = 2
              · subst h2'; exact truth_op2 h2 h3 hp hk hv hc
              · rw [if_neg h2']
                by_cases h3' : op = 3
                · subst h3'; exact truth_op3 h2 h3 hp hk hv hc
                · rw [if_neg h3']
                  by_cases h4 : op = 4
                  · subst h4; exact truth_op4 h2 h3 hp hk hv hc
                  · rw [if_neg h4]
                    exact truth_other h2 h3 hp hk hv h5 h6 h1 h2' h3' h4 hc
          · rw [if_neg hc]; exact truth_no h2 h3 hp hk hv h5 h6 hc
    · rw [List.getElem?_eq_none (by rw [← h3.len]; omega)]
      exact truth_out h2 h3 hp (by omega)
end Go.Proofs.Ythpchenmfenjmaa
