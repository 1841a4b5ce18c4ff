/-
  The program's Right.
-/
import Derived.Test.YthpchenmfenjmaaPrC
namespace Go.Proofs.Ythpchenmfenjmaa
open Go.RowKit Go.Lib Go.Shelf

def knB (x : Int) : Bool := decide (1 ≤ x) && decide (x ≤ 6)
def alB (x : Int) : Bool := decide (x = 5) || decide (x = 6)
set_option maxRecDepth 100000 in
set_option maxHeartbeats 3200000 in
theorem known_any (x : Int) (w : World) : Calls Try.prog 32 #[.int .i64 x] w fun e w' => e = .returned (.bool (knB x)) ∧ Below w.heap.size w w' := by
  by_cases h1 : 1 ≤ x
  · have e1 : decide (1 ≤ x) = true := decide_eq_true h1
    have e : knB x = decide (x ≤ 6) := by unfold knB; rw [e1]; rfl
    rw [e]
    go_enter Try.func32, Try.ntmps32
    go_wp2_with fail
    go_ret
    exact ⟨rfl, Below.refl _ w⟩
  · have e1 : decide (1 ≤ x) = false := decide_eq_false h1
    have e : knB x = false := by unfold knB; rw [e1]; rfl
    rw [e]
    go_enter Try.func32, Try.ntmps32
    go_wp2_with fail
    go_ret
    exact ⟨rfl, Below.refl _ w⟩
set_option maxRecDepth 100000 in
set_option maxHeartbeats 3200000 in
theorem alone_any (x : Int) (w : World) : Calls Try.prog 33 #[.int .i64 x] w fun e w' => e = .returned (.bool (alB x)) ∧ Below w.heap.size w w' := by
  by_cases h1 : x = 5
  · subst h1
    go_enter Try.func33, Try.ntmps33
    go_wp2_with fail
    go_ret
    exact ⟨rfl, Below.refl _ w⟩
  · have e1 : (x == 5) = false := by simp [h1]
    have e : alB x = (x == 6) := by unfold alB; rw [decide_eq_false h1]; rfl
    rw [e]
    clear e
    go_enter Try.func33, Try.ntmps33
    go_wp2_with fail
    go_ret
    exact ⟨rfl, Below.refl _ w⟩
/-- does a value come into a column of that kind that need not be filled -/
def fitI (v : Va) (k : Int) : Int := if rightVa v = false then 10 else if nullVa v = true then 0 else if v.k ≠ k then 14 else 0
theorem nullv_below {w : World} {p : BelowBy w} : Calls Try.prog 29 #[] p.w' fun e w'' => e = .returned (.agg #[.int .i64 0, .int .i64 0, .string ⟨#[]⟩]) ∧ ∃ q : BelowBy w, w'' = q.w' :=
  calls_below ((null_any _).mono fun _ _ h => h.below)
set_option maxRecDepth 100000 in
set_option maxHeartbeats 6400000 in
theorem fits_any (v : Va) (k : Int) (w : World) : Calls Try.prog 34 #[.agg #[.int .i64 v.k, .int .i64 v.n, .string v.s], .agg #[.string ⟨#[]⟩, .int .i64 k, .bool false]] w fun e w' => e = .returned (.int .i64 (fitI v k)) ∧ Below w.heap.size w w' := by
  have hm : Try.prog.follows .mixedOrders = true := by kernel_rfl
  have heq := eqVal
  obtain ⟨w1, hw1⟩ : ∃ w1, w1 = (w.alloc (.cells #[.int .i64 v.k, .int .i64 v.n, .string v.s] 23)).alloc (.cells #[.string ⟨#[]⟩, .int .i64 k, .bool false] 39) := ⟨_, rfl⟩
  have hb0 : Below w.heap.size w (w.alloc (.cells #[.int .i64 v.k, .int .i64 v.n, .string v.s] 23)) := (Below.refl _ w).alloc (Nat.le_refl _) _
  have hb1 : Below w.heap.size w w1 := by rw [hw1]; exact hb0.alloc hb0.size _
  have q1 : Blk w1 w.heap.size 23 #[.int .i64 v.k, .int .i64 v.n, .string v.s] := by rw [hw1]; exact (Blk.new _ _ _).alloc _
  have q2 : Blk w1 (w.heap.size + 1) 39 #[.string ⟨#[]⟩, .int .i64 k, .bool false] := by
    have h := Blk.new (w.alloc (.cells #[.int .i64 v.k, .int .i64 v.n, .string v.s] 23)) 39 #[.string ⟨#[]⟩, .int .i64 k, .bool false]
    rw [show (w.alloc (.cells #[.int .i64 v.k, .int .i64 v.n, .string v.s] 23)).heap.size = w.heap.size + 1 by simp] at h
    rw [hw1]
    exact h
  have z0 : w1.cell? ⟨w.heap.size, 0, none⟩ = some (.int .i64 v.k) := q1.cell 0
  have z1 : w1.cell? ⟨w.heap.size, 1, none⟩ = some (.int .i64 v.n) := q1.cell 1
  have z2 : w1.cell? ⟨w.heap.size, 2, none⟩ = some (.string v.s) := q1.cell 2
  have HB := Lib.hid hb1
  have HW := Lib.hid hw1
  have HQ := Lib.hid (And.intro q1 q2)
  clear hw1 hb1 hb0 q1 q2
  have hr0 := fun W => right_any v.k v.n v.s W
  have HR := Lib.hid hr0
  clear hr0
  cases hr : rightVa v with
  | false =>
    have HR2 := Lib.hid (show rightV v.k v.n v.s = false from hr)
    have e : fitI v k = 10 := by unfold fitI; rw [if_pos hr]
    rw [e]
    clear e hr
    go_enter Try.func34, Try.ntmps34
    go_upto_region 1 with fail
    rw [← HW.out]
    go_wp2_with (go_at_call 28; refine (HR.out _).mono ?_; rintro e w2 ⟨rfl, hb⟩; rw [HR2.out])
    go_ret
    exact ⟨rfl, HB.out.trans (hb.mono HB.out.size)⟩
  | true =>
    have HR2 := Lib.hid (show rightV v.k v.n v.s = true from hr)
    cases hn : nullVa v with
    | true =>
      have e : fitI v k = 0 := by unfold fitI; rw [if_neg (by rw [hr]; decide), if_pos hn]
      rw [e]
      have hz : v.k = 0 ∧ v.n = 0 ∧ v.s = ⟨#[]⟩ := by simpa [nullVa] using hn
      have d1 : (decide (v.k = 0) && (decide (v.n = 0) && decide (v.s = ⟨#[]⟩))) = true := hn
      clear e hr hn hz
      go_enter Try.func34, Try.ntmps34
      go_upto_region 1 with fail
      rw [← HW.out]
      go_wp2_with (go_at_call 28; refine (HR.out _).mono ?_; rintro e w2 ⟨rfl, hb⟩; rw [HR2.out]; have p1 := HQ.out.1.below hb HQ.out.1.lt; have p2 := HQ.out.2.below hb HQ.out.2.lt; have y0 : w2.cell? ⟨w.heap.size, 0, none⟩ = some (.int .i64 v.k) := p1.cell 0; have y1 : w2.cell? ⟨w.heap.size, 1, none⟩ = some (.int .i64 v.n) := p1.cell 1; have y2 : w2.cell? ⟨w.heap.size, 2, none⟩ = some (.string v.s) := p1.cell 2; have HQ2 := Lib.hid (And.intro p1 p2); have HB2 := Lib.hid (HB.out.trans (hb.mono HB.out.size)); clear z0 z1 z2 p1 p2 hb)
      have f0 := BelowBy.cell y0
      have f1 := BelowBy.cell y1
      have f2 := BelowBy.cell y2
      refine wp_region_below hm (by kernel_rfl) ?_
      repeat (quiet_step ((go_at_call 29; exact nullv_below)))
      refine wpQuiet_nil ?_
      intro _ hw'
      obtain ⟨pq, hw''⟩ := hw'
      subst hw''
      have HB3 := Lib.hid (HB2.out.trans (pq.h.mono HB2.out.size))
      have x2 : pq.w'.cell? ⟨w.heap.size + 1, 2, none⟩ = some (.bool false) := (HQ2.out.2.below pq.h HQ2.out.2.lt).cell 2
      clear f0 f1 f2
      obtain ⟨w5, hw5⟩ : ∃ w5, w5 = pq.w' := ⟨_, rfl⟩
      rw [← hw5] at x2 HB3 ⊢
      clear hw5
      go_wp2_with fail
      go_ret
      exact ⟨rfl, HB3.out⟩
    | false =>
      have d1 : (decide (v.k = 0) && (decide (v.n = 0) && decide (v.s = ⟨#[]⟩))) = false := hn
      have e : fitI v k = if v.k ≠ k then 14 else 0 := by unfold fitI; rw [if_neg (by rw [hr]; decide), if_neg (by rw [hn]; decide)]
      rw [e]
      clear e hr hn
      by_cases hk : v.k = k
      · rw [if_neg (by simp [hk])]
        have k1 : (v.k != k) = false := by simp [hk]
        clear hk
        go_enter Try.func34, Try.ntmps34
        go_upto_region 1 with fail
        rw [← HW.out]
        go_wp2_with (go_at_call 28; refine (HR.out _).mono ?_; rintro e w2 ⟨rfl, hb⟩; rw [HR2.out]; have p1 := HQ.out.1.below hb HQ.out.1.lt; have p2 := HQ.out.2.below hb HQ.out.2.lt; have y0 : w2.cell? ⟨w.heap.size, 0, none⟩ = some (.int .i64 v.k) := p1.cell 0; have y1 : w2.cell? ⟨w.heap.size, 1, none⟩ = some (.int .i64 v.n) := p1.cell 1; have y2 : w2.cell? ⟨w.heap.size, 2, none⟩ = some (.string v.s) := p1.cell 2; have HQ2 := Lib.hid (And.intro p1 p2); have HB2 := Lib.hid (HB.out.trans (hb.mono HB.out.size)); clear z0 z1 z2 p1 p2 hb)
        have f0 := BelowBy.cell y0
        have f1 := BelowBy.cell y1
        have f2 := BelowBy.cell y2
        refine wp_region_below hm (by kernel_rfl) ?_
        repeat (quiet_step ((go_at_call 29; exact nullv_below)))
        refine wpQuiet_nil ?_
        intro _ hw'
        obtain ⟨pq, hw''⟩ := hw'
        subst hw''
        have HB3 := Lib.hid (HB2.out.trans (pq.h.mono HB2.out.size))
        have x0 : pq.w'.cell? ⟨w.heap.size, 0, none⟩ = some (.int .i64 v.k) := f0 pq
        have x1 : pq.w'.cell? ⟨w.heap.size + 1, 1, none⟩ = some (.int .i64 k) := (HQ2.out.2.below pq.h HQ2.out.2.lt).cell 1
        clear f0 f1 f2
        obtain ⟨w5, hw5⟩ : ∃ w5, w5 = pq.w' := ⟨_, rfl⟩
        rw [← hw5] at x0 x1 HB3 ⊢
        clear hw5
        go_wp2_with fail
        go_ret
        exact ⟨rfl, HB3.out⟩
      · rw [if_pos hk]
        have k1 : (v.k != k) = true := by simp [hk]
        clear hk
        go_enter Try.func34, Try.ntmps34
        go_upto_region 1 with fail
        rw [← HW.out]
        go_wp2_with (go_at_call 28; refine (HR.out _).mono ?_; rintro e w2 ⟨rfl, hb⟩; rw [HR2.out]; have p1 := HQ.out.1.below hb HQ.out.1.lt; have p2 := HQ.out.2.below hb HQ.out.2.lt; have y0 : w2.cell? ⟨w.heap.size, 0, none⟩ = some (.int .i64 v.k) := p1.cell 0; have y1 : w2.cell? ⟨w.heap.size, 1, none⟩ = some (.int .i64 v.n) := p1.cell 1; have y2 : w2.cell? ⟨w.heap.size, 2, none⟩ = some (.string v.s) := p1.cell 2; have HQ2 := Lib.hid (And.intro p1 p2); have HB2 := Lib.hid (HB.out.trans (hb.mono HB.out.size)); clear z0 z1 z2 p1 p2 hb)
        have f0 := BelowBy.cell y0
        have f1 := BelowBy.cell y1
        have f2 := BelowBy.cell y2
        refine wp_region_below hm (by kernel_rfl) ?_
        repeat (quiet_step ((go_at_call 29; exact nullv_below)))
        refine wpQuiet_nil ?_
        intro _ hw'
        obtain ⟨pq, hw''⟩ := hw'
        subst hw''
        have HB3 := Lib.hid (HB2.out.trans (pq.h.mono HB2.out.size))
        have x0 : pq.w'.cell? ⟨w.heap.size, 0, none⟩ = some (.int .i64 v.k) := f0 pq
        have x1 : pq.w'.cell? ⟨w.heap.size + 1, 1, none⟩ = some (.int .i64 k) := (HQ2.out.2.below pq.h HQ2.out.2.lt).cell 1
        clear f0 f1 f2
        obtain ⟨w5, hw5⟩ : ∃ w5, w5 = pq.w' := ⟨_, rfl⟩
        rw [← hw5] at x0 x1 HB3 ⊢
        clear hw5
        go_wp2_with fail
        go_ret
        exact ⟨rfl, HB3.out⟩
end Go.Proofs.Ythpchenmfenjmaa
