/-
  Values; Compare.
-/
import Derived.Test.YthpchenmfenjmaaOrd
namespace Go.Proofs.Ythpchenmfenjmaa
open Go.RowKit Go.Lib

structure Va where
  k : Int
  n : Int
  s : ByteArray
deriving DecidableEq
def vcell (x : Va) : List Value := [.int .i64 x.k, .int .i64 x.n, .string x.s]
def rightVa (x : Va) : Bool := rightV x.k x.n x.s
def ordVa (a b : Va) : Int := ordV a.k a.n a.s b.k b.n b.s
def canCmp (x y : Va) : Prop := rightVa x = true ∧ rightVa y = true ∧ x.k = y.k ∧ x.k ≠ 0
instance (x y : Va) : Decidable (canCmp x y) := by unfold canCmp; infer_instance
/-- what Compare hands back -/
def CmpRet (x y : Va) (w : World) (e : Ending) (w' : World) : Prop :=
  Below w.heap.size w w' ∧ e = .returned (.tuple #[.int .i64 (if canCmp x y then ordVa x y else 0), .bool (decide (canCmp x y))])
theorem CmpRet.no {x y : Va} {w w' : World} (h : ¬ canCmp x y) (hb : Below w.heap.size w w') : CmpRet x y w (.returned (.tuple #[.int .i64 0, .bool false])) w' := ⟨hb, by rw [if_neg h, decide_eq_false h]⟩
theorem CmpRet.yes {x y : Va} {w w' : World} (h : canCmp x y) (hb : Below w.heap.size w w') : CmpRet x y w (.returned (.tuple #[.int .i64 (ordVa x y), .bool true])) w' := ⟨hb, by rw [if_pos h, decide_eq_true h]⟩
/-- a world in which all that lay in w is as it was -/
structure BelowBy (w : World) where
  w' : World
  h : Below w.heap.size w w'
instance (w : World) : Inhabited (BelowBy w) := ⟨⟨w, Below.refl _ _⟩⟩
theorem wp_region_below {P : Program} {id : Nat} {Q : Exit → Act → World → Prop} {a : Act} {w : World} {l : List Oper} (hm : P.follows .mixedOrders = true) (hB : Region.lexB .any l.toArray = true)
    (h : wpQuiet P l.toArray (fun w' => ∃ p : BelowBy w, w' = p.w') (fun a' => ∀ w', (∃ p : BelowBy w, w' = p.w') → Q .normal a' w') l a) : (Code.region id l.toArray true).wp P Q a w :=
  wp_region_quiet (C := fun w' => ∃ p : BelowBy w, w' = p.w') hm hB ⟨⟨w.drew, (Below.refl _ _).drew⟩, rfl⟩ (by simpa using h)
theorem calls_below {P : Program} {f : FuncId} {args : Array Value} {w : World} {p : BelowBy w} {v : Value} (h : Calls P f args p.w' fun e w' => e = .returned v ∧ Below p.w'.heap.size p.w' w') :
    Calls P f args p.w' fun e w'' => e = .returned v ∧ ∃ q : BelowBy w, w'' = q.w' :=
  h.mono fun _ w' ⟨he, hb⟩ => ⟨he, ⟨w', p.h.trans (hb.mono p.h.size)⟩, rfl⟩
theorem BelowBy.cell {w : World} {a : Addr} {v : Value} (h : w.cell? a = some v) (p : BelowBy w) : p.w'.cell? a = some v := (p.h.cell (World.block_lt_of_cell? _ _ h)).trans h
theorem BelowBy.vs {w w0 : World} {b : Nat} {k n : Int} {s : ByteArray} (h : VS w0 b k n s w) (p : BelowBy w) : VS w0 b k n s p.w' := h.below p.h

theorem ValRet.below {w : World} {k n : Int} {s : ByteArray} {e : Ending} {w' : World} (h : ValRet w k n s e w') : e = .returned (.agg #[.int .i64 k, .int .i64 n, .string s]) ∧ Below w.heap.size w w' :=
  ⟨h.1, by rw [h.2]; exact (Below.refl _ w).alloc (Nat.le_refl _) _⟩

set_option maxHeartbeats 6400000 in
theorem compareV_any (x y : Va) (w : World) :
    Calls Try.prog 18 #[.agg #[.int .i64 x.k, .int .i64 x.n, .string x.s], .agg #[.int .i64 y.k, .int .i64 y.n, .string y.s]] w (CmpRet x y w) := by
  obtain ⟨k, n, s⟩ := x
  obtain ⟨k', n', s'⟩ := y
  simp only
  have heq := eqVal
  have hm : Try.prog.follows .mixedOrders = true := by kernel_rfl
  obtain ⟨w2, hw2, hc, hd, hb⟩ := two_boxed w k n s k' n' s'
  have HW := Lib.hid hw2
  have HV := Lib.hid (And.intro (show VS w w.heap.size k n s w2 from ⟨hc.1, hc.2.1, hc.2.2, hb⟩) (show VS w (w.heap.size + 1) k' n' s' w2 from ⟨hd.1, hd.2.1, hd.2.2, hb⟩))
  have c0 := BelowBy.cell hc.1
  have c1 := BelowBy.cell hc.2.1
  have c2 := BelowBy.cell hc.2.2
  have d0 := BelowBy.cell hd.1
  have d1 := BelowBy.cell hd.2.1
  have d2 := BelowBy.cell hd.2.2
  clear hw2 hc hd hb
  cases hr : rightV k n s with
  | false =>
    have HR := Lib.hid (show ¬ canCmp ⟨k, n, s⟩ ⟨k', n', s'⟩ by rintro ⟨h, _⟩; unfold rightVa at h; rw [hr] at h; cases h)
    go_enter Try.func18, Try.ntmps18
    go_wp2_with fail
    rw [← HW.out]
    refine wp_region_below hm (by kernel_rfl) ?_
    repeat (quiet_step (first | (go_at_call 28; exact calls_below (right_any _ _ _ _)) | (go_at_call 29; exact calls_below ((null_any _).mono fun _ _ h => h.below))))
    refine wpQuiet_nil ?_
    intro _ hw'
    obtain ⟨pq, hw''⟩ := hw'
    subst hw''
    go_wp2
    refine bodyPost_ret (results_tmp2 rfl _ _ _) rfl ?_
    exact CmpRet.no HR.out (HV.out.1.2.2.2.trans (pq.h.mono HV.out.1.2.2.2.size))
  | true =>
    cases hr' : rightV k' n' s' with
    | false =>
      have HR := Lib.hid (show ¬ canCmp ⟨k, n, s⟩ ⟨k', n', s'⟩ by rintro ⟨_, h, _⟩; unfold rightVa at h; rw [hr'] at h; cases h)
      go_enter Try.func18, Try.ntmps18
      go_wp2_with fail
      rw [← HW.out]
      refine wp_region_below hm (by kernel_rfl) ?_
      repeat (quiet_step (first | (go_at_call 28; exact calls_below (right_any _ _ _ _)) | (go_at_call 29; exact calls_below ((null_any _).mono fun _ _ h => h.below))))
      refine wpQuiet_nil ?_
      intro _ hw'
      obtain ⟨pq, hw''⟩ := hw'
      subst hw''
      go_wp2
      refine bodyPost_ret (results_tmp2 rfl _ _ _) rfl ?_
      exact CmpRet.no HR.out (HV.out.1.2.2.2.trans (pq.h.mono HV.out.1.2.2.2.size))
    | true =>
      by_cases hk : k = k'
      · subst hk
        have e1 : (k != k) = false := by simp
        by_cases hk0 : k = 0
        · have HR := Lib.hid (show ¬ canCmp ⟨k, n, s⟩ ⟨k, n', s'⟩ from fun h => h.2.2.2 hk0)
          have hz : n = 0 ∧ s = ⟨#[]⟩ := by unfold rightV at hr; rw [if_pos hk0] at hr; simpa using hr
          obtain ⟨rfl, rfl⟩ := hz
          subst hk0
          go_enter Try.func18, Try.ntmps18
          go_wp2_with fail
          rw [← HW.out]
          refine wp_region_below hm (by kernel_rfl) ?_
          repeat (quiet_step (first | (go_at_call 28; exact calls_below (right_any _ _ _ _)) | (go_at_call 29; exact calls_below ((null_any _).mono fun _ _ h => h.below))))
          refine wpQuiet_nil ?_
          intro _ hw'
          obtain ⟨pq, hw''⟩ := hw'
          subst hw''
          go_wp2
          refine bodyPost_ret (results_tmp2 rfl _ _ _) rfl ?_
          exact CmpRet.no HR.out (HV.out.1.2.2.2.trans (pq.h.mono HV.out.1.2.2.2.size))
        · have e2 : decide (k = 0) = false := by simp [hk0]
          have HR := Lib.hid (show canCmp ⟨k, n, s⟩ ⟨k, n', s'⟩ from ⟨hr, hr', rfl, hk0⟩)
          clear hk0
          go_enter Try.func18, Try.ntmps18
          go_wp2_with fail
          rw [← HW.out]
          refine wp_region_below hm (by kernel_rfl) ?_
          repeat (quiet_step (first | (go_at_call 28; exact calls_below (right_any _ _ _ _)) | (go_at_call 29; exact calls_below ((null_any _).mono fun _ _ h => h.below))))
          refine wpQuiet_nil ?_
          intro _ hw'
          obtain ⟨pq, hw''⟩ := hw'
          subst hw''
          have f0 := c0 pq
          have f1 := c1 pq
          have f2 := c2 pq
          have g0 := d0 pq
          have g1 := d1 pq
          have g2 := d2 pq
          have HB := Lib.hid (HV.out.1.2.2.2.trans (pq.h.mono HV.out.1.2.2.2.size))
          obtain ⟨w5, hw5⟩ : ∃ w5, w5 = pq.w' := ⟨_, rfl⟩
          rw [← hw5] at f0 f1 f2 g0 g1 g2 HB ⊢
          clear hw5 c0 c1 c2 d0 d1 d2 hr hr'
          go_wp2_with fail
          refine (order_any k n s k n' s' _).mono ?_
          rintro e w6 ⟨rfl, hb6⟩
          have HB6 := Lib.hid (HB.out.trans (hb6.mono HB.out.size))
          clear hb6
          go_wp2
          refine bodyPost_ret (results_tmp2 rfl _ _ _) rfl ?_
          exact CmpRet.yes HR.out HB6.out
      · have e1 : (k != k') = true := by simp [hk]
        have HR := Lib.hid (show ¬ canCmp ⟨k, n, s⟩ ⟨k', n', s'⟩ from fun h => hk h.2.2.1)
        clear hk
        go_enter Try.func18, Try.ntmps18
        go_wp2_with fail
        rw [← HW.out]
        refine wp_region_below hm (by kernel_rfl) ?_
        repeat (quiet_step (first | (go_at_call 28; exact calls_below (right_any _ _ _ _)) | (go_at_call 29; exact calls_below ((null_any _).mono fun _ _ h => h.below))))
        refine wpQuiet_nil ?_
        intro _ hw'
        obtain ⟨pq, hw''⟩ := hw'
        subst hw''
        go_wp2
        refine bodyPost_ret (results_tmp2 rfl _ _ _) rfl ?_
        exact CmpRet.no HR.out (HV.out.1.2.2.2.trans (pq.h.mono HV.out.1.2.2.2.size))
end Go.Proofs.Ythpchenmfenjmaa
