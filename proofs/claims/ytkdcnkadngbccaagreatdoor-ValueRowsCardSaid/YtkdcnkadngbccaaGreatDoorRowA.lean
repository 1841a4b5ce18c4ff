/-
  Rows that grow; CopyRow.
-/
import Derived.Test.YtkdcnkadngbccaaGreatDoorRowM
namespace Go.Proofs.YtkdcnkadngbccaaGreatDoor
open Go.RowKit Go.Lib

/-- append of a row that lies in memory onto a row of the call's own -/
theorem run_append_row (w : World) (base : Nat) (ty : TypeId) (v : Value) (xs : List Va) (hown : w.ownsRow base 40 3 v xs.length (cellsR xs))
    (B : Nat) (A : Option Addr) (c : Nat) (ys : List Va) (hr : RowIn w B A ys) (h63 : xs.length + ys.length ≤ maxLen) (hbytes : (xs.length + ys.length) * 32 ≤ 140737488355328) (hbase : base ≤ w.heap.size) :
    ∃ v' w', (Builtin.append_ #[23, 23] ty #[v, .slice A ys.length c]).run Tryz.prog w = .ok v' w' ∧ w'.ownsRow base 40 3 v' (xs ++ ys).length (cellsR (xs ++ ys)) ∧ w.grownBy w' v.ownBlock := by
  obtain ⟨i0, hi, hz0, hz1, hz2⟩ := info_parts Tryz.info40
  rcases A with _ | ad
  · have hm : ys = [] := by
      rcases Nat.eq_zero_or_pos ys.length with h0 | h0
      · exact List.eq_nil_of_length_eq_zero h0
      · obtain ⟨_, h, _⟩ := hr.lo h0
        cases h
    subst hm
    exact ⟨v, w, run_append_nothing w base _ ty 40 i0 3 Tryz.underlying23 hi v _ _ hown c, by simpa using hown, World.grownBy.refl w _⟩
  · obtain ⟨v', w', hrun, h2, h3, _⟩ := run_append_own (P := Tryz.prog) w base 23 ty 40 i0 _ 3 32 Tryz.underlying23 hi hz0 hz1 hz2 rfl (by omega) v _ _ hown ad ys.length c (cellsR ys) (cellsR_len ys) hr.cells (cellsR_one ys) h63 hbytes hbase
    exact ⟨v', w', hrun, by rw [List.length_append, cellsR_append]; exact h2, h3⟩
theorem wpList_append_row {w : World} {ops : Array Oper} {rest : List Oper} {o : Oper} {a : Act} {Q : Exit → Act → World → Prop} (hgd : o.guard = none) (s x : Operand)
    (ho : o.op = .call { callee := .builtin .append, args := #[s, x], argTypes := #[23, 23] })
    (base : Nat) (v : Value) (xs : List Va) (hs : a.eval s = v) (hown : w.ownsRow base 40 3 v xs.length (cellsR xs))
    (B : Nat) (A : Option Addr) (c : Nat) (ys : List Va) (hx : a.eval x = .slice A ys.length c) (hr : RowIn w B A ys)
    (h63 : xs.length + ys.length ≤ maxLen) (hbytes : (xs.length + ys.length) * 32 ≤ 140737488355328) (hbase : base ≤ w.heap.size)
    (h : ∀ v' w', w'.ownsRow base 40 3 v' (xs ++ ys).length (cellsR (xs ++ ys)) → w.grownBy w' v.ownBlock → wpList Tryz.prog ops Q rest (a.put o.dst v') w') : wpList Tryz.prog ops Q (o :: rest) a w := by
  refine wpList_plain hgd fun K hK => ?_
  obtain ⟨v', w', hrun, h2, h3⟩ := run_append_row w base o.type v xs hown B A c ys hr h63 hbytes hbase
  unfold Oper.wp execOp
  simp only [ho, resolve, invoke, builtin, Sem.run_bind, Sem.run_pure, Result.andThen_ok, List.map_toArray, List.map_cons, List.map_nil, hs, hx, hrun]
  exact hK _ _ (h v' w' h2 h3)

/-- a row of the call's own is handed back -/
def RowRet (vs : List Va) (w : World) (e : Ending) (w' : World) : Prop :=
  ∃ v', e = .returned v' ∧ w'.ownsRow w.heap.size 40 3 v' vs.length (cellsR vs) ∧ Below w.heap.size w w'

theorem row_lit (w : World) (vs : List Va) (h : vs.length ≤ maxLen) : (w.alloc (.cells (cellsR vs).toArray 40)).ownsRow w.heap.size 40 3 (.slice (some ⟨w.heap.size, 0, none⟩) vs.length vs.length) vs.length (cellsR vs) := by
  have := World.ownsRow_lit (base := w.heap.size) (e := 40) (size := 3) w (cellsR vs).toArray vs.length (Nat.le_refl _) h (by simp [cellsR_len])
  simpa using this

set_option maxRecDepth 100000 in
set_option maxHeartbeats 800000 in
theorem copyRow_any (A : Option Addr) (c : Nat) (vs : List Va) (w : World) (h : RowIn w w.heap.size A vs) (hm : vs.length ≤ 1000000) :
    Calls Tryz.prog 6 #[.slice A vs.length c] w (RowRet vs w) := by
  have hl := row_lit w [] (by simp [maxLen])
  have hb := (Below.refl w.heap.size w).alloc (Nat.le_refl _) (.cells #[] 40)
  obtain ⟨w1, hw1⟩ : ∃ w1, w1 = w.alloc (.cells #[] 40) := ⟨_, rfl⟩
  have hl' : w1.ownsRow w.heap.size 40 3 (.slice (some ⟨w.heap.size, 0, none⟩) 0 0) ([] : List Va).length (cellsR []) := by rw [hw1]; exact hl
  rw [← hw1] at hb
  have HW := Lib.hid hw1
  have H := Lib.hid (And.intro hl' (And.intro hb ((h.below hb (Nat.le_refl _)))))
  clear hw1 hb hl hl' h
  go_enter Tryz.func6, Tryz.ntmps6
  go_wp2_with (at_builtin; rw [← HW.out]; refine wpList_append_row rfl (.tmp 5) (.tmp 6) rfl w.heap.size _ [] rfl H.out.1 w.heap.size A c vs rfl H.out.2.2 ?c3 ?c4 ?c5 ?_)
  case c3 => simp [maxLen]; omega
  case c4 => simp; omega
  case c5 => exact H.out.2.1.size
  intro v' w2 hown hgrow
  have hfin : RowRet vs w (.returned v') w2 := ⟨v', rfl, by simpa using hown, H.out.2.1.trans (below_own3 H.out.1 hgrow H.out.2.1.size)⟩
  have HF := Lib.hid hfin
  clear hown hgrow hfin
  go_wp2
  go_ret
  exact HF.out
end Go.Proofs.YtkdcnkadngbccaaGreatDoor
