/-
  Rows of values of the call's own: literals, append; the contract of CopyRow.
-/
import Derived.Test.YtkdhmbfmjlpfbaaDoorKEnc
namespace Go.Proofs.YtkdhmbfmjlpfbaaDoor
open Go.RowKit Go.Lib

def cellsR (vs : List Va) : List Value := vs.flatMap vcell
theorem cellsR_cons (x : Va) (l : List Va) : cellsR (x :: l) = vcell x ++ cellsR l := by simp [cellsR]
theorem cellsR_len (vs : List Va) : (cellsR vs).length = vs.length * 3 := by
  induction vs with
  | nil => rfl
  | cons x l ih => rw [cellsR_cons, List.length_append, ih, List.length_cons]; simp [vcell]; omega
theorem cellsR_append (a b : List Va) : cellsR (a ++ b) = cellsR a ++ cellsR b := by simp [cellsR]
theorem cellsR_at (vs : List Va) : ∀ i (hi : i < vs.length) j, j < 3 → (cellsR vs)[i * 3 + j]? = (vcell vs[i])[j]? := by
  induction vs with
  | nil => intro i hi; simp at hi
  | cons x l ih =>
    intro i hi j hj
    rw [cellsR_cons]
    cases i with
    | zero =>
      rw [Nat.zero_mul, Nat.zero_add, List.getElem?_append_left (by simp [vcell]; exact hj)]
      rfl
    | succ i =>
      rw [List.getElem?_append_right (by simp [vcell]; omega), show (i + 1) * 3 + j - (vcell x).length = i * 3 + j by simp [vcell]; omega]
      exact ih i (by simpa using hi) j hj
theorem vcell_lt {x : Va} {j : Nat} {u : Value} (h : (vcell x)[j]? = some u) : j < 3 := by
  have := (List.getElem?_eq_some_iff.1 h).1
  simpa [vcell] using this
theorem cellsR_one (vs : List Va) : ∀ u ∈ cellsR vs, u.oneCell' = true := by
  intro u hu
  simp only [cellsR, List.mem_flatMap, vcell] at hu
  obtain ⟨x, _, hx⟩ := hu
  simp at hx
  rcases hx with rfl | rfl | rfl <;> rfl
theorem RowIn.of_own {w : World} {base : Nat} {A : Option Addr} {c : Nat} {vs : List Va} (h : w.ownsRow base 43 3 (.slice A vs.length c) vs.length (cellsR vs)) : RowIn w w.heap.size A vs := by
  have form : 0 < vs.length → ∃ g, A = some ⟨g, 0, none⟩ ∧ g < w.heap.size := fun hn => by
    obtain ⟨g, cap, hv, _, hlt⟩ := h.form hn
    exact ⟨g, by injection hv, hlt⟩
  refine ⟨fun hn => ?_, fun i hi j u hu => ?_⟩
  · obtain ⟨g, rfl, hlt⟩ := form hn
    exact ⟨_, rfl, hlt⟩
  · obtain ⟨g, rfl, hlt⟩ := form (by omega)
    exact ⟨_, rfl, h.cells (g := g) rfl _ _ ((cellsR_at vs i hi j (vcell_lt hu)).trans hu)⟩
theorem RowIn.cells {w : World} {B : Nat} {ad : Addr} {vs : List Va} (h : RowIn w B (some ad) vs) : ∀ j u, (cellsR vs)[j]? = some u → w.cell? (ad.add j) = some u := by
  intro j u hu
  have hj : j < (cellsR vs).length := (List.getElem?_eq_some_iff.1 hu).1
  rw [cellsR_len] at hj
  have hi : j / 3 < vs.length := by omega
  have e := cellsR_at vs (j / 3) hi (j % 3) (by omega)
  rw [show j / 3 * 3 + j % 3 = j by omega] at e
  obtain ⟨ad', e1, hc⟩ := h.cell (j / 3) hi (j % 3) u (e.symm.trans hu)
  obtain rfl := Option.some.inj e1
  rw [show j / 3 * 3 + j % 3 = j by omega] at hc
  exact hc

theorem Tryd.info43 : (Tryd.prog.info? 43).map (fun i => (i.zero, i.size, i.bytes)) = some (some (.agg #[.int .i64 0, .int .i64 0, .string ⟨#[]⟩]), 3, 32) := by kernel_rfl
/-- append of a row that lies in memory onto a row of the call's own -/
theorem run_append_row (w : World) (base : Nat) (ty : TypeId) (v : Value) (xs : List Va) (hown : w.ownsRow base 43 3 v xs.length (cellsR xs))
    (B : Nat) (A : Option Addr) (c : Nat) (ys : List Va) (hr : RowIn w B A ys) (h63 : xs.length + ys.length ≤ maxLen) (hbytes : (xs.length + ys.length) * 32 ≤ 140737488355328) (hbase : base ≤ w.heap.size) :
    ∃ v' w', (Builtin.append_ #[23, 23] ty #[v, .slice A ys.length c]).run Tryd.prog w = .ok v' w' ∧ w'.ownsRow base 43 3 v' (xs ++ ys).length (cellsR (xs ++ ys)) ∧ w.grownBy w' v.ownBlock := by
  obtain ⟨i0, hi, hz0, hz1, hz2⟩ := info_parts Tryd.info43
  rcases A with _ | ad
  · have hm : ys = [] := by
      rcases Nat.eq_zero_or_pos ys.length with h0 | h0
      · exact List.eq_nil_of_length_eq_zero h0
      · obtain ⟨_, h, _⟩ := hr.lo h0
        cases h
    subst hm
    exact ⟨v, w, run_append_nothing w base _ ty 43 i0 3 Tryd.underlying23 hi v _ _ hown c, by simpa using hown, World.grownBy.refl w _⟩
  · obtain ⟨v', w', hrun, h2, h3, _⟩ := run_append_own (P := Tryd.prog) w base 23 ty 43 i0 _ 3 32 Tryd.underlying23 hi hz0 hz1 hz2 rfl (by omega) v _ _ hown ad ys.length c (cellsR ys) (cellsR_len ys) hr.cells (cellsR_one ys) h63 hbytes hbase
    exact ⟨v', w', hrun, by rw [List.length_append, cellsR_append]; exact h2, h3⟩
theorem wpList_append_row {w : World} {ops : Array Oper} {rest : List Oper} {o : Oper} {a : Act} {Q : Exit → Act → World → Prop} (hgd : o.guard = none) (s x : Operand)
    (ho : o.op = .call { callee := .builtin .append, args := #[s, x], argTypes := #[23, 23] })
    (base : Nat) (v : Value) (xs : List Va) (hs : a.eval s = v) (hown : w.ownsRow base 43 3 v xs.length (cellsR xs))
    (B : Nat) (A : Option Addr) (c : Nat) (ys : List Va) (hx : a.eval x = .slice A ys.length c) (hr : RowIn w B A ys)
    (h63 : xs.length + ys.length ≤ maxLen) (hbytes : (xs.length + ys.length) * 32 ≤ 140737488355328) (hbase : base ≤ w.heap.size)
    (h : ∀ v' w', w'.ownsRow base 43 3 v' (xs ++ ys).length (cellsR (xs ++ ys)) → w.grownBy w' v.ownBlock → wpList Tryd.prog ops Q rest (a.put o.dst v') w') : wpList Tryd.prog ops Q (o :: rest) a w := by
  refine wpList_plain hgd fun K hK => ?_
  obtain ⟨v', w', hrun, h2, h3⟩ := run_append_row w base o.type v xs hown B A c ys hr h63 hbytes hbase
  unfold Oper.wp execOp
  simp only [ho, resolve, invoke, builtin, Sem.run_bind, Sem.run_pure, Result.andThen_ok, List.map_toArray, List.map_cons, List.map_nil, hs, hx, hrun]
  exact hK _ _ (h v' w' h2 h3)

theorem own3_shape {w : World} {base : Nat} {e : TypeId} {v : Value} {n m : Nat} {xs : List Value} (h : w.ownsRow base e m v n xs) : ∃ A c, v = .slice A n c ∧ n ≤ c ∧ c ≤ maxLen := by
  rcases h.2 with ⟨rfl, rfl⟩ | ⟨g, cap, cur, rfl, _, _, hn, hm, _⟩
  · exact ⟨none, 0, rfl, Nat.le_refl _, by simp [maxLen]⟩
  · exact ⟨_, cap, rfl, hn, hm⟩
theorem own3_below {w w' : World} {base C : Nat} {e : TypeId} {v : Value} {n m : Nat} {xs : List Value} (h : w.ownsRow base e m v n xs) (hb : Below C w w') (hC : w.heap.size ≤ C) : w'.ownsRow base e m v n xs := by
  refine ⟨h.1, ?_⟩
  rcases h.2 with hn | ⟨g, cap, cur, rfl, hbg, hg, rest⟩
  · exact .inl hn
  · refine .inr ⟨g, cap, cur, rfl, hbg, ?_, rest⟩
    have hlt : g < w.heap.size := (Array.getElem?_eq_some_iff.1 hg).1
    exact (hb.block g (by omega)).trans hg
theorem own3_base {w : World} {base base' : Nat} {e : TypeId} {v : Value} {n m : Nat} {xs : List Value} (h : w.ownsRow base e m v n xs) (hb : base' ≤ base) : w.ownsRow base' e m v n xs := by
  refine ⟨h.1, ?_⟩
  rcases h.2 with hn | ⟨g, cap, cur, rfl, hbg, hg, rest⟩
  · exact .inl hn
  · exact .inr ⟨g, cap, cur, rfl, by omega, hg, rest⟩
theorem below_own3 {w w' : World} {base : Nat} {e : TypeId} {v : Value} {n m : Nat} {xs : List Value} (h : w.ownsRow base e m v n xs) (hg : w.grownBy w' v.ownBlock) (hb : base ≤ w.heap.size) : Below base w w' :=
  (Below.refl _ _).grown hg hb fun k hk => (h.lt k hk).1

/-- a row of the call's own is handed back -/
def RowRet (vs : List Va) (w : World) (e : Ending) (w' : World) : Prop :=
  ∃ v', e = .returned v' ∧ w'.ownsRow w.heap.size 43 3 v' vs.length (cellsR vs) ∧ Below w.heap.size w w'

theorem row_lit (w : World) (vs : List Va) (h : vs.length ≤ maxLen) : (w.alloc (.cells (cellsR vs).toArray 43)).ownsRow w.heap.size 43 3 (.slice (some ⟨w.heap.size, 0, none⟩) vs.length vs.length) vs.length (cellsR vs) := by
  have := World.ownsRow_lit (base := w.heap.size) (e := 43) (size := 3) w (cellsR vs).toArray vs.length (Nat.le_refl _) h (by simp [cellsR_len])
  simpa using this

set_option maxRecDepth 100000 in
set_option maxHeartbeats 800000 in
theorem copyRow_any (A : Option Addr) (c : Nat) (vs : List Va) (w : World) (h : RowIn w w.heap.size A vs) (hm : vs.length ≤ 1000000) :
    Calls Tryd.prog 11 #[.slice A vs.length c] w (RowRet vs w) := by
  have hl := row_lit w [] (by simp [maxLen])
  have hb := (Below.refl w.heap.size w).alloc (Nat.le_refl _) (.cells #[] 43)
  obtain ⟨w1, hw1⟩ : ∃ w1, w1 = w.alloc (.cells #[] 43) := ⟨_, rfl⟩
  have hl' : w1.ownsRow w.heap.size 43 3 (.slice (some ⟨w.heap.size, 0, none⟩) 0 0) ([] : List Va).length (cellsR []) := by rw [hw1]; exact hl
  rw [← hw1] at hb
  have HW := Lib.hid hw1
  have H := Lib.hid (And.intro hl' (And.intro hb ((h.below hb (Nat.le_refl _)))))
  clear hw1 hb hl hl' h
  go_enter Tryd.func11, Tryd.ntmps11
  go_wp2_with (at_builtin; rw [← HW.out]; refine wpList_append_row rfl (.tmp 5) (.tmp 6) rfl w.heap.size _ [] rfl H.out.1 w.heap.size A c vs rfl H.out.2.2 ?c3 ?c4 ?c5 ?_)
  case c3 => simp [maxLen]; omega
  case c4 => simp; omega
  case c5 => exact H.out.2.1.size
  intro v' w2 hown hgrow
  have hfin : RowRet vs w (.returned v') w2 := ⟨v', rfl, by simpa using hown, H.out.2.1.trans (below_own3 H.out.1 hgrow H.out.2.1.size)⟩
  have HF := Lib.hid hfin
  clear hown hgrow hfin
  go_wp2
  go_ret
  exact HF.out
end Go.Proofs.YtkdhmbfmjlpfbaaDoor
