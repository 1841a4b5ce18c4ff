/-
  The contract of slices.Delete of the last elements.
-/
import Derived.Test.YtdnegfjddpdmhaaDoorHpH
import Derived.Lib.SliceRun
namespace Go.Proofs.YtdnegfjddpdmhaaDoor
open Go.RowKit Go.Lib

theorem setCells_blk {g : Nat} {t : TypeId} (cs : List Value) : ∀ (cur : List Value) (w : World) (o : Nat), Blk w g t cur.toArray → o + cs.length ≤ cur.length → Blk (w.setCells g o cs) g t (splice cur o cs).toArray := by
  induction cs with
  | nil => intro cur w o h _; show Blk w g t _; simpa [splice] using h
  | cons v cs ih =>
    intro cur w o h hl
    simp only [List.length_cons] at hl
    have h1 := h.put o v
    rw [show (cur.toArray.setIfInBounds o v) = (cur.set o v).toArray by simp] at h1
    have h2 := ih (cur.set o v) (w.setCell ⟨g, o, none⟩ v) (o + 1) h1 (by simp; omega)
    show Blk ((w.setCell ⟨g, o, none⟩ v).setCells g (o + 1) cs) g t _
    rw [show splice cur o (v :: cs) = splice (cur.set o v) (o + 1) cs by
      unfold splice
      rw [List.take_set, List.drop_set_of_lt (by omega)]
      have e : (cur.take (o + 1)).set o v = cur.take o ++ [v] := by
        rw [List.take_succ_eq_append_getElem (by omega), List.set_append_right _ _ (by simp; omega)]
        simp [Nat.min_eq_left (show o ≤ cur.length by omega)]
      rw [e, List.length_cons, show o + (cs.length + 1) = o + 1 + cs.length by omega]
      simp]
    exact h2
theorem append_empty (w : World) (ty : TypeId) (g m c : Nat) (a : Option Addr) (c2 : Nat) (hm : m ≤ c) : (Builtin.append_ #[38, 38] ty #[.slice (some ⟨g, 0, none⟩) m c, .slice a 0 c2]).run Tryd.prog w = .ok (.slice (some ⟨g, 0, none⟩) m c) w := by
  obtain ⟨i0, hi, hz0, hz1, hz2⟩ := info_parts Tryd.dkinfo22
  cases a with
  | none => simp [Builtin.append_, run_underlying Tryd.underlying38, sizeOf, typeInfo, hi, Builtin.lenOf, Builtin.firstCells, hm, storeCells]
  | some a => simp [Builtin.append_, run_underlying Tryd.underlying38, sizeOf, typeInfo, hi, Builtin.lenOf, Builtin.firstCells, hm, storeCells, loadCells, loadCellsFrom]
theorem zero22 (w : World) : (zeroValue 33).run Tryd.prog w = .ok (.slice none 0 0) w := by
  obtain ⟨i0, hi, hz0, hz1, hz2⟩ := info_parts Tryd.dkinfo22
  simp [zeroValue, typeInfo, hi, hz0]

theorem step_append_is {P : Program} {w : World} {ops : Array Oper} {o : Oper} {a : Act} {Q : Exit → Act → World → Prop} {K : Act → World → Prop} {E : Prop} (hgd : o.guard = none) (s x : Operand) (t : TypeId)
    (ho : o.op = .call { callee := .builtin .append, args := #[s, x], argTypes := #[t, t] }) (v0 v1 v2 : Value) (hs : a.eval s = v0) (hx : a.eval x = v1) (hrun : (Builtin.append_ #[t, t] o.type #[v0, v1]).run P w = .ok v2 w) (h : K (a.put o.dst v2) w) :
    if Region.wanted o (yielded ops a.tmps) = true then Oper.wp P o a w K Q else E := by
  have hw : Region.wanted o (yielded ops a.tmps) = true := by simp [Region.wanted, hgd]
  rw [if_pos hw]
  unfold Oper.wp execOp
  simp only [ho, resolve, invoke, builtin, Sem.run_bind, Sem.run_pure, Result.andThen_ok, List.map_toArray, List.map_cons, List.map_nil, hs, hx, hrun]
  exact h

/-- the first elements are left -/
def DelRet (B : Nat) (v : Value) (xs : List Pv) (m : Nat) (w : World) (e : Ending) (w' : World) : Prop :=
  ∃ A' c', e = .returned (.slice A' m c') ∧ w'.ownsRow B 33 1 (.slice A' m c') m (pvals (xs.take m)) ∧ Chg (fun k => v.ownBlock = some k) w w' ∧ ∀ k, (Value.slice A' m c').ownBlock = some k → v.ownBlock = some k

set_option maxRecDepth 100000 in
set_option maxHeartbeats 3200000 in
theorem delete_any (w : World) (B : Nat) (A : Option Addr) (c : Nat) (xs : List Pv) (h : w.ownsRow B 33 1 (.slice A xs.length c) xs.length (pvals xs)) (m : Nat) (hm : m ≤ xs.length) (hc : xs.length ≤ 1000000) :
    Calls Tryd.prog 55 #[.slice A xs.length c, .int .i64 m, .int .i64 xs.length] w (DelRet B (.slice A xs.length c) xs m w) := by
  obtain ⟨n, hn⟩ : ∃ n, n = xs.length := ⟨_, rfl⟩
  have hnc : xs.length ≤ c ∧ c ≤ maxLen := by
    obtain ⟨_, _, e, h1, h2⟩ := own_shape h
    injection e with _ _ e3
    rw [e3]; exact ⟨h1, h2⟩
  have hcc := hnc.2
  unfold maxLen at hcc
  have hm0 : (0 : Int) ≤ (m : Int) := Int.natCast_nonneg _
  have hmn : (m : Int) ≤ (xs.length : Int) := by omega
  by_cases hmx : m = xs.length
  · have HF := Lib.hid (show DelRet B (.slice A xs.length c) xs m w (.returned (.slice A xs.length c)) w from
      ⟨A, c, by rw [hmx], by rw [hmx, List.take_length]; exact h, Chg.refl _ _, fun k hk => by rw [← hmx]; exact hk⟩)
    rw [← hn] at hnc hmn hmx HF ⊢
    have hmi : (m : Int) = (n : Int) := by omega
    clear h hn hm
    go_enter Tryd.func55, Tryd.ntmps55
    go_wp2_with fail
    go_ret
    exact HF.out
  · obtain ⟨g, cap, hv, hgb, hlt⟩ := h.form (by omega)
    injection hv with e1 e2 e3
    subst e1
    subst e3
    have H := Lib.hid h
    rw [← hn] at hnc hmn hmx ⊢
    have hmi : ¬ (m : Int) = (n : Int) := by omega
    have hml : m < n := by omega
    have hap := fun (w : World) (ty : TypeId) (a : Option Addr) (c2 : Nat) => append_empty w ty g m c a c2 (by omega)
    have HN := Lib.hid hn
    obtain ⟨cur, hcur⟩ := own_row H.out g rfl
    have hcs : cur.size = c := by
      rcases H.out.2 with ⟨e, _⟩ | ⟨g1, cap1, cur1, e, _, hg1, _, _, hs1, _⟩
      · cases e
      · cases e
        unfold Blk at hcur
        rw [hcur] at hg1
        cases hg1
        omega
    have hcl : ∀ (d : Nat) (ty : TypeId), (Builtin.clear_ #[38] ty #[.slice (some ⟨g, m, none⟩) (n - m) (c - m)]).run Tryd.prog (w.drewN d) = .ok (.tuple #[]) ((w.drewN d).setCells g m (List.replicate (n - m) (.slice none 0 0))) := fun d ty =>
      run_clear_slice (P := Tryd.prog) (w.drewN d) 38 33 ty (.slice none 0 0) Tryd.underlying38 zero22 rfl rfl g m (n - m) (c - m) (by omega)
        (fun j hj => by rw [(Blk.drewN hcur d).cell]; rw [Array.getElem?_eq_getElem (by omega)]; rfl) (fun j _ => (Blk.drewN hcur d).frozen _)
    have HF := Lib.hid (show ∀ d, DelRet B (.slice (some ⟨g, 0, none⟩) xs.length c) xs m w (.returned (.slice (some ⟨g, 0, none⟩) m c)) ((w.drewN d).setCells g m (List.replicate (n - m) (.slice none 0 0))) from fun d => by
      have hb1 : Blk (w.drewN d) g 33 cur.toList.toArray := by simpa using Blk.drewN hcur d
      have hb2 := setCells_blk (List.replicate (n - m) (.slice none 0 0)) cur.toList (w.drewN d) m hb1 (by simp; omega)
      have htk : (pvals (xs.take m)) = (pvals xs).take m := by simp [pvals, List.map_take]
      have h0 : w.ownsRow B 33 1 (.slice (some ⟨g, 0, none⟩) m c) m (pvals (xs.take m)) := by
        have h1 := H.out
        refine ⟨by rw [pvals_len, List.length_take, Nat.min_eq_left (by omega), Nat.mul_one], ?_⟩
        rcases h1.2 with ⟨e, _⟩ | ⟨g1, cap1, cur1, e, hb, hg1, hnc1, hcm1, hs1, ht1⟩
        · cases e
        · cases e
          refine .inr ⟨g, c, cur1, rfl, hb, hg1, by omega, hcm1, hs1, ?_⟩
          rw [htk, ← ht1, List.take_take]
          congr 1
          omega
      refine ⟨some ⟨g, 0, none⟩, c, rfl, ?_, ?_, fun k hk => hk⟩
      · refine own_elder h0 rfl hcur hb2 ?_ ?_
        · simp [splice]; omega
        · unfold splice
          rw [Nat.mul_one]
          show List.take m (List.take m cur.toList ++ (_ ++ _)) = _
          rw [List.take_append_of_le_length (by simp; omega), List.take_take, Nat.min_self]
      · exact ((Chg.refl (fun k => (Value.slice (some ⟨g, 0, none⟩) xs.length c).ownBlock = some k) w).drewN d).setCells (b := g) (o := m) (fun _ => rfl) _)
    have HF2 := Lib.hid (show DelRet B (.slice (some ⟨g, 0, none⟩) n c) xs m w (.returned (.slice (some ⟨g, 0, none⟩) m c)) (w.drew.setCells g m (List.replicate (n - m) (.slice none 0 0))) by have h9 := HF.out 1; rw [← HN.out] at h9; exact h9)
    clear HF
    clear h hn hm hcur
    by_cases hcn : c = n
    · subst hcn
      go_enter Tryd.func55, Tryd.ntmps55
      go_wp2_with fail
      have hcl1 := fun ty => hcl 1 ty
      have hmc : m ≤ c := by omega
      rw [show w.drewN 1 = w.drew from rfl] at hcl1
      go_region_law (refine step_append_is rfl _ _ _ rfl _ _ (.slice (some ⟨g, 0, none⟩) m c) rfl rfl (hap _ _ _ _) ?_)
      all_goals go_wp2_with fail
      all_goals go_ret
      all_goals exact HF2.out
    · go_enter Tryd.func55, Tryd.ntmps55
      go_wp2_with fail
      have hcl1 := fun ty => hcl 1 ty
      have hmc : m ≤ c := by omega
      rw [show w.drewN 1 = w.drew from rfl] at hcl1
      go_region_law (refine step_append_is rfl _ _ _ rfl _ _ (.slice (some ⟨g, 0, none⟩) m c) rfl rfl (hap _ _ _ _) ?_)
      all_goals go_wp2_with fail
      all_goals go_ret
      all_goals exact HF2.out
end Go.Proofs.YtdnegfjddpdmhaaDoor
