/-
  A map by its keys: look-up, store, clear. Imports nothing of the program.
-/
import Derived.Test.YtehghjakggdnpaaDkChg
namespace Go.Proofs.Ytehghjakggdnpaa
open Go.RowKit Go.Lib Go.Maps

theorem own_ne_map {w : World} {base g' : Nat} {e : TypeId} {size : Nat} {v : Value} {n : Nat} {xs : List Value} {P : Program} {k : TypeId} {m : Nat} {f : Int → Option Value} (h : w.ownsRow base e size v n xs) (h' : IMap P k w g' m f) : v.ownBlock ≠ some g' := by
  intro hv
  obtain ⟨cur, hb⟩ := own_blk h _ hv
  exact h'.ne hb rfl
theorem Chg.turned {w w' : World} {b : Nat} (h : w.mapTurned w' b) : Chg (fun k => k = b) w w' ∧ w'.heap.size = w.heap.size := by
  have hg := h.grown
  refine ⟨⟨hg.os, hg.tape, hg.output, hg.size, fun k hk hn => hg.block k hk fun e => hn (by injection e)⟩, ?_⟩
  obtain ⟨es, clock, es', clock', hb, rfl⟩ := h
  simp [ChangeMaps.setBlock]

section
variable {P : Program} {k e t : TypeId} {w w' : World} {b n : Nat} {f : Int → Option Value}
theorem IMap.look (h : IMap P k w b n f) (hk : P.underlying k = some (.int .i64)) (ht : P.underlying t = some (.map k e)) {z : Value} (hz : (zeroValue e).run P w = .ok z w) (s : Int) (hs : (Lit.int .i64 s).wf = true) :
    (Instr.lookup t (.map (some b)) (.int .i64 s) true).run P w = .ok (.tuple #[(f s).getD z, .bool (f s).isSome]) w := by
  obtain ⟨D, h1, h2, h3⟩ := h
  obtain ⟨v, ps, hrun, hv⟩ := h1.look_ok (int_keyed hk) ht hz (zd := .held z) (zp := []) rfl (keyOf_int_mk hk hs)
  have h4 := HR_inv hv
  have h5 := (h3 s (.held z)).1
  unfold keyL at h5
  rw [h4] at h5
  have h6 := (h3 s (.held z)).2
  unfold keyL at h6
  rw [hrun, h6]
  cases hf : f s with
  | none => rw [hf] at h5; simp at h5; simp [h5]
  | some u => rw [hf] at h5; simp at h5; simp [h5]

theorem IMap.store (h : IMap P k w b n f) (hk : P.underlying k = some (.int .i64)) (ht : P.underlying t = some (.map k e)) (hn : n < maxLen) (s : Int) (hs : (Lit.int .i64 s).wf = true) (v : Value) :
    ∃ w', (Instr.mapUpdate t (.map (some b)) (.int .i64 s) v).run P w = .ok () w' ∧ IMap P k w' b (n + 1) (fun x => if x = s then some v else f x) ∧ Chg (fun k => k = b) w w' ∧ w'.heap.size = w.heap.size := by
  obtain ⟨D, h1, h2, h3⟩ := h
  have hkey := keyOf_int_mk hk hs
  have hkl := (int_keyed hk).key hkey
  obtain ⟨w', hrun, h5, h6⟩ := h1.store (int_keyed hk) ht hn hkey (val := v) (d := .held v) (ps := []) rfl
  refine ⟨w', hrun, ⟨_, h5, h2.put _ _, fun x z => ?_⟩, (Chg.turned h6).1, (Chg.turned h6).2⟩
  by_cases hx : x = s
  · subst hx
    simp only [if_pos, Option.map_some, Option.getD_some, Option.isSome_some]
    exact ⟨atKey_put_same h2 hkl _ _, has_put_same h2 hkl _⟩
  · have hne : keyL x ≠ Lit.int .i64 s := fun e => hx (by injection e)
    rw [atKey_put_other hne, has_put_other hne]
    simp only [if_neg hx]
    exact h3 x z

theorem IMap.setCell (h : IMap P k w b n f) {p : Addr} (hp : b ≠ p.block) (u : Value) : IMap P k (w.setCell p u) b n f := h.keep (Below.heap_setCell w p u b hp)
theorem IMap.clear (h : IMap P k w b n f) (ht : P.underlying t = some (.map k e)) (ty : TypeId) :
    ∃ w', (Builtin.clear_ #[t] ty #[.map (some b)]).run P w = .ok (.tuple #[]) w' ∧ IMap P k w' b 0 (fun _ => none) ∧ Chg (fun k => k = b) w w' ∧ w'.heap.size = w.heap.size := by
  obtain ⟨es, clock, hb⟩ := h.none_of
  refine ⟨ChangeMaps.setBlock w b (.map #[] clock), ?_, ?_, Chg.turned ⟨es, clock, _, _, hb, rfl⟩⟩
  · simp [Builtin.clear_, run_underlying ht, MapKept.run_getObj_map hb, MapKept.run_setObj_map _ hb, Result.andThen]
    rfl
  · exact ⟨.map [], ⟨#[], clock, (MapKept.heap_set hb).1, ⟨by simp, MapKept.stamped_empty clock, by simp⟩, Nat.le_refl _, rfl⟩, ⟨[], rfl⟩, fun s z => by simp [DataW.atKey, Maps.has_eq]⟩

variable {ops : Array Oper} {rest : List Oper} {o : Oper} {a : Act} {Q : Exit → Act → World → Prop}
theorem step_store_imap {K : Act → World → Prop} {E : Prop} (hgd : o.guard = none) (m x v : Operand) (hop : o.op = Op.mapUpdate t m x v)
    (hk : P.underlying k = some (.int .i64)) (ht : P.underlying t = some (.map k e)) (hm : a.eval m = .map (some b)) (h : IMap P k w b n f) (hn : n < maxLen) (s : Int) (hx : a.eval x = .int .i64 s) (hs : (Lit.int .i64 s).wf = true) (u : Value) (hv : a.eval v = u)
    (hK : ∀ w', IMap P k w' b (n + 1) (fun x => if x = s then some u else f x) → Chg (fun k => k = b) w w' → w'.heap.size = w.heap.size → K (a.put o.dst undef) w') :
    if Region.wanted o (yielded ops a.tmps) = true then Oper.wp P o a w K Q else E := by
  have hw : Region.wanted o (yielded ops a.tmps) = true := by simp [Region.wanted, hgd]
  rw [if_pos hw]
  obtain ⟨w', hrun, r1, r2, r3⟩ := h.store hk ht hn s hs u
  unfold Oper.wp
  simp [execOp, hop, hm, hx, hv, hrun, Result.andThen]
  exact hK w' r1 r2 r3
theorem wpList_clear_imap (hgd : o.guard = none) (m : Operand) (hop : o.op = Op.call { callee := Callee.builtin Builtin.clear, args := #[m], argTypes := #[t] })
    (ht : P.underlying t = some (.map k e)) (hm : a.eval m = .map (some b)) (h : IMap P k w b n f)
    (hK : ∀ w', IMap P k w' b 0 (fun _ => none) → Chg (fun k => k = b) w w' → w'.heap.size = w.heap.size → wpList P ops Q rest (a.put o.dst (.tuple #[])) w') : wpList P ops Q (o :: rest) a w := by
  refine wpList_plain hgd fun K' hK' => ?_
  obtain ⟨w', hrun, r1, r2, r3⟩ := h.clear ht o.type
  unfold Oper.wp
  simp [execOp, hop, resolve, invoke, builtin, hm, hrun, Result.andThen]
  exact hK' _ _ (hK w' r1 r2 r3)
end
end Go.Proofs.Ytehghjakggdnpaa
