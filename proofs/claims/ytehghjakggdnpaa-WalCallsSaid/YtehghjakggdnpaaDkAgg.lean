/-
  Arrays and structs of many cells: built, and laid as a slice of one element. Imports nothing of the program.
-/
import Derived.Test.YtehghjakggdnpaaDkIMap
import Derived.Great.BuildSlice
import Derived.StillTailTactics
namespace Go.Proofs.Ytehghjakggdnpaa
open Go.RowKit Go.Lib

section
variable {P : Program} {w : World} {ops : Array Oper} {rest : List Oper} {o : Oper} {a : Act} {Q : Exit → Act → World → Prop}
theorem wpList_build_one (hgd : o.guard = none) (t : TypeId) (i : Nat) (x : Operand) (ho : o.op = .build t #[(i, x)]) (v : Value) (hx : a.eval x = v) (cells : List Value)
    (hf : P.built t [(i, v)] = some cells.toArray) (h : wpList P ops Q rest (a.put o.dst (.agg cells.toArray)) w) : wpList P ops Q (o :: rest) a w := by
  have e : ((#[(i, x)] : Array (Nat × Operand)).map fun (i, x) => (i, a.eval x)).toList = [(i, v)] := by simp [hx]
  exact wpList_build hgd t _ ho (by rw [e, hf]; rfl) (by rw [e, hf]; exact h)

theorem wp_slice_one {K : Act → World → Prop} (t e : TypeId) (x : Operand) (ho : o.op = .buildSlice t 1 #[(0, x)]) (ht : P.underlying t = some (.slice e))
    (i : TypeInfo) (hi : P.info? e = some i) (z : Value) (hz : i.zero = some z) (s : Nat) (hs : i.size = s) (hzs : z.cells.size = s) (spos : 0 < s) (small : s ≤ 2 ^ 24)
    (cs : List Value) (hx : a.eval x = .agg cs.toArray) (hl : cs.length = s)
    (h : K (a.put o.dst (.slice (some ⟨w.heap.size, 0, none⟩) 1 1)) (w.alloc (.cells cs.toArray e))) : o.wp P a w K Q := by
  subst hs
  refine wp_buildSlice t e 1 _ ho cs.toArray i z ht hi hz (by omega) (by omega) ?_ h
  have h1 := Great.fill_whole (s := i.size) spos [.agg cs.toArray] ((Array.range (1 * i.size)).map (z.cells[· % z.cells.size]!)) (by simp [Value.cells, hl]) (by simp)
  simpa [hx, Value.cells] using h1
theorem wpList_slice_one (hgd : o.guard = none) (t e : TypeId) (x : Operand) (ho : o.op = .buildSlice t 1 #[(0, x)]) (ht : P.underlying t = some (.slice e))
    (i : TypeInfo) (hi : P.info? e = some i) (z : Value) (hz : i.zero = some z) (s : Nat) (hs : i.size = s) (hzs : z.cells.size = s) (spos : 0 < s) (small : s ≤ 2 ^ 24)
    (cs : List Value) (hx : a.eval x = .agg cs.toArray) (hl : cs.length = s)
    (h : wpList P ops Q rest (a.put o.dst (.slice (some ⟨w.heap.size, 0, none⟩) 1 1)) (w.alloc (.cells cs.toArray e))) : wpList P ops Q (o :: rest) a w :=
  wpList_plain hgd fun _ hK => wp_slice_one t e x ho ht i hi z hz s hs hzs spos small cs hx hl (hK _ _ h)
theorem wpStill_load_mid {Qs : Act → Prop} (hgd : o.guard = none) (ty : TypeId) (x : Operand) (ho : o.op = .load ty x)
    (b f : Nat) (hx : a.eval x = .pointer (some ⟨b, f, none⟩)) (cs : List Value) (d : TypeDesc) (hc : w.rangeAt b f cs)
    (hu : P.underlying ty = some d) (hd : d.isRow = true) (hi : (P.info? ty).map (·.size) = some cs.length)
    (h : wpStill P ops w Qs rest (a.put o.dst (.agg cs.toArray))) : wpStill P ops w Qs (o :: rest) a := by
  have hw : Region.wanted o (yielded ops a.tmps) = true := by simp [Region.wanted, hgd]
  refine wpStill_step fun K hK => ?_
  rw [if_pos hw]
  unfold Oper.still execOp
  simp only [ho, hx, Instr.loadAt, Instr.sureAddr, Sem.run_bind, Sem.run_pure, Result.andThen_ok, run_loadVar_mid w b f ty cs d hc hu hd hi]
  exact ⟨rfl, hK _ h⟩
theorem step_slice_one {K : Act → World → Prop} {E : Prop} (hgd : o.guard = none) (t e : TypeId) (x : Operand) (ho : o.op = .buildSlice t 1 #[(0, x)]) (ht : P.underlying t = some (.slice e))
    (i : TypeInfo) (hi : P.info? e = some i) (z : Value) (hz : i.zero = some z) (s : Nat) (hs : i.size = s) (hzs : z.cells.size = s) (spos : 0 < s) (small : s ≤ 2 ^ 24)
    (cs : List Value) (hx : a.eval x = .agg cs.toArray) (hl : cs.length = s)
    (h : K (a.put o.dst (.slice (some ⟨w.heap.size, 0, none⟩) 1 1)) (w.alloc (.cells cs.toArray e))) :
    if Region.wanted o (yielded ops a.tmps) = true then Oper.wp P o a w K Q else E := by
  have hw : Region.wanted o (yielded ops a.tmps) = true := by simp [Region.wanted, hgd]
  rw [if_pos hw]
  exact wp_slice_one t e x ho ht i hi z hz s hs hzs spos small cs hx hl h
end
end Go.Proofs.Ytehghjakggdnpaa
