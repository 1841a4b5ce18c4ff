/-
  A store into a map by its keys, in a plain region. Imports nothing of the program.
-/
import Derived.Test.YtbfgnjkkelknmaaIMap
namespace Go.Proofs.Ytbfgnjkkelknmaa
open Go.RowKit Go.Lib Go.Maps
section
variable {P : Program} {k e t : TypeId} {w : World} {b n : Nat} {f : Int → Option Value} {ops : Array Oper} {rest : List Oper} {o : Oper} {a : Act} {Q : Exit → Act → World → Prop}
theorem wpList_store_imap (hgd : o.guard = none) (m x v : Operand) (hop : o.op = Op.mapUpdate t m x v)
    (hk : P.underlying k = some (.int .i64)) (ht : P.underlying t = some (.map k e)) (hm : a.eval m = .map (some b)) (h : IMap P k w b n f) (hn : n < maxLen) (s : Int) (hx : a.eval x = .int .i64 s) (hs : (Lit.int .i64 s).wf = true) (u : Value) (hv : a.eval v = u)
    (hK : ∀ w', IMap P k w' b (n + 1) (fun x => if x = s then some u else f x) → Chg (fun k => k = b) w w' → w'.heap.size = w.heap.size → wpList P ops Q rest (a.put o.dst undef) w') : wpList P ops Q (o :: rest) a w := by
  refine wpList_plain hgd fun K' hK' => ?_
  obtain ⟨w', hrun, r1, r2, r3⟩ := h.store hk ht hn s hs u
  unfold Oper.wp
  simp [execOp, hop, hm, hx, hv, hrun, Result.andThen]
  exact hK' _ _ (hK w' r1 r2 r3)
end
end Go.Proofs.Ytbfgnjkkelknmaa
