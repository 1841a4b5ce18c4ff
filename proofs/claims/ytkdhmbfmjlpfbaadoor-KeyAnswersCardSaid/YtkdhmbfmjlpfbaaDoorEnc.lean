/-
  Slices of bytes that a call hands back; small words.
-/
import Derived.Test.YtkdhmbfmjlpfbaaDoorWords
import Derived.Test.YtkdhmbfmjlpfbaaDoorRows
import Derived.WalkKit
import Derived.WalkSpells
import Derived.WalkLawsBesides
import Derived.Lib.Hide
namespace Go.Proofs.YtkdhmbfmjlpfbaaDoor
open Go.RowKit Go.Lib

theorem ret_int {k : IntKind} {a b : Int} (h : a = b) : Ending.returned (.int k a) = .returned (.int k b) := by rw [h]
theorem Tryd.info5 : (Tryd.prog.info? 5).map (fun i => (i.zero, i.size, i.bytes)) = some (some (.int .u8 0), 1, 1) := by kernel_rfl
/-- a slice of bytes of the call's own is handed back; nothing below base has turned -/
def OwnRet (base : Nat) (l : List Int) (w : World) (e : Ending) (w' : World) : Prop :=
  ∃ v', e = .returned v' ∧ w'.ownsRow base 5 1 v' l.length (cells l) ∧ Below base w w'
theorem OwnRet.cat {base : Nat} {a b : List Int} {w w1 w2 : World} {v' : Value} {n : Nat} (hn : n = a.length + b.length) (hb1 : Below base w w1) (hb2 : Below base w1 w2)
    (hown : w2.ownsRow base 5 1 v' n (cells a ++ cells b)) : OwnRet base (a ++ b) w (.returned v') w2 := by
  subst hn
  refine ⟨v', rfl, ?_, hb1.trans hb2⟩
  rw [List.length_append, cells_append]; exact hown
theorem addr_mid (b o k : Nat) : (⟨b, o, none⟩ : Addr).add k = ⟨b, o + k, none⟩ := by unfold Addr.add; split <;> simp_all
theorem cells_at {l : List Int} {k : Nat} (hk : k < l.length) : (cells l)[k]? = some (.int .u8 l[k]) := by simp [cells, hk]
def YesB (w : World) (e : Ending) (w' : World) : Prop := e = .returned (.bool true) ∧ Below w.heap.size w w'
end Go.Proofs.YtkdhmbfmjlpfbaaDoor
