/-
  The order of values, in words; two values that a call has boxed.
-/
import Derived.Test.YtkdhmbfmjlpfbaaDoorVal
import Derived.StillTailTactics
namespace Go.Proofs.YtkdhmbfmjlpfbaaDoor
open Go.RowKit Go.Lib

def cmpI (a b : Int) : Int := if a < b then -1 else if b < a then 1 else 0
def cmpS (s t : ByteArray) : Int := compareBytes s.data.toList t.data.toList
def orI (x y z : Int) : Int := if x ≠ 0 then x else if y ≠ 0 then y else z
def ordV (k n : Int) (s : ByteArray) (k' n' : Int) (s' : ByteArray) : Int := orI (cmpI k k') (cmpI n n') (cmpS s s')

/-- two values that the call has boxed -/
theorem two_boxed (w : World) (k n : Int) (s : ByteArray) (k' n' : Int) (s' : ByteArray) :
    ∃ w2, w2 = (w.alloc (.cells #[.int .i64 k, .int .i64 n, .string s] 43)).alloc (.cells #[.int .i64 k', .int .i64 n', .string s'] 43) ∧
      (w2.cell? ⟨w.heap.size, 0, none⟩ = some (.int .i64 k) ∧ w2.cell? ⟨w.heap.size, 1, none⟩ = some (.int .i64 n) ∧ w2.cell? ⟨w.heap.size, 2, none⟩ = some (.string s)) ∧
      (w2.cell? ⟨w.heap.size + 1, 0, none⟩ = some (.int .i64 k') ∧ w2.cell? ⟨w.heap.size + 1, 1, none⟩ = some (.int .i64 n') ∧ w2.cell? ⟨w.heap.size + 1, 2, none⟩ = some (.string s')) ∧
      Below w.heap.size w w2 := by
  have h1 := VS.new w k n s
  have h2 := VS.new (w.alloc (.cells #[.int .i64 k, .int .i64 n, .string s] 43)) k' n' s'
  have sz : (w.alloc (.cells #[.int .i64 k, .int .i64 n, .string s] 43)).heap.size = w.heap.size + 1 := by simp
  have h3 := h1.below h2.2.2.2
  rw [sz] at h2
  exact ⟨_, rfl, ⟨h3.1, h3.2.1, h3.2.2.1⟩, ⟨h2.1, h2.2.1, h2.2.2.1⟩, h3.2.2.2⟩
end Go.Proofs.YtkdhmbfmjlpfbaaDoor
