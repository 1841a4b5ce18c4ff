/-
  The queue's methods: which function each is; Len, Less.
-/
import Derived.Test.YtcjhkafdfeopfaaQuM
namespace Go.Proofs.Ytcjhkafdfeopfaa
open Go.RowKit Go.Lib Go.Maps

section
variable {B tb mb n c : Nat} {D F : Nat → Prop} {w w' : World} {A : Option Addr} {f : Nat → Of}
theorem run_load0 {a : Addr} {v : Value} (c0 : w.cell? a = some v) : (load a).run Try.prog w = .ok v w := by
  simp [load, Sem.run, c0]
theorem meth_len {a : Addr} {v : Value} (c0 : w.cell? a = some v) : (method 183 55 (.pointer (some a)) "Len").run Try.prog w = .ok (42, v) w := by
  have h : (method 183 55 (.pointer (some a)) "Len").run Try.prog w = ((load a >>= fun v => pure (42, v) : Sem (FuncId × Value))).run Try.prog w := by kernel_rfl
  rw [h]
  simp [load, Sem.run, c0]
theorem meth_less {a : Addr} {v : Value} (c0 : w.cell? a = some v) : (method 183 55 (.pointer (some a)) "Less").run Try.prog w = .ok (43, v) w := by
  have h : (method 183 55 (.pointer (some a)) "Less").run Try.prog w = ((load a >>= fun v => pure (43, v) : Sem (FuncId × Value))).run Try.prog w := by kernel_rfl
  rw [h]
  simp [load, Sem.run, c0]
theorem meth_swap {a : Addr} {v : Value} (c0 : w.cell? a = some v) : (method 183 55 (.pointer (some a)) "Swap").run Try.prog w = .ok (44, v) w := by
  have h : (method 183 55 (.pointer (some a)) "Swap").run Try.prog w = ((load a >>= fun v => pure (44, v) : Sem (FuncId × Value))).run Try.prog w := by kernel_rfl
  rw [h]
  simp [load, Sem.run, c0]
theorem meth_push (a : Addr) : (method 183 55 (.pointer (some a)) "Push").run Try.prog w = .ok (46, .pointer (some a)) w := by kernel_rfl
theorem meth_pop (a : Addr) : (method 183 55 (.pointer (some a)) "Pop").run Try.prog w = .ok (45, .pointer (some a)) w := by kernel_rfl
theorem call_len (args : Array Value) : (callFunc 42 args).run Try.prog w = .ok (.enter 42 args) w := by kernel_rfl
theorem call_less (args : Array Value) : (callFunc 43 args).run Try.prog w = .ok (.enter 43 args) w := by kernel_rfl
theorem call_swap (args : Array Value) : (callFunc 44 args).run Try.prog w = .ok (.enter 44 args) w := by kernel_rfl
theorem call_push (args : Array Value) : (callFunc 46 args).run Try.prog w = .ok (.enter 46 args) w := by kernel_rfl
theorem call_pop (args : Array Value) : (callFunc 45 args).run Try.prog w = .ok (.enter 45 args) w := by kernel_rfl

set_option maxRecDepth 100000 in
set_option maxHeartbeats 3200000 in
theorem len_any (A : Option Addr) (n c : Nat) (w : World) : Calls Try.prog 42 #[.slice A n c] w fun e w' => e = .returned (.int .i64 n) ∧ Below w.heap.size w w' := by
  go_enter Try.func42, Try.ntmps42
  go_wp2_with fail
  go_ret
  exact ⟨rfl, Below.refl _ _⟩
set_option maxRecDepth 100000 in
set_option maxHeartbeats 6400000 in
theorem less_any (h : QX B D w tb mb A c n f) {i j : Nat} (hi : i < n) (hj : j < n) (_ : n < 1000000) :
    Calls Try.prog 43 #[.slice A n c, .int .i64 i, .int .i64 j] w fun e w' => e = .returned (.bool (ltF (f i) (f j))) ∧ Below w.heap.size w w' := by
  obtain ⟨g, rfl, _, ci⟩ := h.at_ hi
  obtain ⟨g', e, _, cj⟩ := h.at_ hj
  obtain rfl : g' = g := by injection e with e; injection e with e; exact e.symm
  have ti := h.t_ hi
  have tj := h.t_ hj
  have ii := h.i_ hi
  have ij := h.i_ hj
  clear e
  obtain ⟨lt, hlt⟩ : ∃ lt, lt = ltF (f i) (f j) := ⟨_, rfl⟩
  rw [← hlt]
  unfold ltF at hlt
  unfold ptrT at ci cj
  generalize f i = x at *
  generalize f j = y at *
  obtain ⟨⟨xi, xt⟩, bx⟩ := x
  obtain ⟨⟨yi, yt⟩, by_⟩ := y
  simp only at *
  have HL := Lib.hid hlt
  have hn0 : (i : Int) < (n : Int) := by omega
  have hn1 : (j : Int) < (n : Int) := by omega
  have hn2 : (0 : Int) ≤ (i : Int) := by omega
  have hn3 : (0 : Int) ≤ (j : Int) := by omega
  clear h hlt
  go_enter Try.func43, Try.ntmps43
  go_wp2_with fail
  go_quiet (fail)
  by_cases h1 : xt < yt
  · have d1 : decide (xt < yt) = true := decide_eq_true h1
    go_wp2_with fail
    go_quiet (fail)
    go_wp2_with fail
    go_ret
    refine ⟨?_, ⟨rfl, rfl, rfl, Nat.le_refl _, fun _ _ => rfl⟩⟩
    rw [HL.out]
    simp [h1]
  · have d1 : decide (xt < yt) = false := decide_eq_false h1
    by_cases h2 : xt = yt
    · have d2 : (xt == yt) = true := by simp [h2]
      by_cases h3 : xi < yi
      · have d3 : decide (xi < yi) = true := decide_eq_true h3
        go_wp2_with fail
        go_quiet (fail)
        go_wp2_with fail
        go_ret
        refine ⟨?_, ⟨rfl, rfl, rfl, Nat.le_refl _, fun _ _ => rfl⟩⟩
        rw [HL.out]
        simp [h2, h3]
      · have d3 : decide (xi < yi) = false := decide_eq_false h3
        go_wp2_with fail
        go_quiet (fail)
        go_wp2_with fail
        go_ret
        refine ⟨?_, ⟨rfl, rfl, rfl, Nat.le_refl _, fun _ _ => rfl⟩⟩
        rw [HL.out]
        simp [h2, h3]
    · have d2 : (xt == yt) = false := by simp [h2]
      go_wp2_with fail
      go_quiet (fail)
      go_wp2_with fail
      go_ret
      refine ⟨?_, ⟨rfl, rfl, rfl, Nat.le_refl _, fun _ _ => rfl⟩⟩
      rw [HL.out]
      simp [h1, h2]
end
end Go.Proofs.Ytcjhkafdfeopfaa
