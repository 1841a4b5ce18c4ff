/-
  Values: their equality as the model runs it; the contracts of null, number, truth, text.
-/
import Derived.Test.YthpchenmfenjmaaWords
import Derived.Test.YthpchenmfenjmaaRows
import Derived.WalkSpells
import Derived.WalkLawsBesides
import Derived.Lib.Hide
import Derived.Laws.StructEq
import Derived.Shelf.SlSortCmp.QuietGrown
import Derived.Lib.Bytealg
namespace Go.Proofs.Ythpchenmfenjmaa
open Go.RowKit Go.Lib

theorem ret_int {k : IntKind} {a b : Int} (h : a = b) : Ending.returned (.int k a) = .returned (.int k b) := by rw [h]

theorem str_eq (a b : ByteArray) : (a.toList == b.toList) = decide (a = b) := by
  by_cases h : a = b
  · subst h; simp
  · have h1 : a.toList ≠ b.toList := fun e => h (by
      rw [ByteArray.toList_eq, ByteArray.toList_eq] at e
      obtain ⟨⟨x⟩⟩ := a
      obtain ⟨⟨y⟩⟩ := b
      exact congrArg (fun l => (⟨⟨l⟩⟩ : ByteArray)) e)
    simp [h, h1]

theorem eqVal (k n : Int) (s : ByteArray) (k' n' : Int) (s' : ByteArray) (w : World) :
    (binOp .eql 23 (.agg #[.int .i64 k, .int .i64 n, .string s]) (.agg #[.int .i64 k', .int .i64 n', .string s'])).run Try.prog w
      = .ok (.bool (decide (k = k') && (decide (n = n') && decide (s = s')))) w := by
  have u3 := Try.underlying3
  have a3 := Try.isAgg3
  have z3 := Try.sizeOf3
  have u9 := Try.underlying9
  have a9 := Try.isAgg9
  have z9 := Try.sizeOf9
  have hS : Try.prog.underlying 23 = some (.struct (Try.prog.fieldsOf 23)) := by kernel_rfl
  have hp : Try.prog.stoodInHeld 23 = false := by kernel_rfl
  rw [run_eql_struct, show (10000 : Nat) = 9999 + 1 from rfl, run_equalIn_agg w 9999 23 _ _ hS hp]
  simp only [Program.fieldsOf, Try.underlying23]
  have hs := str_eq s s'
  go_simp
  by_cases h1 : k = k' <;> by_cases h2 : n = n' <;> by_cases h3 : s = s' <;> simp [h1, h2, h3]

/-- the value with these parts is handed back, and one block is new -/
def ValRet (w : World) (k n : Int) (s : ByteArray) (e : Ending) (w' : World) : Prop :=
  e = .returned (.agg #[.int .i64 k, .int .i64 n, .string s]) ∧ w' = w.alloc (.cells #[.int .i64 k, .int .i64 n, .string s] 23)

theorem results_cell1 {fn : Func} {p : Tmp} {ty : TypeId} (h : fn.results = #[.cell p ty]) (tmps : Array Value) (P : Program) (w : World) :
    (results fn tmps).run P w = ((asAddr (tmps.getD p undef)).run P w).andThen fun a w₁ => (loadVar ty a).run P w₁ := by
  simp only [results, h]
  simp [Sem.run_bind, Result.andThen]

theorem null_any (w : World) : Calls Try.prog 29 #[] w (ValRet w 0 0 ⟨#[]⟩) := by
  go_enter Try.func29, Try.ntmps29
  go_wp2
  refine bodyPost_ret (by rw [results_cell1 rfl]; go_simp; exact rfl) rfl ?_
  exact ⟨rfl, rfl⟩
theorem number_any (n : Int) (w : World) : Calls Try.prog 35 #[.int .i64 n] w (ValRet w 1 n ⟨#[]⟩) := by
  go_enter Try.func35, Try.ntmps35
  go_wp2
  refine bodyPost_ret (by rw [results_cell1 rfl]; go_simp; exact rfl) rfl ?_
  exact ⟨rfl, rfl⟩
theorem truth_any (n : Int) (w : World) : Calls Try.prog 36 #[.int .i64 n] w (ValRet w 2 n ⟨#[]⟩) := by
  go_enter Try.func36, Try.ntmps36
  go_wp2
  refine bodyPost_ret (by rw [results_cell1 rfl]; go_simp; exact rfl) rfl ?_
  exact ⟨rfl, rfl⟩
theorem text_val (s : ByteArray) (w : World) : Calls Try.prog 37 #[.string s] w (ValRet w 3 0 s) := by
  go_enter Try.func37, Try.ntmps37
  go_wp2
  refine bodyPost_ret (by rw [results_cell1 rfl]; go_simp; exact rfl) rfl ?_
  exact ⟨rfl, rfl⟩

def rightV (k n : Int) (s : ByteArray) : Bool :=
  if k = 0 then decide (n = 0) && decide (s = ⟨#[]⟩)
  else if k = 1 then decide (s = ⟨#[]⟩)
  else if k = 2 then (decide (n = 0) || decide (n = 1)) && decide (s = ⟨#[]⟩)
  else if k = 3 then decide (n = 0) && decide (s.size ≤ 16) else false

/-- a value's cells lie in block b, and nothing below it has turned since w0 -/
def VS (w0 : World) (b : Nat) (k n : Int) (s : ByteArray) (w' : World) : Prop :=
  w'.cell? ⟨b, 0, none⟩ = some (.int .i64 k) ∧ w'.cell? ⟨b, 1, none⟩ = some (.int .i64 n) ∧ w'.cell? ⟨b, 2, none⟩ = some (.string s) ∧ Below w0.heap.size w0 w'
theorem VS.new (w : World) (k n : Int) (s : ByteArray) : VS w w.heap.size k n s (w.alloc (.cells #[.int .i64 k, .int .i64 n, .string s] 23)) := by
  have h := Blk.new w 23 #[.int .i64 k, .int .i64 n, .string s]
  exact ⟨h.cell 0, h.cell 1, h.cell 2, (Below.refl _ w).alloc (Nat.le_refl _) _⟩
theorem VS.below {w0 w' w'' : World} {b : Nat} {k n : Int} {s : ByteArray} (h : VS w0 b k n s w') (hl : Below w'.heap.size w' w'') : VS w0 b k n s w'' := by
  have h0 := World.block_lt_of_cell? _ _ h.1
  exact ⟨(hl.cell (p := ⟨b, 0, none⟩) h0).trans h.1, (hl.cell (p := ⟨b, 1, none⟩) h0).trans h.2.1, (hl.cell (p := ⟨b, 2, none⟩) h0).trans h.2.2.1, h.2.2.2.trans (hl.mono h.2.2.2.size)⟩

theorem ValRet.grown {w : World} {n : Nat} {os : Array Obj} {f : FuncId} {args : Array Value} {k m : Int} {s : ByteArray} (h : ∀ w, Calls Try.prog f args w (ValRet w k m s)) :
    Calls Try.prog f args (Sort.grow (w.drewN n) os) fun e w'' => e = .returned (.agg #[.int .i64 k, .int .i64 m, .string s]) ∧ ∃ p : GrownBy, w'' = Sort.grow (w.drewN p.n) p.os :=
  Calls.grown_of ((h _).mono fun e w' ⟨h1, h2⟩ => ⟨h1, 0, #[.cells #[.int .i64 k, .int .i64 m, .string s] 23], by rw [h2, Sort.alloc_eq_grow]; rfl⟩)
theorem below_grow {B : Nat} {w0 w : World} (h : Below B w0 w) (hB : B ≤ w.heap.size) (n : Nat) (os : Array Obj) : Below B w0 (Sort.grow (w.drewN n) os) :=
  h.trans ⟨rfl, rfl, rfl, by rw [Sort.size_grow]; exact Nat.le_add_right _ _, fun k hk => by rw [Sort.heap_grow_old (w.drewN n) os (k := k) (by show k < w.heap.size; omega)]; rfl⟩

set_option maxHeartbeats 1600000 in
theorem right_any (k n : Int) (s : ByteArray) (w : World) :
    Calls Try.prog 28 #[.agg #[.int .i64 k, .int .i64 n, .string s]] w fun e w' => e = .returned (.bool (rightV k n s)) ∧ Below w.heap.size w w' := by
  have heq := eqVal
  have hm : Try.prog.follows .mixedOrders = true := by kernel_rfl
  obtain ⟨c0, c1, c2, hbel⟩ := VS.new w k n s
  have hb := World.block_lt_of_cell? _ _ c0
  have d0 := cell_grown (by exact hb) c0
  have d1 := cell_grown (by exact hb) c1
  have d2 := cell_grown (by exact hb) c2
  have HB := Lib.hid hbel
  have HL := Lib.hid (Nat.le_of_lt hb)
  clear hb c0 c1 c2 hbel
  by_cases h0 : k = 0
  · subst h0
    go_enter Try.func28, Try.ntmps28
    go_wp2_with fail
    go_quiet_grown (first | (go_at_call 29; exact ValRet.grown null_any) | (go_at_call 35; exact ValRet.grown (number_any _)) | (go_at_call 36; exact ValRet.grown (truth_any _)) | (go_at_call 37; exact ValRet.grown (text_val _)))
    go_wp2
    go_ret
    exact ⟨by simp [rightV], below_grow HB.out HL.out _ _⟩
  by_cases h1 : k = 1
  · subst h1
    go_enter Try.func28, Try.ntmps28
    go_wp2_with fail
    go_quiet_grown (first | (go_at_call 29; exact ValRet.grown null_any) | (go_at_call 35; exact ValRet.grown (number_any _)) | (go_at_call 36; exact ValRet.grown (truth_any _)) | (go_at_call 37; exact ValRet.grown (text_val _)))
    go_wp2
    go_ret
    exact ⟨by simp [rightV], below_grow HB.out HL.out _ _⟩
  by_cases h2 : k = 2
  · subst h2
    by_cases hn : n = 0 ∧ s = ⟨#[]⟩
    · obtain ⟨rfl, rfl⟩ := hn
      go_enter Try.func28, Try.ntmps28
      go_wp2_with fail
      go_quiet_grown (first | (go_at_call 29; exact ValRet.grown null_any) | (go_at_call 35; exact ValRet.grown (number_any _)) | (go_at_call 36; exact ValRet.grown (truth_any _)) | (go_at_call 37; exact ValRet.grown (text_val _)))
      go_wp2
      go_ret
      exact ⟨by simp [rightV], below_grow HB.out HL.out _ _⟩
    · have hd : (decide (n = 0) && decide (s = ⟨#[]⟩)) = false := by
        by_cases h : n = 0
        · simp [h]; exact fun h2 => hn ⟨h, h2⟩
        · simp [h]
      have HN := Lib.hid hn
      clear hn
      go_enter Try.func28, Try.ntmps28
      go_wp2_with fail
      go_quiet_grown (first | (go_at_call 29; exact ValRet.grown null_any) | (go_at_call 35; exact ValRet.grown (number_any _)) | (go_at_call 36; exact ValRet.grown (truth_any _)) | (go_at_call 37; exact ValRet.grown (text_val _)))
      go_wp2
      go_ret
      exact ⟨by have := HN.out; by_cases h : n = 0 <;> simp_all [rightV], below_grow HB.out HL.out _ _⟩
  by_cases h3 : k = 3
  · subst h3
    by_cases hn : n = 0
    · subst hn
      go_enter Try.func28, Try.ntmps28
      go_wp2_with fail
      go_quiet_grown (first | (go_at_call 29; exact ValRet.grown null_any) | (go_at_call 35; exact ValRet.grown (number_any _)) | (go_at_call 36; exact ValRet.grown (truth_any _)) | (go_at_call 37; exact ValRet.grown (text_val _)))
      go_wp2
      go_ret
      exact ⟨by simp [rightV]; omega, below_grow HB.out HL.out _ _⟩
    · have hd : decide (n = 0) = false := by simp [hn]
      go_enter Try.func28, Try.ntmps28
      go_wp2_with fail
      go_quiet_grown (first | (go_at_call 29; exact ValRet.grown null_any) | (go_at_call 35; exact ValRet.grown (number_any _)) | (go_at_call 36; exact ValRet.grown (truth_any _)) | (go_at_call 37; exact ValRet.grown (text_val _)))
      go_wp2
      go_ret
      exact ⟨by simp [rightV, hn], below_grow HB.out HL.out _ _⟩
  go_enter Try.func28, Try.ntmps28
  go_wp2
  go_ret
  exact ⟨by simp [rightV, h0, h1, h2, h3], HB.out⟩
end Go.Proofs.Ythpchenmfenjmaa
