/-
  The order of values: the contracts of cmp.Compare, strings.Compare, cmp.Or and Order.
-/
import Derived.Test.YthpchenmfenjmaaVal
import Derived.StillTailTactics
namespace Go.Proofs.Ythpchenmfenjmaa
open Go.RowKit Go.Lib

def cmpI (a b : Int) : Int := if a < b then -1 else if b < a then 1 else 0
def cmpS (s t : ByteArray) : Int := compareBytes s.data.toList t.data.toList
def orI (x y z : Int) : Int := if x ≠ 0 then x else if y ≠ 0 then y else z
def ordV (k n : Int) (s : ByteArray) (k' n' : Int) (s' : ByteArray) : Int := orI (cmpI k k') (cmpI n n') (cmpS s s')

theorem compare_any (a b : Int) (w : World) : Calls Try.prog 39 #[.int .i64 a, .int .i64 b] w fun e w' => e = .returned (.int .i64 (cmpI a b)) ∧ w' = w := by
  have hne : (a != a) = false := by simp
  have hne' : (b != b) = false := by simp
  by_cases h1 : a < b
  · go_enter Try.func39, Try.ntmps39
    go_wp2
    go_ret
    exact ⟨ret_int (by simp [cmpI, h1]), rfl⟩
  · by_cases h2 : b < a
    · go_enter Try.func39, Try.ntmps39
      go_wp2
      go_ret
      exact ⟨ret_int (by simp [cmpI, h1, h2]), rfl⟩
    · go_enter Try.func39, Try.ntmps39
      go_wp2
      go_ret
      exact ⟨ret_int (by unfold cmpI; rw [if_neg (by omega), if_neg (by omega)]), rfl⟩

set_option maxRecDepth 100000 in
theorem compareString_any (a b : ByteArray) (w : World) : Calls Try.prog 42 #[.string a, .string b] w fun e w' => e = .returned (.int .i64 (cmpS a b)) ∧ w' = w := by
  go_enter Try.func42, Try.ntmps42
  go_wp2
  rw [run_callFunc_extern Try.func43 (by kernel_rfl) (by kernel_rfl) (by kernel_rfl) (e := Extern.BytealgCompare.compare) (by kernel_rfl), run_compareString]
  simp only [Result.andThen]
  rw [Oper.upon_value]
  go_wp2
  go_ret
  exact ⟨rfl, rfl⟩
theorem strcmp_any (s t : ByteArray) (w : World) : Calls Try.prog 40 #[.string s, .string t] w fun e w' => e = .returned (.int .i64 (cmpS s t)) ∧ w' = w := by
  go_enter Try.func40, Try.ntmps40
  go_wp2_with fail
  refine (compareString_any s t _).mono ?_
  rintro e w' ⟨rfl, rfl⟩
  go_wp2
  go_ret
  exact ⟨rfl, rfl⟩

def OrRel (x y z : Int) (i : Value) : Prop := ∃ j : Nat, j ≤ 3 ∧ i = .int .i64 j ∧ (0 < j → x = 0) ∧ (1 < j → y = 0) ∧ (2 < j → z = 0)

theorem or_any (b : Nat) (x y z : Int) (w : World) (c0 : w.cell? ⟨b, 0, none⟩ = some (.int .i64 x)) (c1 : w.cell? ⟨b, 1, none⟩ = some (.int .i64 y)) (c2 : w.cell? ⟨b, 2, none⟩ = some (.int .i64 z)) :
    Calls Try.prog 38 #[.slice (some ⟨b, 0, none⟩) 3 3] w fun e w' => e = .returned (.int .i64 (orI x y z)) ∧ w' = w := by
  go_enter Try.func38, Try.ntmps38
  go_wp2
  go_loop [8] (fun i => OrRel x y z i) (fun i => 3 - (intOf i).toNat)
  case atStart => exact ⟨0, by omega, rfl, by omega, by omega, by omega⟩
  case round =>
    obtain ⟨j, hj, rfl, hx, hy, hz⟩ := hrel
    rcases (by omega : j = 0 ∨ j = 1 ∨ j = 2 ∨ j = 3) with h | h | h | h
    · obtain rfl : j = 0 := by omega
      by_cases g : x = 0
      · subst g
        go_wp2
        go_round
        case rel => exact ⟨1, by omega, rfl, by omega, by omega, by omega⟩
        case measure => simp [intOf]
      · have hd : (x != 0) = true := by simp [g]
        go_wp2
        go_ret
        exact ⟨ret_int (by unfold orI; rw [if_pos g]), rfl⟩
    · obtain rfl : j = 1 := by omega
      by_cases g : y = 0
      · subst g
        go_wp2
        go_round
        case rel => exact ⟨2, by omega, rfl, by omega, by omega, by omega⟩
        case measure => simp [intOf]
      · have hd : (y != 0) = true := by simp [g]
        go_wp2
        go_ret
        exact ⟨ret_int (by unfold orI; rw [if_neg (by simp), if_pos g]), rfl⟩
    · obtain rfl : j = 2 := by omega
      by_cases g : z = 0
      · subst g
        go_wp2
        go_round
        case rel => exact ⟨3, by omega, rfl, by omega, by omega, by omega⟩
        case measure => simp [intOf]
      · have hd : (z != 0) = true := by simp [g]
        go_wp2
        go_ret
        exact ⟨ret_int (by unfold orI; rw [if_neg (by simp), if_neg (by simp)]), rfl⟩
    · obtain rfl : j = 3 := by omega
      have HZ := Lib.hid (And.intro (hx (by omega)) (And.intro (hy (by omega)) (hz (by omega))))
      clear hx hy hz
      go_wp2
      go_ret
      exact ⟨ret_int (by unfold orI; rw [if_neg (by simp [HZ.out.1]), if_neg (by simp [HZ.out.2.1]), HZ.out.2.2]), rfl⟩

/-- two values that the call has boxed -/
theorem two_boxed (w : World) (k n : Int) (s : ByteArray) (k' n' : Int) (s' : ByteArray) :
    ∃ w2, w2 = (w.alloc (.cells #[.int .i64 k, .int .i64 n, .string s] 23)).alloc (.cells #[.int .i64 k', .int .i64 n', .string s'] 23) ∧
      (w2.cell? ⟨w.heap.size, 0, none⟩ = some (.int .i64 k) ∧ w2.cell? ⟨w.heap.size, 1, none⟩ = some (.int .i64 n) ∧ w2.cell? ⟨w.heap.size, 2, none⟩ = some (.string s)) ∧
      (w2.cell? ⟨w.heap.size + 1, 0, none⟩ = some (.int .i64 k') ∧ w2.cell? ⟨w.heap.size + 1, 1, none⟩ = some (.int .i64 n') ∧ w2.cell? ⟨w.heap.size + 1, 2, none⟩ = some (.string s')) ∧
      Below w.heap.size w w2 := by
  have h1 := VS.new w k n s
  have h2 := VS.new (w.alloc (.cells #[.int .i64 k, .int .i64 n, .string s] 23)) k' n' s'
  have sz : (w.alloc (.cells #[.int .i64 k, .int .i64 n, .string s] 23)).heap.size = w.heap.size + 1 := by simp
  have h3 := h1.below h2.2.2.2
  rw [sz] at h2
  exact ⟨_, rfl, ⟨h3.1, h3.2.1, h3.2.2.1⟩, ⟨h2.1, h2.2.1, h2.2.2.1⟩, h3.2.2.2⟩

set_option maxRecDepth 100000 in
set_option maxHeartbeats 1600000 in
theorem order_any (k n : Int) (s : ByteArray) (k' n' : Int) (s' : ByteArray) (w : World) :
    Calls Try.prog 30 #[.agg #[.int .i64 k, .int .i64 n, .string s], .agg #[.int .i64 k', .int .i64 n', .string s']] w
      fun e w' => e = .returned (.int .i64 (ordV k n s k' n' s')) ∧ Below w.heap.size w w' := by
  obtain ⟨w2, hw2, ⟨c0, c1, c2⟩, ⟨d0, d1, d2⟩, hb⟩ := two_boxed w k n s k' n' s'
  have HW := Lib.hid hw2
  have HB := Lib.hid hb
  clear hw2 hb
  go_enter Try.func30, Try.ntmps30
  go_wp2_with fail
  rw [← HW.out]
  go_still_tail 15, (by kernel_rfl)
  still_call ((compare_any k k' _).mono fun e w' h => h)
  repeat still_step
  still_call ((compare_any n n' _).mono fun e w' h => h)
  repeat still_step
  still_call ((strcmp_any s s' _).mono fun e w' h => h)
  repeat still_step
  refine wpStill_nil ?_
  change wpList _ _ _ _ _ w2.drew
  go_wp2_with fail
  have hk := Blk.new w2.drew 3 #[.int .i64 (cmpI k k'), .int .i64 (cmpI n n'), .int .i64 (cmpS s s')]
  refine (or_any w2.drew.heap.size (cmpI k k') (cmpI n n') (cmpS s s') _ (hk.cell 0) (hk.cell 1) (hk.cell 2)).mono ?_
  rintro e w3 ⟨rfl, rfl⟩
  go_wp2
  go_ret
  exact ⟨rfl, HB.out.drew.alloc HB.out.size _⟩
end Go.Proofs.Ythpchenmfenjmaa
