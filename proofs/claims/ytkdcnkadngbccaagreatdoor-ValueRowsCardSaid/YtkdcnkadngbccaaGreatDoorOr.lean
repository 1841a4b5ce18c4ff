/-
  A digit is laid upon a number by a shift and an or: that is a sum.
-/
import Derived.Test.YtkdcnkadngbccaaGreatDoorWords
import Derived.Laws.Bits64b
namespace Go.Proofs.YtkdcnkadngbccaaGreatDoor
open Go.RowKit Go.Lib

theorem pow128 (k : Nat) : (2 : Int) ^ (7 * k) = ((128 ^ k : Nat) : Int) := by
  rw [Int.natCast_pow]
  rw [Int.pow_mul]
  rfl

theorem or_sum {a b k : Nat} (h : a < 128 ^ k) : a ||| (b * 128 ^ k) = a + b * 128 ^ k := by
  have e : 128 ^ k = 2 ^ (7 * k) := by rw [Nat.pow_mul]
  rw [e] at h ⊢
  rw [← Nat.shiftLeft_eq, Nat.or_comm, ← Nat.shiftLeft_add_eq_or_of_lt h, Nat.add_comm]

theorem digit_bd {k x : Nat} (hk : k ≤ 9) (hx : x < 128) (h9 : k = 9 → x ≤ 1) : x * 128 ^ k ≤ 9223372036854775808 := by
  rcases Nat.lt_or_ge k 9 with h | h
  · have h1 : 128 ^ k ≤ 128 ^ 8 := Nat.pow_le_pow_right (by omega) (by omega)
    have h2 : x * 128 ^ k ≤ 128 * 128 ^ 8 := Nat.mul_le_mul (by omega) h1
    exact Nat.le_trans h2 (by decide)
  · have h3 : k = 9 := by omega
    subst h3
    have h2 : x * 128 ^ 9 ≤ 1 * 128 ^ 9 := Nat.mul_le_mul_right _ (h9 rfl)
    exact Nat.le_trans h2 (by decide)

theorem acc_bd {k acc : Nat} (hk : k ≤ 9) (h : acc < 128 ^ k) : acc < 9223372036854775808 := by
  have h1 : 128 ^ k ≤ 128 ^ 9 := Nat.pow_le_pow_right (by omega) hk
  exact Nat.lt_of_lt_of_le h (Nat.le_trans h1 (by decide))

theorem next_bd {k acc x : Nat} (h : acc < 128 ^ k) (hx : x < 128) : acc + x * 128 ^ k < 128 ^ (k + 1) := by
  rw [Nat.pow_succ]
  have h1 : (x + 1) * 128 ^ k ≤ 128 * 128 ^ k := Nat.mul_le_mul_right _ hx
  rw [Nat.add_mul, Nat.one_mul] at h1
  rw [Nat.mul_comm (128 ^ k)]
  omega

theorem shl_val {k : Nat} {d : Int} (hk : k ≤ 9) (h9 : k = 9 → d % 128 ≤ 1) : IntKind.u64.wrap (d % 128 * 2 ^ (7 * k)) = (((d % 128).toNat * 128 ^ k : Nat) : Int) := by
  have hb := digit_bd (x := (d % 128).toNat) hk (by omega) (by omega)
  have e : d % 128 * 2 ^ (7 * k) = (((d % 128).toNat * 128 ^ k : Nat) : Int) := by
    rw [pow128, Int.natCast_mul, Int.toNat_of_nonneg (by omega)]
  rw [e, IntKind.wrap_u64]
  generalize (d % 128).toNat * 128 ^ k = q at hb
  omega

theorem or_val {k acc : Nat} {d : Int} (hk : k ≤ 9) (hacc : acc < 128 ^ k) (h9 : k = 9 → d % 128 ≤ 1) :
    bits .or .u64 (acc : Int) (IntKind.u64.wrap (d % 128 * 2 ^ (7 * k))) = ((acc + (d % 128).toNat * 128 ^ k : Nat) : Int) := by
  have h1 := acc_bd hk hacc
  have hb := digit_bd (x := (d % 128).toNat) hk (by omega) (by omega)
  rw [shl_val hk h9, bits_or_u64_nat _ _ (by omega) (by omega), or_sum hacc]

theorem sum_bd {k acc : Nat} {d : Int} (hk : k ≤ 9) (hacc : acc < 128 ^ k) (h9 : k = 9 → d % 128 ≤ 1) : acc + (d % 128).toNat * 128 ^ k < 18446744073709551616 := by
  have h1 := acc_bd hk hacc
  have hb := digit_bd (x := (d % 128).toNat) hk (by omega) (by omega)
  omega

end Go.Proofs.YtkdcnkadngbccaaGreatDoor
