/-
  The contract of number.
-/
import Derived.Test.YtkdhmbfmjlpfbaaDoorKEncd
import Derived.Test.YtkdhmbfmjlpfbaaDoorRefV
import Derived.Laws.Bits64b
import Derived.Laws.IdiomStrings
namespace Go.Proofs.YtkdhmbfmjlpfbaaDoor
open Go.RowKit Go.Lib

theorem valB_lt : ∀ (l : List Int) (acc : Nat), IsBytes l → valB acc l < (acc + 1) * 256 ^ l.length
  | [], acc, _ => by simp [valB]
  | x :: l, acc, h => by
    have hx := h x (by simp)
    have ih := valB_lt l (acc * 256 + x.toNat) (fun y hy => h y (by simp [hy]))
    have e : valB acc (x :: l) = valB (acc * 256 + x.toNat) l := by simp [valB]
    rw [e, List.length_cons, Nat.pow_succ]
    refine Nat.lt_of_lt_of_le ih ?_
    rw [Nat.mul_comm (256 ^ l.length) 256, ← Nat.mul_assoc]
    exact Nat.mul_le_mul_right _ (by omega)
theorem valB_snoc (l : List Int) (x : Int) (acc : Nat) : valB acc (l ++ [x]) = valB acc l * 256 + x.toNat := by simp [valB]

def NmRel (l : List Int) (u i : Value) : Prop :=
  ∃ k : Nat, k ≤ l.length ∧ i = .int .i64 k ∧ u = .int .u64 ((valB 0 (l.take k) : Nat) : Int)

theorem bits_cells (s : ByteArray) : (s.data.toList.map (fun b => Value.int .u8 ((b.toNat : Nat) : Int))) = cells (bytes s) := by simp [cells, bytes]
theorem or_digit {a x : Nat} (hx : x < 256) : (a * 256) ||| x = a * 256 + x := by
  rw [show a * 256 = a <<< 8 by rw [Nat.shiftLeft_eq], ← Nat.shiftLeft_add_eq_or_of_lt (by simpa using hx)]

theorem conv_str (s : ByteArray) (w : World) : ∃ cap w', (convert 9 44 (.string s)).run Tryd.prog w = .ok (.slice (some ⟨w.heap.size, 0, none⟩) s.size cap) w' ∧ Below w.heap.size w w' ∧ Rd w' (w.heap.size + 1) (some ⟨w.heap.size, 0, none⟩) s.size (cells (bytes s)) := by
  refine ⟨_, _, run_bytes_of_string w _ _ 5 s Tryd.underlying9 Tryd.underlying44 Tryd.underlying5, ((Below.refl _ _).drew).alloc (Nat.le_refl _) _, by rw [cells_len, bytes_len], fun _ => ⟨_, rfl, Nat.lt_succ_self _, fun j u hu => ?_⟩⟩
  have hj : j < (bytes s).length := by have := (List.getElem?_eq_some_iff.1 hu).1; rwa [cells_len] at this
  have hj' : j < s.data.size := by rw [bytes_len] at hj; exact hj
  rw [cells_at hj] at hu
  obtain rfl := Option.some.inj hu
  rw [addr_mid, Nat.zero_add]
  exact (cell_of_row _ _ j _ _ _ (heap_alloc_new w.drew _)).trans (by rw [bytesRow_at s _ j hj', bytes_getElem s j hj' hj]; rfl)

set_option maxRecDepth 100000 in
set_option maxHeartbeats 1600000 in
theorem number_any' (s : ByteArray) (w : World) (hs : s.size ≤ 8) :
    Calls Tryd.prog 45 #[.string s] w fun e w' => e = .returned (.int .i64 (wrap64 ((valB 0 (bytes s) : Int) - 9223372036854775808))) ∧ Below w.heap.size w w' := by
  have hl : (bytes s).length = s.size := bytes_len s
  obtain ⟨cap, w1, hconv, hb, hrd⟩ := conv_str s w
  have HB := Lib.hid hb
  have HR := Lib.hid hrd
  clear hb hrd
  go_enter Tryd.func45, Tryd.ntmps45
  go_wp2_with fail
  go_loop [3, 9] (fun u i => NmRel (bytes s) u i) (fun _ i => s.size - (Lib.intOf i).toNat)
  case atStart => exact ⟨0, by omega, rfl, by simp [valB]⟩
  case round =>
    obtain ⟨k, hk, rfl, rfl⟩ := hrel
    have hk0 : (0 : Int) ≤ (k : Int) := Int.natCast_nonneg _
    by_cases hlt : k < s.size
    · have hlt1 : (k : Int) < (s.size : Int) := by omega
      obtain ⟨ad, u, e1, _, hu, hc⟩ := HR.out.at_ hlt
      obtain rfl := Option.some.inj e1
      have hkl : k < (bytes s).length := by omega
      rw [cells_at hkl] at hu
      obtain rfl := Option.some.inj hu
      rw [addr_mid, Nat.zero_add] at hc
      obtain ⟨x, hx⟩ : ∃ x, x = (bytes s)[k] := ⟨_, rfl⟩
      rw [← hx] at hc
      have hxb := bytes_is s x (by rw [hx]; exact List.getElem_mem _)
      have hnext : valB 0 ((bytes s).take (k + 1)) = valB 0 ((bytes s).take k) * 256 + x.toNat := by
        rw [List.take_succ_eq_append_getElem hkl, valB_snoc, ← hx]
      have hbd := valB_lt ((bytes s).take k) 0 ((bytes_is s).take k)
      rw [List.length_take, Nat.min_eq_left (by omega), Nat.zero_add, Nat.one_mul] at hbd
      obtain ⟨a, ha⟩ : ∃ a, a = valB 0 ((bytes s).take k) := ⟨_, rfl⟩
      rw [← ha] at hnext hbd ⊢
      have h56 : a < 72057594037927936 := Nat.lt_of_lt_of_le hbd (Nat.le_trans (Nat.pow_le_pow_right (by omega) (show k ≤ 7 by omega)) (by decide))
      have hw1 : IntKind.u64.wrap (a * 256) = ((a * 256 : Nat) : Int) := by rw [IntKind.wrap_u64]; omega
      have hw2 : IntKind.u64.wrap x = x := by rw [IntKind.wrap_u64]; omega
      have HO := Lib.hid (show bits .or .u64 ((a * 256 : Nat) : Int) x = ((a * 256 + x.toNat : Nat) : Int) by
        have h := bits_or_u64_nat (a * 256) x.toNat (by omega) (by omega)
        rw [Int.toNat_of_nonneg hxb.1, or_digit (by omega)] at h
        exact h)
      have HN := Lib.hid hnext
      clear hu hx ha hnext hbd e1
      go_wp2
      exact ⟨⟨k + 1, by omega, by go_num, by rw [HN.out, ← HO.out]; rfl⟩, by simp [Lib.intOf]; omega⟩
    · have hlt1 : ¬ (k : Int) < (s.size : Int) := by omega
      rw [List.take_of_length_le (by omega)]
      obtain ⟨a, ha⟩ : ∃ a, a = valB 0 (bytes s) := ⟨_, rfl⟩
      rw [← ha]
      have HV := Lib.hid (show wrap64 (IntKind.u64.wrap ((a : Int) - 9223372036854775808)) = wrap64 ((valB 0 (bytes s) : Int) - 9223372036854775808) by
        rw [← ha, IntKind.wrap_u64]
        unfold wrap64
        omega)
      clear ha
      go_wp2
      go_ret
      exact ⟨ret_int HV.out, HB.out⟩
end Go.Proofs.YtkdhmbfmjlpfbaaDoor
