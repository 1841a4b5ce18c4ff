/-
  The landed modes: Right, asBits.
-/
import Derived.Test.YtbkffcopahiilaaMoI
import Derived.Laws.Bits64b
namespace Go.Proofs.Ytbkffcopahiilaa
open Go.RowKit Go.Lib

set_option maxRecDepth 100000 in
set_option maxHeartbeats 3200000 in
theorem right_any (m : Int) (w : World) : Says Try.prog 9 #[.int .i64 m] w (.bool (rgB m)) := by
  unfold rgB
  by_cases h1 : 1 ≤ m
  · have d1 : decide (1 ≤ m) = true := decide_eq_true h1
    by_cases h2 : m ≤ 8
    · have d2 : decide (m ≤ 8) = true := decide_eq_true h2
      go_enter Try.func9, Try.ntmps9
      go_wp2_with fail
      go_ret
      exact ⟨by first | rfl | (rw [d1, d2]; rfl), Below.refl _ _⟩
    · have d2 : decide (m ≤ 8) = false := decide_eq_false h2
      go_enter Try.func9, Try.ntmps9
      go_wp2_with fail
      go_ret
      exact ⟨by first | rfl | (rw [d1, d2]; rfl), Below.refl _ _⟩
  · have d1 : decide (1 ≤ m) = false := decide_eq_false h1
    go_enter Try.func9, Try.ntmps9
    go_wp2_with fail
    go_ret
    exact ⟨by first | rfl | (rw [d1]; rfl), Below.refl _ _⟩
/-- a mode more, as a bit -/
def bitN (s : Nat) (m : Int) : Nat := if rgB m then s ||| 2 ^ m.toNat else s
def bitsN (l : List Int) (s : Nat) : Nat := l.foldl bitN s
theorem bitN_lt {s : Nat} (h : s < 512) (m : Int) : bitN s m < 512 := by
  unfold bitN
  split
  · rename_i hr
    have : m.toNat < 9 := by
      unfold rgB at hr
      simp only [Bool.and_eq_true, decide_eq_true_eq] at hr
      omega
    exact Nat.or_lt_two_pow (n := 9) h (Nat.pow_lt_pow_right (by omega) this)
  · exact h
theorem or_bit {u k : Nat} (hu : u < 512) (hk : k ≤ 8) : bits .or .u64 (u : Int) (IntKind.u64.wrap (2 ^ k)) = ((u ||| 2 ^ k : Nat) : Int) := by
  have h1 : 2 ^ k ≤ 2 ^ 8 := Nat.pow_le_pow_right (by omega) hk
  have e : IntKind.u64.wrap (2 ^ k) = ((2 ^ k : Nat) : Int) := by
    have e1 : (2 : Int) ^ k = ((2 ^ k : Nat) : Int) := by rw [Int.natCast_pow]; rfl
    rw [e1, IntKind.wrap_u64]
    generalize 2 ^ k = q at h1
    omega
  rw [e, bits_or_u64_nat _ _ (by omega) (by generalize 2 ^ k = q at h1; omega)]
set_option maxRecDepth 100000 in
set_option maxHeartbeats 3200000 in
theorem asBits_any (l : List Int) (A : Option Addr) (n c : Nat) (w : World) (hn : n = l.length) (h8 : l.length ≤ 8) (hrd : Rd w w.heap.size A n (l.map fun x => .int .i64 x)) :
    Says Try.prog 21 #[.slice A n c] w (.int .u64 (bitsN l 0 : Nat)) := by
  have hri := fun (x : Int) (w : World) => right_any x w
  have HC := Lib.hid hri
  obtain ⟨r, hr⟩ : ∃ r, r = bitsN l 0 := ⟨_, rfl⟩
  rw [← hr]
  have H1 := Lib.hid (And.intro hn (And.intro hrd hr))
  have hn8 : n ≤ 8 := by omega
  have hn0 : (0 : Int) ≤ (n : Int) := Int.natCast_nonneg _
  clear hn hrd hri hr h8
  go_enter Try.func21, Try.ntmps21
  go_wp2_with fail
  go_loopw [3, 8] (fun s i wx => ∃ (k u : Nat), k ≤ n ∧ i = .int .i64 k ∧ s = .int .u64 u ∧ u < 512 ∧ bitsN (l.drop k) u = r ∧ Below w.heap.size w wx) (fun _ i _ => n - (intOf i).toNat)
  case atStart => exact ⟨0, 0, Nat.zero_le _, rfl, rfl, by decide, by rw [List.drop_zero]; exact H1.out.2.2.symm, Below.refl _ _⟩
  case round =>
    obtain ⟨k, u, hk, rfl, rfl, hu, hat, hb⟩ := hrel
    have hk0 : (0 : Int) ≤ (k : Int) := Int.natCast_nonneg _
    have HAT := Lib.hid hat
    have HB := Lib.hid hb
    clear hat hb
    by_cases hlt : k < n
    · have hlt1 : (k : Int) < (n : Int) := by omega
      have hkl : k < l.length := by rw [← H1.out.1]; exact hlt
      obtain ⟨ad, rfl, hlow, hc⟩ := H1.out.2.1.2 (by omega)
      have d0 := hc k (.int .i64 l[k]) (by rw [List.getElem?_map, List.getElem?_eq_getElem hkl]; rfl)
      obtain ⟨x, hx⟩ : ∃ x, x = l[k] := ⟨_, rfl⟩
      have hst : bitsN (l.drop (k + 1)) (bitN u x) = r := by rw [← HAT.out, List.drop_eq_getElem_cons hkl, ← hx]; rfl
      rw [← hx] at d0
      have d1 := (HB.out.cell (p := ad.add k) (by unfold Addr.add; split <;> exact hlow)).trans d0
      have hlt2 : bitN u x < 512 := bitN_lt hu x
      have HX := Lib.hid (And.intro hst hlt2)
      clear hx hc d0 hst hlt2
      cases hr : rgB x with
      | false =>
        have hbx : bitN u x = u := by unfold bitN; rw [hr]; rfl
        rw [hbx] at HX
        have HR := Lib.hid hr
        clear hr hbx
        go_wp2_with (go_at_call 9; refine (HC.out _ _).mono ?_; rw [HR.out]; rintro e w1 ⟨rfl, hb⟩; have hb2 := HB.out.trans (hb.mono HB.out.size); clear HB hb; have HB := Lib.hid hb2; clear hb2)
        go_roundw
        case rel => exact ⟨k + 1, u, by omega, by go_num, rfl, hu, HX.out.1, HB.out⟩
        case measure => simp [intOf]; omega
      | true =>
        have hbx : bitN u x = u ||| 2 ^ x.toNat := by unfold bitN; rw [hr]; rfl
        rw [hbx] at HX
        have HR := Lib.hid hr
        have hx1 : 1 ≤ x ∧ x ≤ 8 := by
          unfold rgB at hr
          simpa only [Bool.and_eq_true, decide_eq_true_eq] using hr
        clear hr hbx
        go_wp2_with (go_at_call 9; refine (HC.out _ _).mono ?_; rw [HR.out]; rintro e w1 ⟨rfl, hb⟩; have hb2 := HB.out.trans (hb.mono HB.out.size); clear HB hb; have HB := Lib.hid hb2; clear hb2)
        go_roundw
        case rel => exact ⟨k + 1, u ||| 2 ^ x.toNat, by omega, by go_num, by rw [or_bit (by omega) (by omega)], HX.out.2, HX.out.1, HB.out⟩
        case measure => simp [intOf]; omega
    · have hlt1 : ¬ (k : Int) < (n : Int) := by omega
      go_wp2_with fail
      go_ret
      refine ⟨?_, HB.out⟩
      rw [← HAT.out, List.drop_eq_nil_of_le (by rw [← H1.out.1]; omega)]
      rfl
end Go.Proofs.Ytbkffcopahiilaa
