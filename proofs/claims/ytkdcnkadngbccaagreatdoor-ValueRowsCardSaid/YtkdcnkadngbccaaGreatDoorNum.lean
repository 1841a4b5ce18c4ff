/-
  The contract of layer 1's number: the number that bytes begin with.
-/
import Derived.Test.YtkdcnkadngbccaaGreatDoorSame
import Derived.Test.YtkdcnkadngbccaaGreatDoorOr
namespace Go.Proofs.YtkdcnkadngbccaaGreatDoor
open Go.RowKit Go.Lib

/-- what 'number' answers -/
def numV (l : List Int) : Int × Int := match num l with
  | none => (0, 0)
  | some (u, k) => (unfoldN u, (k : Int))

def NumRel (l : List Int) (i u : Value) : Prop :=
  ∃ k acc : Nat, k ≤ l.length ∧ k ≤ 9 ∧ i = .int .i64 (k : Int) ∧ u = .int .u64 (acc : Int) ∧ acc < 128 ^ k ∧ num l = dec k acc (l.drop k)

def NumRet (l : List Int) (w : World) (e : Ending) (w' : World) : Prop := e = .returned (.tuple #[.int .i64 (numV l).1, .int .i64 (numV l).2]) ∧ w = w'

theorem val_int {k : IntKind} {a b : Int} (h : a = b) : Value.int k a = Value.int k b := by rw [h]
theorem dec_high {k acc : Nat} {d : Int} {r : List Int} (h : k = 9 ∧ 1 < d) : dec k acc (d :: r) = none := by rw [dec, if_pos h]
theorem dec_more {k acc : Nat} {d : Int} {r : List Int} (h : ¬ (k = 9 ∧ 1 < d)) (h1 : 128 ≤ d) : dec k acc (d :: r) = dec (k + 1) (acc + (d % 128).toNat * 128 ^ k) r := by rw [dec, if_neg h, if_pos h1]
theorem dec_zero {k acc : Nat} {d : Int} {r : List Int} (h : ¬ (k = 9 ∧ 1 < d)) (h1 : ¬ 128 ≤ d) (h2 : d = 0 ∧ 0 < k) : dec k acc (d :: r) = none := by rw [dec, if_neg h, if_neg h1, if_pos h2]
theorem dec_last {k acc : Nat} {d : Int} {r : List Int} (h : ¬ (k = 9 ∧ 1 < d)) (h1 : ¬ 128 ≤ d) (h2 : ¬ (d = 0 ∧ 0 < k)) : dec k acc (d :: r) = some (acc + (d % 128).toNat * 128 ^ k, k + 1) := by rw [dec, if_neg h, if_neg h1, if_neg h2]

theorem NumRet.none_ {l : List Int} {w : World} (h : num l = none) : NumRet l w (.returned (.tuple #[.int .i64 0, .int .i64 0])) w := by
  unfold NumRet numV
  rw [h]
  exact ⟨rfl, rfl⟩
theorem NumRet.some_ {l : List Int} {w : World} {u k : Nat} (h : num l = some (u, k + 1)) : NumRet l w (.returned (.tuple #[.int .i64 (unfoldN u), .int .i64 ((k : Int) + 1)])) w := by
  unfold NumRet numV
  rw [h]
  exact ⟨rfl, rfl⟩

set_option maxRecDepth 100000 in
set_option maxHeartbeats 1600000 in
theorem bnum_any (A : Option Addr) (n c : Nat) (l : List Int) (w : World) (B : Nat) (hr : Rd w B A n (cells l)) (hb : IsBytes l) (hn : n ≤ 140000000000000) :
    Calls Tryz.prog 70 #[.slice A n c] w (NumRet l w) := by
  have hlen : l.length = n := by have := hr.len; rwa [cells_len] at this
  subst hlen
  go_enter Tryz.func70, Tryz.ntmps70
  go_wp2
  go_loop [9, 4] (fun i u => NumRel l i u) (fun i _ => l.length - (intOf i).toNat)
  case atStart => exact ⟨0, 0, by omega, by omega, rfl, rfl, by simp, rfl⟩
  case round =>
    obtain ⟨k, acc, hk, hk9, rfl, rfl, hacc, hnum⟩ := hrel
    by_cases hlt : k < l.length
    · obtain ⟨ad, u, rfl, _, hu, hc⟩ := hr.at_ hlt
      rw [cells_at hlt] at hu
      obtain rfl := Option.some.inj hu
      have hd := hb _ (List.getElem_mem hlt)
      rw [List.drop_eq_getElem_cons hlt] at hnum
      generalize l[k] = d at hc hd hu hnum
      clear hr hu
      obtain ⟨hd0, hd1⟩ := hd
      by_cases h9 : k = 9 ∧ 1 < d
      · rw [dec_high h9] at hnum
        have HF := Lib.hid (NumRet.none_ (w := w) hnum)
        obtain ⟨h9, h91⟩ := h9
        have h9a : 9 ≤ k := by omega
        clear hnum hacc h9
        go_wp2
        go_ret2
        exact HF.out
      · have h9' : k = 9 → d % 128 ≤ 1 := by omega
        have HV := Lib.hid (or_val hk9 hacc h9')
        have HS := Lib.hid (sum_bd hk9 hacc h9')
        have HA := Lib.hid (next_bd (x := (d % 128).toNat) hacc (by omega))
        clear hacc
        by_cases h128 : 128 ≤ d
        · have hkk : k < 9 := by omega
          rw [dec_more h9 h128] at hnum
          have HN := Lib.hid hnum
          clear hnum h9 h9'
          go_wp2
          go_round
          case rel => exact ⟨k + 1, acc + (d % 128).toNat * 128 ^ k, by omega, by omega, by go_num, val_int HV.out, HA.out, HN.out⟩
          case measure => simp [intOf]; omega
        · by_cases h0 : d = 0 ∧ 0 < k
          · rw [dec_zero h9 h128 h0] at hnum
            have HF := Lib.hid (NumRet.none_ (w := w) hnum)
            rcases (show (d ≤ 0 ∧ 0 < k ∧ k < 9) ∨ (d ≤ 0 ∧ 0 < k ∧ 9 ≤ k) by omega) with ⟨h1, h2, h3⟩ | ⟨h1, h2, h3⟩
            all_goals
              clear hnum h9 h9' h0
              go_wp2
              go_ret2
              exact HF.out
          · rw [dec_last h9 h128 h0] at hnum
            have HF := Lib.hid (NumRet.some_ (w := w) hnum)
            by_cases hk8 : k < 9
            · rcases (show 1 ≤ d ∨ (d ≤ 0 ∧ k ≤ 0) by omega) with h1 | ⟨h1, h2⟩
              · clear hnum h9 h9' h0
                go_wp2_with (go_at_call 77; (rw [HV.out]; refine (unfold_any _ _ HS.out).mono ?_; rintro e w' ⟨rfl, rfl⟩))
                go_ret2
                exact HF.out
              · have HV0 := Lib.hid (show bits .or .u64 (acc : Int) 0 = ((acc + (d % 128).toNat * 128 ^ k : Nat) : Int) by
                  rw [← HV.out]
                  congr 1
                  rw [show d = 0 by omega, IntKind.wrap_u64]
                  simp)
                have HF0 := Lib.hid (show NumRet l w (.returned (.tuple #[.int .i64 (unfoldN acc), .int .i64 ((k : Int) + 1)])) w by
                  have h := HF.out
                  rw [show (d % 128).toNat = 0 by omega, Nat.zero_mul, Nat.add_zero] at h
                  exact h)
                clear hnum h9 h9' h0
                go_wp2_with (go_at_call 77; (rw [HV0.out]; refine (unfold_any _ _ HS.out).mono ?_; rintro e w' ⟨rfl, rfl⟩))
                go_ret2
                exact HF0.out
            · have hk99 : k = 9 := by omega
              have HF9 := Lib.hid (show NumRet l w (.returned (.tuple #[.int .i64 (unfoldN (acc + (d % 128).toNat * 128 ^ k)), .int .i64 10])) w by
                have h := HF.out
                rw [show ((k : Int) + 1) = 10 by omega] at h
                exact h)
              have HV9 := Lib.hid (show bits .or .u64 (acc : Int) (d % 128 * 9223372036854775808) = ((acc + (d % 128).toNat * 128 ^ k : Nat) : Int) by
                rw [← HV.out, hk99]
                congr 1
                rw [IntKind.wrap_u64, show (2 : Int) ^ (7 * 9) = 9223372036854775808 by decide]
                omega)
              have h1 : 1 ≤ d := by omega
              have h2 : d ≤ 1 := by omega
              have h3 : 9 ≤ k := by omega
              clear hnum h9 h9' h0 hk8 hk99
              go_wp2_with (go_at_call 77; (rw [HV9.out]; refine (unfold_any _ _ HS.out).mono ?_; rintro e w' ⟨rfl, rfl⟩))
              go_ret2
              exact HF9.out
    · have hkl : k = l.length := by omega
      have hnn : num l = none := by rw [hnum, hkl, List.drop_length]; rfl
      have HF := Lib.hid (NumRet.none_ (w := w) hnn)
      clear hnum hacc hnn hkl
      go_wp2
      go_ret2
      exact HF.out

end Go.Proofs.YtkdcnkadngbccaaGreatDoor
