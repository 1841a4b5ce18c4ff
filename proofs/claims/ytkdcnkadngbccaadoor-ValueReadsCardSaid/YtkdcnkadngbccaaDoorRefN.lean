/-
  The document's own place of a hexadecimal digit and number of a text.
-/
import Derived.Test.YtkdcnkadngbccaaDoorRShow
namespace Go.Proofs.YtkdcnkadngbccaaDoor
open Go.RowKit Go.Lib

theorem idx_hexI (d : Int) (h0 : 0 ≤ d) (h1 : d < 16) (w : World) :
    (Instr.index 9 (.string ⟨#[48, 49, 50, 51, 52, 53, 54, 55, 56, 57, 97, 98, 99, 100, 101, 102]⟩) (.int .i64 d)).run Tryd.prog w = .ok (.int .u8 (hexd d)) w := by
  rw [run_index_string w 9 _ .i64 d Tryd.underlying9]
  have hd : 0 ≤ d ∧ d < ((⟨#[48, 49, 50, 51, 52, 53, 54, 55, 56, 57, 97, 98, 99, 100, 101, 102]⟩ : ByteArray).size : Int) := ⟨h0, h1⟩
  rw [dif_pos hd]
  have h2 : d = 0 ∨ d = 1 ∨ d = 2 ∨ d = 3 ∨ d = 4 ∨ d = 5 ∨ d = 6 ∨ d = 7 ∨ d = 8 ∨ d = 9 ∨ d = 10 ∨ d = 11 ∨ d = 12 ∨ d = 13 ∨ d = 14 ∨ d = 15 := by omega
  rcases h2 with rfl | rfl | rfl | rfl | rfl | rfl | rfl | rfl | rfl | rfl | rfl | rfl | rfl | rfl | rfl | rfl <;> rfl

/-- the place of a digit to the base 16, -1 for none -/
def plc (c : Int) : Int := if 48 ≤ c ∧ c ≤ 57 then c - 48 else if 97 ≤ c ∧ c ≤ 102 then c - 87 else -1
theorem plc_hexd (d : Int) (h0 : 0 ≤ d) (h1 : d < 16) : plc (hexd d) = d := by
  unfold plc hexd
  split <;> split <;> first | omega | (split <;> omega)
theorem plc_bd (c : Int) : -1 ≤ plc c ∧ plc c ≤ 15 := by
  unfold plc
  split
  · omega
  · split <;> omega
theorem plc_no {c : Int} (h : ∀ j : Int, 0 ≤ j → j < 16 → hexd j ≠ c) : plc c = -1 := by
  unfold plc
  split
  · rename_i h1
    exact absurd (show hexd (c - 48) = c by unfold hexd; rw [if_pos (by omega)]; omega) (h _ (by omega) (by omega))
  · split
    · rename_i h1
      exact absurd (show hexd (c - 87) = c by unfold hexd; rw [if_neg (by omega)]; omega) (h _ (by omega) (by omega))
    · rfl

/-- what holds at the head of place's loop -/
def PlRel (w : World) (c : Int) (i : Value) (wr : World) : Prop := ∃ k : Nat, k ≤ 16 ∧ i = .int .i64 k ∧ (∀ j : Int, 0 ≤ j → j < k → hexd j ≠ c) ∧ wr = w

set_option maxHeartbeats 1600000 in
theorem place_any (c : Int) (w : World) : Calls Tryd.prog 42 #[.int .u8 c] w fun e w' => e = .returned (.int .i64 (plc c)) ∧ w' = w := by
  go_enter Tryd.func42, Tryd.ntmps42
  go_wp2_with fail
  go_loopw [3] (fun i wr => PlRel w c i wr) (fun i _ => 16 - (Lib.intOf i).toNat)
  case atStart => exact ⟨0, by omega, rfl, fun j h1 h2 => by omega, rfl⟩
  case round =>
    obtain ⟨k, hk, rfl, hno, rfl⟩ := hrel
    by_cases hlt : k < 16
    · have hlt1 : (k : Int) < 16 := by omega
      have hix := idx_hexI (k : Int) (by omega) (by omega)
      by_cases hc : hexd (k : Int) = c
      · have hd : (hexd (k : Int) == c) = true := by simp [hc]
        have HR := Lib.hid (show plc c = (k : Int) by rw [← hc]; exact plc_hexd _ (by omega) (by omega))
        clear hno hc
        go_wp2
        go_ret
        exact ⟨by rw [HR.out]; rfl, rfl⟩
      · have hd : (hexd (k : Int) == c) = false := by simp [hc]
        have hd2 : decide (hexd (k : Int) = c) = false := by simp [hc]
        have HN := Lib.hid (show ∀ j : Int, 0 ≤ j → j < ((k + 1 : Nat) : Int) → hexd j ≠ c from fun j h1 h2 => by
          by_cases e : j = k
          · subst e; exact hc
          · exact hno j h1 (by omega))
        clear hno hc
        go_wp2
        go_roundw
        case rel => exact ⟨k + 1, by omega, by go_num, HN.out, rfl⟩
        case measure => simp [Lib.intOf]; omega
    · have hlt1 : ¬ (k : Int) < 16 := by omega
      have hk16 : k = 16 := by omega
      subst hk16
      have HR := Lib.hid (plc_no hno)
      clear hno
      go_wp2
      go_ret
      exact ⟨by rw [HR.out]; rfl, rfl⟩

/-- a digit more -/
def numF (m c : Int) : Int := if 48 ≤ c ∧ c ≤ 57 then IntKind.i64.wrap (IntKind.i64.wrap (m * 10) - (c - 48)) else m
def numM (l : List Int) : Int := l.foldl numF 0
def numV (s : ByteArray) : Int := if (bytes s).head? = some 45 then numM (bytes s) else IntKind.i64.wrap (-(numM (bytes s)))
theorem numM_digL (u : Nat) (h : u ≤ 9223372036854775808) : (digL u).foldl numF 0 = -(u : Int) := by
  induction u using Nat.strongRecOn with
  | _ u ih =>
    by_cases h10 : u < 10
    · rw [digL_small h10]
      simp only [List.foldl_cons, List.foldl_nil]
      unfold numF
      rw [if_pos (by omega)]
      rw [show IntKind.i64.wrap (0 * 10) = 0 from rfl, show (0 : Int) - (48 + (u : Int) - 48) = -(u : Int) by omega]
      exact IntWalk.i64_in _ (by omega)
    · rw [digL_big h10, List.foldl_append, ih (u / 10) (by omega) (by omega)]
      simp only [List.foldl_cons, List.foldl_nil]
      unfold numF
      rw [if_pos (by omega)]
      rw [IntWalk.i64_in (-((u / 10 : Nat) : Int) * 10) (by omega), show -((u / 10 : Nat) : Int) * 10 - (48 + ((u % 10 : Nat) : Int) - 48) = -(u : Int) by omega]
      exact IntWalk.i64_in _ (by omega)
theorem digL_head (u : Nat) : ∃ c, (digL u).head? = some c ∧ 48 ≤ c ∧ c ≤ 57 := by
  induction u using Nat.strongRecOn with
  | _ u ih =>
    by_cases h10 : u < 10
    · exact ⟨_, by rw [digL_small h10]; rfl, by omega, by omega⟩
    · obtain ⟨c, hc, h1⟩ := ih (u / 10) (by omega)
      refine ⟨c, ?_, h1⟩
      rw [digL_big h10, List.head?_append, hc]
      rfl
theorem numV_strI (n : Int) (h0 : -9223372036854775808 ≤ n) (h1 : n ≤ 9223372036854775807) : numV (strI n) = n := by
  unfold numV numM
  rw [bytes_strI]
  by_cases hn : n < 0
  · rw [if_pos hn]
    have e : (([45] : List Int) ++ digL n.natAbs).head? = some 45 := rfl
    rw [if_pos e, List.foldl_append]
    have e2 : ([45] : List Int).foldl numF 0 = 0 := rfl
    rw [e2, numM_digL _ (by omega)]
    omega
  · rw [if_neg hn, List.nil_append]
    obtain ⟨c, hc, hb⟩ := digL_head n.natAbs
    have e : ¬ (digL n.natAbs).head? = some 45 := by rw [hc]; intro e; have := Option.some.inj e; omega
    rw [if_neg e, numM_digL _ (by omega)]
    rw [IntWalk.i64_in _ (by omega)]
    omega
theorem numM_bd (l : List Int) (m : Int) (hm : -9223372036854775808 ≤ m ∧ m ≤ 9223372036854775807) : -9223372036854775808 ≤ l.foldl numF m ∧ l.foldl numF m ≤ 9223372036854775807 := by
  induction l generalizing m with
  | nil => exact hm
  | cons c l ih =>
    refine ih _ ?_
    unfold numF
    split
    · simp only [IntWalk.i64_left]; unfold Go.RowKit.wrap64; omega
    · exact hm

/-- what holds at the head of number's loop -/
def NmRel (w : World) (l : List Int) (m i : Value) (wr : World) : Prop := ∃ k : Nat, ∃ z : Int, k ≤ l.length ∧ z = numM (l.take k) ∧ m = .int .i64 z ∧ i = .int .i64 k ∧ wr = w

set_option maxHeartbeats 1600000 in
theorem refNumber_any (s : ByteArray) (w : World) (hs0 : 0 < s.size) (hs : s.size ≤ 1000) : Calls Tryd.prog 43 #[.string s] w fun e w' => e = .returned (.int .i64 (numV s)) ∧ w' = w := by
  have hbl := bytes_len s
  have hib := bytes_is s
  obtain ⟨l, hl⟩ : ∃ l, l = bytes s := ⟨_, rfl⟩
  have hidx : ∀ (k : Nat) (h : k < l.length) (w : World), (Instr.index 9 (.string s) (.int .i64 (k : Int))).run Tryd.prog w = .ok (.int .u8 (l[k])) w := by
    subst hl
    exact fun k h w => str_index s k k rfl h w
  have HV := Lib.hid (show numV s = if l.head? = some 45 then numM l else IntKind.i64.wrap (-(numM l)) by rw [hl]; rfl)
  rw [← hl] at hbl hib
  have HS := Lib.hid (And.intro hbl (And.intro hib hidx))
  clear hl hbl hib hidx
  go_enter Tryd.func43, Tryd.ntmps43
  go_wp2_with fail
  go_loopw [3, 4] (fun m i wr => NmRel w l m i wr) (fun _ i _ => l.length - (Lib.intOf i).toNat)
  case atStart => exact ⟨0, 0, by omega, rfl, rfl, rfl, rfl⟩
  case round =>
    obtain ⟨k, z, hk, hz, rfl, rfl, rfl⟩ := hrel
    by_cases hlt : k < l.length
    · have hlt1 : (k : Int) < (s.size : Int) := by have := HS.out.1; omega
      have hix := HS.out.2.2 k hlt
      obtain ⟨c, hc⟩ : ∃ c, c = l[k]'hlt := ⟨_, rfl⟩
      have hcb := HS.out.2.1 c (by rw [hc]; exact List.getElem_mem _)
      rw [← hc] at hix
      have HZ := Lib.hid (show numM (l.take (k + 1)) = numF z c by rw [hz, hc]; unfold numM; rw [List.take_succ_eq_append_getElem hlt, List.foldl_append]; rfl)
      clear hz hc
      by_cases h48 : 48 ≤ c
      · by_cases h57 : c ≤ 57
        · have hw1 : IntKind.u8.wrap (c - 48) = c - 48 := IntWalk.u8_in _ (by omega)
          have hw2 : IntKind.i64.wrap (c - 48) = c - 48 := IntWalk.i64_in _ (by omega)
          have HF := Lib.hid (show numF z c = IntKind.i64.wrap (IntKind.i64.wrap (z * 10) - (c - 48)) by unfold numF; rw [if_pos ⟨h48, h57⟩])
          obtain ⟨y, hy⟩ : ∃ y, y = IntKind.i64.wrap (z * 10) := ⟨_, rfl⟩
          obtain ⟨x, hx⟩ : ∃ x, x = IntKind.i64.wrap (y - (c - 48)) := ⟨_, rfl⟩
          rw [← hy, ← hx] at HF
          have hy' := hy.symm
          have hx' := hx.symm
          clear hy hx
          go_wp2
          go_roundw
          case rel => exact ⟨k + 1, x, by omega, by rw [HZ.out, HF.out], rfl, by go_num, rfl⟩
          case measure => simp [Lib.intOf]; omega
        · have HF := Lib.hid (show numF z c = z by unfold numF; rw [if_neg (fun h => h57 h.2)])
          go_wp2
          go_roundw
          case rel => exact ⟨k + 1, z, by omega, by rw [HZ.out, HF.out], rfl, by go_num, rfl⟩
          case measure => simp [Lib.intOf]; omega
      · have HF := Lib.hid (show numF z c = z by unfold numF; rw [if_neg (fun h => h48 h.1)])
        go_wp2
        go_roundw
        case rel => exact ⟨k + 1, z, by omega, by rw [HZ.out, HF.out], rfl, by go_num, rfl⟩
        case measure => simp [Lib.intOf]; omega
    · have hlt1 : ¬ (k : Int) < (s.size : Int) := by have := HS.out.1; omega
      have hkk : k = l.length := by omega
      subst hkk
      rw [List.take_length] at hz
      have hl0 : 0 < l.length := by have := HS.out.1; omega
      obtain ⟨c, hc⟩ : ∃ c, c = l[0]'hl0 := ⟨_, rfl⟩
      have hix : ∀ w : World, (Instr.index 9 (.string s) (.int .i64 0)).run Tryd.prog w = .ok (.int .u8 c) w := by
        intro w
        rw [hc]
        exact HS.out.2.2 0 hl0 w
      have hhd : l.head? = some c := by rw [hc, List.head?_eq_getElem?, List.getElem?_eq_getElem hl0]
      have HZ := Lib.hid (And.intro hz hhd)
      clear hz hc hhd
      by_cases h45 : c = 45
      · have hd : (c == 45) = true := by simp [h45]
        have HR := Lib.hid (show numV s = z by rw [HV.out, HZ.out.2, h45, if_pos rfl, HZ.out.1])
        clear h45
        go_wp2
        go_ret
        exact ⟨by rw [HR.out]; rfl, rfl⟩
      · have hd : (c == 45) = false := by simp [h45]
        have hd2 : decide (c = 45) = false := by simp [h45]
        have HR := Lib.hid (show numV s = IntKind.i64.wrap (-z) by rw [HV.out, HZ.out.2, if_neg (by intro e; exact h45 (Option.some.inj e)), HZ.out.1])
        obtain ⟨y, hy⟩ : ∃ y, IntKind.i64.wrap (-z) = y := ⟨_, rfl⟩
        rw [hy] at HR
        clear h45
        go_wp2
        go_ret
        exact ⟨by rw [HR.out]; rfl, rfl⟩
end Go.Proofs.YtkdcnkadngbccaaDoor
