/-
  The contract of slices.Chunk at pieces of 56 bytes.
-/
import Derived.Test.YtehghjakggdnpaaWNum
import Derived.RangeFuncNested
import Derived.RangeFuncBound
import Derived.RangeFuncCalls
import Derived.RangeFuncLeaves
import Derived.Shelf.Abstract
import Derived.Shelf.RegionOpen
import Derived.WalkKit
import Derived.OwnWalkIn
import Derived.TacticsInMore
import Derived.LoopNIn
import Derived.LoopIn
import Derived.BigRegionIn
namespace Go.Proofs.Ytehghjakggdnpaa
open Go.RowKit Go.Lib Go.Shelf

/-- how many pieces n bytes have -/
def pcs (n : Nat) : Nat := (n + 55) / 56
/-- the length of piece k -/
def plen (n k : Nat) : Nat := min 56 (n - 56 * k)
/-- piece k, as it is handed on -/
def pval (q n k : Nat) : Value := .slice (some ⟨q, 56 * k, none⟩) (plen n k) (plen n k)
def Keep2 (a b : Nat) (W W' : World) : Prop := W'.heap[a]? = W.heap[a]? ∧ W'.heap[b]? = W.heap[b]?
def cups (n k : Nat) (h : k ≤ pcs n) : List (Fin (pcs n)) := (List.finRange k).map fun i => ⟨i.1, by omega⟩
theorem cups_succ (n k : Nat) (h : k + 1 ≤ pcs n) : cups n (k + 1) h = cups n k (by omega) ++ [⟨k, by omega⟩] := by
  unfold cups
  rw [List.finRange_succ_last]
  simp [Function.comp_def]
theorem cups_len (n k : Nat) (h : k ≤ pcs n) : (cups n k h).length = k := by simp [cups]
theorem cups_all (n : Nat) : cups n (pcs n) (Nat.le_refl _) = List.finRange (pcs n) := by simp [cups]

set_option maxRecDepth 100000 in
set_option maxHeartbeats 400000 in
theorem chunk_any (A : Option Addr) (n c : Nat) (w : World) :
    Calls Try.prog 65 #[.slice A n c, .int .i64 56] w fun e w' => e = .returned (.func (.func 75) #[] #[.pointer (some ⟨w.heap.size, 0, none⟩), .pointer (some ⟨w.heap.size + 1, 0, none⟩)]) ∧ w' = (w.alloc (.cells #[.slice A n c] 38)).alloc (.cells #[.int .i64 56] 3) := by
  go_enter Try.func65, Try.ntmps65
  go_wp2
  go_ret
  exact ⟨rfl, rfl⟩

attribute [local go_sem] Oper.semAt_some

set_option maxRecDepth 100000 in
set_option maxHeartbeats 2000000 in
theorem chunk1_in (F : Fence) (m : Nat) (h75 : F.fn 75) (hro : F.round = none) (hm : 1 ≤ m) (l Bs Bn q n c : Nat) (h0n : 0 < n) (hn : n ≤ 1000000) (hnc : n ≤ c) (_hcm : c ≤ maxLen) (J Jx : List (Fin (pcs n)) → World → Prop)
    (hY : ∀ pre x W, J pre W → pre.length < pcs n → YieldAt F (m - 1) Try.prog l #[pval q n x.1] W fun e W' =>
      (e = .returned (.bool true) ∧ J (pre ++ [x]) W' ∧ Keep2 Bs Bn W W') ∨ (e = .returned (.bool false) ∧ Jx (pre ++ [x]) W'))
    (W : World) (hBs : Blk W Bs 38 #[.slice (some ⟨q, 0, none⟩) n c]) (hBn : Blk W Bn 3 #[.int .i64 56]) (hJ : J [] W) (hJd : ∀ pre w, J pre w → J pre w.drew) :
    CallsIn F m Try.prog 75 #[.func (.yield l) #[] #[], .pointer (some ⟨Bs, 0, none⟩), .pointer (some ⟨Bn, 0, none⟩)] W fun e W' => (∃ v, e = .returned v) ∧
      ((∃ ys, ys = List.finRange (pcs n) ∧ J ys W') ∨ (∃ pre, True ∧ Jx pre W')) := by
  refine callsIn_of_wp Try.func75 rfl h75 ?_ hro
  simp only [Try.ntmps75, List.size_toArray, List.length_cons, List.length_nil, Nat.reduceAdd, Nat.reduceSub, Array.replicate_succ, Array.replicate_zero, List.push_toArray, List.append_toArray, List.nil_append, List.cons_append]
  gi_wp2
  gi_loopw [4] (fun i wr => ∃ (k p : Nat) (hk : k ≤ pcs n), p = 56 * k ∧ i = .int .i64 (p : Int) ∧ J (cups n k hk) wr ∧ Keep2 Bs Bn W wr)
    (fun i _ => pcs n - ((intOf i).toNat / 56))
  case atStart => exact ⟨0, 0, Nat.zero_le _, rfl, rfl, hJ, rfl, rfl⟩
  case round =>
    obtain ⟨k, p, hk, hp, rfl, hJs, hk1, hk2⟩ := hrel
    have b1 : Blk wr Bs 38 #[.slice (some ⟨q, 0, none⟩) n c] := hk1.trans hBs
    have b2 : Blk wr Bn 3 #[.int .i64 56] := hk2.trans hBn
    have c1 := b1.cell 0
    have c2 := b2.cell 0
    simp only [List.getElem?_toArray, List.getElem?_cons_zero] at c1 c2
    by_cases hlt : k < pcs n
    · obtain ⟨fn, tmps, assign, body, hy, hR⟩ := hY _ (⟨k, hlt⟩ : Fin (pcs n)) wr.drew (hJd _ _ hJs) (by rw [cups_len]; exact hlt)
      have hpn : p < n := by unfold pcs at hlt; omega
      have hpl : pval q n k = .slice (some ⟨q, p, none⟩) (min 56 (n - p)) (min 56 (n - p)) := by unfold pval plen; rw [hp]
      dsimp only at hy hR
      rw [hpl] at hy
      have HP := Lib.hid hp
      clear hpl hp
      obtain ⟨r, rfl⟩ : ∃ r, n = p + r := ⟨n - p, by omega⟩
      rw [Nat.add_sub_cancel_left] at hy
      have hr0 : 0 < r := by omega
      by_cases h56 : 56 ≤ r
      · rw [show min 56 r = 56 by omega] at hy
        have h56i : (56 : Int) ≤ (r : Int) := by omega
        have h56j : ¬ ((r : Int) < 56) := by omega
        gi_wp2
        gi_region
        all_goals
          gi_wp2
          refine hR.mono ?_
          rintro e W3 (⟨rfl, hJ3, hk3⟩ | ⟨rfl, hJx3⟩)
          · have b3 : Blk W3 Bn 3 #[.int .i64 56] := hk3.2.trans b2
            have c3 := b3.cell 0
            simp only [List.getElem?_toArray, List.getElem?_cons_zero] at c3
            gi_wp2
            go_roundw
            case rel => exact ⟨k + 1, p + 56, by omega, by have := HP.out; omega, by go_num, by rw [cups_succ]; exact hJ3, hk3.1.trans hk1, hk3.2.trans hk2⟩
            case measure => have := HP.out; simp [intOf]; omega
          · gi_wp2
            refine bodyPost_ret (results_none rfl _ _ _) rfl ?_
            exact ⟨⟨_, rfl⟩, .inr ⟨_, trivial, hJx3⟩⟩
      · rw [show min 56 r = r by omega] at hy
        have h56i : ¬ ((56 : Int) ≤ (r : Int)) := by omega
        have h56j : (r : Int) < 56 := by omega
        gi_wp2
        gi_region
        all_goals
          gi_wp2
          refine hR.mono ?_
          rintro e W3 (⟨rfl, hJ3, hk3⟩ | ⟨rfl, hJx3⟩)
          · have b3 : Blk W3 Bn 3 #[.int .i64 56] := hk3.2.trans b2
            have c3 := b3.cell 0
            simp only [List.getElem?_toArray, List.getElem?_cons_zero] at c3
            gi_wp2
            go_roundw
            case rel => exact ⟨k + 1, p + 56, by omega, by have := HP.out; omega, by go_num, by rw [cups_succ]; exact hJ3, hk3.1.trans hk1, hk3.2.trans hk2⟩
            case measure => have := HP.out; simp [intOf]; omega
          · gi_wp2
            refine bodyPost_ret (results_none rfl _ _ _) rfl ?_
            exact ⟨⟨_, rfl⟩, .inr ⟨_, trivial, hJx3⟩⟩
    · obtain rfl : k = pcs n := by omega
      have hpn : ¬ ((p : Int) < (n : Int)) := by unfold pcs at hp; omega
      gi_wp2
      go_end0
      exact ⟨⟨_, rfl⟩, .inl (by rw [← cups_all]; exact hJs)⟩
end Go.Proofs.Ytehghjakggdnpaa
