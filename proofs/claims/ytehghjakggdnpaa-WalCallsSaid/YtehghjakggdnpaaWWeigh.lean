/-
  The contract of Weigh.
-/
import Derived.Test.YtehghjakggdnpaaWLift
namespace Go.Proofs.Ytehghjakggdnpaa
open Go.RowKit Go.Lib

/-- the bytes and the ends of the first rows -/
def weighM : List Sl → Nat
  | [] => 0
  | x :: xs => 1 + x.n + weighM xs
theorem weighM_append (a b : List Sl) : weighM (a ++ b) = weighM a + weighM b := by
  induction a with
  | nil => simp [weighM]
  | cons x a ih => simp only [List.cons_append, weighM, ih]; omega
theorem weighM_len (xs : List Sl) : xs.length ≤ weighM xs := by
  induction xs with
  | nil => simp [weighM]
  | cons x xs ih => simp only [List.length_cons, weighM]; omega

/-- Weigh answers a number; if it is not above most, it is the rows' weight -/
def WeighRet (xs : List Sl) (most : Nat) (w : World) (e : Ending) (w' : World) : Prop :=
  w = w' ∧ ∃ m : Nat, e = .returned (.int .i64 (m : Int)) ∧ (m ≤ most → weighM xs = m)

def WgRel (xs : List Sl) (most : Nat) (w : World) (n i : Value) (wr : World) : Prop :=
  ∃ k : Nat, k ≤ xs.length ∧ n = .int .i64 ((weighM (xs.take k) : Nat) : Int) ∧ i = .int .i64 k ∧ wr = w ∧ (weighM (xs.take k) ≤ most + 140737488355329) 

set_option maxRecDepth 100000 in
set_option maxHeartbeats 1600000 in
theorem weigh_any (A : Option Addr) (c : Nat) (xs : List Sl) (most : Nat) (hmost : most ≤ 100000) (w : World) (hr : Rd w w.heap.size A xs.length (vals xs)) (hs : SlsIn w w.heap.size xs) (hb : ∀ x ∈ xs, x.n ≤ 140737488355328) :
    Calls Try.prog 33 #[.slice A xs.length c, .int .i64 most] w (WeighRet xs most w) := by
  by_cases h0 : most < xs.length
  · have hi : (most : Int) < (xs.length : Int) := by omega
    go_enter Try.func33, Try.ntmps33
    go_wp2
    go_ret
    exact ⟨rfl, most + 1, by rfl, fun h => by omega⟩
  · have hi : ¬ ((most : Int) < (xs.length : Int)) := by omega
    have HR := Lib.hid (And.intro hr (And.intro hs hb))
    have hln : xs.length ≤ 100000 := by omega
    clear hr hs hb
    go_enter Try.func33, Try.ntmps33
    go_wp2_with fail
    go_loopw [5, 6] (fun n i wr => WgRel xs most w n i wr) (fun _ i _ => xs.length - (intOf i).toNat)
    case atStart => exact ⟨0, by omega, rfl, rfl, rfl, by simp [weighM]⟩
    case round =>
      obtain ⟨k, hk, rfl, rfl, rfl, hw⟩ := hrel
      by_cases hlt : k < xs.length
      · obtain ⟨ad, v, rfl, _, hv, hc⟩ := HR.out.1.at_ hlt
        obtain ⟨x, hx⟩ : ∃ x, x = xs[k]'hlt := ⟨_, rfl⟩
        have hxv : v = .slice x.A x.n x.c := by
          simp only [vals, List.getElem?_map, List.getElem?_eq_getElem hlt, Option.map_some, Option.some.injEq] at hv
          rw [← hv, hx]; rfl
        subst hxv
        have hxn : x.n ≤ 140737488355328 := by rw [hx]; exact HR.out.2.2 _ (List.getElem_mem _)
        have htk : weighM (xs.take (k + 1)) = weighM (xs.take k) + (1 + x.n) := by
          rw [List.take_succ_eq_append_getElem hlt, weighM_append, ← hx]; rfl
        obtain ⟨m, hm⟩ : ∃ m, m = weighM (xs.take k) := ⟨_, rfl⟩
        rw [← hm] at hw htk ⊢
        have HT := Lib.hid (And.intro htk hm)
        have hk0 : (0 : Int) ≤ (k : Int) := Int.natCast_nonneg _
        have hk1 : (k : Int) < (xs.length : Int) := by omega
        clear hv hx htk hm
        by_cases hle : m ≤ most
        · have hlei : (m : Int) ≤ (most : Int) := by omega
          go_wp2
          go_roundw
          case rel => exact ⟨k + 1, by omega, by rw [HT.out.1]; go_num, by go_num, rfl, by rw [HT.out.1]; omega⟩
          case measure => simp [intOf]; omega
        · have hlei : ¬ ((m : Int) ≤ (most : Int)) := by omega
          go_wp2
          go_ret
          exact ⟨rfl, m, rfl, fun h => by omega⟩
      · have hkn : ¬ ((k : Int) < (xs.length : Int)) := by omega
        go_wp2
        go_ret
        exact ⟨rfl, _, rfl, fun _ => by rw [List.take_of_length_le (by omega)]⟩
end Go.Proofs.Ytehghjakggdnpaa
