/-
  SameHeld: rows of holders that are alike.
-/
import Derived.Test.YthbbheegkhlniaaGreatM22
namespace Go.Proofs.YthbbheegkhlniaaGreat
open Go.RowKit Go.Lib

theorem held_at {w : World} {B : Nat} {A : Option Addr} {l : List (Int × Int × Bool)} (h : RowG heldC 3 w B A l) {i : Nat} (hi : i < l.length) : ∃ ad, A = some ad ∧ ad.block < B ∧ w.cell? (ad.add (i * 3)) = some (.int .i64 l[i].1) ∧ w.cell? ⟨(ad.add (i * 3)).block, (ad.add (i * 3)).off + 1, none⟩ = some (.int .i64 l[i].2.1) ∧ w.cell? ⟨(ad.add (i * 3)).block, (ad.add (i * 3)).off + 2, none⟩ = some (.bool l[i].2.2) := by
  obtain ⟨ad, rfl, hlt⟩ := h.lo (by omega)
  have get : ∀ j u, (heldC l[i])[j]? = some u → w.cell? (ad.add (i * 3 + j)) = some u := fun j u hu => by
    obtain ⟨ad', e, hc⟩ := h.cell i hi j u hu
    obtain rfl := Option.some.inj e
    exact hc
  have addr_field : ∀ (a : Addr) (j : Nat), 0 < j → (⟨a.block, a.off + j, none⟩ : Addr) = a.add j := fun a j hj => by unfold Addr.add; rw [if_neg (by omega)]
  refine ⟨ad, rfl, hlt, get 0 _ rfl, ?_, ?_⟩
  · rw [addr_field _ _ (by omega), addr_add]; exact get 1 _ rfl
  · rw [addr_field _ _ (by omega), addr_add]; exact get 2 _ rfl
theorem neqHeld (a b : Int) (c : Bool) (w : World) : (binOp .neq 62 (.agg #[.int .i64 a, .int .i64 b, .bool c]) (.agg #[.int .i64 a, .int .i64 b, .bool c])).run Tryz.prog w = .ok (.bool false) w := by
  have u3 := Tryz.underlying3
  have a3 := Tryz.isAgg3
  have z3 := Tryz.sizeOf3
  have u9 := Tryz.underlying4
  have a9 := Tryz.isAgg4
  have z9 := Tryz.sizeOf4
  have hS : Tryz.prog.underlying 62 = some (.struct (Tryz.prog.fieldsOf 62)) := by kernel_rfl
  have hp : Tryz.prog.stoodInHeld 62 = false := by kernel_rfl
  rw [run_neq_struct, show (10000 : Nat) = 9999 + 1 from rfl, run_equalIn_agg w 9999 62 _ _ hS hp]
  simp only [Program.fieldsOf, Tryz.underlying62]
  go_simp
theorem own_held {w : World} {base : Nat} {A : Option Addr} {n c : Nat} {l : List (Int × Int × Bool)} (h : w.ownsRow base 62 3 (.slice A n c) n (l.flatMap heldC)) (hn : n = l.length) : RowG heldC 3 w w.heap.size A l := RowG.of_rows (fun _ => rfl) h hn
set_option maxRecDepth 100000 in
set_option maxHeartbeats 3200000 in
theorem sameH_yes {w : World} {A A' : Option Addr} {n n' c c' B B' : Nat} {l : List (Int × Int × Bool)} (hn : n = l.length) (hn' : n' = l.length) (h1 : RowG heldC 3 w B A l) (h2 : RowG heldC 3 w B' A' l) (hl : l.length ≤ 1000000) :
    Calls Tryz.prog 16 #[.slice A n c, .slice A' n' c'] w fun e w' => e = .returned (.bool true) ∧ Below w.heap.size w w' := by
  obtain rfl : n' = n := by rw [hn, hn']
  have H := Lib.hid (And.intro h1 (And.intro h2 hn))
  have hnl : n' ≤ 1000000 := by omega
  have hn0 : (0 : Int) ≤ (n' : Int) := Int.natCast_nonneg _
  clear h1 h2 hn hn'
  go_enter Tryz.func16, Tryz.ntmps16
  go_wp2_with fail
  go_loopw [5] (fun i wr => ∃ k d : Nat, k ≤ n' ∧ i = .int .i64 k ∧ wr = w.drewN d) (fun i _ => n' - (intOf i).toNat)
  case atStart => exact ⟨0, 0, by omega, rfl, rfl⟩
  case round =>
    obtain ⟨k, d, hk, rfl, hw⟩ := hrel
    have HW := Lib.hid hw
    have hk0 : (0 : Int) ≤ (k : Int) := Int.natCast_nonneg _
    by_cases hlt : k < n'
    · have hk1 : (k : Int) < (n' : Int) := by omega
      have hkl : k < l.length := by rw [← H.out.2.2]; exact hlt
      obtain ⟨ad, rfl, _, a0, a1, a2⟩ := held_at H.out.1 hkl
      obtain ⟨ad', rfl, _, b0, b1, b2⟩ := held_at H.out.2.1 hkl
      have hcw : ∀ a, wr.cell? a = w.cell? a := fun a => by rw [hw]; rfl
      have c0 := (hcw _).trans a0
      have c1 := (hcw _).trans a1
      have c2 := (hcw _).trans a2
      have d0 := (hcw _).trans b0
      have d1 := (hcw _).trans b1
      have d2 := (hcw _).trans b2
      obtain ⟨x, hx⟩ : ∃ x, x = l[k] := ⟨_, rfl⟩
      rw [← hx] at c0 c1 c2 d0 d1 d2
      obtain ⟨x0, x1, x2⟩ := x
      simp only at c0 c1 c2 d0 d1 d2
      have hne := neqHeld x0 x1 x2
      clear hw a0 a1 a2 b0 b1 b2 hcw hx
      go_wp2_with fail
      go_quiet (fail)
      go_wp2_with fail
      go_roundw
      case rel => exact ⟨k + 1, _, by omega, by go_num, by rw [HW.out]; exact World.drewN_drewN _ _ _⟩
      case measure => simp [intOf]; omega
    · have hkn : ¬ ((k : Int) < (n' : Int)) := by omega
      have hb : Below w.heap.size w wr := by rw [hw]; exact below_dN (Below.refl _ _) _
      have HB := Lib.hid hb
      clear hw hb
      go_wp2_with fail
      go_ret
      exact ⟨rfl, HB.out⟩
end Go.Proofs.YthbbheegkhlniaaGreat
