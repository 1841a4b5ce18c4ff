/-
  The contracts of slices.Grow onto nothing, and of slices.Concat of two rows of bytes.
-/
import Derived.Test.YtehghjakggdnpaaWNum
import Derived.Lib.AppendZerosOnto
import Derived.Lib.AppendZeros
namespace Go.Proofs.Ytehghjakggdnpaa
open Go.RowKit Go.Lib

set_option maxRecDepth 100000 in
set_option maxHeartbeats 1600000 in
theorem grow_any (n : Nat) (h0 : 0 < n) (hn : n ≤ 100000000000) (w : World) :
    Calls Try.prog 74 #[.slice none 0 0, .int .i64 n] w fun e w' => ∃ v, e = .returned v ∧ w'.ownsRow w.heap.size 5 1 v 0 [] ∧ Below w.heap.size w w' := by
  obtain ⟨i0, hi, hz0, hz1, hz2⟩ := info_parts Try.dkinfo5
  have hold : (Builtin.firstCells i0.size 0 (.slice none 0 0)).run Try.prog w.drew = .ok ([] : List Value).toArray w.drew := by simp [Builtin.firstCells]
  have hrz : ∀ ty, (Builtin.append_ #[38, 3] ty #[.slice none 0 0, .int .i64 n]).run Try.prog w = .ok (.slice (some ⟨w.heap.size, 0, none⟩) n (grownCap w n 0 5)) (w.drew.alloc (.cells (([] : List Value).toArray ++ Builtin.zeroCells (Value.int .u8 0).cells n ++ Builtin.zeroCells (Value.int .u8 0).cells (grownCap w n 0 5 - n)) 5)) := fun ty => by
    have h := Lib.run_append_grow_zeros w 38 3 ty 5 i0 _ .i64 .i64 Try.underlying38 Try.underlying3 hi hz0 none 0 0 [] hold n h0 (by rw [hz1]; omega) (by omega) (by omega) (by rw [hz2]; omega) (by rw [hz2]; exact growslice_fits (by omega) (by omega))
    rw [Nat.zero_add] at h
    exact h
  have hGn : n ≤ grownCap w n 0 5 := by have := grownCap_ge w n 0 5; omega
  obtain ⟨G, hG⟩ : ∃ G, G = grownCap w n 0 5 := ⟨_, rfl⟩
  have hG63 : G ≤ maxLen := by rw [hG]; exact grownCap_le_maxLen w n 0 5 (by unfold maxLen; omega)
  rw [← hG] at hrz hGn
  have hG64 : G ≤ 9223372036854775807 := hG63
  have HG := Lib.hid hG63
  obtain ⟨cur, hcur⟩ : ∃ cur, cur = ([] : List Value).toArray ++ Builtin.zeroCells (Value.int .u8 0).cells n ++ Builtin.zeroCells (Value.int .u8 0).cells (G - n) := ⟨_, rfl⟩
  have hcl : cur.size = G := by rw [hcur]; simp [Builtin.zeroCells, Value.cells]; omega
  rw [← hcur] at hrz
  have HC := Lib.hid hcl
  have hb : Below w.heap.size w (w.drew.alloc (.cells cur 5)) := ((Below.refl _ w).drew).alloc (Nat.le_refl _) _
  have HB := Lib.hid hb
  clear hold hG hcur hcl hi hz0 hz1 hz2 hb hG63
  go_enter Try.func74, Try.ntmps74
  go_wp2_with (refine Lib.wpList_append_run _ rfl (.tmp 20) (.tmp 21) 38 3 rfl _ _ rfl rfl _ _ (hrz _) ?_)
  go_ret
  exact ⟨_, rfl, ⟨rfl, .inr ⟨_, G, cur, rfl, Nat.le_refl _, Blk.new w.drew 5 cur, by omega, HG.out, by rw [HC.out, Nat.mul_one], by simp⟩⟩, HB.out⟩

theorem grow_at (x : Int) (n : Nat) (hx : x = n) (h0 : 0 < n) (hn : n ≤ 100000000000) (w : World) :
    Calls Try.prog 74 #[.slice none 0 0, .int .i64 x] w fun e w' => ∃ v, e = .returned v ∧ w'.ownsRow w.heap.size 5 1 v 0 [] ∧ Below w.heap.size w w' := by
  subst hx
  exact grow_any n h0 hn w

/-- two rows of bytes, in one row of slices at block L -/
structure Two2 (w : World) (L : Nat) (A1 : Option Addr) (n1 c1 : Nat) (l1 : List Int) (A2 : Option Addr) (n2 c2 : Nat) (l2 : List Int) : Prop where
  a : w.cell? ⟨L, 0, none⟩ = some (.slice A1 n1 c1)
  b : w.cell? ⟨L, 1, none⟩ = some (.slice A2 n2 c2)
  lt : L < w.heap.size
  r1 : Rd w w.heap.size A1 n1 (cells l1)
  r2 : Rd w w.heap.size A2 n2 (cells l2)
theorem Two2.below {w w' : World} {L : Nat} {A1 : Option Addr} {n1 c1 : Nat} {l1 : List Int} {A2 : Option Addr} {n2 c2 : Nat} {l2 : List Int} (h : Two2 w L A1 n1 c1 l1 A2 n2 c2 l2) (hb : Below w.heap.size w w') : Two2 w' L A1 n1 c1 l1 A2 n2 c2 l2 :=
  ⟨(hb.cell h.lt).trans h.a, (hb.cell h.lt).trans h.b, Nat.lt_of_lt_of_le h.lt hb.size, (h.r1.below hb (Nat.le_refl _)).more hb.size, (h.r2.below hb (Nat.le_refl _)).more hb.size⟩

def sum2 (n1 n2 : Nat) : Nat → Nat
  | 0 => 0
  | 1 => n1
  | _ => n1 + n2
def cat2 (l1 l2 : List Int) : Nat → List Int
  | 0 => []
  | 1 => l1
  | _ => l1 ++ l2
def CcRel (w : World) (n1 n2 : Nat) (l1 l2 : List Int) (v i : Value) (wr : World) : Prop :=
  ∃ k : Nat, k ≤ 2 ∧ i = .int .i64 k ∧ wr.ownsRow w.heap.size 5 1 v (sum2 n1 n2 k) (cells (cat2 l1 l2 k)) ∧ Below w.heap.size w wr

set_option maxRecDepth 100000 in
set_option maxHeartbeats 3200000 in
theorem concat_any (w : World) (L : Nat) (A1 : Option Addr) (n1 c1 : Nat) (l1 : List Int) (A2 : Option Addr) (n2 c2 : Nat) (l2 : List Int) (h : Two2 w L A1 n1 c1 l1 A2 n2 c2 l2) (h1 : 0 < n1) (hb1 : n1 ≤ 1000000) (hb2 : n2 ≤ 1000000) :
    Calls Try.prog 64 #[.slice (some ⟨L, 0, none⟩) 2 2] w fun e w' => ∃ v, e = .returned v ∧ w'.ownsRow w.heap.size 5 1 v (n1 + n2) (cells (l1 ++ l2)) ∧ Below w.heap.size w w' := by
  have H := Lib.hid h
  obtain ⟨a, b, lt, r1, r2⟩ := h
  clear r1 r2
  go_enter Try.func64, Try.ntmps64
  go_wp2_with fail
  go_loopw [3, 11] (fun s i wr => ∃ k : Nat, k ≤ 2 ∧ s = .int .i64 (sum2 n1 n2 k) ∧ i = .int .i64 k ∧ wr = w) (fun _ i _ => 2 - (intOf i).toNat)
  case atStart => exact ⟨0, by omega, rfl, rfl, rfl⟩
  case round =>
    obtain ⟨k, hk, rfl, rfl, rfl⟩ := hrel
    rcases (by omega : k = 0 ∨ k = 1 ∨ k = 2) with rfl | rfl | rfl
    · simp only [sum2]
      go_wp2
      go_roundw
      case rel => exact ⟨1, by omega, rfl, rfl, trivial⟩
      case measure => simp [intOf]
    · simp only [sum2]
      go_wp2
      go_roundw
      case rel => exact ⟨2, by omega, by simp, rfl, trivial⟩
      case measure => simp [intOf]
    · simp only [sum2]
      obtain ⟨w0, hw0⟩ : ∃ w0, w0 = wr := ⟨_, rfl⟩
      subst hw0
      go_wp2_with fail
      refine (grow_at _ (n1 + n2) (by omega) (by omega) (by omega) _).mono ?_
      rintro e w1 ⟨v, rfl, ho, hl⟩
      have HO := Lib.hid (And.intro ho hl)
      obtain ⟨i0, hi, hz0, hz1, hz2⟩ := info_parts Try.dkinfo5
      have HI := Lib.hid (And.intro hi (And.intro hz0 (And.intro hz1 hz2)))
      clear ho hl a b hi hz0 hz1 hz2
      go_wp2_with fail
      go_loopw [6, 27] (fun v i wr' => CcRel w0 n1 n2 l1 l2 v i wr') (fun _ i _ => 2 - (intOf i).toNat)
      case atStart => exact ⟨0, by omega, rfl, HO.out.1, HO.out.2⟩
      case round =>
        obtain ⟨k, hk, rfl, hown, hbel⟩ := hrel
        have HT := Lib.hid (H.out.below hbel)
        have a := HT.out.a
        have b := HT.out.b
        have hbs := hbel.size
        rcases (by omega : k = 0 ∨ k = 1 ∨ k = 2) with rfl | rfl | rfl
        · go_wp2_with (at_builtin; refine wpList_append_rd _ rfl (.tmp 31) (.tmp 32) 38 rfl w0.heap.size 5 i0 (.int .u8 0) 1 Try.underlying38 HI.out.1 HI.out.2.1 HI.out.2.2.1 HI.out.2.2.2 rfl _ _ _ rfl hown wr.heap.size A1 n1 c1 _ rfl HT.out.r1 (cells_one _) ?c30 ?c40 ?c50 ?_)
          case c30 => (simp only [sum2]; unfold maxLen; omega)
          case c40 => (simp only [sum2]; omega)
          case c50 => exact hbs
          intro v2 w2 ho2 hg2
          have HF : Hid (CcRel w0 n1 n2 l1 l2 v2 (.int .i64 1) w2) := Lib.hid ⟨1, by omega, rfl, by simpa [sum2, cat2, cells] using ho2, hbel.trans (below_own hown hg2 hbs)⟩
          clear ho2 hg2 hown hbel
          go_wp2
          go_roundw
          case rel => exact HF.out
          case measure => simp [intOf]
        · go_wp2_with (at_builtin; refine wpList_append_rd _ rfl (.tmp 31) (.tmp 32) 38 rfl w0.heap.size 5 i0 (.int .u8 0) 1 Try.underlying38 HI.out.1 HI.out.2.1 HI.out.2.2.1 HI.out.2.2.2 rfl _ _ _ rfl hown wr.heap.size A2 n2 c2 _ rfl HT.out.r2 (cells_one _) ?c31 ?c41 ?c51 ?_)
          case c31 => (simp only [sum2]; unfold maxLen; omega)
          case c41 => (simp only [sum2]; omega)
          case c51 => exact hbs
          intro v2 w2 ho2 hg2
          have HF : Hid (CcRel w0 n1 n2 l1 l2 v2 (.int .i64 2) w2) := Lib.hid ⟨2, by omega, rfl, by simpa [sum2, cat2, cells] using ho2, hbel.trans (below_own hown hg2 hbs)⟩
          clear ho2 hg2 hown hbel
          go_wp2
          go_roundw
          case rel => exact HF.out
          case measure => simp [intOf]
        · have HF := Lib.hid (And.intro hown hbel)
          clear hown hbel
          go_wp2
          go_ret
          exact ⟨_, rfl, HF.out.1, HF.out.2⟩
end Go.Proofs.Ytehghjakggdnpaa
