/-
  Numbers in sectors; the contracts of number, half, sectorsOf.
-/
import Derived.Test.YtehghjakggdnpaaDkLive
import Derived.Deep.QuietTactic
import Derived.BigQuiet
namespace Go.Proofs.Ytehghjakggdnpaa
open Go.RowKit Go.Lib

/-- four bytes as a number -/
def num4 (b : List Int) (i : Nat) : Int := b.getD i 0 + 256 * b.getD (i + 1) 0 + 65536 * b.getD (i + 2) 0 + 16777216 * b.getD (i + 3) 0

theorem wrap_i64_small {n : Nat} (h : n < 4611686018427387904) : IntKind.i64.wrap (n : Int) = n := by
  unfold IntKind.wrap; simp [IntKind.bits, IntKind.signed]; omega
theorem or_i64 (k : Nat) (x y : Int) (hx : 0 ≤ x) (hxk : x < ((2 ^ k : Nat) : Int)) (hy : 0 ≤ y) (hs : x + y * ((2 ^ k : Nat) : Int) < 4611686018427387904) : bits .or .i64 x (y * ((2 ^ k : Nat) : Int)) = x + y * ((2 ^ k : Nat) : Int) := by
  obtain ⟨a, rfl⟩ : ∃ a : Nat, x = a := ⟨x.toNat, by omega⟩
  obtain ⟨b, rfl⟩ : ∃ b : Nat, y = b := ⟨y.toNat, by omega⟩
  have e : (b : Int) * ((2 ^ k : Nat) : Int) = ((b * 2 ^ k : Nat) : Int) := by push_cast; rfl
  rw [e] at hs ⊢
  have ha : a < 2 ^ k := by omega
  have hab : a + b * 2 ^ k < 4611686018427387904 := by omega
  have h1 : (BitVec.ofInt 64 (a : Int)).toNat = a := by
    rw [BitVec.ofInt_natCast, BitVec.toNat_ofNat]; exact Nat.mod_eq_of_lt (by omega)
  have h2 : (BitVec.ofInt 64 ((b * 2 ^ k : Nat) : Int)).toNat = b * 2 ^ k := by
    rw [BitVec.ofInt_natCast, BitVec.toNat_ofNat]; exact Nat.mod_eq_of_lt (by omega)
  have h3 : a ||| b * 2 ^ k = a + b * 2 ^ k := by
    rw [← Nat.shiftLeft_eq, Nat.or_comm, ← Nat.shiftLeft_add_eq_or_of_lt ha, Nat.add_comm]
  show IntKind.i64.wrap ((BitVec.ofInt 64 (a : Int) ||| BitVec.ofInt 64 ((b * 2 ^ k : Nat) : Int)).toNat : Int) = _
  rw [BitVec.toNat_or, h1, h2, h3, wrap_i64_small hab]
  push_cast; rfl
theorem or8 {x y : Int} (hx : 0 ≤ x ∧ x < 256) (hy : 0 ≤ y ∧ y < 256) : bits .or .i64 x (y * 256) = x + y * 256 := or_i64 8 x y hx.1 (by omega) hy.1 (by omega)
theorem or16 {x y : Int} (hx : 0 ≤ x ∧ x < 65536) (hy : 0 ≤ y ∧ y < 256) : bits .or .i64 x (y * 65536) = x + y * 65536 := or_i64 16 x y hx.1 (by omega) hy.1 (by omega)
theorem or24 {x y : Int} (hx : 0 ≤ x ∧ x < 16777216) (hy : 0 ≤ y ∧ y < 256) : bits .or .i64 x (y * 16777216) = x + y * 16777216 := or_i64 24 x y hx.1 (by omega) hy.1 (by omega)

/-- it answers v, and turns nothing but the tape -/
def Quiet (v : Value) (w : World) (e : Ending) (w' : World) : Prop := e = .returned v ∧ ∃ m, w' = w.drewN m

theorem Rd.cellAt {w : World} {B n k : Nat} {A : Option Addr} {b : List Int} (h : Rd w B A n (cells b)) (hk : k < n) : ∃ ad, A = some ad ∧ w.cell? (ad.add k) = some (.int .u8 (b.getD k 0)) := by
  obtain ⟨ad, u, rfl, _, hu, hc⟩ := h.at_ hk
  refine ⟨ad, rfl, ?_⟩
  rw [hc]
  have hl := h.len
  rw [cells_len] at hl
  rw [cells, List.getElem?_map, List.getElem?_eq_getElem (by omega)] at hu
  rw [List.getD_eq_getElem?_getD, List.getElem?_eq_getElem (by omega)]
  exact hu.symm
theorem addr_zero (a : Addr) : a.add 0 = a := by unfold Addr.add; simp
theorem addr_pos (a : Addr) (k : Nat) : a.add (k + 1) = ⟨a.block, a.off + (k + 1), none⟩ := by unfold Addr.add; simp
theorem IsBytes.at_ {b : List Int} (h : IsBytes b) (k : Nat) : 0 ≤ b.getD k 0 ∧ b.getD k 0 < 256 := by
  rw [List.getD_eq_getElem?_getD]
  by_cases hk : k < b.length
  · rw [List.getElem?_eq_getElem hk]; exact h _ (List.getElem_mem hk)
  · rw [List.getElem?_eq_none (by omega)]; exact ⟨by simp, by simp⟩

set_option maxRecDepth 100000 in
set_option maxHeartbeats 3200000 in
theorem number_any (A : Option Addr) (n c : Nat) (b : List Int) (w : World) (B : Nat) (hr : Rd w B A n (cells b)) (hb : IsBytes b) (h4 : 4 ≤ n) :
    Calls Try.prog 56 #[.slice A n c] w (Quiet (.int .i64 (num4 b 0)) w) := by
  obtain ⟨ad, rfl, c0⟩ := hr.cellAt (k := 0) (by omega)
  obtain ⟨_, e1, c1⟩ := hr.cellAt (k := 1) (by omega)
  obtain rfl := Option.some.inj e1
  obtain ⟨_, e1, c2⟩ := hr.cellAt (k := 2) (by omega)
  obtain rfl := Option.some.inj e1
  obtain ⟨_, e1, c3⟩ := hr.cellAt (k := 3) (by omega)
  obtain rfl := Option.some.inj e1
  rw [addr_zero] at c0
  rw [addr_pos] at c1 c2 c3
  have q0 : 0 < n := by omega
  have q1 : (1 : Int) < (n : Int) := by omega
  have q2 : (2 : Int) < (n : Int) := by omega
  have q3 : (3 : Int) < (n : Int) := by omega
  have h0 := hb.at_ 0
  have h1 := hb.at_ 1
  have h2 := hb.at_ 2
  have h3 := hb.at_ 3
  have e0 : num4 b 0 = b.getD 0 0 + 256 * b.getD 1 0 + 65536 * b.getD 2 0 + 16777216 * b.getD 3 0 := rfl
  generalize b.getD 0 0 = x0 at *
  generalize b.getD 1 0 = x1 at *
  generalize b.getD 2 0 = x2 at *
  generalize b.getD 3 0 = x3 at *
  have HE := Lib.hid e0
  clear hr hb e0
  go_enter Try.func56, Try.ntmps56
  go_wp2_with fail
  go_quiet (fail)
  go_wp2
  go_ret
  refine ⟨?_, _, rfl⟩
  rw [HE.out, or8 h0 h1, or16 (by omega) h2, or24 (by omega) h3, show x0 + x1 * 256 + x2 * 65536 + x3 * 16777216 = x0 + 256 * x1 + 65536 * x2 + 16777216 * x3 by omega]
  rfl

set_option maxRecDepth 100000 in
theorem half_any {w : World} {g : Nat} {F : Nat → Prop} {s : DS} (h : DiskAt w g F s) (h2 : 2 ≤ s.last.length) :
    Calls Try.prog 51 #[.pointer (some ⟨g, 0, none⟩)] w fun e w' => e = .returned (.int .i64 ((s.last.length - 2) / 2 : Nat)) ∧ w = w' := by
  have hle := h.ok.le
  have H := Lib.hid h
  clear h
  go_enter Try.func51, Try.ntmps51
  go_wp2_with (go_at_call 36; refine (size_any H.out).mono ?_; rintro e w' ⟨rfl, rfl⟩)
  go_ret
  refine ⟨?_, rfl⟩
  have e : ((s.last.length : Int) - 2) / 2 = (((s.last.length - 2) / 2 : Nat) : Int) := by omega
  rw [e]
  rfl

set_option maxRecDepth 100000 in
theorem sectorsOf_any (n : Nat) (hn : n ≤ 140000000000000) (w : World) :
    Calls Try.prog 44 #[.int .i64 n] w fun e w' => e = .returned (.int .i64 ((n + 57) / 56 : Nat)) ∧ w = w' := by
  go_enter Try.func44, Try.ntmps44
  go_wp2
  go_ret
  refine ⟨?_, rfl⟩
  have e : (2 + (n : Int) + 56 - 1) / 56 = ((n + 57) / 56 : Nat) := by omega
  rw [e]
  rfl
end Go.Proofs.Ytehghjakggdnpaa
