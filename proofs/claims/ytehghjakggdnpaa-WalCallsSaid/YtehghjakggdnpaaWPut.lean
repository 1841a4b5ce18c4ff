/-
  The contracts of putNumber, stamp, a head's bytes.
-/
import Derived.Test.YtehghjakggdnpaaWRead
import Derived.StillTailTactics
namespace Go.Proofs.Ytehghjakggdnpaa
open Go.RowKit Go.Lib

/-- a number as four bytes, k of them -/
def putk (b : List Int) (i : Nat) (n : Int) : Nat → List Int
  | 0 => b
  | 1 => b.set i (n % 256)
  | 2 => (b.set i (n % 256)).set (i + 1) (n / 256 % 256)
  | 3 => ((b.set i (n % 256)).set (i + 1) (n / 256 % 256)).set (i + 2) (n / 65536 % 256)
  | _ => (((b.set i (n % 256)).set (i + 1) (n / 256 % 256)).set (i + 2) (n / 65536 % 256)).set (i + 3) (n / 16777216 % 256)
def put4 (b : List Int) (i : Nat) (n : Int) : List Int := putk b i n 4
theorem putk_len (b : List Int) (i : Nat) (n : Int) (k : Nat) : (putk b i n k).length = b.length := by
  unfold putk; split <;> simp
theorem cells_put (b : List Int) (i : Nat) (x : Int) : (cells b).toArray.setIfInBounds i (.int .u8 x) = (cells (b.set i x)).toArray := by
  rw [List.setIfInBounds_toArray]
  congr 1
  unfold cells
  rw [List.map_set]

def One (g : Nat) (k : Nat) : Prop := k = g

def PutRel (b : List Int) (o : Nat) (n : Int) (g : Nat) (w : World) (i : Value) (wr : World) : Prop :=
  ∃ k : Nat, k ≤ 4 ∧ i = .int .i64 k ∧ Blk wr g 5 (cells (putk b o n k)).toArray ∧ Chg (One g) w wr

set_option maxRecDepth 100000 in
set_option maxHeartbeats 6400000 in
theorem putNumber_any (w : World) (g o m c : Nat) (b : List Int) (n : Int) (h : Blk w g 5 (cells b).toArray) (ho : o + 4 ≤ b.length) (h4 : 4 ≤ m) (hn : 0 ≤ n ∧ n < 4294967296) :
    Calls Try.prog 73 #[.slice (some ⟨g, o, none⟩) m c, .int .i64 n] w fun e w' => e = .returned (.tuple #[]) ∧ Blk w' g 5 (cells (put4 b o n)).toArray ∧ Chg (One g) w w' := by
  have q0 : 0 < m := by omega
  have q1 : (1 : Int) < (m : Int) := by omega
  have q2 : (2 : Int) < (m : Int) := by omega
  have q3 : (3 : Int) < (m : Int) := by omega
  have H := Lib.hid h
  clear h
  go_enter Try.func73, Try.ntmps73
  go_wp2_with fail
  go_loopw [5] (fun i wr => PutRel b o n g w i wr) (fun i _ => 4 - (intOf i).toNat)
  case atStart => exact ⟨0, by omega, rfl, H.out, Chg.refl _ _⟩
  case round =>
    obtain ⟨k, hk, rfl, hb, hc⟩ := hrel
    have hu : ∀ j, j < b.length → ∃ u, wr.cell? ⟨g, j, none⟩ = some u := fun j hj => ⟨_, hb.src j _ (List.getElem?_eq_getElem (by rw [cells_len, putk_len]; exact hj))⟩
    rcases (by omega : k = 0 ∨ k = 1 ∨ k = 2 ∨ k = 3 ∨ k = 4) with rfl | rfl | rfl | rfl | rfl
    · obtain ⟨u, hu⟩ := hu o (by omega)
      have hf := hb.frozen o
      have hz := hb.put o (.int .u8 (n % 256))
      have hz2 := hc.setCell (p := ⟨g, o, none⟩) (fun _ => rfl) (.int .u8 (n % 256))
      rw [cells_put] at hz
      have HZ := Lib.hid (And.intro hz hz2)
      clear hz hz2 hb hc
      go_wp2
      go_roundw
      case rel => exact ⟨1, by omega, rfl, HZ.out.1, HZ.out.2⟩
      case measure => simp [intOf]
    · obtain ⟨u, hu⟩ := hu (o + 1) (by omega)
      have hf := hb.frozen (o + 1)
      have hz := hb.put (o + 1) (.int .u8 (n / 256 % 256))
      have hz2 := hc.setCell (p := ⟨g, (o + 1), none⟩) (fun _ => rfl) (.int .u8 (n / 256 % 256))
      rw [cells_put] at hz
      have HZ := Lib.hid (And.intro hz hz2)
      clear hz hz2 hb hc
      go_wp2
      go_roundw
      case rel => exact ⟨2, by omega, rfl, HZ.out.1, HZ.out.2⟩
      case measure => simp [intOf]
    · obtain ⟨u, hu⟩ := hu (o + 2) (by omega)
      have hf := hb.frozen (o + 2)
      have hz := hb.put (o + 2) (.int .u8 (n / 65536 % 256))
      have hz2 := hc.setCell (p := ⟨g, (o + 2), none⟩) (fun _ => rfl) (.int .u8 (n / 65536 % 256))
      rw [cells_put] at hz
      have HZ := Lib.hid (And.intro hz hz2)
      clear hz hz2 hb hc
      go_wp2
      go_roundw
      case rel => exact ⟨3, by omega, rfl, HZ.out.1, HZ.out.2⟩
      case measure => simp [intOf]
    · obtain ⟨u, hu⟩ := hu (o + 3) (by omega)
      have hf := hb.frozen (o + 3)
      have hz := hb.put (o + 3) (.int .u8 (n / 16777216))
      have hz2 := hc.setCell (p := ⟨g, (o + 3), none⟩) (fun _ => rfl) (.int .u8 (n / 16777216))
      rw [cells_put] at hz
      have HZ := Lib.hid (And.intro hz hz2)
      clear hz hz2 hb hc
      go_wp2
      go_roundw
      case rel => exact ⟨4, by omega, rfl, (show putk b o n 4 = (putk b o n 3).set (o + 3) (n / 16777216) by simp only [putk]; rw [show n / 16777216 % 256 = n / 16777216 by omega]) ▸ HZ.out.1, HZ.out.2⟩
      case measure => simp [intOf]
    · go_wp2
      go_end0
      exact ⟨rfl, hb, hc⟩

/-- a sector's bytes, stamped -/
def stampL (b : List Int) (n : Int) : List Int := put4 (put4 b 0 n) 60 n
theorem put4_len (b : List Int) (i : Nat) (n : Int) : (put4 b i n).length = b.length := putk_len b i n 4
theorem stampL_len (b : List Int) (n : Int) : (stampL b n).length = b.length := by unfold stampL; rw [put4_len, put4_len]

set_option maxRecDepth 100000 in
theorem stamp_any (w : World) (g : Nat) (b : List Int) (n : Int) (h : Blk w g 5 (cells b).toArray) (hb : b.length = 64) (hn : 0 ≤ n ∧ n < 4294967296) :
    Calls Try.prog 66 #[.slice (some ⟨g, 0, none⟩) 64 64, .int .i64 n] w fun e w' => e = .returned (.tuple #[]) ∧ Blk w' g 5 (cells (stampL b n)).toArray ∧ Chg (One g) w w' := by
  have H := Lib.hid h
  clear h
  go_enter Try.func66, Try.ntmps66
  go_wp2_with fail
  refine (putNumber_any w g 0 64 64 b n H.out (by omega) (by omega) hn).mono ?_
  rintro e w1 ⟨rfl, h1, hc1⟩
  have H1 := Lib.hid (And.intro h1 hc1)
  clear h1 hc1
  go_wp2_with fail
  refine (putNumber_any w1 g 60 4 4 (put4 b 0 n) n H1.out.1 (by rw [put4_len]; omega) (by omega) hn).mono ?_
  rintro e w2 ⟨rfl, h2, hc2⟩
  have H2 := Lib.hid (And.intro h2 (H1.out.2.trans hc2))
  clear h2 hc2
  go_wp2
  go_end0
  exact ⟨rfl, H2.out⟩

def zeros : List Int := List.replicate 64 0
theorem zeros_cells : (cells zeros).toArray = zarr := by
  unfold zeros zarr zeros64 cells
  rw [List.map_replicate]
/-- a head's sector -/
def headB (gen area first : Int) : List Int := put4 ((stampL zeros gen).set 4 area) 5 first

end Go.Proofs.Ytehghjakggdnpaa
