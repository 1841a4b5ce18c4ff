/-
  The contracts of numberBytes.
-/
import Derived.Test.YtkdhmbfmjlpfbaaDoorKM
namespace Go.Proofs.YtkdhmbfmjlpfbaaDoor
open Go.RowKit Go.Lib

theorem made_u8 (n : Nat) : madeCells (Value.int .u8 0).cells (n * 1) = (List.replicate n (Value.int .u8 0)).toArray := by
  apply Array.ext'
  apply List.ext_getElem?
  intro q
  have hz : (List.replicate n (Value.int .u8 0)).toArray.toList[q]? = if q < n then some (.int .u8 0) else none := List.getElem?_replicate
  rw [hz]
  by_cases hq : q < n
  · rw [if_pos hq]; simp [madeCells, Value.cells, hq, Nat.mod_one]
  · rw [if_neg hq]; simp [madeCells, Value.cells]; omega
theorem make_u8 (n : Nat) (hn : n ≤ 140737488355328) (w : World) : (Instr.makeSlice 44 (.int .i64 (n : Int)) (.int .i64 (n : Int))).run Tryd.prog w = .ok (.slice (some ⟨w.heap.size, 0, none⟩) n n) (w.alloc (.cells (List.replicate n (Value.int .u8 0)).toArray 5)) := by
  obtain ⟨i0, hi, hz0, hz1, hz2⟩ := info_parts Tryd.info5
  have h := run_make (P := Tryd.prog) w 44 5 i0 _ Tryd.underlying44 hi hz0 .i64 .i64 n n (by omega) (Int.le_refl _) (by rw [hz2]; omega) (by omega)
  rw [hz1] at h
  simp only [Int.toNat_natCast, made_u8] at h
  exact h

def zlist (k u : Nat) : List Int := List.replicate (8 - k) 0 ++ be k u
theorem zlist_len {k : Nat} (hk : k ≤ 8) (u : Nat) : (zlist k u).length = 8 := by simp [zlist, be_len]; omega
def NbRel (w : World) (u : Nat) (i : Value) (wr : World) : Prop :=
  ∃ k : Nat, k ≤ 8 ∧ i = .int .i64 k ∧ Blk wr w.heap.size 5 (cells (zlist k u)).toArray ∧ Below w.heap.size w wr
theorem nb_put {k u : Nat} (hk : k < 8) : (cells (zlist k u)).toArray.setIfInBounds (7 - k) (.int .u8 ((u / 256 ^ k % 256 : Nat) : Int)) = (cells (zlist (k + 1) u)).toArray := by
  have h : (zlist k u).set (7 - k) ((u / 256 ^ k % 256 : Nat) : Int) = zlist (k + 1) u := by
    unfold zlist
    rw [show 8 - k = 7 - k + 1 by omega, List.replicate_succ', List.append_assoc, List.set_append_right _ _ (by simp)]
    simp [be]
  apply Array.ext'
  simp only [cells, Array.toList_setIfInBounds, ← List.map_set]
  rw [h]

theorem OwnRet.of_blk {w w' : World} {g : Nat} {l : List Int} (h : Blk w' g 5 (cells l).toArray) (hg : w.heap.size ≤ g) (hb : Below w.heap.size w w') (hl : l.length ≤ maxLen) :
    OwnRet w.heap.size l w (.returned (.slice (some ⟨g, 0, none⟩) l.length l.length)) w' := by
  refine ⟨_, rfl, ⟨by rw [cells_len, Nat.mul_one], .inr ⟨g, l.length, (cells l).toArray, rfl, hg, h, Nat.le_refl _, hl, by simp [cells_len], ?_⟩⟩, hb⟩
  rw [Nat.mul_one, ← cells_len l]
  simp

set_option maxRecDepth 100000 in
set_option maxHeartbeats 3200000 in
theorem numberBytes_any (n : Int) (w : World) (hn : -9223372036854775808 ≤ n ∧ n ≤ 9223372036854775807) :
    Calls Tryd.prog 36 #[.int .i64 n] w (OwnRet w.heap.size (be 8 (u64 n)) w) := by
  have hmk := make_u8 8 (by omega)
  obtain ⟨Z, hZ⟩ : ∃ Z, Z = (List.replicate 8 (Value.int .u8 0)).toArray := ⟨_, rfl⟩
  rw [← hZ] at hmk
  have hmk' : ∀ w : World, (Instr.makeSlice 44 (.int .i64 8) (.int .i64 8)).run Tryd.prog w = .ok (.slice (some ⟨w.heap.size, 0, none⟩) 8 8) (w.alloc (.cells Z 5)) := hmk
  have HZ := Lib.hid hZ
  clear hZ hmk
  obtain ⟨u, hu⟩ : ∃ u, u = u64 n := ⟨_, rfl⟩
  have hul := u64_lt n
  rw [← hu] at hul ⊢
  have hw : IntKind.u64.wrap (IntKind.u64.wrap n + 9223372036854775808) = (u : Int) := by rw [hu, u64]; show ((n % 18446744073709551616) + 9223372036854775808) % 18446744073709551616 = _; omega
  have HU := Lib.hid hu
  clear hu
  go_enter Tryd.func36, Tryd.ntmps36
  go_wp2_with fail
  go_loopw [12] (fun i wr => NbRel w u i wr) (fun i _ => 8 - (intOf i).toNat)
  case atStart =>
    refine ⟨0, by omega, rfl, ?_, (Below.refl _ _).alloc (Nat.le_refl _) _⟩
    rw [show (cells (zlist 0 u)).toArray = Z by rw [HZ.out]; rfl]
    exact Blk.new _ _ _
  case round =>
    obtain ⟨k, hk, rfl, b1, hbel⟩ := hrel
    by_cases hlt : k < 8
    · have b2 := (b1.put (7 - k) (.int .u8 ((u / 256 ^ k % 256 : Nat) : Int)))
      rw [nb_put hlt] at b2
      have HR := Lib.hid (show NbRel w u (.int .i64 ((k : Int) + 1)) (wr.setCell ⟨w.heap.size, 7 - k, none⟩ (.int .u8 ((u / 256 ^ k % 256 : Nat) : Int))) from ⟨k + 1, by omega, by go_num, b2, hbel.setCell (Nat.le_refl _) _⟩)
      have hcl : ∃ v, wr.cell? ⟨w.heap.size, 7 - k, none⟩ = some v := by
        have h := b1.cell (7 - k)
        rw [List.getElem?_toArray, List.getElem?_eq_getElem (by rw [cells_len, zlist_len (by omega)]; omega)] at h
        exact ⟨_, h⟩
      obtain ⟨v0, c0⟩ := hcl
      have hfz := b1.frozen (7 - k)
      clear b1 hbel b2
      rcases (by omega : k = 0 ∨ k = 1 ∨ k = 2 ∨ k = 3 ∨ k = 4 ∨ k = 5 ∨ k = 6 ∨ k = 7) with rfl | rfl | rfl | rfl | rfl | rfl | rfl | rfl
      all_goals (go_wp2; exact ⟨by first | simpa using HR.out | (have h := HR.out; simp at h; rw [show (u : Int) / 72057594037927936 % 256 = u / 72057594037927936 by omega] at h; exact h), by simp [intOf]⟩)
    · have h8 : k = 8 := by omega
      subst h8
      have HF := Lib.hid (OwnRet.of_blk (l := be 8 u) (by simpa [zlist] using b1) (Nat.le_refl _) hbel (by simp [be_len, maxLen]))
      clear b1 hbel
      go_wp2
      go_ret
      exact HF.out
end Go.Proofs.YtkdhmbfmjlpfbaaDoor
