/-
  The program's Pick.
-/
import Derived.Test.YtkdhmbfmjlpfbaaDoorKPick
import Derived.Test.YtkdhmbfmjlpfbaaDoorKNum
namespace Go.Proofs.YtkdhmbfmjlpfbaaDoor
open Go.RowKit Go.Lib

def zva : Va := ⟨0, 0, ⟨#[]⟩⟩
theorem madeVa (n : Nat) : madeCells (Value.agg #[.int .i64 0, .int .i64 0, .string ⟨#[]⟩]).cells (n * 3) = (cellsR (List.replicate n zva)).toArray := by
  apply Array.ext'
  apply List.ext_getElem?
  intro q
  by_cases hq : q < n * 3
  · have hi : q / 3 < (List.replicate n zva).length := by rw [List.length_replicate]; omega
    have e := cellsR_at (List.replicate n zva) (q / 3) hi (q % 3) (by omega)
    rw [show q / 3 * 3 + q % 3 = q by omega, List.getElem_replicate] at e
    have e2 : (cellsR (List.replicate n zva)).toArray.toList[q]? = (vcell zva)[q % 3]? := e
    rw [e2]
    rcases (by omega : q % 3 = 0 ∨ q % 3 = 1 ∨ q % 3 = 2) with h | h | h <;> simp [madeCells, Value.cells, hq, h, vcell, zva]
  · have e2 : (cellsR (List.replicate n zva)).toArray.toList[q]? = none := by
      rw [List.getElem?_eq_none]
      show (cellsR (List.replicate n zva)).length ≤ q
      rw [cellsR_len, List.length_replicate]
      omega
    rw [e2]
    simp [madeCells, Value.cells]
    omega
theorem make_va (n : Nat) (hn : n ≤ 1000000) (w : World) : (Instr.makeSlice 23 (.int .i64 (n : Int)) (.int .i64 (n : Int))).run Tryd.prog w = .ok (.slice (some ⟨w.heap.size, 0, none⟩) n n) (w.alloc (.cells (cellsR (List.replicate n zva)).toArray 43)) := by
  obtain ⟨i0, hi, hz0, hz1, hz2⟩ := info_parts Tryd.info43
  have h := run_make (P := Tryd.prog) w 23 43 i0 _ Tryd.underlying23 hi hz0 .i64 .i64 n n (by omega) (Int.le_refl _) (by rw [hz2]; omega) (by omega)
  rw [hz1] at h
  simp only [Int.toNat_natCast, madeVa] at h
  exact h

theorem set_va (x : Va) : ∀ (vs : List Va) (k : Nat), k < vs.length → (((cellsR vs).set (k * 3) (.int .i64 x.k)).set (k * 3 + 1) (.int .i64 x.n)).set (k * 3 + 2) (.string x.s) = cellsR (vs.set k x)
  | [], k, h => by simp at h
  | y :: vs, 0, _ => by simp [cellsR, vcell]
  | y :: vs, k + 1, h => by
    have ih := set_va x vs k (by simpa using h)
    rw [List.set_cons_succ, cellsR_cons, cellsR_cons, ← ih]
    have e : ∀ (l : List Value) (j : Nat) (u : Value), (vcell y ++ l).set (3 + j) u = vcell y ++ l.set j u := fun l j u => by
      rw [List.set_append_right _ _ (by simp [vcell])]
      simp [vcell]
    rw [show (k + 1) * 3 = 3 + k * 3 by omega, e, show 3 + k * 3 + 1 = 3 + (k * 3 + 1) by omega, e, show 3 + k * 3 + 2 = 3 + (k * 3 + 2) by omega, e]
theorem set_front {r : List Va} {k n : Nat} (hr : r.length = k) (hk : k < n) (x : Va) : (r ++ List.replicate (n - k) zva).set k x = (r ++ [x]) ++ List.replicate (n - (k + 1)) zva := by
  rw [List.set_append_right _ _ (by omega), hr, Nat.sub_self, show n - k = n - (k + 1) + 1 by omega, List.replicate_succ, List.set_cons_zero, List.append_assoc]
  rfl

def PkRel (vs : List Va) (l : List Int) (w : World) (i : Value) (wr : World) : Prop :=
  ∃ (k : Nat) (r : List Va), k ≤ l.length ∧ i = .int .i64 k ∧ pickL vs (l.take k) = some r ∧ Blk wr w.heap.size 43 (cellsR (r ++ List.replicate (l.length - k) zva)).toArray ∧ Below w.heap.size w wr

theorem Blk.row {w : World} {g base : Nat} {vs : List Va} (h : Blk w g 43 (cellsR vs).toArray) (hb : base ≤ g) (hm : vs.length ≤ maxLen) : w.ownsRow base 43 3 (.slice (some ⟨g, 0, none⟩) vs.length vs.length) vs.length (cellsR vs) :=
  ⟨cellsR_len vs, .inr ⟨g, vs.length, (cellsR vs).toArray, rfl, hb, h, Nat.le_refl _, hm, by simp [cellsR_len], by rw [← cellsR_len]; simp⟩⟩

set_option maxRecDepth 100000 in
set_option maxHeartbeats 3200000 in
theorem pick_any (A A' : Option Addr) (c c' : Nat) (vs : List Va) (l : List Int) (w : World) (h : RowIn w w.heap.size A vs) (hm : vs.length ≤ 1000000) (h' : Rd w w.heap.size A' l.length (cells64 l)) (hl : l.length ≤ 1000) :
    Calls Tryd.prog 17 #[.slice A vs.length c, .slice A' l.length c'] w (PickRet vs l w) := by
  have H := Lib.hid (And.intro h h')
  have hmk := make_va l.length (by omega)
  obtain ⟨Z, hZ⟩ : ∃ Z, Z = (cellsR (List.replicate l.length zva)).toArray := ⟨_, rfl⟩
  rw [← hZ] at hmk
  have HZ := Lib.hid hZ
  clear h h' hZ
  go_enter Tryd.func17, Tryd.ntmps17
  go_wp2_with fail
  go_loopw [14] (fun i wr => PkRel vs l w i wr) (fun i _ => l.length - (Lib.intOf i).toNat)
  case atStart => exact ⟨0, [], by omega, rfl, by simp [pickL], by rw [List.nil_append, Nat.sub_zero, ← HZ.out]; exact Blk.new _ _ _, (Below.refl _ _).alloc (Nat.le_refl _) _⟩
  case round =>
    obtain ⟨k, r, hk, rfl, hp, hblk, hb⟩ := hrel
    have hrl := pickL_len hp
    rw [List.length_take, Nat.min_eq_left hk] at hrl
    have HR := Lib.hid (And.intro hp (And.intro hblk hb))
    have hk0 : (0 : Int) ≤ (k : Int) := Int.natCast_nonneg _
    have HRL := Lib.hid hrl
    clear hmk hp hblk hb hrl
    by_cases hlt : k < l.length
    · have hlt1 : (k : Int) < (l.length : Int) := by omega
      obtain ⟨ad, u, rfl, hadb, hu, hc⟩ := (H.out.2.below HR.out.2.2 (Nat.le_refl _)).at_ hlt
      rw [cells64_at hlt] at hu
      obtain rfl := Option.some.inj hu
      obtain ⟨p, hpk⟩ : ∃ p, p = l[k] := ⟨_, rfl⟩
      rw [← hpk] at hc
      have HP := Lib.hid hpk
      clear hu hpk hadb
      by_cases hp0 : p < 0
      · have HF := Lib.hid (show PickRet vs l w (.returned (.tuple #[.slice none 0 0, .bool false])) wr from ⟨HR.out.2.2, .inr ⟨pick_no hlt HR.out.1 HP.out (by omega), rfl⟩⟩)
        go_wp2
        refine bodyPost_ret (results_tmp2 rfl _ _ _) rfl ?_
        exact HF.out
      by_cases hp1 : (vs.length : Int) ≤ p
      · have HF := Lib.hid (show PickRet vs l w (.returned (.tuple #[.slice none 0 0, .bool false])) wr from ⟨HR.out.2.2, .inr ⟨pick_no hlt HR.out.1 HP.out (by omega), rfl⟩⟩)
        go_wp2
        refine bodyPost_ret (results_tmp2 rfl _ _ _) rfl ?_
        exact HF.out
      obtain ⟨n, rfl⟩ : ∃ n : Nat, p = (n : Int) := ⟨p.toNat, by omega⟩
      have hn0 : (0 : Int) ≤ (n : Int) := Int.natCast_nonneg _
      have hnv : n < vs.length := by omega
      have hnv1 : (n : Int) < (vs.length : Int) := by omega
      obtain ⟨ad2, rfl, _, c0, c1, c2⟩ := (H.out.1.below HR.out.2.2 (Nat.le_refl _)).at_ hnv
      have hyes := pick_yes hlt HR.out.1 HP.out hn0 (by simpa using hnv)
      simp only [Int.toNat_natCast] at hyes
      obtain ⟨x, hx⟩ : ∃ x, x = vs[n] := ⟨_, rfl⟩
      rw [← hx] at c0 c1 c2 hyes
      have hlen : (cellsR (r ++ List.replicate (l.length - k) zva)).length = l.length * 3 := by rw [cellsR_len, List.length_append, List.length_replicate, HRL.out]; congr 1; omega
      have hex : ∀ j, j < l.length * 3 → ∃ v, wr.cell? ⟨w.heap.size, j, none⟩ = some v := fun j hj => by
        have h := HR.out.2.1.cell j
        rw [List.getElem?_toArray, List.getElem?_eq_getElem (by rw [hlen]; exact hj)] at h
        exact ⟨_, h⟩
      obtain ⟨z0, d0⟩ := hex (k * 3) (by omega)
      obtain ⟨z1, d1⟩ := hex (k * 3 + 1) (by omega)
      obtain ⟨z2, d2⟩ := hex (k * 3 + 2) (by omega)
      have f0 := HR.out.2.1.frozen (k * 3)
      have f1 := HR.out.2.1.frozen (k * 3 + 1)
      have f2 := HR.out.2.1.frozen (k * 3 + 2)
      have hb2 := ((HR.out.2.1.put (k * 3) (.int .i64 x.k)).put (k * 3 + 1) (.int .i64 x.n)).put (k * 3 + 2) (.string x.s)
      have harr : (((cellsR (r ++ List.replicate (l.length - k) zva)).toArray.setIfInBounds (k * 3) (.int .i64 x.k)).setIfInBounds (k * 3 + 1) (.int .i64 x.n)).setIfInBounds (k * 3 + 2) (.string x.s) = (cellsR ((r ++ [x]) ++ List.replicate (l.length - (k + 1)) zva)).toArray := by
        rw [← set_front HRL.out hlt x, ← set_va x _ k (by have := HRL.out; rw [List.length_append, List.length_replicate]; omega)]
        simp
      rw [harr] at hb2
      have HN := Lib.hid (show PkRel vs l w (.int .i64 ((k : Int) + 1)) (((wr.setCell ⟨w.heap.size, k * 3, none⟩ (.int .i64 x.k)).setCell ⟨w.heap.size, k * 3 + 1, none⟩ (.int .i64 x.n)).setCell ⟨w.heap.size, k * 3 + 2, none⟩ (.string x.s)) from
        ⟨k + 1, r ++ [x], by omega, by go_num, hyes, hb2, ((HR.out.2.2.setCell (p := ⟨w.heap.size, k * 3, none⟩) (Nat.le_refl _) _).setCell (p := ⟨w.heap.size, k * 3 + 1, none⟩) (Nat.le_refl _) _).setCell (p := ⟨w.heap.size, k * 3 + 2, none⟩) (Nat.le_refl _) _⟩)
      clear hyes hx hlen hex hb2 harr
      go_wp2
      go_roundw
      case rel => exact HN.out
      case measure => simp [Lib.intOf]; omega
    · have hlt1 : ¬ (k : Int) < (l.length : Int) := by omega
      have hblk := HR.out.2.1
      have hrl := HRL.out
      rw [show l.length - k = 0 by omega, List.replicate_zero, List.append_nil] at hblk
      have hown := hblk.row (base := w.heap.size) (Nat.le_refl _) (by unfold maxLen; omega)
      have HF := Lib.hid (show PickRet vs l w (.returned (.tuple #[.slice (some ⟨w.heap.size, 0, none⟩) l.length l.length, .bool true])) wr from ⟨HR.out.2.2, .inl ⟨r, some ⟨w.heap.size, 0, none⟩, l.length, by have := HR.out.1; rwa [List.take_of_length_le (by omega)] at this, by rw [show r.length = l.length by omega], by
        rw [show r.length = l.length by omega] at hown ⊢
        exact hown⟩⟩)
      clear hblk hown hrl
      go_wp2
      refine bodyPost_ret (results_tmp2 rfl _ _ _) rfl ?_
      exact HF.out
end Go.Proofs.YtkdhmbfmjlpfbaaDoor
