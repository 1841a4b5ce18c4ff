/-
  alive over a contract of the timers.
-/
import Derived.Test.YtcjhkafdfeopfaaTmI
namespace Go.Proofs.Ytcjhkafdfeopfaa
open Go.RowKit Go.Lib

def YesB (w : World) (e : Ending) (w' : World) : Prop := e = .returned (.bool true) ∧ Below w.heap.size w w'
theorem setO_eq (x : On) (l : List On) : setO x l = (dropO x.i l).take (plO x (dropO x.i l)) ++ [x] ++ (dropO x.i l).drop (plO x (dropO x.i l)) := rfl
def l1 : List On := [⟨2, 5⟩]
def l2 : List On := [⟨1, 5⟩, ⟨2, 5⟩]
def l3 : List On := [⟨3, 4⟩, ⟨1, 5⟩, ⟨2, 5⟩]
theorem alive_sets : setO ⟨2, 5⟩ [] = l1 ∧ setO ⟨1, 5⟩ l1 = l2 ∧ setO ⟨3, 4⟩ l2 = l3 := by
  refine ⟨?_, ?_, ?_⟩ <;> simp [setO, insO, dropO, plO, ltO, l1, l2, l3]
theorem alive_due : dueO 5 l3 = l3 ∧ restO 5 l3 = [] := by
  constructor <;> simp [dueO, restO, l3]
/-- a row of ids that is read -/
theorem ids_row {w : World} {base n c : Nat} {A : Option Addr} {l : List On} (h : w.ownsRow base 3 1 (.slice A n c) n (ids l)) (hn : n = l.length) : RowG intV 1 w w.heap.size A (l.map fun x => x.i) := by
  have e : (l.map fun x => x.i).flatMap intV = ids l := by
    clear h hn
    induction l with
    | nil => rfl
    | cons a r ih =>
      rw [List.map_cons, List.flatMap_cons, ih]
      rfl
  have h' : w.ownsRow base 3 1 (.slice A n c) n ((l.map fun x => x.i).flatMap intV) := by
    rw [e]
    exact h
  exact RowG.of_rows (fun _ => rfl) h' (by rw [List.length_map]; exact hn)
set_option maxRecDepth 100000 in
set_option maxHeartbeats 6400000 in
theorem alive9_any {T : TmP} (I : Impl T) (w : World) : Calls Try.prog 7 #[] w (YesB w) := by
  have N5 : NumI 5 := by constructor <;> decide
  have N4 : NumI 4 := by constructor <;> decide
  have N3 : NumI 3 := by constructor <;> decide
  have N2 : NumI 2 := by constructor <;> decide
  have N1 : NumI 1 := by constructor <;> decide
  have HN := Lib.hid (And.intro N5 (And.intro N4 (And.intro N3 (And.intro N2 N1))))
  clear N5 N4 N3 N2 N1
  go_enter Try.func7, Try.ntmps7
  go_wp2_with fail
  refine (I.new w w.heap.size (Nat.le_refl _)).mono ?_
  rintro e w1 ⟨tb, D, rfl, ht1, _, hb1⟩
  have H1 := Lib.hid (show Tn T w w1 tb D [] from ⟨ht1, hb1⟩)
  clear ht1 hb1
  have HS1 := Lib.hid (I.set 2 5 H1.out.t (by simp) H1.out.low.size HN.out.2.2.2.1 HN.out.1)
  rw [alive_sets.1] at HS1
  go_wp2_with fail
  refine HS1.out.mono ?_
  rintro e w2 ⟨rfl, ht2, hc2⟩
  have H2 := Lib.hid (H1.out.step I ht2 hc2)
  have HS2 := Lib.hid (I.set 1 5 H2.out.t (by simp [l1]) H2.out.low.size HN.out.2.2.2.2 HN.out.1)
  rw [alive_sets.2.1] at HS2
  clear ht2 hc2 HS1
  go_wp2_with fail
  refine HS2.out.mono ?_
  rintro e w3 ⟨rfl, ht3, hc3⟩
  have H3 := Lib.hid (H2.out.step I ht3 hc3)
  have HS3 := Lib.hid (I.set 3 4 H3.out.t (by simp [l2]) H3.out.low.size HN.out.2.2.1 HN.out.2.1)
  rw [alive_sets.2.2] at HS3
  clear ht3 hc3 HS2
  go_wp2_with fail
  refine HS3.out.mono ?_
  rintro e w4 ⟨rfl, ht4, hc4⟩
  have H4 := Lib.hid (H3.out.step I ht4 hc4)
  have HNX := Lib.hid (I.next H4.out.t (by simp [l3]))
  rw [show tmRes (nextO l3) = .tuple #[.int .i64 4, .bool true] from rfl] at HNX
  clear ht4 hc4 HS3
  go_wp2_with fail
  refine HNX.out.mono ?_
  rintro e w5 ⟨rfl, hb5⟩
  have H5 := Lib.hid (H4.out.below I hb5)
  have HCN := Lib.hid (I.count H5.out.t (by simp [l3]))
  rw [show ((l3.length : Nat) : Int) = 3 from rfl] at HCN
  clear hb5 HNX
  go_wp2_with fail
  refine HCN.out.mono ?_
  rintro e w6 ⟨rfl, hb6⟩
  have H6 := Lib.hid (H5.out.below I hb6)
  have HDU := Lib.hid (I.due 5 H6.out.t (by simp [l3]) H6.out.low.size HN.out.1)
  rw [alive_due.1, alive_due.2] at HDU
  clear hb6 HCN
  go_wp2_with fail
  refine HDU.out.mono ?_
  rintro e w7 ⟨A7, n7, c7, rfl, hn7, ho7, ht7, hc7⟩
  have H7 := Lib.hid (H6.out.step I ht7 hc7)
  obtain ⟨w8, hw8⟩ : ∃ w8, w8 = w7.alloc (.cells #[.int .i64 3, .int .i64 1, .int .i64 2] 3) := ⟨_, rfl⟩
  have hb8 : Below w7.heap.size w7 w8 := by rw [hw8]; exact (Below.refl _ w7).alloc (Nat.le_refl _) _
  have ho8 := own_chg ho7 (F := Non) (Chg.of_below hb8) fun _ _ hf => hf
  have hr1 := ids_row ho8 hn7
  have hr2 : RowG intV 1 w8 w8.heap.size (some ⟨w7.heap.size, 0, none⟩) [3, 1, 2] := by
    have hlit : w8.ownsRow w7.heap.size 3 1 (.slice (some ⟨w7.heap.size, 0, none⟩) 3 3) 3 [.int .i64 3, .int .i64 1, .int .i64 2] := by
      rw [hw8]
      exact own_of_cur (cur := [.int .i64 3, .int .i64 1, .int .i64 2]) (Blk.new w7 3 #[.int .i64 3, .int .i64 1, .int .i64 2]) (Nat.le_refl _) (Nat.le_refl _) (by simp [maxLen]) rfl _ rfl
    exact RowG.of_rows (cell := intV) (vs := [3, 1, 2]) (fun _ => rfl) hlit rfl
  have HSI := Lib.hid (sameI_yes (n := n7) (n' := 3) (c := c7) (c' := 3) (l := [3, 1, 2]) hn7 rfl hr1 hr2 (by simp))
  have H8 := Lib.hid (H7.out.below I hb8)
  have HW8 := Lib.hid hw8
  clear hn7 ho7 ht7 hc7 hb8 ho8 hr1 hr2 hw8 HDU
  go_wp2_with fail
  rw [← HW8.out]
  refine HSI.out.mono ?_
  rintro e w9 ⟨rfl, hb9⟩
  have H9 := Lib.hid (H8.out.below I hb9)
  have HCO := Lib.hid (I.count H9.out.t (by simp))
  clear hb9 HSI
  go_wp2_with fail
  refine HCO.out.mono ?_
  rintro e w10 ⟨rfl, hb10⟩
  have H10 := Lib.hid (H9.out.below I hb10)
  clear hb10 HCO
  go_wp2_with fail
  go_ret
  exact ⟨rfl, H10.out.low⟩
end Go.Proofs.Ytcjhkafdfeopfaa
