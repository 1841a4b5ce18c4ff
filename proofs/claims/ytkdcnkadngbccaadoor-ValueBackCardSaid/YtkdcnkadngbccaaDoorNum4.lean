/-
  Numbers as text: the library's Itoa and Atoi, laid at this translation; what the listed variables give.
-/
import Derived.Test.YtkdcnkadngbccaaDoorShow
import Derived.Test.YtkdcnkadngbccaaDoorVAlive
import Derived.Shelf.Strconv.Itoa3
import Derived.Shelf.Strconv.AtoiAll
import Derived.Shelf.Strconv.ErrVarAll
import Derived.Test.YtkdcnkadngbccaaDoorLays
import Derived.Lib.SmallJoins
import Derived.Stop.LaidErr
import Derived.Test.YtkdcnkadngbccaaDoorRows
namespace Go.Proofs.YtkdcnkadngbccaaDoor
open Go.RowKit Go.Lib Go.Shelf


/-- the names of the listed variables, as the rows have them -/
def nPow : String := ((Rows.valueShownRow.laid)[2]?.map (·.1)).getD ""
def nRng : String := ((Rows.valueShownRow.laid)[3]?.map (·.1)).getD ""
def nSyn : String := ((Rows.valueShownRow.laid)[4]?.map (·.1)).getD ""

theorem itoa_lib (n : Int) (h0 : -9223372036854775808 ≤ n) (h1 : n ≤ 9223372036854775807) (w : World) (htab : Lib.TabIs Tryd.prog w nPow .u64 Lib.pow10Tab) :
    Calls Tryd.prog 38 #[.int .i64 n] w fun e w' => e = .returned (.string ⟨(Lib.itoa n).toArray⟩) ∧ ∃ k os, w' = Sort.grow (w.drewN k) os := Any.strconv_Itoa Tryd.laysItoa n h0 h1 w htab

/-- what the program's listed variables hold, as the library's texts read it -/
structure Vs (w : World) : Prop where
  tab : Lib.TabIs Tryd.prog w nPow .u64 Lib.pow10Tab
  syn : ∃ tp p, w.var? Tryd.prog nSyn = some #[.iface tp p]
  rng : ∃ tp p, w.var? Tryd.prog nRng = some #[.iface tp p]
theorem gPow : ∃ g, Tryd.prog.globalNamed nPow = some g := ⟨1, by kernel_rfl⟩
theorem gSyn : ∃ g, Tryd.prog.globalNamed nSyn = some g := ⟨2, by kernel_rfl⟩
theorem gRng : ∃ g, Tryd.prog.globalNamed nRng = some g := ⟨3, by kernel_rfl⟩
theorem Vs.below {w w' : World} (h : Vs w) (hb : Below w.heap.size w w') : Vs w' := by
  obtain ⟨g0, h0⟩ := gPow
  obtain ⟨g1, h1⟩ := gSyn
  obtain ⟨g2, h2⟩ := gRng
  obtain ⟨t1, p1, e1⟩ := h.syn
  obtain ⟨t2, p2, e2⟩ := h.rng
  exact ⟨Go.Joins.tab_stays h0 h.tab hb (Nat.le_refl _), ⟨t1, p1, Go.Joins.var_stays h1 e1 hb (Nat.le_refl _)⟩, ⟨t2, p2, Go.Joins.var_stays h2 e2 hb (Nat.le_refl _)⟩⟩

/-- the number that Atoi hands back, beside whatever error -/
def atoiV (s : ByteArray) : Int :=
  match atoiAll s.data.toList with
  | .ok v => v
  | .range => atoiSat s.data.toList
  | _ => 0

theorem atoi_lib (s : ByteArray) (w : World) (hs : s.size ≤ 30000000000000) (hv : Vs w) :
    Calls Tryd.prog 59 #[.string s] w fun e w' => ∃ err, e = .returned (.tuple #[.int .i64 (atoiV s), err]) ∧ Below w.heap.size w w' := by
  unfold atoiV
  rcases h : atoiAll s.data.toList with v | _ | _
  · refine (Any.strconv_Atoi_ok Tryd.laysAtoi s (by omega) v h w).mono ?_
    rintro e w' ⟨rfl, rfl | ⟨t, rfl⟩⟩
    · exact ⟨_, rfl, Below.refl _ _⟩
    · exact ⟨_, rfl, Lib.bytesWorld_below _ _ _⟩
  · obtain ⟨tp, p, hp⟩ := hv.syn
    refine (Any.strconv_Atoi_syntax_var Tryd.laysAtoi s (by omega) h tp p w hp).mono ?_
    rintro e w' ⟨N, rfl, _, _, hb⟩
    exact ⟨_, rfl, hb⟩
  · obtain ⟨tp, p, hp⟩ := hv.rng
    refine (Any.strconv_Atoi_range_var Tryd.laysAtoi s (by omega) h tp p w hp).mono ?_
    rintro e w' ⟨N, rfl, _, _, hb⟩
    exact ⟨_, rfl, hb⟩

def strI (n : Int) : ByteArray := ⟨(Lib.itoa n).toArray⟩
theorem itoa_any (n : Int) (h0 : -9223372036854775808 ≤ n) (h1 : n ≤ 9223372036854775807) (w : World) (hv : Vs w) :
    Calls Tryd.prog 38 #[.int .i64 n] w fun e w' => e = .returned (.string (strI n)) ∧ Below w.heap.size w w' := by
  refine (itoa_lib n h0 h1 w hv.tab).mono ?_
  rintro e w' ⟨rfl, k, os, rfl⟩
  exact ⟨rfl, below_grow (Below.refl _ w) (Nat.le_refl _) _ _⟩

/-- a value as text -/
def showVa (x : Va) : ByteArray := if x.k = 1 then (if x.s = ⟨#[]⟩ then strI x.n else ⟨#[63]⟩) else showV x.k x.n x.s

set_option maxHeartbeats 1600000 in
theorem show_int (n : Int) (s : ByteArray) (w : World) (h0 : -9223372036854775808 ≤ n) (h1 : n ≤ 9223372036854775807) (hv : Vs w) :
    Calls Tryd.prog 18 #[.agg #[.int .i64 1, .int .i64 n, .string s]] w fun e w' => e = .returned (.string (if s = ⟨#[]⟩ then strI n else ⟨#[63]⟩)) ∧ Below w.heap.size w w' := by
  have heq := eqVal
  have hv1 := VS.new w 1 n s
  obtain ⟨w1, hw1⟩ : ∃ w1, w1 = w.alloc (.cells #[.int .i64 1, .int .i64 n, .string s] 23) := ⟨_, rfl⟩
  rw [← hw1] at hv1
  obtain ⟨c0, c1, c2, hb⟩ := hv1
  have HV := Lib.hid (show VS w w.heap.size 1 n s w1 from ⟨c0, c1, c2, hb⟩)
  have HW := Lib.hid hw1
  have HT := Lib.hid hv
  clear hw1 hb hv
  go_enter Tryd.func18, Tryd.ntmps18
  go_wp2_with fail
  rw [← HW.out]
  refine (right_any 1 n s _).mono ?_
  rintro e w2 ⟨rfl, hb2⟩
  obtain ⟨d0, d1, d2, _⟩ := HV.out.below hb2
  have HV2 := Lib.hid (HV.out.below hb2)
  clear c0 c1 c2 hb2
  by_cases hs : s = ⟨#[]⟩
  · rw [show rightV 1 n s = true by simp [rightV, hs]]
    have HS := Lib.hid hs
    clear hs
    go_wp2_with fail
    clear d0 d1 d2
    refine (null_any _).mono ?_
    rintro e w3 ⟨rfl, hw3⟩
    have HV3 := Lib.hid (show VS w w.heap.size 1 n s w3 by rw [hw3]; exact HV2.out.below ((Below.refl _ _).alloc (Nat.le_refl _) _))
    clear hw3
    go_wp2_with fail
    refine (truth_any _ _).mono ?_
    rintro e w4 ⟨rfl, hw4⟩
    have HV4 := Lib.hid (show VS w w.heap.size 1 n s w4 by rw [hw4]; exact HV3.out.below ((Below.refl _ _).alloc (Nat.le_refl _) _))
    clear hw4
    go_wp2_with fail
    refine (truth_any _ _).mono ?_
    rintro e w5 ⟨rfl, hw5⟩
    have HV5 := Lib.hid (show VS w w.heap.size 1 n s w5 by rw [hw5]; exact HV4.out.below ((Below.refl _ _).alloc (Nat.le_refl _) _))
    obtain ⟨f0, f1, f2, _⟩ := HV5.out
    clear hw5
    go_wp2_with fail
    refine (itoa_any n h0 h1 _ (HT.out.below HV5.out.2.2.2)).mono ?_
    rintro e w6 ⟨rfl, hb6⟩
    have HB := Lib.hid (HV5.out.2.2.2.trans (hb6.mono HV5.out.2.2.2.size))
    clear hb6
    go_wp2
    go_ret
    exact ⟨by first | rfl | (rw [if_pos HS.out]; rfl), HB.out⟩
  · rw [show rightV 1 n s = false by simp [rightV, hs]]
    have HS := Lib.hid hs
    clear hs
    go_wp2
    go_ret
    exact ⟨by first | rfl | (rw [if_neg HS.out]; rfl), HV2.out.2.2.2⟩

theorem show_va (x : Va) (w : World) (h0 : -9223372036854775808 ≤ x.n) (h1 : x.n ≤ 9223372036854775807) (hv : Vs w) :
    Calls Tryd.prog 18 #[.agg #[.int .i64 x.k, .int .i64 x.n, .string x.s]] w fun e w' => e = .returned (.string (showVa x)) ∧ Below w.heap.size w w' := by
  unfold showVa
  by_cases hk : x.k = 1
  · rw [if_pos hk, hk]
    exact show_int x.n x.s w h0 h1 hv
  · rw [if_neg hk]
    exact show_any x.k x.n x.s w hk

/-- the value that a text means -/
def meantV (s : ByteArray) : Va :=
  if s.toList == [110, 117, 108, 108] then ⟨0, 0, ⟨#[]⟩⟩
  else if s.toList == [102, 97, 108, 115, 101] then ⟨2, 0, ⟨#[]⟩⟩
  else if s.toList == [116, 114, 117, 101] then ⟨2, 1, ⟨#[]⟩⟩
  else if (bytes s).head? = some 34 then ⟨3, 0, unq s⟩
  else ⟨1, atoiV s, ⟨#[]⟩⟩

theorem meant_any (s : ByteArray) (w : World) (hs : s.size ≤ 30000000000000) (hv : Vs w) :
    Calls Tryd.prog 41 #[.string s] w fun e w' => e = .returned (.agg #[.int .i64 (meantV s).k, .int .i64 (meantV s).n, .string (meantV s).s]) ∧ Below w.heap.size w w' := by
  by_cases h34 : (bytes s).head? = some 34
  · have e1 := str_ne (l := [110, 117, 108, 108]) h34 (by decide)
    have e2 := str_ne (l := [102, 97, 108, 115, 101]) h34 (by decide)
    have e3 := str_ne (l := [116, 114, 117, 101]) h34 (by decide)
    rw [show meantV s = ⟨3, 0, unq s⟩ by unfold meantV; rw [if_neg (by rw [e1]; simp), if_neg (by rw [e2]; simp), if_neg (by rw [e3]; simp), if_pos h34]]
    exact meant_quote s w h34 hs
  · have HV := Lib.hid hv
    clear hv
    have fin : ∀ (k n : Int) (u : ByteArray) (w1 : World), Below w.heap.size w w1 → Blk w1 w.heap.size 23 #[.int .i64 0, .int .i64 0, .string ⟨#[]⟩] →
        Blk (((w1.setCell ⟨w.heap.size, 0, none⟩ (.int .i64 k)).setCell ⟨w.heap.size, 1, none⟩ (.int .i64 n)).setCell ⟨w.heap.size, 2, none⟩ (.string u)) w.heap.size 23 #[.int .i64 k, .int .i64 n, .string u] ∧
        Below w.heap.size w (((w1.setCell ⟨w.heap.size, 0, none⟩ (.int .i64 k)).setCell ⟨w.heap.size, 1, none⟩ (.int .i64 n)).setCell ⟨w.heap.size, 2, none⟩ (.string u)) := fun k n u w1 hb hz =>
      ⟨((hz.put 0 (.int .i64 k)).put 1 (.int .i64 n)).put 2 (.string u), ((hb.setCell (p := ⟨w.heap.size, 0, none⟩) (Nat.le_refl _) _).setCell (p := ⟨w.heap.size, 1, none⟩) (Nat.le_refl _) _).setCell (p := ⟨w.heap.size, 2, none⟩) (Nat.le_refl _) _⟩
    have HF := Lib.hid fin
    clear fin
    cases e1 : (s.toList == [110, 117, 108, 108]) with
    | true =>
      have HM := Lib.hid (show meantV s = ⟨0, 0, ⟨#[]⟩⟩ by unfold meantV; rw [if_pos e1])
      rw [HM.out]
      simp only
      go_enter Tryd.func41, Tryd.ntmps41
      go_wp2_with fail
      refine (null_any _).mono ?_
      rintro e w1 ⟨rfl, hw1⟩
      have hb : Below w.heap.size w w1 := by rw [hw1]; exact ((Below.refl _ w).alloc (Nat.le_refl _) _).alloc (by simp) _
      have hz : Blk w1 w.heap.size 23 #[.int .i64 0, .int .i64 0, .string ⟨#[]⟩] := by rw [hw1]; exact (Blk.new w 23 _).alloc _
      clear hw1
      have z0 := hz.cell 0
      have z1 := hz.cell 1
      have z2 := hz.cell 2
      simp only [List.getElem?_toArray, List.getElem?_cons_zero, List.getElem?_cons_succ] at z0 z1 z2
      have y0 := hz.frozen 0
      have y1 := hz.frozen 1
      have y2 := hz.frozen 2
      have HFF := Lib.hid (HF.out 0 0 ⟨#[]⟩ w1 hb hz)
      clear hb hz
      go_wp2
      have f0 := HFF.out.1.cell 0
      have f1 := HFF.out.1.cell 1
      have f2 := HFF.out.1.cell 2
      simp at f0 f1 f2
      refine bodyPost_ret (by rw [results_cell1 rfl]; go_simp; exact rfl) rfl ?_
      exact ⟨rfl, HFF.out.2⟩
    | false =>
      cases e2 : (s.toList == [102, 97, 108, 115, 101]) with
      | true =>
        have HM := Lib.hid (show meantV s = ⟨2, 0, ⟨#[]⟩⟩ by unfold meantV; rw [if_neg (by rw [e1]; simp), if_pos e2])
        rw [HM.out]
        simp only
        go_enter Tryd.func41, Tryd.ntmps41
        go_wp2_with fail
        refine (truth_any _ _).mono ?_
        rintro e w1 ⟨rfl, hw1⟩
        have hb : Below w.heap.size w w1 := by rw [hw1]; exact ((Below.refl _ w).alloc (Nat.le_refl _) _).alloc (by simp) _
        have hz : Blk w1 w.heap.size 23 #[.int .i64 0, .int .i64 0, .string ⟨#[]⟩] := by rw [hw1]; exact (Blk.new w 23 _).alloc _
        clear hw1
        have z0 := hz.cell 0
        have z1 := hz.cell 1
        have z2 := hz.cell 2
        simp only [List.getElem?_toArray, List.getElem?_cons_zero, List.getElem?_cons_succ] at z0 z1 z2
        have y0 := hz.frozen 0
        have y1 := hz.frozen 1
        have y2 := hz.frozen 2
        have HFF := Lib.hid (HF.out 2 0 ⟨#[]⟩ w1 hb hz)
        clear hb hz
        go_wp2
        have f0 := HFF.out.1.cell 0
        have f1 := HFF.out.1.cell 1
        have f2 := HFF.out.1.cell 2
        simp at f0 f1 f2
        refine bodyPost_ret (by rw [results_cell1 rfl]; go_simp; exact rfl) rfl ?_
        exact ⟨rfl, HFF.out.2⟩
      | false =>
        cases e3 : (s.toList == [116, 114, 117, 101]) with
        | true =>
          have HM := Lib.hid (show meantV s = ⟨2, 1, ⟨#[]⟩⟩ by unfold meantV; rw [if_neg (by rw [e1]; simp), if_neg (by rw [e2]; simp), if_pos e3])
          rw [HM.out]
          simp only
          go_enter Tryd.func41, Tryd.ntmps41
          go_wp2_with fail
          refine (truth_any _ _).mono ?_
          rintro e w1 ⟨rfl, hw1⟩
          have hb : Below w.heap.size w w1 := by rw [hw1]; exact ((Below.refl _ w).alloc (Nat.le_refl _) _).alloc (by simp) _
          have hz : Blk w1 w.heap.size 23 #[.int .i64 0, .int .i64 0, .string ⟨#[]⟩] := by rw [hw1]; exact (Blk.new w 23 _).alloc _
          clear hw1
          have z0 := hz.cell 0
          have z1 := hz.cell 1
          have z2 := hz.cell 2
          simp only [List.getElem?_toArray, List.getElem?_cons_zero, List.getElem?_cons_succ] at z0 z1 z2
          have y0 := hz.frozen 0
          have y1 := hz.frozen 1
          have y2 := hz.frozen 2
          have HFF := Lib.hid (HF.out 2 1 ⟨#[]⟩ w1 hb hz)
          clear hb hz
          go_wp2
          have f0 := HFF.out.1.cell 0
          have f1 := HFF.out.1.cell 1
          have f2 := HFF.out.1.cell 2
          simp at f0 f1 f2
          refine bodyPost_ret (by rw [results_cell1 rfl]; go_simp; exact rfl) rfl ?_
          exact ⟨rfl, HFF.out.2⟩
        | false =>
          have HM := Lib.hid (show meantV s = ⟨1, atoiV s, ⟨#[]⟩⟩ by unfold meantV; rw [if_neg (by rw [e1]; simp), if_neg (by rw [e2]; simp), if_neg (by rw [e3]; simp), if_neg h34])
          have HQ := Lib.hid (show decide ((bytes s).head? = some 34) = false from decide_eq_false h34)
          clear h34
          rw [HM.out]
          simp only
          go_enter Tryd.func41, Tryd.ntmps41
          go_wp2_with fail
          refine (hasQuote_any s _).mono ?_
          rw [HQ.out]
          rintro e w2 ⟨rfl, rfl⟩
          go_wp2_with fail
          refine (atoi_lib s _ hs (HV.out.below ((Below.refl _ w).alloc (Nat.le_refl _) _))).mono ?_
          rintro e w3 ⟨err, rfl, hb3⟩
          go_wp2_with fail
          refine (number_any _ _).mono ?_
          rintro e w1 ⟨rfl, hw1⟩
          have hb : Below w.heap.size w w1 := by rw [hw1]; exact (((Below.refl _ w).alloc (Nat.le_refl _) _).trans (hb3.mono (by simp))).alloc (Nat.le_trans (by simp) hb3.size) _
          have hz : Blk w1 w.heap.size 23 #[.int .i64 0, .int .i64 0, .string ⟨#[]⟩] := by rw [hw1]; exact ((Blk.new w 23 _).below hb3 (by simp)).alloc _
          clear hb3
          clear hw1
          have z0 := hz.cell 0
          have z1 := hz.cell 1
          have z2 := hz.cell 2
          simp only [List.getElem?_toArray, List.getElem?_cons_zero, List.getElem?_cons_succ] at z0 z1 z2
          have y0 := hz.frozen 0
          have y1 := hz.frozen 1
          have y2 := hz.frozen 2
          have HFF := Lib.hid (HF.out 1 (atoiV s) ⟨#[]⟩ w1 hb hz)
          clear hb hz
          go_wp2
          have f0 := HFF.out.1.cell 0
          have f1 := HFF.out.1.cell 1
          have f2 := HFF.out.1.cell 2
          simp at f0 f1 f2
          refine bodyPost_ret (by rw [results_cell1 rfl]; go_simp; exact rfl) rfl ?_
          exact ⟨rfl, HFF.out.2⟩

/-- what Read hands back, for every text -/
def readOk (s : ByteArray) : Bool := rightVa (meantV s) && decide (showVa (meantV s) = s)
theorem atoiV_bd (s : ByteArray) : -9223372036854775808 ≤ atoiV s ∧ atoiV s ≤ 9223372036854775807 := by
  unfold atoiV
  rcases h : atoiAll s.data.toList with v | _ | _
  · have := atoiAll_bounds h; simp only; omega
  · simp
  · simp only; unfold atoiSat; split <;> omega
theorem meantV_bd (s : ByteArray) : -9223372036854775808 ≤ (meantV s).n ∧ (meantV s).n ≤ 9223372036854775807 := by
  have := atoiV_bd s
  unfold meantV
  repeat' split
  all_goals simp only
  all_goals omega
theorem read_any (s : ByteArray) (w : World) (hs : s.size ≤ 30000000000000) (hv : Vs w) :
    Calls Tryd.prog 20 #[.string s] w (ReadRet (meantV s).k (meantV s).n (meantV s).s (readOk s) w) :=
  read_of s _ _ _ (showVa (meantV s)) w (fun w1 hb => meant_any s w1 hs (hv.below hb)) (fun _ w1 hb => show_va (meantV s) w1 (meantV_bd s).1 (meantV_bd s).2 (hv.below hb))

end Go.Proofs.YtkdcnkadngbccaaDoor
