/-
  A condition and its other side: the law CondSides.
-/
import Derived.Test.YthpchenmfenjmaaLcH
import Derived.Test.YthpchenmfenjmaaCoA
namespace Go.Proofs.Ythpchenmfenjmaa
open Go.RowKit Go.Lib Go.Shelf

def Cd.In (c : Cd) : Prop := NumI c.op ∧ NumI c.w.k ∧ NumI c.w.n
def Co.In (c : Co) : Prop := NumI c.k
def Va.In (v : Va) : Prop := NumI v.k ∧ NumI v.n
/-- truth is one of three -/
theorem truthV_three (c : Cd) (v : Va) : truthV c v = -1 ∨ truthV c v = 0 ∨ truthV c v = 1 := by
  have hb : ∀ b : Bool, numB b = -1 ∨ numB b = 0 ∨ numB b = 1 := fun b => by cases b <;> simp [numB]
  unfold truthV
  repeat' split
  all_goals first | exact hb _ | exact .inl rfl
theorem truth_three (c : Cd) (cols : List Co) (r : List Va) : truthL c cols r = -1 ∨ truthL c cols r = 0 ∨ truthL c cols r = 1 := by
  unfold truthL
  split
  · exact .inl rfl
  · split
    · exact .inl rfl
    · exact truthV_three _ _
/-- the other side -/
def oppI (x : Int) : Int := if x = 1 then 2 else if x = 2 then 1 else if x = 5 then 6 else if x = 6 then 5 else x
def oppT (x : Int) : Int := if x < 0 then x else 1 - x
theorem oppV (col : ByteArray) (op : Int) (y v : Va) (h : op = 1 ∨ op = 2 ∨ op = 5 ∨ op = 6) : truthV ⟨col, oppI op, y⟩ v = oppT (truthV ⟨col, op, y⟩ v) := by
  have hb : ∀ b : Bool, numB (!b) = oppT (numB b) := fun b => by cases b <;> rfl
  have hb2 : ∀ b : Bool, numB b = oppT (numB (!b)) := fun b => by cases b <;> rfl
  have hm : (-1 : Int) = oppT (-1) := rfl
  rcases h with rfl | rfl | rfl | rfl
  · show truthV ⟨col, 2, y⟩ v = _
    unfold truthV
    simp only [show ¬ ((2 : Int) = 5) by decide, show ¬ ((2 : Int) = 6) by decide, show ¬ ((2 : Int) = 1) by decide, show ¬ ((1 : Int) = 5) by decide, show ¬ ((1 : Int) = 6) by decide, if_false, if_true]
    split
    · rw [← hb, decide_not]
    · exact hm
  · show truthV ⟨col, 1, y⟩ v = _
    unfold truthV
    simp only [show ¬ ((2 : Int) = 5) by decide, show ¬ ((2 : Int) = 6) by decide, show ¬ ((2 : Int) = 1) by decide, show ¬ ((1 : Int) = 5) by decide, show ¬ ((1 : Int) = 6) by decide, if_false, if_true]
    split
    · rw [show decide (ordVa v y ≠ 0) = !decide (ordVa v y = 0) from decide_not, ← hb2]
    · exact hm
  · exact hb _
  · exact hb2 _
theorem oppL (col : ByteArray) (op : Int) (y : Va) (cols : List Co) (r : List Va) (h : op = 1 ∨ op = 2 ∨ op = 5 ∨ op = 6) : truthL ⟨col, oppI op, y⟩ cols r = oppT (truthL ⟨col, op, y⟩ cols r) := by
  unfold truthL
  simp only
  split
  · rfl
  · split
    · rfl
    · exact oppV _ _ _ _ h
theorem holds_one (c : Cd) (cols : List Co) (r : List Va) : holdsL [c] cols r = decide (truthL c cols r = 1) := by unfold holdsL; simp
theorem refuses_one (c : Cd) (cols : List Co) (r : List Va) : refusesL [c] cols r = decide (truthL c cols r = 0) := by unfold refusesL; simp
theorem CoR.of {w : World} {B : Nat} {A : Option Addr} {n : Nat} {l : List Cd} {cols : List Co} {r : List Va} (h : RowG coC 3 w B A cols) (hB : B ≤ w.heap.size) (hn : n = cols.length) (hL : Looked l cols r) (hi : ∀ x ∈ cols, x.In) : CoR w A n cols :=
  ⟨h.more hB, hn, fun x hx => by obtain ⟨i, hi2, rfl⟩ := List.mem_iff_getElem.1 hx; exact ⟨hL.tc i hi2, hi _ hx⟩, by have := hL.nc; omega⟩
theorem VaR.of {w : World} {B : Nat} {A : Option Addr} {n : Nat} {l : List Cd} {cols : List Co} {r : List Va} (h : RowG vcell 3 w B A r) (hB : B ≤ w.heap.size) (hn : n = r.length) (hL : Looked l cols r) (hi : ∀ x ∈ r, x.In) : VaR w A n r :=
  ⟨h.more hB, hn, fun x hx => by obtain ⟨i, hi2, rfl⟩ := List.mem_iff_getElem.1 hx; exact ⟨hL.tr i hi2, hi _ hx⟩, by have := hL.nr; omega⟩
theorem Cd.sm_of {l : List Cd} {cols : List Co} {r : List Va} (hL : Looked l cols r) (hi : ∀ x ∈ l, x.In) : ∀ x ∈ l, x.Sm := fun x hx => by
  obtain ⟨i, hi2, rfl⟩ := List.mem_iff_getElem.1 hx
  exact ⟨(hL.tl i hi2).2, (hL.tl i hi2).1, hi _ hx⟩
/-- where the law stands: its condition in a box, what it was handed -/
structure SdS (w0 w : World) (b : Nat) (c : Cd) (A2 : Option Addr) (cols : List Co) (A3 : Option Addr) (r : List Va) : Prop where
  low : Below w0.heap.size w0 w
  q : Blk w b 25 #[.string c.col, .int .i64 c.op, .int .i64 c.w.k, .int .i64 c.w.n, .string c.w.s]
  co : RowG coC 3 w w0.heap.size A2 cols
  va : RowG vcell 3 w w0.heap.size A3 r
section
variable {w0 w w' : World} {b : Nat} {c : Cd} {A2 : Option Addr} {cols : List Co} {A3 : Option Addr} {r : List Va}
theorem SdS.below (h : SdS w0 w b c A2 cols A3 r) (hb : Below w.heap.size w w') : SdS w0 w' b c A2 cols A3 r :=
  ⟨h.low.trans (hb.mono h.low.size), h.q.below hb h.q.lt, h.co.below hb h.low.size, h.va.below hb h.low.size⟩
theorem SdS.to (h : SdS w0 w b c A2 cols A3 r) (hb : Below w0.heap.size w w') (hq : Blk w' b 25 #[.string c.col, .int .i64 c.op, .int .i64 c.w.k, .int .i64 c.w.n, .string c.w.s]) : SdS w0 w' b c A2 cols A3 r :=
  ⟨h.low.trans hb, hq, h.co.below hb (Nat.le_refl _), h.va.below hb (Nat.le_refl _)⟩
theorem SdS.cells (h : SdS w0 w b c A2 cols A3 r) : w.cell? ⟨b, 0, none⟩ = some (.string c.col) ∧ w.cell? ⟨b, 1, none⟩ = some (.int .i64 c.op) ∧ w.cell? ⟨b, 2, none⟩ = some (.int .i64 c.w.k) ∧ w.cell? ⟨b, 3, none⟩ = some (.int .i64 c.w.n) ∧ w.cell? ⟨b, 4, none⟩ = some (.string c.w.s) := ⟨h.q.cell 0, h.q.cell 1, h.q.cell 2, h.q.cell 3, h.q.cell 4⟩
theorem SdS.new (c : Cd) (h2 : RowG coC 3 w w.heap.size A2 cols) (h3 : RowG vcell 3 w w.heap.size A3 r) : SdS w (w.alloc (.cells #[.string c.col, .int .i64 c.op, .int .i64 c.w.k, .int .i64 c.w.n, .string c.w.s] 25)) w.heap.size c A2 cols A3 r := by
  have hb : Below w.heap.size w (w.alloc (.cells #[.string c.col, .int .i64 c.op, .int .i64 c.w.k, .int .i64 c.w.n, .string c.w.s] 25)) := (Below.refl _ w).alloc (Nat.le_refl _) _
  exact ⟨hb, Blk.new _ _ _, h2.below hb (Nat.le_refl _), h3.below hb (Nat.le_refl _)⟩
end
/-- and the other side in a box -/
structure SdO (w0 w : World) (b b2 : Nat) (c o : Cd) (A2 : Option Addr) (n2 : Nat) (cols : List Co) (A3 : Option Addr) (n3 : Nat) (r : List Va) : Prop where
  s : SdS w0 w b c A2 cols A3 r
  q : Blk w b2 25 #[.string o.col, .int .i64 o.op, .int .i64 o.w.k, .int .i64 o.w.n, .string o.w.s]
  sm : c.Sm
  sm2 : o.Sm
  co : CoR w A2 n2 cols
  va : VaR w A3 n3 r
theorem SdO.below {w0 w w' : World} {b b2 : Nat} {c o : Cd} {A2 : Option Addr} {n2 : Nat} {cols : List Co} {A3 : Option Addr} {n3 : Nat} {r : List Va} (h : SdO w0 w b b2 c o A2 n2 cols A3 n3 r) (hb : Below w.heap.size w w') : SdO w0 w' b b2 c o A2 n2 cols A3 n3 r :=
  ⟨h.s.below hb, h.q.below hb h.q.lt, h.sm, h.sm2, h.co.below hb, h.va.below hb⟩
/-- and the condition as a row of one -/
structure SdL (w0 w : World) (bl : Nat) (c : Cd) (A2 : Option Addr) (n2 : Nat) (cols : List Co) (A3 : Option Addr) (n3 : Nat) (r : List Va) : Prop where
  low : Below w0.heap.size w0 w
  l : CdR w (some ⟨bl, 0, none⟩) 1 [c]
  co : CoR w A2 n2 cols
  va : VaR w A3 n3 r
theorem SdL.below {w0 w w' : World} {bl : Nat} {c : Cd} {A2 : Option Addr} {n2 : Nat} {cols : List Co} {A3 : Option Addr} {n3 : Nat} {r : List Va} (h : SdL w0 w bl c A2 n2 cols A3 n3 r) (hb : Below w.heap.size w w') : SdL w0 w' bl c A2 n2 cols A3 n3 r :=
  ⟨h.low.trans (hb.mono h.low.size), h.l.below hb, h.co.below hb, h.va.below hb⟩
set_option maxRecDepth 100000 in
set_option maxHeartbeats 12800000 in
theorem csides_op1 (I : ImplCo) {w : World} {A2 : Option Addr} {c2 : Nat} {cols : List Co} {A3 : Option Addr} {c3 : Nat} {r : List Va} {col : ByteArray} {y : Va} (hi : Cd.In ⟨col, 1, y⟩) (h2 : RowG coC 3 w w.heap.size A2 cols) (i2 : ∀ x ∈ cols, x.In) (h3 : RowG vcell 3 w w.heap.size A3 r) (i3 : ∀ x ∈ r, x.In) :
    Calls Try.prog 3 #[.agg #[.string col, .int .i64 1, .int .i64 y.k, .int .i64 y.n, .string y.s], .slice A2 cols.length c2, .slice A3 r.length c3] w fun e w' => e = .returned (.bool true) ∧ Below w.heap.size w w' := by
  have hS := SdS.new ⟨col, 1, y⟩ h2 h3
  simp only at hS
  obtain ⟨w1, hw1⟩ : ∃ w1, w1 = w.alloc (.cells #[.string col, .int .i64 1, .int .i64 y.k, .int .i64 y.n, .string y.s] 25) := ⟨_, rfl⟩
  rw [← hw1] at hS
  have hal := fun w => alive12_any I w
  have HA := Lib.hid hal
  have HI := Lib.hid I
  have H1 := Lib.hid hS
  have HW := Lib.hid hw1
  have HN := Lib.hid (And.intro hi (And.intro i2 i3))

  clear hal hS hw1 hi i2 i3 h2 h3 I
  obtain ⟨n2, hn2⟩ : ∃ n2, n2 = cols.length := ⟨_, rfl⟩
  obtain ⟨n3, hn3⟩ : ∃ n3, n3 = r.length := ⟨_, rfl⟩
  rw [← hn2, ← hn3]
  have HL := Lib.hid (And.intro hn2 hn3)
  clear hn2 hn3
  go_enter Try.func3, Try.ntmps3
  go_upto_region 1 with fail
  rw [← HW.out]
  go_upto_region 3 with (go_at_call 7; refine (HA.out _).mono ?_; rintro e w2 ⟨rfl, hb⟩; have H2 := Lib.hid (H1.out.below hb); obtain ⟨z0, z1, z2, z3, z4⟩ := H2.out.cells; clear hb)
  have H3 := Lib.hid (H2.out.below ((Below.refl _ w2).alloc (Nat.le_refl _) (.cells #[.string col, .int .i64 1, .int .i64 y.k, .int .i64 y.n, .string y.s] 25)))
  have HQ := Lib.hid (Blk.new w2 25 #[.string col, .int .i64 1, .int .i64 y.k, .int .i64 y.n, .string y.s])
  have hg := great12_any (c := 1) (c2 := c2) (c3 := c3) (RowG.one (cell := cdC) (S := 5) (⟨col, 1, y⟩ : Cd) HQ.out) (n := 1) rfl (H3.out.co.more H3.out.low.size) HL.out.1 (H3.out.va.more H3.out.low.size) HL.out.2
  obtain ⟨w3, hw3⟩ : ∃ w3, w3 = w2.alloc (.cells #[.string col, .int .i64 1, .int .i64 y.k, .int .i64 y.n, .string y.s] 25) := ⟨_, rfl⟩
  rw [← hw3] at hg H3
  have HG := Lib.hid hg
  have HW3 := Lib.hid hw3
  clear hg hw3
  go_upto_region 5 with (go_at_call 8; rw [← HW3.out]; refine HG.out.mono ?_; rintro e w4 ⟨hw4, he⟩; subst hw4; clear z0 z1 z2 z3 z4; obtain ⟨z0, z1, z2, z3, z4⟩ := H3.out.cells; have hne : w.heap.size ≠ w4.heap.size := Nat.ne_of_lt H3.out.q.lt; rcases he with rfl | ⟨rfl, hL⟩)
  · go_ret
    exact ⟨rfl, H3.out.low⟩
  have HK := Lib.hid hL
  clear hL
  go_upto_region 6 with fail
  have H5 := Lib.hid (H3.out.below ((Below.refl _ w4).alloc (Nat.le_refl _) (.cells #[.string col, .int .i64 1, .int .i64 y.k, .int .i64 y.n, .string y.s] 25)))
  have hq5 := Blk.new w4 25 #[.string col, .int .i64 1, .int .i64 y.k, .int .i64 y.n, .string y.s]
  obtain ⟨w5, hw5⟩ : ∃ w5, w5 = w4.alloc (.cells #[.string col, .int .i64 1, .int .i64 y.k, .int .i64 y.n, .string y.s] 25) := ⟨_, rfl⟩
  rw [← hw5] at H5 hq5
  first | rw [← hw5] | trace_state
  have hp5 : w.heap.size ≤ w4.heap.size ∧ w.heap.size ≠ w4.heap.size := ⟨H3.out.low.size, hne⟩
  clear hw5
  have hf5 := hq5.frozen 1
  have HQ5 := Lib.hid (And.intro hq5 hp5)
  have e1 : w5.cell? ⟨w4.heap.size, 1, none⟩ = some (.int .i64 1) := hq5.cell 1
  clear z0 z1 z2 z3 z4 hq5 hp5
  obtain ⟨z0, z1, z2, z3, z4⟩ := H5.out.cells
  simp only at z0 z1 z2 z3 z4
  go_upto_region 15 with fail
  have hS6 : SdS w (w5.setCell ⟨w4.heap.size, 1, none⟩ (.int .i64 2)) w.heap.size ⟨col, 1, y⟩ A2 cols A3 r := H5.out.to (((Chg.refl (fun k => w.heap.size ≤ k) w5).setCell (fun _ => HQ5.out.2.1) _).below (fun _ h => h) H5.out.low.size) (H5.out.q.far HQ5.out.2.2 _)
  have hq6 := HQ5.out.1.put 1 (.int .i64 2)
  obtain ⟨w6, hw6⟩ : ∃ w6, w6 = w5.setCell ⟨w4.heap.size, 1, none⟩ (.int .i64 2) := ⟨_, rfl⟩
  rw [← hw6] at hS6 hq6 ⊢
  clear hw6 hf5 e1 z0 z1 z2 z3 z4 H5 HQ5
  have hsm : Cd.Sm ⟨col, 1, y⟩ := Cd.sm_of HK.out (fun x hx => by rw [List.mem_singleton.1 hx]; exact HN.out.1) _ (List.mem_singleton_self _)
  have hO : SdO w w6 w.heap.size w4.heap.size ⟨col, 1, y⟩ ⟨col, 2, y⟩ A2 n2 cols A3 n3 r :=
    ⟨hS6, hq6, hsm, ⟨hsm.1, hsm.2.1, (show NumI 2 by unfold NumI; decide), hsm.2.2.2⟩, CoR.of hS6.co hS6.low.size HL.out.1 HK.out HN.out.2.1, VaR.of hS6.va hS6.low.size HL.out.2 HK.out HN.out.2.2⟩
  have HS := Lib.hid hO
  clear hO hS6 hq6 hsm
  rcases truth_three ⟨col, 1, y⟩ cols r with ha | ha | ha
  · have HB := Lib.hid (show truthL ⟨col, 2, y⟩ cols r = (-1) from by have h := oppL col 1 y cols r (by decide); rw [ha] at h; exact h)
    have HO := Lib.hid (show holdsL [⟨col, 1, y⟩] cols r = false by rw [holds_one, ha]; rfl)
    have HR := Lib.hid (show refusesL [⟨col, 1, y⟩] cols r = false by rw [refuses_one, ha]; rfl)
    have HA1 := Lib.hid ha
    clear ha
    obtain ⟨z0, z1, z2, z3, z4⟩ := HS.out.s.cells
    simp only at z0 z1 z2 z3 z4
    go_upto_region 16 with (go_at_call 9; refine (HI.out.truth (c2 := c2) (c3 := c3) (⟨col, 1, y⟩ : Cd) HS.out.sm HS.out.co HS.out.va).mono ?_; rintro e w7 ⟨rfl, hb⟩; rw [HA1.out]; have HT := Lib.hid (HS.out.below hb); clear HS hb; have HS := HT; clear HT)
    have x0 : w7.cell? ⟨w4.heap.size, 0, none⟩ = some (.string col) := HS.out.q.cell 0
    have x1 : w7.cell? ⟨w4.heap.size, 1, none⟩ = some (.int .i64 2) := HS.out.q.cell 1
    have x2 : w7.cell? ⟨w4.heap.size, 2, none⟩ = some (.int .i64 y.k) := HS.out.q.cell 2
    have x3 : w7.cell? ⟨w4.heap.size, 3, none⟩ = some (.int .i64 y.n) := HS.out.q.cell 3
    have x4 : w7.cell? ⟨w4.heap.size, 4, none⟩ = some (.string y.s) := HS.out.q.cell 4
    clear z0 z1 z2 z3 z4
    go_upto_region 17 with (go_at_call 9; refine (HI.out.truth (c2 := c2) (c3 := c3) (⟨col, 2, y⟩ : Cd) HS.out.sm2 HS.out.co HS.out.va).mono ?_; rintro e w8 ⟨rfl, hb⟩; rw [HB.out]; have HT := Lib.hid (HS.out.below hb); clear HS hb; have HS := HT; clear HT)
    clear x0 x1 x2 x3 x4
    have x1 : w8.cell? ⟨w4.heap.size, 1, none⟩ = some (.int .i64 2) := HS.out.q.cell 1
    obtain ⟨z0, z1, z2, z3, z4⟩ := HS.out.s.cells
    simp only at z0 z1 z2 z3 z4
    go_upto_region 20 with fail
    have hl9 : SdL w (w8.alloc (.cells #[.string col, .int .i64 1, .int .i64 y.k, .int .i64 y.n, .string y.s] 25)) w8.heap.size ⟨col, 1, y⟩ A2 n2 cols A3 n3 r := by
      have hb : Below w8.heap.size w8 (w8.alloc (.cells #[.string col, .int .i64 1, .int .i64 y.k, .int .i64 y.n, .string y.s] 25)) := (Below.refl _ w8).alloc (Nat.le_refl _) _
      exact ⟨HS.out.s.low.trans (hb.mono HS.out.s.low.size), CdR.one _ HS.out.sm (Blk.new _ _ _), HS.out.co.below hb, HS.out.va.below hb⟩
    obtain ⟨w9, hw9⟩ : ∃ w9, w9 = w8.alloc (.cells #[.string col, .int .i64 1, .int .i64 y.k, .int .i64 y.n, .string y.s] 25) := ⟨_, rfl⟩
    rw [← hw9] at hl9 ⊢
    clear hw9 HS x1 z0 z1 z2 z3 z4
    have HS := Lib.hid hl9
    clear hl9
    go_wp2_with (first
      | (go_at_call 10; refine (HI.out.holds (c := 1) (c2 := c2) (c3 := c3) HS.out.l HS.out.co HS.out.va).mono ?_; rintro e w10 ⟨rfl, hb⟩; rw [HO.out]; have HT := Lib.hid (HS.out.below hb); clear HS hb; have HS := HT; clear HT)
      | (go_at_call 11; refine (HI.out.refuses (c := 1) (c2 := c2) (c3 := c3) HS.out.l HS.out.co HS.out.va).mono ?_; rintro e w10 ⟨rfl, hb⟩; rw [HR.out]; have HT := Lib.hid (HS.out.below hb); clear HS hb; have HS := HT; clear HT))
    go_ret
    exact ⟨rfl, HS.out.low⟩
  · have HB := Lib.hid (show truthL ⟨col, 2, y⟩ cols r = 1 from by have h := oppL col 1 y cols r (by decide); rw [ha] at h; exact h)
    have HO := Lib.hid (show holdsL [⟨col, 1, y⟩] cols r = false by rw [holds_one, ha]; rfl)
    have HR := Lib.hid (show refusesL [⟨col, 1, y⟩] cols r = true by rw [refuses_one, ha]; rfl)
    have HA1 := Lib.hid ha
    clear ha
    obtain ⟨z0, z1, z2, z3, z4⟩ := HS.out.s.cells
    simp only at z0 z1 z2 z3 z4
    go_upto_region 16 with (go_at_call 9; refine (HI.out.truth (c2 := c2) (c3 := c3) (⟨col, 1, y⟩ : Cd) HS.out.sm HS.out.co HS.out.va).mono ?_; rintro e w7 ⟨rfl, hb⟩; rw [HA1.out]; have HT := Lib.hid (HS.out.below hb); clear HS hb; have HS := HT; clear HT)
    have x0 : w7.cell? ⟨w4.heap.size, 0, none⟩ = some (.string col) := HS.out.q.cell 0
    have x1 : w7.cell? ⟨w4.heap.size, 1, none⟩ = some (.int .i64 2) := HS.out.q.cell 1
    have x2 : w7.cell? ⟨w4.heap.size, 2, none⟩ = some (.int .i64 y.k) := HS.out.q.cell 2
    have x3 : w7.cell? ⟨w4.heap.size, 3, none⟩ = some (.int .i64 y.n) := HS.out.q.cell 3
    have x4 : w7.cell? ⟨w4.heap.size, 4, none⟩ = some (.string y.s) := HS.out.q.cell 4
    clear z0 z1 z2 z3 z4
    go_upto_region 17 with (go_at_call 9; refine (HI.out.truth (c2 := c2) (c3 := c3) (⟨col, 2, y⟩ : Cd) HS.out.sm2 HS.out.co HS.out.va).mono ?_; rintro e w8 ⟨rfl, hb⟩; rw [HB.out]; have HT := Lib.hid (HS.out.below hb); clear HS hb; have HS := HT; clear HT)
    clear x0 x1 x2 x3 x4
    have x1 : w8.cell? ⟨w4.heap.size, 1, none⟩ = some (.int .i64 2) := HS.out.q.cell 1
    obtain ⟨z0, z1, z2, z3, z4⟩ := HS.out.s.cells
    simp only at z0 z1 z2 z3 z4
    go_upto_region 20 with fail
    have hl9 : SdL w (w8.alloc (.cells #[.string col, .int .i64 1, .int .i64 y.k, .int .i64 y.n, .string y.s] 25)) w8.heap.size ⟨col, 1, y⟩ A2 n2 cols A3 n3 r := by
      have hb : Below w8.heap.size w8 (w8.alloc (.cells #[.string col, .int .i64 1, .int .i64 y.k, .int .i64 y.n, .string y.s] 25)) := (Below.refl _ w8).alloc (Nat.le_refl _) _
      exact ⟨HS.out.s.low.trans (hb.mono HS.out.s.low.size), CdR.one _ HS.out.sm (Blk.new _ _ _), HS.out.co.below hb, HS.out.va.below hb⟩
    obtain ⟨w9, hw9⟩ : ∃ w9, w9 = w8.alloc (.cells #[.string col, .int .i64 1, .int .i64 y.k, .int .i64 y.n, .string y.s] 25) := ⟨_, rfl⟩
    rw [← hw9] at hl9 ⊢
    clear hw9 HS x1 z0 z1 z2 z3 z4
    have HS := Lib.hid hl9
    clear hl9
    go_wp2_with (first
      | (go_at_call 10; refine (HI.out.holds (c := 1) (c2 := c2) (c3 := c3) HS.out.l HS.out.co HS.out.va).mono ?_; rintro e w10 ⟨rfl, hb⟩; rw [HO.out]; have HT := Lib.hid (HS.out.below hb); clear HS hb; have HS := HT; clear HT)
      | (go_at_call 11; refine (HI.out.refuses (c := 1) (c2 := c2) (c3 := c3) HS.out.l HS.out.co HS.out.va).mono ?_; rintro e w10 ⟨rfl, hb⟩; rw [HR.out]; have HT := Lib.hid (HS.out.below hb); clear HS hb; have HS := HT; clear HT))
    go_ret
    exact ⟨rfl, HS.out.low⟩
  · have HB := Lib.hid (show truthL ⟨col, 2, y⟩ cols r = 0 from by have h := oppL col 1 y cols r (by decide); rw [ha] at h; exact h)
    have HO := Lib.hid (show holdsL [⟨col, 1, y⟩] cols r = true by rw [holds_one, ha]; rfl)
    have HR := Lib.hid (show refusesL [⟨col, 1, y⟩] cols r = false by rw [refuses_one, ha]; rfl)
    have HA1 := Lib.hid ha
    clear ha
    obtain ⟨z0, z1, z2, z3, z4⟩ := HS.out.s.cells
    simp only at z0 z1 z2 z3 z4
    go_upto_region 16 with (go_at_call 9; refine (HI.out.truth (c2 := c2) (c3 := c3) (⟨col, 1, y⟩ : Cd) HS.out.sm HS.out.co HS.out.va).mono ?_; rintro e w7 ⟨rfl, hb⟩; rw [HA1.out]; have HT := Lib.hid (HS.out.below hb); clear HS hb; have HS := HT; clear HT)
    have x0 : w7.cell? ⟨w4.heap.size, 0, none⟩ = some (.string col) := HS.out.q.cell 0
    have x1 : w7.cell? ⟨w4.heap.size, 1, none⟩ = some (.int .i64 2) := HS.out.q.cell 1
    have x2 : w7.cell? ⟨w4.heap.size, 2, none⟩ = some (.int .i64 y.k) := HS.out.q.cell 2
    have x3 : w7.cell? ⟨w4.heap.size, 3, none⟩ = some (.int .i64 y.n) := HS.out.q.cell 3
    have x4 : w7.cell? ⟨w4.heap.size, 4, none⟩ = some (.string y.s) := HS.out.q.cell 4
    clear z0 z1 z2 z3 z4
    go_upto_region 17 with (go_at_call 9; refine (HI.out.truth (c2 := c2) (c3 := c3) (⟨col, 2, y⟩ : Cd) HS.out.sm2 HS.out.co HS.out.va).mono ?_; rintro e w8 ⟨rfl, hb⟩; rw [HB.out]; have HT := Lib.hid (HS.out.below hb); clear HS hb; have HS := HT; clear HT)
    clear x0 x1 x2 x3 x4
    have x1 : w8.cell? ⟨w4.heap.size, 1, none⟩ = some (.int .i64 2) := HS.out.q.cell 1
    obtain ⟨z0, z1, z2, z3, z4⟩ := HS.out.s.cells
    simp only at z0 z1 z2 z3 z4
    go_upto_region 20 with fail
    have hl9 : SdL w (w8.alloc (.cells #[.string col, .int .i64 1, .int .i64 y.k, .int .i64 y.n, .string y.s] 25)) w8.heap.size ⟨col, 1, y⟩ A2 n2 cols A3 n3 r := by
      have hb : Below w8.heap.size w8 (w8.alloc (.cells #[.string col, .int .i64 1, .int .i64 y.k, .int .i64 y.n, .string y.s] 25)) := (Below.refl _ w8).alloc (Nat.le_refl _) _
      exact ⟨HS.out.s.low.trans (hb.mono HS.out.s.low.size), CdR.one _ HS.out.sm (Blk.new _ _ _), HS.out.co.below hb, HS.out.va.below hb⟩
    obtain ⟨w9, hw9⟩ : ∃ w9, w9 = w8.alloc (.cells #[.string col, .int .i64 1, .int .i64 y.k, .int .i64 y.n, .string y.s] 25) := ⟨_, rfl⟩
    rw [← hw9] at hl9 ⊢
    clear hw9 HS x1 z0 z1 z2 z3 z4
    have HS := Lib.hid hl9
    clear hl9
    go_wp2_with (first
      | (go_at_call 10; refine (HI.out.holds (c := 1) (c2 := c2) (c3 := c3) HS.out.l HS.out.co HS.out.va).mono ?_; rintro e w10 ⟨rfl, hb⟩; rw [HO.out]; have HT := Lib.hid (HS.out.below hb); clear HS hb; have HS := HT; clear HT)
      | (go_at_call 11; refine (HI.out.refuses (c := 1) (c2 := c2) (c3 := c3) HS.out.l HS.out.co HS.out.va).mono ?_; rintro e w10 ⟨rfl, hb⟩; rw [HR.out]; have HT := Lib.hid (HS.out.below hb); clear HS hb; have HS := HT; clear HT))
    go_ret
    exact ⟨rfl, HS.out.low⟩
set_option maxRecDepth 100000 in
set_option maxHeartbeats 12800000 in
theorem csides_op2 (I : ImplCo) {w : World} {A2 : Option Addr} {c2 : Nat} {cols : List Co} {A3 : Option Addr} {c3 : Nat} {r : List Va} {col : ByteArray} {y : Va} (hi : Cd.In ⟨col, 2, y⟩) (h2 : RowG coC 3 w w.heap.size A2 cols) (i2 : ∀ x ∈ cols, x.In) (h3 : RowG vcell 3 w w.heap.size A3 r) (i3 : ∀ x ∈ r, x.In) :
    Calls Try.prog 3 #[.agg #[.string col, .int .i64 2, .int .i64 y.k, .int .i64 y.n, .string y.s], .slice A2 cols.length c2, .slice A3 r.length c3] w fun e w' => e = .returned (.bool true) ∧ Below w.heap.size w w' := by
  have hS := SdS.new ⟨col, 2, y⟩ h2 h3
  simp only at hS
  obtain ⟨w1, hw1⟩ : ∃ w1, w1 = w.alloc (.cells #[.string col, .int .i64 2, .int .i64 y.k, .int .i64 y.n, .string y.s] 25) := ⟨_, rfl⟩
  rw [← hw1] at hS
  have hal := fun w => alive12_any I w
  have HA := Lib.hid hal
  have HI := Lib.hid I
  have H1 := Lib.hid hS
  have HW := Lib.hid hw1
  have HN := Lib.hid (And.intro hi (And.intro i2 i3))

  clear hal hS hw1 hi i2 i3 h2 h3 I
  obtain ⟨n2, hn2⟩ : ∃ n2, n2 = cols.length := ⟨_, rfl⟩
  obtain ⟨n3, hn3⟩ : ∃ n3, n3 = r.length := ⟨_, rfl⟩
  rw [← hn2, ← hn3]
  have HL := Lib.hid (And.intro hn2 hn3)
  clear hn2 hn3
  go_enter Try.func3, Try.ntmps3
  go_upto_region 1 with fail
  rw [← HW.out]
  go_upto_region 3 with (go_at_call 7; refine (HA.out _).mono ?_; rintro e w2 ⟨rfl, hb⟩; have H2 := Lib.hid (H1.out.below hb); obtain ⟨z0, z1, z2, z3, z4⟩ := H2.out.cells; clear hb)
  have H3 := Lib.hid (H2.out.below ((Below.refl _ w2).alloc (Nat.le_refl _) (.cells #[.string col, .int .i64 2, .int .i64 y.k, .int .i64 y.n, .string y.s] 25)))
  have HQ := Lib.hid (Blk.new w2 25 #[.string col, .int .i64 2, .int .i64 y.k, .int .i64 y.n, .string y.s])
  have hg := great12_any (c := 1) (c2 := c2) (c3 := c3) (RowG.one (cell := cdC) (S := 5) (⟨col, 2, y⟩ : Cd) HQ.out) (n := 1) rfl (H3.out.co.more H3.out.low.size) HL.out.1 (H3.out.va.more H3.out.low.size) HL.out.2
  obtain ⟨w3, hw3⟩ : ∃ w3, w3 = w2.alloc (.cells #[.string col, .int .i64 2, .int .i64 y.k, .int .i64 y.n, .string y.s] 25) := ⟨_, rfl⟩
  rw [← hw3] at hg H3
  have HG := Lib.hid hg
  have HW3 := Lib.hid hw3
  clear hg hw3
  go_upto_region 5 with (go_at_call 8; rw [← HW3.out]; refine HG.out.mono ?_; rintro e w4 ⟨hw4, he⟩; subst hw4; clear z0 z1 z2 z3 z4; obtain ⟨z0, z1, z2, z3, z4⟩ := H3.out.cells; have hne : w.heap.size ≠ w4.heap.size := Nat.ne_of_lt H3.out.q.lt; rcases he with rfl | ⟨rfl, hL⟩)
  · go_ret
    exact ⟨rfl, H3.out.low⟩
  have HK := Lib.hid hL
  clear hL
  go_upto_region 6 with fail
  have H5 := Lib.hid (H3.out.below ((Below.refl _ w4).alloc (Nat.le_refl _) (.cells #[.string col, .int .i64 2, .int .i64 y.k, .int .i64 y.n, .string y.s] 25)))
  have hq5 := Blk.new w4 25 #[.string col, .int .i64 2, .int .i64 y.k, .int .i64 y.n, .string y.s]
  obtain ⟨w5, hw5⟩ : ∃ w5, w5 = w4.alloc (.cells #[.string col, .int .i64 2, .int .i64 y.k, .int .i64 y.n, .string y.s] 25) := ⟨_, rfl⟩
  rw [← hw5] at H5 hq5
  first | rw [← hw5] | trace_state
  have hp5 : w.heap.size ≤ w4.heap.size ∧ w.heap.size ≠ w4.heap.size := ⟨H3.out.low.size, hne⟩
  clear hw5
  have hf5 := hq5.frozen 1
  have HQ5 := Lib.hid (And.intro hq5 hp5)
  have e1 : w5.cell? ⟨w4.heap.size, 1, none⟩ = some (.int .i64 2) := hq5.cell 1
  clear z0 z1 z2 z3 z4 hq5 hp5
  obtain ⟨z0, z1, z2, z3, z4⟩ := H5.out.cells
  simp only at z0 z1 z2 z3 z4
  go_upto_region 15 with fail
  have hS6 : SdS w (w5.setCell ⟨w4.heap.size, 1, none⟩ (.int .i64 1)) w.heap.size ⟨col, 2, y⟩ A2 cols A3 r := H5.out.to (((Chg.refl (fun k => w.heap.size ≤ k) w5).setCell (fun _ => HQ5.out.2.1) _).below (fun _ h => h) H5.out.low.size) (H5.out.q.far HQ5.out.2.2 _)
  have hq6 := HQ5.out.1.put 1 (.int .i64 1)
  obtain ⟨w6, hw6⟩ : ∃ w6, w6 = w5.setCell ⟨w4.heap.size, 1, none⟩ (.int .i64 1) := ⟨_, rfl⟩
  rw [← hw6] at hS6 hq6 ⊢
  clear hw6 hf5 e1 z0 z1 z2 z3 z4 H5 HQ5
  have hsm : Cd.Sm ⟨col, 2, y⟩ := Cd.sm_of HK.out (fun x hx => by rw [List.mem_singleton.1 hx]; exact HN.out.1) _ (List.mem_singleton_self _)
  have hO : SdO w w6 w.heap.size w4.heap.size ⟨col, 2, y⟩ ⟨col, 1, y⟩ A2 n2 cols A3 n3 r :=
    ⟨hS6, hq6, hsm, ⟨hsm.1, hsm.2.1, (show NumI 1 by unfold NumI; decide), hsm.2.2.2⟩, CoR.of hS6.co hS6.low.size HL.out.1 HK.out HN.out.2.1, VaR.of hS6.va hS6.low.size HL.out.2 HK.out HN.out.2.2⟩
  have HS := Lib.hid hO
  clear hO hS6 hq6 hsm
  rcases truth_three ⟨col, 2, y⟩ cols r with ha | ha | ha
  · have HB := Lib.hid (show truthL ⟨col, 1, y⟩ cols r = (-1) from by have h := oppL col 2 y cols r (by decide); rw [ha] at h; exact h)
    have HO := Lib.hid (show holdsL [⟨col, 2, y⟩] cols r = false by rw [holds_one, ha]; rfl)
    have HR := Lib.hid (show refusesL [⟨col, 2, y⟩] cols r = false by rw [refuses_one, ha]; rfl)
    have HA1 := Lib.hid ha
    clear ha
    obtain ⟨z0, z1, z2, z3, z4⟩ := HS.out.s.cells
    simp only at z0 z1 z2 z3 z4
    go_upto_region 16 with (go_at_call 9; refine (HI.out.truth (c2 := c2) (c3 := c3) (⟨col, 2, y⟩ : Cd) HS.out.sm HS.out.co HS.out.va).mono ?_; rintro e w7 ⟨rfl, hb⟩; rw [HA1.out]; have HT := Lib.hid (HS.out.below hb); clear HS hb; have HS := HT; clear HT)
    have x0 : w7.cell? ⟨w4.heap.size, 0, none⟩ = some (.string col) := HS.out.q.cell 0
    have x1 : w7.cell? ⟨w4.heap.size, 1, none⟩ = some (.int .i64 1) := HS.out.q.cell 1
    have x2 : w7.cell? ⟨w4.heap.size, 2, none⟩ = some (.int .i64 y.k) := HS.out.q.cell 2
    have x3 : w7.cell? ⟨w4.heap.size, 3, none⟩ = some (.int .i64 y.n) := HS.out.q.cell 3
    have x4 : w7.cell? ⟨w4.heap.size, 4, none⟩ = some (.string y.s) := HS.out.q.cell 4
    clear z0 z1 z2 z3 z4
    go_upto_region 17 with (go_at_call 9; refine (HI.out.truth (c2 := c2) (c3 := c3) (⟨col, 1, y⟩ : Cd) HS.out.sm2 HS.out.co HS.out.va).mono ?_; rintro e w8 ⟨rfl, hb⟩; rw [HB.out]; have HT := Lib.hid (HS.out.below hb); clear HS hb; have HS := HT; clear HT)
    clear x0 x1 x2 x3 x4
    have x1 : w8.cell? ⟨w4.heap.size, 1, none⟩ = some (.int .i64 1) := HS.out.q.cell 1
    obtain ⟨z0, z1, z2, z3, z4⟩ := HS.out.s.cells
    simp only at z0 z1 z2 z3 z4
    go_upto_region 20 with fail
    have hl9 : SdL w (w8.alloc (.cells #[.string col, .int .i64 2, .int .i64 y.k, .int .i64 y.n, .string y.s] 25)) w8.heap.size ⟨col, 2, y⟩ A2 n2 cols A3 n3 r := by
      have hb : Below w8.heap.size w8 (w8.alloc (.cells #[.string col, .int .i64 2, .int .i64 y.k, .int .i64 y.n, .string y.s] 25)) := (Below.refl _ w8).alloc (Nat.le_refl _) _
      exact ⟨HS.out.s.low.trans (hb.mono HS.out.s.low.size), CdR.one _ HS.out.sm (Blk.new _ _ _), HS.out.co.below hb, HS.out.va.below hb⟩
    obtain ⟨w9, hw9⟩ : ∃ w9, w9 = w8.alloc (.cells #[.string col, .int .i64 2, .int .i64 y.k, .int .i64 y.n, .string y.s] 25) := ⟨_, rfl⟩
    rw [← hw9] at hl9 ⊢
    clear hw9 HS x1 z0 z1 z2 z3 z4
    have HS := Lib.hid hl9
    clear hl9
    go_wp2_with (first
      | (go_at_call 10; refine (HI.out.holds (c := 1) (c2 := c2) (c3 := c3) HS.out.l HS.out.co HS.out.va).mono ?_; rintro e w10 ⟨rfl, hb⟩; rw [HO.out]; have HT := Lib.hid (HS.out.below hb); clear HS hb; have HS := HT; clear HT)
      | (go_at_call 11; refine (HI.out.refuses (c := 1) (c2 := c2) (c3 := c3) HS.out.l HS.out.co HS.out.va).mono ?_; rintro e w10 ⟨rfl, hb⟩; rw [HR.out]; have HT := Lib.hid (HS.out.below hb); clear HS hb; have HS := HT; clear HT))
    go_ret
    exact ⟨rfl, HS.out.low⟩
  · have HB := Lib.hid (show truthL ⟨col, 1, y⟩ cols r = 1 from by have h := oppL col 2 y cols r (by decide); rw [ha] at h; exact h)
    have HO := Lib.hid (show holdsL [⟨col, 2, y⟩] cols r = false by rw [holds_one, ha]; rfl)
    have HR := Lib.hid (show refusesL [⟨col, 2, y⟩] cols r = true by rw [refuses_one, ha]; rfl)
    have HA1 := Lib.hid ha
    clear ha
    obtain ⟨z0, z1, z2, z3, z4⟩ := HS.out.s.cells
    simp only at z0 z1 z2 z3 z4
    go_upto_region 16 with (go_at_call 9; refine (HI.out.truth (c2 := c2) (c3 := c3) (⟨col, 2, y⟩ : Cd) HS.out.sm HS.out.co HS.out.va).mono ?_; rintro e w7 ⟨rfl, hb⟩; rw [HA1.out]; have HT := Lib.hid (HS.out.below hb); clear HS hb; have HS := HT; clear HT)
    have x0 : w7.cell? ⟨w4.heap.size, 0, none⟩ = some (.string col) := HS.out.q.cell 0
    have x1 : w7.cell? ⟨w4.heap.size, 1, none⟩ = some (.int .i64 1) := HS.out.q.cell 1
    have x2 : w7.cell? ⟨w4.heap.size, 2, none⟩ = some (.int .i64 y.k) := HS.out.q.cell 2
    have x3 : w7.cell? ⟨w4.heap.size, 3, none⟩ = some (.int .i64 y.n) := HS.out.q.cell 3
    have x4 : w7.cell? ⟨w4.heap.size, 4, none⟩ = some (.string y.s) := HS.out.q.cell 4
    clear z0 z1 z2 z3 z4
    go_upto_region 17 with (go_at_call 9; refine (HI.out.truth (c2 := c2) (c3 := c3) (⟨col, 1, y⟩ : Cd) HS.out.sm2 HS.out.co HS.out.va).mono ?_; rintro e w8 ⟨rfl, hb⟩; rw [HB.out]; have HT := Lib.hid (HS.out.below hb); clear HS hb; have HS := HT; clear HT)
    clear x0 x1 x2 x3 x4
    have x1 : w8.cell? ⟨w4.heap.size, 1, none⟩ = some (.int .i64 1) := HS.out.q.cell 1
    obtain ⟨z0, z1, z2, z3, z4⟩ := HS.out.s.cells
    simp only at z0 z1 z2 z3 z4
    go_upto_region 20 with fail
    have hl9 : SdL w (w8.alloc (.cells #[.string col, .int .i64 2, .int .i64 y.k, .int .i64 y.n, .string y.s] 25)) w8.heap.size ⟨col, 2, y⟩ A2 n2 cols A3 n3 r := by
      have hb : Below w8.heap.size w8 (w8.alloc (.cells #[.string col, .int .i64 2, .int .i64 y.k, .int .i64 y.n, .string y.s] 25)) := (Below.refl _ w8).alloc (Nat.le_refl _) _
      exact ⟨HS.out.s.low.trans (hb.mono HS.out.s.low.size), CdR.one _ HS.out.sm (Blk.new _ _ _), HS.out.co.below hb, HS.out.va.below hb⟩
    obtain ⟨w9, hw9⟩ : ∃ w9, w9 = w8.alloc (.cells #[.string col, .int .i64 2, .int .i64 y.k, .int .i64 y.n, .string y.s] 25) := ⟨_, rfl⟩
    rw [← hw9] at hl9 ⊢
    clear hw9 HS x1 z0 z1 z2 z3 z4
    have HS := Lib.hid hl9
    clear hl9
    go_wp2_with (first
      | (go_at_call 10; refine (HI.out.holds (c := 1) (c2 := c2) (c3 := c3) HS.out.l HS.out.co HS.out.va).mono ?_; rintro e w10 ⟨rfl, hb⟩; rw [HO.out]; have HT := Lib.hid (HS.out.below hb); clear HS hb; have HS := HT; clear HT)
      | (go_at_call 11; refine (HI.out.refuses (c := 1) (c2 := c2) (c3 := c3) HS.out.l HS.out.co HS.out.va).mono ?_; rintro e w10 ⟨rfl, hb⟩; rw [HR.out]; have HT := Lib.hid (HS.out.below hb); clear HS hb; have HS := HT; clear HT))
    go_ret
    exact ⟨rfl, HS.out.low⟩
  · have HB := Lib.hid (show truthL ⟨col, 1, y⟩ cols r = 0 from by have h := oppL col 2 y cols r (by decide); rw [ha] at h; exact h)
    have HO := Lib.hid (show holdsL [⟨col, 2, y⟩] cols r = true by rw [holds_one, ha]; rfl)
    have HR := Lib.hid (show refusesL [⟨col, 2, y⟩] cols r = false by rw [refuses_one, ha]; rfl)
    have HA1 := Lib.hid ha
    clear ha
    obtain ⟨z0, z1, z2, z3, z4⟩ := HS.out.s.cells
    simp only at z0 z1 z2 z3 z4
    go_upto_region 16 with (go_at_call 9; refine (HI.out.truth (c2 := c2) (c3 := c3) (⟨col, 2, y⟩ : Cd) HS.out.sm HS.out.co HS.out.va).mono ?_; rintro e w7 ⟨rfl, hb⟩; rw [HA1.out]; have HT := Lib.hid (HS.out.below hb); clear HS hb; have HS := HT; clear HT)
    have x0 : w7.cell? ⟨w4.heap.size, 0, none⟩ = some (.string col) := HS.out.q.cell 0
    have x1 : w7.cell? ⟨w4.heap.size, 1, none⟩ = some (.int .i64 1) := HS.out.q.cell 1
    have x2 : w7.cell? ⟨w4.heap.size, 2, none⟩ = some (.int .i64 y.k) := HS.out.q.cell 2
    have x3 : w7.cell? ⟨w4.heap.size, 3, none⟩ = some (.int .i64 y.n) := HS.out.q.cell 3
    have x4 : w7.cell? ⟨w4.heap.size, 4, none⟩ = some (.string y.s) := HS.out.q.cell 4
    clear z0 z1 z2 z3 z4
    go_upto_region 17 with (go_at_call 9; refine (HI.out.truth (c2 := c2) (c3 := c3) (⟨col, 1, y⟩ : Cd) HS.out.sm2 HS.out.co HS.out.va).mono ?_; rintro e w8 ⟨rfl, hb⟩; rw [HB.out]; have HT := Lib.hid (HS.out.below hb); clear HS hb; have HS := HT; clear HT)
    clear x0 x1 x2 x3 x4
    have x1 : w8.cell? ⟨w4.heap.size, 1, none⟩ = some (.int .i64 1) := HS.out.q.cell 1
    obtain ⟨z0, z1, z2, z3, z4⟩ := HS.out.s.cells
    simp only at z0 z1 z2 z3 z4
    go_upto_region 20 with fail
    have hl9 : SdL w (w8.alloc (.cells #[.string col, .int .i64 2, .int .i64 y.k, .int .i64 y.n, .string y.s] 25)) w8.heap.size ⟨col, 2, y⟩ A2 n2 cols A3 n3 r := by
      have hb : Below w8.heap.size w8 (w8.alloc (.cells #[.string col, .int .i64 2, .int .i64 y.k, .int .i64 y.n, .string y.s] 25)) := (Below.refl _ w8).alloc (Nat.le_refl _) _
      exact ⟨HS.out.s.low.trans (hb.mono HS.out.s.low.size), CdR.one _ HS.out.sm (Blk.new _ _ _), HS.out.co.below hb, HS.out.va.below hb⟩
    obtain ⟨w9, hw9⟩ : ∃ w9, w9 = w8.alloc (.cells #[.string col, .int .i64 2, .int .i64 y.k, .int .i64 y.n, .string y.s] 25) := ⟨_, rfl⟩
    rw [← hw9] at hl9 ⊢
    clear hw9 HS x1 z0 z1 z2 z3 z4
    have HS := Lib.hid hl9
    clear hl9
    go_wp2_with (first
      | (go_at_call 10; refine (HI.out.holds (c := 1) (c2 := c2) (c3 := c3) HS.out.l HS.out.co HS.out.va).mono ?_; rintro e w10 ⟨rfl, hb⟩; rw [HO.out]; have HT := Lib.hid (HS.out.below hb); clear HS hb; have HS := HT; clear HT)
      | (go_at_call 11; refine (HI.out.refuses (c := 1) (c2 := c2) (c3 := c3) HS.out.l HS.out.co HS.out.va).mono ?_; rintro e w10 ⟨rfl, hb⟩; rw [HR.out]; have HT := Lib.hid (HS.out.below hb); clear HS hb; have HS := HT; clear HT))
    go_ret
    exact ⟨rfl, HS.out.low⟩
set_option maxRecDepth 100000 in
set_option maxHeartbeats 12800000 in
theorem csides_op5 (I : ImplCo) {w : World} {A2 : Option Addr} {c2 : Nat} {cols : List Co} {A3 : Option Addr} {c3 : Nat} {r : List Va} {col : ByteArray} {y : Va} (hi : Cd.In ⟨col, 5, y⟩) (h2 : RowG coC 3 w w.heap.size A2 cols) (i2 : ∀ x ∈ cols, x.In) (h3 : RowG vcell 3 w w.heap.size A3 r) (i3 : ∀ x ∈ r, x.In) :
    Calls Try.prog 3 #[.agg #[.string col, .int .i64 5, .int .i64 y.k, .int .i64 y.n, .string y.s], .slice A2 cols.length c2, .slice A3 r.length c3] w fun e w' => e = .returned (.bool true) ∧ Below w.heap.size w w' := by
  have hS := SdS.new ⟨col, 5, y⟩ h2 h3
  simp only at hS
  obtain ⟨w1, hw1⟩ : ∃ w1, w1 = w.alloc (.cells #[.string col, .int .i64 5, .int .i64 y.k, .int .i64 y.n, .string y.s] 25) := ⟨_, rfl⟩
  rw [← hw1] at hS
  have hal := fun w => alive12_any I w
  have HA := Lib.hid hal
  have HI := Lib.hid I
  have H1 := Lib.hid hS
  have HW := Lib.hid hw1
  have HN := Lib.hid (And.intro hi (And.intro i2 i3))

  clear hal hS hw1 hi i2 i3 h2 h3 I
  obtain ⟨n2, hn2⟩ : ∃ n2, n2 = cols.length := ⟨_, rfl⟩
  obtain ⟨n3, hn3⟩ : ∃ n3, n3 = r.length := ⟨_, rfl⟩
  rw [← hn2, ← hn3]
  have HL := Lib.hid (And.intro hn2 hn3)
  clear hn2 hn3
  go_enter Try.func3, Try.ntmps3
  go_upto_region 1 with fail
  rw [← HW.out]
  go_upto_region 3 with (go_at_call 7; refine (HA.out _).mono ?_; rintro e w2 ⟨rfl, hb⟩; have H2 := Lib.hid (H1.out.below hb); obtain ⟨z0, z1, z2, z3, z4⟩ := H2.out.cells; clear hb)
  have H3 := Lib.hid (H2.out.below ((Below.refl _ w2).alloc (Nat.le_refl _) (.cells #[.string col, .int .i64 5, .int .i64 y.k, .int .i64 y.n, .string y.s] 25)))
  have HQ := Lib.hid (Blk.new w2 25 #[.string col, .int .i64 5, .int .i64 y.k, .int .i64 y.n, .string y.s])
  have hg := great12_any (c := 1) (c2 := c2) (c3 := c3) (RowG.one (cell := cdC) (S := 5) (⟨col, 5, y⟩ : Cd) HQ.out) (n := 1) rfl (H3.out.co.more H3.out.low.size) HL.out.1 (H3.out.va.more H3.out.low.size) HL.out.2
  obtain ⟨w3, hw3⟩ : ∃ w3, w3 = w2.alloc (.cells #[.string col, .int .i64 5, .int .i64 y.k, .int .i64 y.n, .string y.s] 25) := ⟨_, rfl⟩
  rw [← hw3] at hg H3
  have HG := Lib.hid hg
  have HW3 := Lib.hid hw3
  clear hg hw3
  go_upto_region 5 with (go_at_call 8; rw [← HW3.out]; refine HG.out.mono ?_; rintro e w4 ⟨hw4, he⟩; subst hw4; clear z0 z1 z2 z3 z4; obtain ⟨z0, z1, z2, z3, z4⟩ := H3.out.cells; have hne : w.heap.size ≠ w4.heap.size := Nat.ne_of_lt H3.out.q.lt; rcases he with rfl | ⟨rfl, hL⟩)
  · go_ret
    exact ⟨rfl, H3.out.low⟩
  have HK := Lib.hid hL
  clear hL
  go_upto_region 6 with fail
  have H5 := Lib.hid (H3.out.below ((Below.refl _ w4).alloc (Nat.le_refl _) (.cells #[.string col, .int .i64 5, .int .i64 y.k, .int .i64 y.n, .string y.s] 25)))
  have hq5 := Blk.new w4 25 #[.string col, .int .i64 5, .int .i64 y.k, .int .i64 y.n, .string y.s]
  obtain ⟨w5, hw5⟩ : ∃ w5, w5 = w4.alloc (.cells #[.string col, .int .i64 5, .int .i64 y.k, .int .i64 y.n, .string y.s] 25) := ⟨_, rfl⟩
  rw [← hw5] at H5 hq5
  first | rw [← hw5] | trace_state
  have hp5 : w.heap.size ≤ w4.heap.size ∧ w.heap.size ≠ w4.heap.size := ⟨H3.out.low.size, hne⟩
  clear hw5
  have hf5 := hq5.frozen 1
  have HQ5 := Lib.hid (And.intro hq5 hp5)
  have e1 : w5.cell? ⟨w4.heap.size, 1, none⟩ = some (.int .i64 5) := hq5.cell 1
  clear z0 z1 z2 z3 z4 hq5 hp5
  obtain ⟨z0, z1, z2, z3, z4⟩ := H5.out.cells
  simp only at z0 z1 z2 z3 z4
  go_upto_region 15 with fail
  have hS6 : SdS w (w5.setCell ⟨w4.heap.size, 1, none⟩ (.int .i64 6)) w.heap.size ⟨col, 5, y⟩ A2 cols A3 r := H5.out.to (((Chg.refl (fun k => w.heap.size ≤ k) w5).setCell (fun _ => HQ5.out.2.1) _).below (fun _ h => h) H5.out.low.size) (H5.out.q.far HQ5.out.2.2 _)
  have hq6 := HQ5.out.1.put 1 (.int .i64 6)
  obtain ⟨w6, hw6⟩ : ∃ w6, w6 = w5.setCell ⟨w4.heap.size, 1, none⟩ (.int .i64 6) := ⟨_, rfl⟩
  rw [← hw6] at hS6 hq6 ⊢
  clear hw6 hf5 e1 z0 z1 z2 z3 z4 H5 HQ5
  have hsm : Cd.Sm ⟨col, 5, y⟩ := Cd.sm_of HK.out (fun x hx => by rw [List.mem_singleton.1 hx]; exact HN.out.1) _ (List.mem_singleton_self _)
  have hO : SdO w w6 w.heap.size w4.heap.size ⟨col, 5, y⟩ ⟨col, 6, y⟩ A2 n2 cols A3 n3 r :=
    ⟨hS6, hq6, hsm, ⟨hsm.1, hsm.2.1, (show NumI 6 by unfold NumI; decide), hsm.2.2.2⟩, CoR.of hS6.co hS6.low.size HL.out.1 HK.out HN.out.2.1, VaR.of hS6.va hS6.low.size HL.out.2 HK.out HN.out.2.2⟩
  have HS := Lib.hid hO
  clear hO hS6 hq6 hsm
  rcases truth_three ⟨col, 5, y⟩ cols r with ha | ha | ha
  · have HB := Lib.hid (show truthL ⟨col, 6, y⟩ cols r = (-1) from by have h := oppL col 5 y cols r (by decide); rw [ha] at h; exact h)
    have HO := Lib.hid (show holdsL [⟨col, 5, y⟩] cols r = false by rw [holds_one, ha]; rfl)
    have HR := Lib.hid (show refusesL [⟨col, 5, y⟩] cols r = false by rw [refuses_one, ha]; rfl)
    have HA1 := Lib.hid ha
    clear ha
    obtain ⟨z0, z1, z2, z3, z4⟩ := HS.out.s.cells
    simp only at z0 z1 z2 z3 z4
    go_upto_region 16 with (go_at_call 9; refine (HI.out.truth (c2 := c2) (c3 := c3) (⟨col, 5, y⟩ : Cd) HS.out.sm HS.out.co HS.out.va).mono ?_; rintro e w7 ⟨rfl, hb⟩; rw [HA1.out]; have HT := Lib.hid (HS.out.below hb); clear HS hb; have HS := HT; clear HT)
    have x0 : w7.cell? ⟨w4.heap.size, 0, none⟩ = some (.string col) := HS.out.q.cell 0
    have x1 : w7.cell? ⟨w4.heap.size, 1, none⟩ = some (.int .i64 6) := HS.out.q.cell 1
    have x2 : w7.cell? ⟨w4.heap.size, 2, none⟩ = some (.int .i64 y.k) := HS.out.q.cell 2
    have x3 : w7.cell? ⟨w4.heap.size, 3, none⟩ = some (.int .i64 y.n) := HS.out.q.cell 3
    have x4 : w7.cell? ⟨w4.heap.size, 4, none⟩ = some (.string y.s) := HS.out.q.cell 4
    clear z0 z1 z2 z3 z4
    go_upto_region 17 with (go_at_call 9; refine (HI.out.truth (c2 := c2) (c3 := c3) (⟨col, 6, y⟩ : Cd) HS.out.sm2 HS.out.co HS.out.va).mono ?_; rintro e w8 ⟨rfl, hb⟩; rw [HB.out]; have HT := Lib.hid (HS.out.below hb); clear HS hb; have HS := HT; clear HT)
    clear x0 x1 x2 x3 x4
    have x1 : w8.cell? ⟨w4.heap.size, 1, none⟩ = some (.int .i64 6) := HS.out.q.cell 1
    obtain ⟨z0, z1, z2, z3, z4⟩ := HS.out.s.cells
    simp only at z0 z1 z2 z3 z4
    go_upto_region 20 with fail
    have hl9 : SdL w (w8.alloc (.cells #[.string col, .int .i64 5, .int .i64 y.k, .int .i64 y.n, .string y.s] 25)) w8.heap.size ⟨col, 5, y⟩ A2 n2 cols A3 n3 r := by
      have hb : Below w8.heap.size w8 (w8.alloc (.cells #[.string col, .int .i64 5, .int .i64 y.k, .int .i64 y.n, .string y.s] 25)) := (Below.refl _ w8).alloc (Nat.le_refl _) _
      exact ⟨HS.out.s.low.trans (hb.mono HS.out.s.low.size), CdR.one _ HS.out.sm (Blk.new _ _ _), HS.out.co.below hb, HS.out.va.below hb⟩
    obtain ⟨w9, hw9⟩ : ∃ w9, w9 = w8.alloc (.cells #[.string col, .int .i64 5, .int .i64 y.k, .int .i64 y.n, .string y.s] 25) := ⟨_, rfl⟩
    rw [← hw9] at hl9 ⊢
    clear hw9 HS x1 z0 z1 z2 z3 z4
    have HS := Lib.hid hl9
    clear hl9
    go_wp2_with (first
      | (go_at_call 10; refine (HI.out.holds (c := 1) (c2 := c2) (c3 := c3) HS.out.l HS.out.co HS.out.va).mono ?_; rintro e w10 ⟨rfl, hb⟩; rw [HO.out]; have HT := Lib.hid (HS.out.below hb); clear HS hb; have HS := HT; clear HT)
      | (go_at_call 11; refine (HI.out.refuses (c := 1) (c2 := c2) (c3 := c3) HS.out.l HS.out.co HS.out.va).mono ?_; rintro e w10 ⟨rfl, hb⟩; rw [HR.out]; have HT := Lib.hid (HS.out.below hb); clear HS hb; have HS := HT; clear HT))
    go_ret
    exact ⟨rfl, HS.out.low⟩
  · have HB := Lib.hid (show truthL ⟨col, 6, y⟩ cols r = 1 from by have h := oppL col 5 y cols r (by decide); rw [ha] at h; exact h)
    have HO := Lib.hid (show holdsL [⟨col, 5, y⟩] cols r = false by rw [holds_one, ha]; rfl)
    have HR := Lib.hid (show refusesL [⟨col, 5, y⟩] cols r = true by rw [refuses_one, ha]; rfl)
    have HA1 := Lib.hid ha
    clear ha
    obtain ⟨z0, z1, z2, z3, z4⟩ := HS.out.s.cells
    simp only at z0 z1 z2 z3 z4
    go_upto_region 16 with (go_at_call 9; refine (HI.out.truth (c2 := c2) (c3 := c3) (⟨col, 5, y⟩ : Cd) HS.out.sm HS.out.co HS.out.va).mono ?_; rintro e w7 ⟨rfl, hb⟩; rw [HA1.out]; have HT := Lib.hid (HS.out.below hb); clear HS hb; have HS := HT; clear HT)
    have x0 : w7.cell? ⟨w4.heap.size, 0, none⟩ = some (.string col) := HS.out.q.cell 0
    have x1 : w7.cell? ⟨w4.heap.size, 1, none⟩ = some (.int .i64 6) := HS.out.q.cell 1
    have x2 : w7.cell? ⟨w4.heap.size, 2, none⟩ = some (.int .i64 y.k) := HS.out.q.cell 2
    have x3 : w7.cell? ⟨w4.heap.size, 3, none⟩ = some (.int .i64 y.n) := HS.out.q.cell 3
    have x4 : w7.cell? ⟨w4.heap.size, 4, none⟩ = some (.string y.s) := HS.out.q.cell 4
    clear z0 z1 z2 z3 z4
    go_upto_region 17 with (go_at_call 9; refine (HI.out.truth (c2 := c2) (c3 := c3) (⟨col, 6, y⟩ : Cd) HS.out.sm2 HS.out.co HS.out.va).mono ?_; rintro e w8 ⟨rfl, hb⟩; rw [HB.out]; have HT := Lib.hid (HS.out.below hb); clear HS hb; have HS := HT; clear HT)
    clear x0 x1 x2 x3 x4
    have x1 : w8.cell? ⟨w4.heap.size, 1, none⟩ = some (.int .i64 6) := HS.out.q.cell 1
    obtain ⟨z0, z1, z2, z3, z4⟩ := HS.out.s.cells
    simp only at z0 z1 z2 z3 z4
    go_upto_region 20 with fail
    have hl9 : SdL w (w8.alloc (.cells #[.string col, .int .i64 5, .int .i64 y.k, .int .i64 y.n, .string y.s] 25)) w8.heap.size ⟨col, 5, y⟩ A2 n2 cols A3 n3 r := by
      have hb : Below w8.heap.size w8 (w8.alloc (.cells #[.string col, .int .i64 5, .int .i64 y.k, .int .i64 y.n, .string y.s] 25)) := (Below.refl _ w8).alloc (Nat.le_refl _) _
      exact ⟨HS.out.s.low.trans (hb.mono HS.out.s.low.size), CdR.one _ HS.out.sm (Blk.new _ _ _), HS.out.co.below hb, HS.out.va.below hb⟩
    obtain ⟨w9, hw9⟩ : ∃ w9, w9 = w8.alloc (.cells #[.string col, .int .i64 5, .int .i64 y.k, .int .i64 y.n, .string y.s] 25) := ⟨_, rfl⟩
    rw [← hw9] at hl9 ⊢
    clear hw9 HS x1 z0 z1 z2 z3 z4
    have HS := Lib.hid hl9
    clear hl9
    go_wp2_with (first
      | (go_at_call 10; refine (HI.out.holds (c := 1) (c2 := c2) (c3 := c3) HS.out.l HS.out.co HS.out.va).mono ?_; rintro e w10 ⟨rfl, hb⟩; rw [HO.out]; have HT := Lib.hid (HS.out.below hb); clear HS hb; have HS := HT; clear HT)
      | (go_at_call 11; refine (HI.out.refuses (c := 1) (c2 := c2) (c3 := c3) HS.out.l HS.out.co HS.out.va).mono ?_; rintro e w10 ⟨rfl, hb⟩; rw [HR.out]; have HT := Lib.hid (HS.out.below hb); clear HS hb; have HS := HT; clear HT))
    go_ret
    exact ⟨rfl, HS.out.low⟩
  · have HB := Lib.hid (show truthL ⟨col, 6, y⟩ cols r = 0 from by have h := oppL col 5 y cols r (by decide); rw [ha] at h; exact h)
    have HO := Lib.hid (show holdsL [⟨col, 5, y⟩] cols r = true by rw [holds_one, ha]; rfl)
    have HR := Lib.hid (show refusesL [⟨col, 5, y⟩] cols r = false by rw [refuses_one, ha]; rfl)
    have HA1 := Lib.hid ha
    clear ha
    obtain ⟨z0, z1, z2, z3, z4⟩ := HS.out.s.cells
    simp only at z0 z1 z2 z3 z4
    go_upto_region 16 with (go_at_call 9; refine (HI.out.truth (c2 := c2) (c3 := c3) (⟨col, 5, y⟩ : Cd) HS.out.sm HS.out.co HS.out.va).mono ?_; rintro e w7 ⟨rfl, hb⟩; rw [HA1.out]; have HT := Lib.hid (HS.out.below hb); clear HS hb; have HS := HT; clear HT)
    have x0 : w7.cell? ⟨w4.heap.size, 0, none⟩ = some (.string col) := HS.out.q.cell 0
    have x1 : w7.cell? ⟨w4.heap.size, 1, none⟩ = some (.int .i64 6) := HS.out.q.cell 1
    have x2 : w7.cell? ⟨w4.heap.size, 2, none⟩ = some (.int .i64 y.k) := HS.out.q.cell 2
    have x3 : w7.cell? ⟨w4.heap.size, 3, none⟩ = some (.int .i64 y.n) := HS.out.q.cell 3
    have x4 : w7.cell? ⟨w4.heap.size, 4, none⟩ = some (.string y.s) := HS.out.q.cell 4
    clear z0 z1 z2 z3 z4
    go_upto_region 17 with (go_at_call 9; refine (HI.out.truth (c2 := c2) (c3 := c3) (⟨col, 6, y⟩ : Cd) HS.out.sm2 HS.out.co HS.out.va).mono ?_; rintro e w8 ⟨rfl, hb⟩; rw [HB.out]; have HT := Lib.hid (HS.out.below hb); clear HS hb; have HS := HT; clear HT)
    clear x0 x1 x2 x3 x4
    have x1 : w8.cell? ⟨w4.heap.size, 1, none⟩ = some (.int .i64 6) := HS.out.q.cell 1
    obtain ⟨z0, z1, z2, z3, z4⟩ := HS.out.s.cells
    simp only at z0 z1 z2 z3 z4
    go_upto_region 20 with fail
    have hl9 : SdL w (w8.alloc (.cells #[.string col, .int .i64 5, .int .i64 y.k, .int .i64 y.n, .string y.s] 25)) w8.heap.size ⟨col, 5, y⟩ A2 n2 cols A3 n3 r := by
      have hb : Below w8.heap.size w8 (w8.alloc (.cells #[.string col, .int .i64 5, .int .i64 y.k, .int .i64 y.n, .string y.s] 25)) := (Below.refl _ w8).alloc (Nat.le_refl _) _
      exact ⟨HS.out.s.low.trans (hb.mono HS.out.s.low.size), CdR.one _ HS.out.sm (Blk.new _ _ _), HS.out.co.below hb, HS.out.va.below hb⟩
    obtain ⟨w9, hw9⟩ : ∃ w9, w9 = w8.alloc (.cells #[.string col, .int .i64 5, .int .i64 y.k, .int .i64 y.n, .string y.s] 25) := ⟨_, rfl⟩
    rw [← hw9] at hl9 ⊢
    clear hw9 HS x1 z0 z1 z2 z3 z4
    have HS := Lib.hid hl9
    clear hl9
    go_wp2_with (first
      | (go_at_call 10; refine (HI.out.holds (c := 1) (c2 := c2) (c3 := c3) HS.out.l HS.out.co HS.out.va).mono ?_; rintro e w10 ⟨rfl, hb⟩; rw [HO.out]; have HT := Lib.hid (HS.out.below hb); clear HS hb; have HS := HT; clear HT)
      | (go_at_call 11; refine (HI.out.refuses (c := 1) (c2 := c2) (c3 := c3) HS.out.l HS.out.co HS.out.va).mono ?_; rintro e w10 ⟨rfl, hb⟩; rw [HR.out]; have HT := Lib.hid (HS.out.below hb); clear HS hb; have HS := HT; clear HT))
    go_ret
    exact ⟨rfl, HS.out.low⟩
set_option maxRecDepth 100000 in
set_option maxHeartbeats 12800000 in
theorem csides_op6 (I : ImplCo) {w : World} {A2 : Option Addr} {c2 : Nat} {cols : List Co} {A3 : Option Addr} {c3 : Nat} {r : List Va} {col : ByteArray} {y : Va} (hi : Cd.In ⟨col, 6, y⟩) (h2 : RowG coC 3 w w.heap.size A2 cols) (i2 : ∀ x ∈ cols, x.In) (h3 : RowG vcell 3 w w.heap.size A3 r) (i3 : ∀ x ∈ r, x.In) :
    Calls Try.prog 3 #[.agg #[.string col, .int .i64 6, .int .i64 y.k, .int .i64 y.n, .string y.s], .slice A2 cols.length c2, .slice A3 r.length c3] w fun e w' => e = .returned (.bool true) ∧ Below w.heap.size w w' := by
  have hS := SdS.new ⟨col, 6, y⟩ h2 h3
  simp only at hS
  obtain ⟨w1, hw1⟩ : ∃ w1, w1 = w.alloc (.cells #[.string col, .int .i64 6, .int .i64 y.k, .int .i64 y.n, .string y.s] 25) := ⟨_, rfl⟩
  rw [← hw1] at hS
  have hal := fun w => alive12_any I w
  have HA := Lib.hid hal
  have HI := Lib.hid I
  have H1 := Lib.hid hS
  have HW := Lib.hid hw1
  have HN := Lib.hid (And.intro hi (And.intro i2 i3))

  clear hal hS hw1 hi i2 i3 h2 h3 I
  obtain ⟨n2, hn2⟩ : ∃ n2, n2 = cols.length := ⟨_, rfl⟩
  obtain ⟨n3, hn3⟩ : ∃ n3, n3 = r.length := ⟨_, rfl⟩
  rw [← hn2, ← hn3]
  have HL := Lib.hid (And.intro hn2 hn3)
  clear hn2 hn3
  go_enter Try.func3, Try.ntmps3
  go_upto_region 1 with fail
  rw [← HW.out]
  go_upto_region 3 with (go_at_call 7; refine (HA.out _).mono ?_; rintro e w2 ⟨rfl, hb⟩; have H2 := Lib.hid (H1.out.below hb); obtain ⟨z0, z1, z2, z3, z4⟩ := H2.out.cells; clear hb)
  have H3 := Lib.hid (H2.out.below ((Below.refl _ w2).alloc (Nat.le_refl _) (.cells #[.string col, .int .i64 6, .int .i64 y.k, .int .i64 y.n, .string y.s] 25)))
  have HQ := Lib.hid (Blk.new w2 25 #[.string col, .int .i64 6, .int .i64 y.k, .int .i64 y.n, .string y.s])
  have hg := great12_any (c := 1) (c2 := c2) (c3 := c3) (RowG.one (cell := cdC) (S := 5) (⟨col, 6, y⟩ : Cd) HQ.out) (n := 1) rfl (H3.out.co.more H3.out.low.size) HL.out.1 (H3.out.va.more H3.out.low.size) HL.out.2
  obtain ⟨w3, hw3⟩ : ∃ w3, w3 = w2.alloc (.cells #[.string col, .int .i64 6, .int .i64 y.k, .int .i64 y.n, .string y.s] 25) := ⟨_, rfl⟩
  rw [← hw3] at hg H3
  have HG := Lib.hid hg
  have HW3 := Lib.hid hw3
  clear hg hw3
  go_upto_region 5 with (go_at_call 8; rw [← HW3.out]; refine HG.out.mono ?_; rintro e w4 ⟨hw4, he⟩; subst hw4; clear z0 z1 z2 z3 z4; obtain ⟨z0, z1, z2, z3, z4⟩ := H3.out.cells; have hne : w.heap.size ≠ w4.heap.size := Nat.ne_of_lt H3.out.q.lt; rcases he with rfl | ⟨rfl, hL⟩)
  · go_ret
    exact ⟨rfl, H3.out.low⟩
  have HK := Lib.hid hL
  clear hL
  go_upto_region 6 with fail
  have H5 := Lib.hid (H3.out.below ((Below.refl _ w4).alloc (Nat.le_refl _) (.cells #[.string col, .int .i64 6, .int .i64 y.k, .int .i64 y.n, .string y.s] 25)))
  have hq5 := Blk.new w4 25 #[.string col, .int .i64 6, .int .i64 y.k, .int .i64 y.n, .string y.s]
  obtain ⟨w5, hw5⟩ : ∃ w5, w5 = w4.alloc (.cells #[.string col, .int .i64 6, .int .i64 y.k, .int .i64 y.n, .string y.s] 25) := ⟨_, rfl⟩
  rw [← hw5] at H5 hq5
  first | rw [← hw5] | trace_state
  have hp5 : w.heap.size ≤ w4.heap.size ∧ w.heap.size ≠ w4.heap.size := ⟨H3.out.low.size, hne⟩
  clear hw5
  have hf5 := hq5.frozen 1
  have HQ5 := Lib.hid (And.intro hq5 hp5)
  have e1 : w5.cell? ⟨w4.heap.size, 1, none⟩ = some (.int .i64 6) := hq5.cell 1
  clear z0 z1 z2 z3 z4 hq5 hp5
  obtain ⟨z0, z1, z2, z3, z4⟩ := H5.out.cells
  simp only at z0 z1 z2 z3 z4
  go_upto_region 15 with fail
  have hS6 : SdS w (w5.setCell ⟨w4.heap.size, 1, none⟩ (.int .i64 5)) w.heap.size ⟨col, 6, y⟩ A2 cols A3 r := H5.out.to (((Chg.refl (fun k => w.heap.size ≤ k) w5).setCell (fun _ => HQ5.out.2.1) _).below (fun _ h => h) H5.out.low.size) (H5.out.q.far HQ5.out.2.2 _)
  have hq6 := HQ5.out.1.put 1 (.int .i64 5)
  obtain ⟨w6, hw6⟩ : ∃ w6, w6 = w5.setCell ⟨w4.heap.size, 1, none⟩ (.int .i64 5) := ⟨_, rfl⟩
  rw [← hw6] at hS6 hq6 ⊢
  clear hw6 hf5 e1 z0 z1 z2 z3 z4 H5 HQ5
  have hsm : Cd.Sm ⟨col, 6, y⟩ := Cd.sm_of HK.out (fun x hx => by rw [List.mem_singleton.1 hx]; exact HN.out.1) _ (List.mem_singleton_self _)
  have hO : SdO w w6 w.heap.size w4.heap.size ⟨col, 6, y⟩ ⟨col, 5, y⟩ A2 n2 cols A3 n3 r :=
    ⟨hS6, hq6, hsm, ⟨hsm.1, hsm.2.1, (show NumI 5 by unfold NumI; decide), hsm.2.2.2⟩, CoR.of hS6.co hS6.low.size HL.out.1 HK.out HN.out.2.1, VaR.of hS6.va hS6.low.size HL.out.2 HK.out HN.out.2.2⟩
  have HS := Lib.hid hO
  clear hO hS6 hq6 hsm
  rcases truth_three ⟨col, 6, y⟩ cols r with ha | ha | ha
  · have HB := Lib.hid (show truthL ⟨col, 5, y⟩ cols r = (-1) from by have h := oppL col 6 y cols r (by decide); rw [ha] at h; exact h)
    have HO := Lib.hid (show holdsL [⟨col, 6, y⟩] cols r = false by rw [holds_one, ha]; rfl)
    have HR := Lib.hid (show refusesL [⟨col, 6, y⟩] cols r = false by rw [refuses_one, ha]; rfl)
    have HA1 := Lib.hid ha
    clear ha
    obtain ⟨z0, z1, z2, z3, z4⟩ := HS.out.s.cells
    simp only at z0 z1 z2 z3 z4
    go_upto_region 16 with (go_at_call 9; refine (HI.out.truth (c2 := c2) (c3 := c3) (⟨col, 6, y⟩ : Cd) HS.out.sm HS.out.co HS.out.va).mono ?_; rintro e w7 ⟨rfl, hb⟩; rw [HA1.out]; have HT := Lib.hid (HS.out.below hb); clear HS hb; have HS := HT; clear HT)
    have x0 : w7.cell? ⟨w4.heap.size, 0, none⟩ = some (.string col) := HS.out.q.cell 0
    have x1 : w7.cell? ⟨w4.heap.size, 1, none⟩ = some (.int .i64 5) := HS.out.q.cell 1
    have x2 : w7.cell? ⟨w4.heap.size, 2, none⟩ = some (.int .i64 y.k) := HS.out.q.cell 2
    have x3 : w7.cell? ⟨w4.heap.size, 3, none⟩ = some (.int .i64 y.n) := HS.out.q.cell 3
    have x4 : w7.cell? ⟨w4.heap.size, 4, none⟩ = some (.string y.s) := HS.out.q.cell 4
    clear z0 z1 z2 z3 z4
    go_upto_region 17 with (go_at_call 9; refine (HI.out.truth (c2 := c2) (c3 := c3) (⟨col, 5, y⟩ : Cd) HS.out.sm2 HS.out.co HS.out.va).mono ?_; rintro e w8 ⟨rfl, hb⟩; rw [HB.out]; have HT := Lib.hid (HS.out.below hb); clear HS hb; have HS := HT; clear HT)
    clear x0 x1 x2 x3 x4
    have x1 : w8.cell? ⟨w4.heap.size, 1, none⟩ = some (.int .i64 5) := HS.out.q.cell 1
    obtain ⟨z0, z1, z2, z3, z4⟩ := HS.out.s.cells
    simp only at z0 z1 z2 z3 z4
    go_upto_region 20 with fail
    have hl9 : SdL w (w8.alloc (.cells #[.string col, .int .i64 6, .int .i64 y.k, .int .i64 y.n, .string y.s] 25)) w8.heap.size ⟨col, 6, y⟩ A2 n2 cols A3 n3 r := by
      have hb : Below w8.heap.size w8 (w8.alloc (.cells #[.string col, .int .i64 6, .int .i64 y.k, .int .i64 y.n, .string y.s] 25)) := (Below.refl _ w8).alloc (Nat.le_refl _) _
      exact ⟨HS.out.s.low.trans (hb.mono HS.out.s.low.size), CdR.one _ HS.out.sm (Blk.new _ _ _), HS.out.co.below hb, HS.out.va.below hb⟩
    obtain ⟨w9, hw9⟩ : ∃ w9, w9 = w8.alloc (.cells #[.string col, .int .i64 6, .int .i64 y.k, .int .i64 y.n, .string y.s] 25) := ⟨_, rfl⟩
    rw [← hw9] at hl9 ⊢
    clear hw9 HS x1 z0 z1 z2 z3 z4
    have HS := Lib.hid hl9
    clear hl9
    go_wp2_with (first
      | (go_at_call 10; refine (HI.out.holds (c := 1) (c2 := c2) (c3 := c3) HS.out.l HS.out.co HS.out.va).mono ?_; rintro e w10 ⟨rfl, hb⟩; rw [HO.out]; have HT := Lib.hid (HS.out.below hb); clear HS hb; have HS := HT; clear HT)
      | (go_at_call 11; refine (HI.out.refuses (c := 1) (c2 := c2) (c3 := c3) HS.out.l HS.out.co HS.out.va).mono ?_; rintro e w10 ⟨rfl, hb⟩; rw [HR.out]; have HT := Lib.hid (HS.out.below hb); clear HS hb; have HS := HT; clear HT))
    go_ret
    exact ⟨rfl, HS.out.low⟩
  · have HB := Lib.hid (show truthL ⟨col, 5, y⟩ cols r = 1 from by have h := oppL col 6 y cols r (by decide); rw [ha] at h; exact h)
    have HO := Lib.hid (show holdsL [⟨col, 6, y⟩] cols r = false by rw [holds_one, ha]; rfl)
    have HR := Lib.hid (show refusesL [⟨col, 6, y⟩] cols r = true by rw [refuses_one, ha]; rfl)
    have HA1 := Lib.hid ha
    clear ha
    obtain ⟨z0, z1, z2, z3, z4⟩ := HS.out.s.cells
    simp only at z0 z1 z2 z3 z4
    go_upto_region 16 with (go_at_call 9; refine (HI.out.truth (c2 := c2) (c3 := c3) (⟨col, 6, y⟩ : Cd) HS.out.sm HS.out.co HS.out.va).mono ?_; rintro e w7 ⟨rfl, hb⟩; rw [HA1.out]; have HT := Lib.hid (HS.out.below hb); clear HS hb; have HS := HT; clear HT)
    have x0 : w7.cell? ⟨w4.heap.size, 0, none⟩ = some (.string col) := HS.out.q.cell 0
    have x1 : w7.cell? ⟨w4.heap.size, 1, none⟩ = some (.int .i64 5) := HS.out.q.cell 1
    have x2 : w7.cell? ⟨w4.heap.size, 2, none⟩ = some (.int .i64 y.k) := HS.out.q.cell 2
    have x3 : w7.cell? ⟨w4.heap.size, 3, none⟩ = some (.int .i64 y.n) := HS.out.q.cell 3
    have x4 : w7.cell? ⟨w4.heap.size, 4, none⟩ = some (.string y.s) := HS.out.q.cell 4
    clear z0 z1 z2 z3 z4
    go_upto_region 17 with (go_at_call 9; refine (HI.out.truth (c2 := c2) (c3 := c3) (⟨col, 5, y⟩ : Cd) HS.out.sm2 HS.out.co HS.out.va).mono ?_; rintro e w8 ⟨rfl, hb⟩; rw [HB.out]; have HT := Lib.hid (HS.out.below hb); clear HS hb; have HS := HT; clear HT)
    clear x0 x1 x2 x3 x4
    have x1 : w8.cell? ⟨w4.heap.size, 1, none⟩ = some (.int .i64 5) := HS.out.q.cell 1
    obtain ⟨z0, z1, z2, z3, z4⟩ := HS.out.s.cells
    simp only at z0 z1 z2 z3 z4
    go_upto_region 20 with fail
    have hl9 : SdL w (w8.alloc (.cells #[.string col, .int .i64 6, .int .i64 y.k, .int .i64 y.n, .string y.s] 25)) w8.heap.size ⟨col, 6, y⟩ A2 n2 cols A3 n3 r := by
      have hb : Below w8.heap.size w8 (w8.alloc (.cells #[.string col, .int .i64 6, .int .i64 y.k, .int .i64 y.n, .string y.s] 25)) := (Below.refl _ w8).alloc (Nat.le_refl _) _
      exact ⟨HS.out.s.low.trans (hb.mono HS.out.s.low.size), CdR.one _ HS.out.sm (Blk.new _ _ _), HS.out.co.below hb, HS.out.va.below hb⟩
    obtain ⟨w9, hw9⟩ : ∃ w9, w9 = w8.alloc (.cells #[.string col, .int .i64 6, .int .i64 y.k, .int .i64 y.n, .string y.s] 25) := ⟨_, rfl⟩
    rw [← hw9] at hl9 ⊢
    clear hw9 HS x1 z0 z1 z2 z3 z4
    have HS := Lib.hid hl9
    clear hl9
    go_wp2_with (first
      | (go_at_call 10; refine (HI.out.holds (c := 1) (c2 := c2) (c3 := c3) HS.out.l HS.out.co HS.out.va).mono ?_; rintro e w10 ⟨rfl, hb⟩; rw [HO.out]; have HT := Lib.hid (HS.out.below hb); clear HS hb; have HS := HT; clear HT)
      | (go_at_call 11; refine (HI.out.refuses (c := 1) (c2 := c2) (c3 := c3) HS.out.l HS.out.co HS.out.va).mono ?_; rintro e w10 ⟨rfl, hb⟩; rw [HR.out]; have HT := Lib.hid (HS.out.below hb); clear HS hb; have HS := HT; clear HT))
    go_ret
    exact ⟨rfl, HS.out.low⟩
  · have HB := Lib.hid (show truthL ⟨col, 5, y⟩ cols r = 0 from by have h := oppL col 6 y cols r (by decide); rw [ha] at h; exact h)
    have HO := Lib.hid (show holdsL [⟨col, 6, y⟩] cols r = true by rw [holds_one, ha]; rfl)
    have HR := Lib.hid (show refusesL [⟨col, 6, y⟩] cols r = false by rw [refuses_one, ha]; rfl)
    have HA1 := Lib.hid ha
    clear ha
    obtain ⟨z0, z1, z2, z3, z4⟩ := HS.out.s.cells
    simp only at z0 z1 z2 z3 z4
    go_upto_region 16 with (go_at_call 9; refine (HI.out.truth (c2 := c2) (c3 := c3) (⟨col, 6, y⟩ : Cd) HS.out.sm HS.out.co HS.out.va).mono ?_; rintro e w7 ⟨rfl, hb⟩; rw [HA1.out]; have HT := Lib.hid (HS.out.below hb); clear HS hb; have HS := HT; clear HT)
    have x0 : w7.cell? ⟨w4.heap.size, 0, none⟩ = some (.string col) := HS.out.q.cell 0
    have x1 : w7.cell? ⟨w4.heap.size, 1, none⟩ = some (.int .i64 5) := HS.out.q.cell 1
    have x2 : w7.cell? ⟨w4.heap.size, 2, none⟩ = some (.int .i64 y.k) := HS.out.q.cell 2
    have x3 : w7.cell? ⟨w4.heap.size, 3, none⟩ = some (.int .i64 y.n) := HS.out.q.cell 3
    have x4 : w7.cell? ⟨w4.heap.size, 4, none⟩ = some (.string y.s) := HS.out.q.cell 4
    clear z0 z1 z2 z3 z4
    go_upto_region 17 with (go_at_call 9; refine (HI.out.truth (c2 := c2) (c3 := c3) (⟨col, 5, y⟩ : Cd) HS.out.sm2 HS.out.co HS.out.va).mono ?_; rintro e w8 ⟨rfl, hb⟩; rw [HB.out]; have HT := Lib.hid (HS.out.below hb); clear HS hb; have HS := HT; clear HT)
    clear x0 x1 x2 x3 x4
    have x1 : w8.cell? ⟨w4.heap.size, 1, none⟩ = some (.int .i64 5) := HS.out.q.cell 1
    obtain ⟨z0, z1, z2, z3, z4⟩ := HS.out.s.cells
    simp only at z0 z1 z2 z3 z4
    go_upto_region 20 with fail
    have hl9 : SdL w (w8.alloc (.cells #[.string col, .int .i64 6, .int .i64 y.k, .int .i64 y.n, .string y.s] 25)) w8.heap.size ⟨col, 6, y⟩ A2 n2 cols A3 n3 r := by
      have hb : Below w8.heap.size w8 (w8.alloc (.cells #[.string col, .int .i64 6, .int .i64 y.k, .int .i64 y.n, .string y.s] 25)) := (Below.refl _ w8).alloc (Nat.le_refl _) _
      exact ⟨HS.out.s.low.trans (hb.mono HS.out.s.low.size), CdR.one _ HS.out.sm (Blk.new _ _ _), HS.out.co.below hb, HS.out.va.below hb⟩
    obtain ⟨w9, hw9⟩ : ∃ w9, w9 = w8.alloc (.cells #[.string col, .int .i64 6, .int .i64 y.k, .int .i64 y.n, .string y.s] 25) := ⟨_, rfl⟩
    rw [← hw9] at hl9 ⊢
    clear hw9 HS x1 z0 z1 z2 z3 z4
    have HS := Lib.hid hl9
    clear hl9
    go_wp2_with (first
      | (go_at_call 10; refine (HI.out.holds (c := 1) (c2 := c2) (c3 := c3) HS.out.l HS.out.co HS.out.va).mono ?_; rintro e w10 ⟨rfl, hb⟩; rw [HO.out]; have HT := Lib.hid (HS.out.below hb); clear HS hb; have HS := HT; clear HT)
      | (go_at_call 11; refine (HI.out.refuses (c := 1) (c2 := c2) (c3 := c3) HS.out.l HS.out.co HS.out.va).mono ?_; rintro e w10 ⟨rfl, hb⟩; rw [HR.out]; have HT := Lib.hid (HS.out.below hb); clear HS hb; have HS := HT; clear HT))
    go_ret
    exact ⟨rfl, HS.out.low⟩
set_option maxRecDepth 100000 in
set_option maxHeartbeats 12800000 in
theorem csides_other (I : ImplCo) {w : World} {A2 : Option Addr} {c2 : Nat} {cols : List Co} {A3 : Option Addr} {c3 : Nat} {r : List Va} {col : ByteArray} {op : Int} {y : Va} (hi : Cd.In ⟨col, op, y⟩) (h2 : RowG coC 3 w w.heap.size A2 cols) (i2 : ∀ x ∈ cols, x.In) (h3 : RowG vcell 3 w w.heap.size A3 r) (i3 : ∀ x ∈ r, x.In) (h1 : op ≠ 1) (h2' : op ≠ 2) (h5 : op ≠ 5) (h6 : op ≠ 6) :
    Calls Try.prog 3 #[.agg #[.string col, .int .i64 op, .int .i64 y.k, .int .i64 y.n, .string y.s], .slice A2 cols.length c2, .slice A3 r.length c3] w fun e w' => e = .returned (.bool true) ∧ Below w.heap.size w w' := by
  have hS := SdS.new ⟨col, op, y⟩ h2 h3
  simp only at hS
  obtain ⟨w1, hw1⟩ : ∃ w1, w1 = w.alloc (.cells #[.string col, .int .i64 op, .int .i64 y.k, .int .i64 y.n, .string y.s] 25) := ⟨_, rfl⟩
  rw [← hw1] at hS
  have hal := fun w => alive12_any I w
  have HA := Lib.hid hal
  have HI := Lib.hid I
  have H1 := Lib.hid hS
  have HW := Lib.hid hw1
  have HN := Lib.hid (And.intro hi (And.intro i2 i3))
  have o1 : (op == 1) = false := by simp [h1]
  have o2 : (op == 2) = false := by simp [h2']
  have o5 : (op == 5) = false := by simp [h5]
  have o6 : (op == 6) = false := by simp [h6]
  clear h1 h2' h5 h6
  clear hal hS hw1 hi i2 i3 h2 h3 I
  obtain ⟨n2, hn2⟩ : ∃ n2, n2 = cols.length := ⟨_, rfl⟩
  obtain ⟨n3, hn3⟩ : ∃ n3, n3 = r.length := ⟨_, rfl⟩
  rw [← hn2, ← hn3]
  have HL := Lib.hid (And.intro hn2 hn3)
  clear hn2 hn3
  go_enter Try.func3, Try.ntmps3
  go_upto_region 1 with fail
  rw [← HW.out]
  go_upto_region 3 with (go_at_call 7; refine (HA.out _).mono ?_; rintro e w2 ⟨rfl, hb⟩; have H2 := Lib.hid (H1.out.below hb); obtain ⟨z0, z1, z2, z3, z4⟩ := H2.out.cells; clear hb)
  have H3 := Lib.hid (H2.out.below ((Below.refl _ w2).alloc (Nat.le_refl _) (.cells #[.string col, .int .i64 op, .int .i64 y.k, .int .i64 y.n, .string y.s] 25)))
  have HQ := Lib.hid (Blk.new w2 25 #[.string col, .int .i64 op, .int .i64 y.k, .int .i64 y.n, .string y.s])
  have hg := great12_any (c := 1) (c2 := c2) (c3 := c3) (RowG.one (cell := cdC) (S := 5) (⟨col, op, y⟩ : Cd) HQ.out) (n := 1) rfl (H3.out.co.more H3.out.low.size) HL.out.1 (H3.out.va.more H3.out.low.size) HL.out.2
  obtain ⟨w3, hw3⟩ : ∃ w3, w3 = w2.alloc (.cells #[.string col, .int .i64 op, .int .i64 y.k, .int .i64 y.n, .string y.s] 25) := ⟨_, rfl⟩
  rw [← hw3] at hg H3
  have HG := Lib.hid hg
  have HW3 := Lib.hid hw3
  clear hg hw3
  go_upto_region 5 with (go_at_call 8; rw [← HW3.out]; refine HG.out.mono ?_; rintro e w4 ⟨hw4, he⟩; subst hw4; clear z0 z1 z2 z3 z4; obtain ⟨z0, z1, z2, z3, z4⟩ := H3.out.cells; have hne : w.heap.size ≠ w4.heap.size := Nat.ne_of_lt H3.out.q.lt; rcases he with rfl | ⟨rfl, hL⟩)
  · go_ret
    exact ⟨rfl, H3.out.low⟩
  have HK := Lib.hid hL
  clear hL
  go_upto_region 6 with fail
  have H5 := Lib.hid (H3.out.below ((Below.refl _ w4).alloc (Nat.le_refl _) (.cells #[.string col, .int .i64 op, .int .i64 y.k, .int .i64 y.n, .string y.s] 25)))
  have hq5 := Blk.new w4 25 #[.string col, .int .i64 op, .int .i64 y.k, .int .i64 y.n, .string y.s]
  obtain ⟨w5, hw5⟩ : ∃ w5, w5 = w4.alloc (.cells #[.string col, .int .i64 op, .int .i64 y.k, .int .i64 y.n, .string y.s] 25) := ⟨_, rfl⟩
  rw [← hw5] at H5 hq5
  first | rw [← hw5] | trace_state
  have hp5 : w.heap.size ≤ w4.heap.size ∧ w.heap.size ≠ w4.heap.size := ⟨H3.out.low.size, hne⟩
  clear hw5
  clear z0 z1 z2 z3 z4
  obtain ⟨z0, z1, z2, z3, z4⟩ := H5.out.cells
  simp only at z0 z1 z2 z3 z4
  go_upto_region 15 with fail
  have hS6 := H5.out
  have hq6 := hq5
  obtain ⟨w6, hw6⟩ : ∃ w6, w6 = w5 := ⟨_, rfl⟩
  rw [← hw6] at hS6 hq6 ⊢
  clear hw6 z0 z1 z2 z3 z4 H5 hp5 hq5
  have hsm : Cd.Sm ⟨col, op, y⟩ := Cd.sm_of HK.out (fun x hx => by rw [List.mem_singleton.1 hx]; exact HN.out.1) _ (List.mem_singleton_self _)
  have hO : SdO w w6 w.heap.size w4.heap.size ⟨col, op, y⟩ ⟨col, op, y⟩ A2 n2 cols A3 n3 r :=
    ⟨hS6, hq6, hsm, ⟨hsm.1, hsm.2.1, hsm.2.2.1, hsm.2.2.2⟩, CoR.of hS6.co hS6.low.size HL.out.1 HK.out HN.out.2.1, VaR.of hS6.va hS6.low.size HL.out.2 HK.out HN.out.2.2⟩
  have HS := Lib.hid hO
  clear hO hS6 hq6 hsm
  rcases truth_three ⟨col, op, y⟩ cols r with ha | ha | ha
  · have HB := Lib.hid (show truthL ⟨col, op, y⟩ cols r = (-1) from ha)
    have HO := Lib.hid (show holdsL [⟨col, op, y⟩] cols r = false by rw [holds_one, ha]; rfl)
    have HR := Lib.hid (show refusesL [⟨col, op, y⟩] cols r = false by rw [refuses_one, ha]; rfl)
    have HA1 := Lib.hid ha
    clear ha
    obtain ⟨z0, z1, z2, z3, z4⟩ := HS.out.s.cells
    simp only at z0 z1 z2 z3 z4
    go_upto_region 16 with (go_at_call 9; refine (HI.out.truth (c2 := c2) (c3 := c3) (⟨col, op, y⟩ : Cd) HS.out.sm HS.out.co HS.out.va).mono ?_; rintro e w7 ⟨rfl, hb⟩; rw [HA1.out]; have HT := Lib.hid (HS.out.below hb); clear HS hb; have HS := HT; clear HT)
    have x0 : w7.cell? ⟨w4.heap.size, 0, none⟩ = some (.string col) := HS.out.q.cell 0
    have x1 : w7.cell? ⟨w4.heap.size, 1, none⟩ = some (.int .i64 op) := HS.out.q.cell 1
    have x2 : w7.cell? ⟨w4.heap.size, 2, none⟩ = some (.int .i64 y.k) := HS.out.q.cell 2
    have x3 : w7.cell? ⟨w4.heap.size, 3, none⟩ = some (.int .i64 y.n) := HS.out.q.cell 3
    have x4 : w7.cell? ⟨w4.heap.size, 4, none⟩ = some (.string y.s) := HS.out.q.cell 4
    clear z0 z1 z2 z3 z4
    go_upto_region 17 with (go_at_call 9; refine (HI.out.truth (c2 := c2) (c3 := c3) (⟨col, op, y⟩ : Cd) HS.out.sm2 HS.out.co HS.out.va).mono ?_; rintro e w8 ⟨rfl, hb⟩; rw [HB.out]; have HT := Lib.hid (HS.out.below hb); clear HS hb; have HS := HT; clear HT)
    clear x0 x1 x2 x3 x4
    have x1 : w8.cell? ⟨w4.heap.size, 1, none⟩ = some (.int .i64 op) := HS.out.q.cell 1
    obtain ⟨z0, z1, z2, z3, z4⟩ := HS.out.s.cells
    simp only at z0 z1 z2 z3 z4
    have hoo : (op != op) = false := by simp
    go_upto_region 20 with fail
    have hl9 : SdL w (w8.alloc (.cells #[.string col, .int .i64 op, .int .i64 y.k, .int .i64 y.n, .string y.s] 25)) w8.heap.size ⟨col, op, y⟩ A2 n2 cols A3 n3 r := by
      have hb : Below w8.heap.size w8 (w8.alloc (.cells #[.string col, .int .i64 op, .int .i64 y.k, .int .i64 y.n, .string y.s] 25)) := (Below.refl _ w8).alloc (Nat.le_refl _) _
      exact ⟨HS.out.s.low.trans (hb.mono HS.out.s.low.size), CdR.one _ HS.out.sm (Blk.new _ _ _), HS.out.co.below hb, HS.out.va.below hb⟩
    obtain ⟨w9, hw9⟩ : ∃ w9, w9 = w8.alloc (.cells #[.string col, .int .i64 op, .int .i64 y.k, .int .i64 y.n, .string y.s] 25) := ⟨_, rfl⟩
    rw [← hw9] at hl9 ⊢
    clear hw9 HS x1 z0 z1 z2 z3 z4
    have HS := Lib.hid hl9
    clear hl9
    go_wp2_with (first
      | (go_at_call 10; refine (HI.out.holds (c := 1) (c2 := c2) (c3 := c3) HS.out.l HS.out.co HS.out.va).mono ?_; rintro e w10 ⟨rfl, hb⟩; rw [HO.out]; have HT := Lib.hid (HS.out.below hb); clear HS hb; have HS := HT; clear HT)
      | (go_at_call 11; refine (HI.out.refuses (c := 1) (c2 := c2) (c3 := c3) HS.out.l HS.out.co HS.out.va).mono ?_; rintro e w10 ⟨rfl, hb⟩; rw [HR.out]; have HT := Lib.hid (HS.out.below hb); clear HS hb; have HS := HT; clear HT))
    go_ret
    exact ⟨rfl, HS.out.low⟩
  · have HB := Lib.hid (show truthL ⟨col, op, y⟩ cols r = 0 from ha)
    have HO := Lib.hid (show holdsL [⟨col, op, y⟩] cols r = false by rw [holds_one, ha]; rfl)
    have HR := Lib.hid (show refusesL [⟨col, op, y⟩] cols r = true by rw [refuses_one, ha]; rfl)
    have HA1 := Lib.hid ha
    clear ha
    obtain ⟨z0, z1, z2, z3, z4⟩ := HS.out.s.cells
    simp only at z0 z1 z2 z3 z4
    go_upto_region 16 with (go_at_call 9; refine (HI.out.truth (c2 := c2) (c3 := c3) (⟨col, op, y⟩ : Cd) HS.out.sm HS.out.co HS.out.va).mono ?_; rintro e w7 ⟨rfl, hb⟩; rw [HA1.out]; have HT := Lib.hid (HS.out.below hb); clear HS hb; have HS := HT; clear HT)
    have x0 : w7.cell? ⟨w4.heap.size, 0, none⟩ = some (.string col) := HS.out.q.cell 0
    have x1 : w7.cell? ⟨w4.heap.size, 1, none⟩ = some (.int .i64 op) := HS.out.q.cell 1
    have x2 : w7.cell? ⟨w4.heap.size, 2, none⟩ = some (.int .i64 y.k) := HS.out.q.cell 2
    have x3 : w7.cell? ⟨w4.heap.size, 3, none⟩ = some (.int .i64 y.n) := HS.out.q.cell 3
    have x4 : w7.cell? ⟨w4.heap.size, 4, none⟩ = some (.string y.s) := HS.out.q.cell 4
    clear z0 z1 z2 z3 z4
    go_upto_region 17 with (go_at_call 9; refine (HI.out.truth (c2 := c2) (c3 := c3) (⟨col, op, y⟩ : Cd) HS.out.sm2 HS.out.co HS.out.va).mono ?_; rintro e w8 ⟨rfl, hb⟩; rw [HB.out]; have HT := Lib.hid (HS.out.below hb); clear HS hb; have HS := HT; clear HT)
    clear x0 x1 x2 x3 x4
    have x1 : w8.cell? ⟨w4.heap.size, 1, none⟩ = some (.int .i64 op) := HS.out.q.cell 1
    obtain ⟨z0, z1, z2, z3, z4⟩ := HS.out.s.cells
    simp only at z0 z1 z2 z3 z4
    have hoo : (op != op) = false := by simp
    go_upto_region 20 with fail
    have hl9 : SdL w (w8.alloc (.cells #[.string col, .int .i64 op, .int .i64 y.k, .int .i64 y.n, .string y.s] 25)) w8.heap.size ⟨col, op, y⟩ A2 n2 cols A3 n3 r := by
      have hb : Below w8.heap.size w8 (w8.alloc (.cells #[.string col, .int .i64 op, .int .i64 y.k, .int .i64 y.n, .string y.s] 25)) := (Below.refl _ w8).alloc (Nat.le_refl _) _
      exact ⟨HS.out.s.low.trans (hb.mono HS.out.s.low.size), CdR.one _ HS.out.sm (Blk.new _ _ _), HS.out.co.below hb, HS.out.va.below hb⟩
    obtain ⟨w9, hw9⟩ : ∃ w9, w9 = w8.alloc (.cells #[.string col, .int .i64 op, .int .i64 y.k, .int .i64 y.n, .string y.s] 25) := ⟨_, rfl⟩
    rw [← hw9] at hl9 ⊢
    clear hw9 HS x1 z0 z1 z2 z3 z4
    have HS := Lib.hid hl9
    clear hl9
    go_wp2_with (first
      | (go_at_call 10; refine (HI.out.holds (c := 1) (c2 := c2) (c3 := c3) HS.out.l HS.out.co HS.out.va).mono ?_; rintro e w10 ⟨rfl, hb⟩; rw [HO.out]; have HT := Lib.hid (HS.out.below hb); clear HS hb; have HS := HT; clear HT)
      | (go_at_call 11; refine (HI.out.refuses (c := 1) (c2 := c2) (c3 := c3) HS.out.l HS.out.co HS.out.va).mono ?_; rintro e w10 ⟨rfl, hb⟩; rw [HR.out]; have HT := Lib.hid (HS.out.below hb); clear HS hb; have HS := HT; clear HT))
    go_ret
    exact ⟨rfl, HS.out.low⟩
  · have HB := Lib.hid (show truthL ⟨col, op, y⟩ cols r = 1 from ha)
    have HO := Lib.hid (show holdsL [⟨col, op, y⟩] cols r = true by rw [holds_one, ha]; rfl)
    have HR := Lib.hid (show refusesL [⟨col, op, y⟩] cols r = false by rw [refuses_one, ha]; rfl)
    have HA1 := Lib.hid ha
    clear ha
    obtain ⟨z0, z1, z2, z3, z4⟩ := HS.out.s.cells
    simp only at z0 z1 z2 z3 z4
    go_upto_region 16 with (go_at_call 9; refine (HI.out.truth (c2 := c2) (c3 := c3) (⟨col, op, y⟩ : Cd) HS.out.sm HS.out.co HS.out.va).mono ?_; rintro e w7 ⟨rfl, hb⟩; rw [HA1.out]; have HT := Lib.hid (HS.out.below hb); clear HS hb; have HS := HT; clear HT)
    have x0 : w7.cell? ⟨w4.heap.size, 0, none⟩ = some (.string col) := HS.out.q.cell 0
    have x1 : w7.cell? ⟨w4.heap.size, 1, none⟩ = some (.int .i64 op) := HS.out.q.cell 1
    have x2 : w7.cell? ⟨w4.heap.size, 2, none⟩ = some (.int .i64 y.k) := HS.out.q.cell 2
    have x3 : w7.cell? ⟨w4.heap.size, 3, none⟩ = some (.int .i64 y.n) := HS.out.q.cell 3
    have x4 : w7.cell? ⟨w4.heap.size, 4, none⟩ = some (.string y.s) := HS.out.q.cell 4
    clear z0 z1 z2 z3 z4
    go_upto_region 17 with (go_at_call 9; refine (HI.out.truth (c2 := c2) (c3 := c3) (⟨col, op, y⟩ : Cd) HS.out.sm2 HS.out.co HS.out.va).mono ?_; rintro e w8 ⟨rfl, hb⟩; rw [HB.out]; have HT := Lib.hid (HS.out.below hb); clear HS hb; have HS := HT; clear HT)
    clear x0 x1 x2 x3 x4
    have x1 : w8.cell? ⟨w4.heap.size, 1, none⟩ = some (.int .i64 op) := HS.out.q.cell 1
    obtain ⟨z0, z1, z2, z3, z4⟩ := HS.out.s.cells
    simp only at z0 z1 z2 z3 z4
    have hoo : (op != op) = false := by simp
    go_upto_region 20 with fail
    have hl9 : SdL w (w8.alloc (.cells #[.string col, .int .i64 op, .int .i64 y.k, .int .i64 y.n, .string y.s] 25)) w8.heap.size ⟨col, op, y⟩ A2 n2 cols A3 n3 r := by
      have hb : Below w8.heap.size w8 (w8.alloc (.cells #[.string col, .int .i64 op, .int .i64 y.k, .int .i64 y.n, .string y.s] 25)) := (Below.refl _ w8).alloc (Nat.le_refl _) _
      exact ⟨HS.out.s.low.trans (hb.mono HS.out.s.low.size), CdR.one _ HS.out.sm (Blk.new _ _ _), HS.out.co.below hb, HS.out.va.below hb⟩
    obtain ⟨w9, hw9⟩ : ∃ w9, w9 = w8.alloc (.cells #[.string col, .int .i64 op, .int .i64 y.k, .int .i64 y.n, .string y.s] 25) := ⟨_, rfl⟩
    rw [← hw9] at hl9 ⊢
    clear hw9 HS x1 z0 z1 z2 z3 z4
    have HS := Lib.hid hl9
    clear hl9
    go_wp2_with (first
      | (go_at_call 10; refine (HI.out.holds (c := 1) (c2 := c2) (c3 := c3) HS.out.l HS.out.co HS.out.va).mono ?_; rintro e w10 ⟨rfl, hb⟩; rw [HO.out]; have HT := Lib.hid (HS.out.below hb); clear HS hb; have HS := HT; clear HT)
      | (go_at_call 11; refine (HI.out.refuses (c := 1) (c2 := c2) (c3 := c3) HS.out.l HS.out.co HS.out.va).mono ?_; rintro e w10 ⟨rfl, hb⟩; rw [HR.out]; have HT := Lib.hid (HS.out.below hb); clear HS hb; have HS := HT; clear HT))
    go_ret
    exact ⟨rfl, HS.out.low⟩
theorem csides_walk (I : ImplCo) {w : World} {A2 : Option Addr} {c2 : Nat} {cols : List Co} {A3 : Option Addr} {c3 : Nat} {r : List Va} (c : Cd) (hi : c.In) (h2 : RowG coC 3 w w.heap.size A2 cols) (i2 : ∀ x ∈ cols, x.In) (h3 : RowG vcell 3 w w.heap.size A3 r) (i3 : ∀ x ∈ r, x.In) :
    Calls Try.prog 3 #[cdV c, .slice A2 cols.length c2, .slice A3 r.length c3] w fun e w' => e = .returned (.bool true) ∧ Below w.heap.size w w' := by
  obtain ⟨col, op, y⟩ := c
  by_cases h1 : op = 1
  · subst h1; exact csides_op1 I hi h2 i2 h3 i3
  by_cases h2' : op = 2
  · subst h2'; exact csides_op2 I hi h2 i2 h3 i3
  by_cases h5 : op = 5
  · subst h5; exact csides_op5 I hi h2 i2 h3 i3
  by_cases h6 : op = 6
  · subst h6; exact csides_op6 I hi h2 i2 h3 i3
  exact csides_other I hi h2 i2 h3 i3 h1 h2' h5 h6
end Go.Proofs.Ythpchenmfenjmaa
