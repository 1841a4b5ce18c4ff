/-
  The program's queue: timers with their blocks in a heap's order, as mathematics and in memory.
-/
import Derived.Test.YtcjhkafdfeopfaaHpU
import Derived.Test.YtcjhkafdfeopfaaTmK
namespace Go.Proofs.Ytcjhkafdfeopfaa
open Go.RowKit Go.Lib Go.Maps

abbrev Of := On × Nat
def ltF (a b : Of) : Bool := decide (a.1.t < b.1.t ∨ (a.1.t = b.1.t ∧ a.1.i < b.1.i))
theorem ltF_tr {a b c : Of} (h : leB ltF a b) (k : leB ltF b c) : leB ltF a c := by
  simp only [leB, ltF, decide_eq_false_iff_not] at *
  omega
theorem ltF_asy {a b : Of} (h : ltF a b = true) : ltF b a = false := by
  simp only [ltF, decide_eq_true_eq, decide_eq_false_iff_not] at *
  omega
theorem ltF_rf (a : Of) : leB ltF a a := by
  simp only [leB, ltF, decide_eq_false_iff_not]
  omega
theorem leF_not {a b : Of} (h : leB ltF a b) : ¬ ltO b.1 a.1 := by
  simp only [leB, ltF, decide_eq_false_iff_not, ltO] at *
  exact h
def ptrT (b : Nat) : Value := .pointer (some ⟨b, 0, none⟩)
def ptrs (n : Nat) (f : Nat → Of) : List Value := (List.range n).map fun k => ptrT (f k).2
theorem ptrs_len (n : Nat) (f : Nat → Of) : (ptrs n f).length = n := by simp [ptrs]
theorem ptrs_get {n k : Nat} (f : Nat → Of) (h : k < n) : (ptrs n f)[k]? = some (ptrT (f k).2) := by simp [ptrs, h]
theorem ptrs_ext {n : Nat} {f g : Nat → Of} (h : ∀ k, k < n → (f k).2 = (g k).2) : ptrs n f = ptrs n g :=
  List.map_congr_left fun k hk => by rw [h k (List.mem_range.1 hk)]
theorem ptrs_succ (n : Nat) (f : Nat → Of) : ptrs (n + 1) f = ptrs n f ++ [ptrT (f n).2] := by simp [ptrs, List.range_succ]
theorem ptrs_one (n : Nat) (f : Nat → Of) : ∀ u ∈ ptrs n f, u.oneCell' = true := by
  intro u hu
  obtain ⟨k, _, rfl⟩ := List.mem_map.1 hu
  rfl
theorem ptrs_sw {n i j : Nat} (f : Nat → Of) (hi : i < n) (hj : j < n) : ((ptrs n f).set i (ptrT (f j).2)).set j (ptrT (f i).2) = ptrs n (sw f i j) := by
  apply List.ext_getElem?
  intro k
  by_cases hk : k < n
  · rw [ptrs_get _ hk, List.getElem?_set, List.getElem?_set, List.length_set, ptrs_len, if_pos hj, if_pos hi, ptrs_get _ hk]
    by_cases e1 : j = k
    · subst e1
      rw [if_pos rfl, sw_r]
    · rw [if_neg e1]
      by_cases e2 : i = k
      · subst e2
        rw [if_pos rfl, sw_l]
      · rw [if_neg e2, sw_o (fun e => e2 e.symm) (fun e => e1 e.symm)]
  · rw [List.getElem?_eq_none (by simp [ptrs_len]; omega), List.getElem?_eq_none (by rw [ptrs_len]; omega)]
/-- a timer's cells -/
def tmC (x : On) (k : Nat) : Array Value := #[.int .i64 x.i, .int .i64 x.t, .int .i64 k]
/-- the queue in memory; all its blocks in the footprint D -/
structure QX (B : Nat) (D : Nat → Prop) (w : World) (tb mb : Nat) (A : Option Addr) (c n : Nat) (f : Nat → Of) : Prop where
  blk : Blk w tb 49 #[.slice A n c, .map (some mb)]
  row : w.ownsRow B 50 1 (.slice A n c) n (ptrs n f)
  one : ∀ k, k < n → Blk w (f k).2 53 (tmC (f k).1 k)
  rd : ∀ g, (Value.slice A n c).ownBlock = some g → D g
  od : ∀ k, k < n → D (f k).2
  td : D tb
  foot : ∀ k, D k → B ≤ k ∧ k < w.heap.size
section
variable {B tb mb n c : Nat} {D F : Nat → Prop} {w w' : World} {A : Option Addr} {f : Nat → Of}
theorem QX.chg (h : QX B D w tb mb A c n f) (hc : Chg F w w') (hd : ∀ k, D k → ¬ F k) : QX B D w' tb mb A c n f :=
  ⟨h.blk.chg hc (hd _ h.td), own_chg h.row hc fun k hk => hd k (h.rd k hk), fun k hk => (h.one k hk).chg hc (hd _ (h.od k hk)), h.rd, h.od, h.td, fun k hk => ⟨(h.foot k hk).1, Nat.lt_of_lt_of_le (h.foot k hk).2 hc.size⟩⟩
theorem QX.below (h : QX B D w tb mb A c n f) (hb : Below w.heap.size w w') : QX B D w' tb mb A c n f := h.chg (F := Non) (Chg.of_below hb) fun _ _ hf => hf
theorem QX.more {D' : Nat → Prop} (h : QX B D w tb mb A c n f) (hD : ∀ k, D k → D' k) (hf : ∀ k, D' k → B ≤ k ∧ k < w.heap.size) : QX B D' w tb mb A c n f :=
  ⟨h.blk, h.row, h.one, fun g hg => hD g (h.rd g hg), fun k hk => hD _ (h.od k hk), hD _ h.td, hf⟩
theorem QX.cell0 (h : QX B D w tb mb A c n f) : w.cell? ⟨tb, 0, none⟩ = some (.slice A n c) := h.blk.cell 0
theorem QX.cell1 (h : QX B D w tb mb A c n f) : w.cell? ⟨tb, 1, none⟩ = some (.map (some mb)) := h.blk.cell 1
theorem QX.len (h : QX B D w tb mb A c n f) : n ≤ c ∧ c ≤ maxLen := own_caps h.row
/-- what stands at an index -/
theorem QX.at_ (h : QX B D w tb mb A c n f) {k : Nat} (hk : k < n) : ∃ g, A = some ⟨g, 0, none⟩ ∧ D g ∧ w.cell? ⟨g, k, none⟩ = some (ptrT (f k).2) := by
  obtain ⟨g, rfl⟩ := own_form' h.row (by omega)
  exact ⟨g, rfl, h.rd g rfl, (h.row.cellAt k (by omega)).trans (ptrs_get f hk)⟩
theorem QX.i_ (h : QX B D w tb mb A c n f) {k : Nat} (hk : k < n) : w.cell? ⟨(f k).2, 0, none⟩ = some (.int .i64 (f k).1.i) := (h.one k hk).cell 0
theorem QX.t_ (h : QX B D w tb mb A c n f) {k : Nat} (hk : k < n) : w.cell? ⟨(f k).2, 1, none⟩ = some (.int .i64 (f k).1.t) := (h.one k hk).cell 1
theorem QX.p_ (h : QX B D w tb mb A c n f) {k : Nat} (hk : k < n) : w.cell? ⟨(f k).2, 2, none⟩ = some (.int .i64 k) := (h.one k hk).cell 2
theorem QX.inj (h : QX B D w tb mb A c n f) {j k : Nat} (hj : j < n) (hk : k < n) (e : (f j).2 = (f k).2) : j = k := by
  have h1 := h.one j hj
  rw [e] at h1
  have h2 := (h1.same (h.one k hk)).1
  unfold tmC at h2
  simp at h2
  exact Int.ofNat.inj h2.2.2
theorem QX.ne_row (h : QX B D w tb mb A c n f) {k g : Nat} (hk : k < n) (hA : A = some ⟨g, 0, none⟩) : (f k).2 ≠ g := by
  subst hA
  obtain ⟨cur, hb⟩ := own_row h.row g rfl
  exact (h.one k hk).ne hb (by decide)
theorem QX.ne_tb (h : QX B D w tb mb A c n f) {k : Nat} (hk : k < n) : (f k).2 ≠ tb := (h.one k hk).ne h.blk (by decide)
theorem QX.row_tb (h : QX B D w tb mb A c n f) {g : Nat} (hA : A = some ⟨g, 0, none⟩) : g ≠ tb := by
  subst hA
  obtain ⟨cur, hb⟩ := own_row h.row g rfl
  exact hb.ne h.blk (by decide)
/-- a swap in memory -/
theorem QX.swap (h : QX B D w tb mb A c n f) {i j g : Nat} (hi : i < n) (hj : j < n) (hA : A = some ⟨g, 0, none⟩)
    (hw : w' = (((w.setCell ⟨g, i, none⟩ (ptrT (f j).2)).setCell ⟨g, j, none⟩ (ptrT (f i).2)).setCell ⟨(f j).2, 2, none⟩ (.int .i64 i)).setCell ⟨(f i).2, 2, none⟩ (.int .i64 j)) :
    QX B D w' tb mb A c n (sw f i j) ∧ Chg D w w' := by
  have hg := h.rd g (by rw [hA]; rfl)
  have hni := h.ne_row hi hA
  have hnj := h.ne_row hj hA
  have hti := h.ne_tb hi
  have htj := h.ne_tb hj
  have htg := h.row_tb hA
  have hc : Chg D w w' := by
    rw [hw]
    exact ((((Chg.refl D w).setCell (p := ⟨g, i, none⟩) (fun _ => hg) _).setCell (p := ⟨g, j, none⟩) (fun _ => hg) _).setCell (p := ⟨(f j).2, 2, none⟩) (fun _ => h.od j hj) _).setCell (p := ⟨(f i).2, 2, none⟩) (fun _ => h.od i hi) _
  have hone : ∀ k, k < n → Blk w' (sw f i j k).2 53 (tmC (sw f i j k).1 k) := by
    intro k hk
    have far : ∀ q, q < n → Blk ((w.setCell ⟨g, i, none⟩ (ptrT (f j).2)).setCell ⟨g, j, none⟩ (ptrT (f i).2)) (f q).2 53 (tmC (f q).1 q) := fun q hq => ((h.one q hq).far (p := ⟨g, i, none⟩) (h.ne_row hq hA) _).far (p := ⟨g, j, none⟩) (h.ne_row hq hA) _
    rw [hw]
    by_cases e1 : k = j
    · subst e1
      rw [sw_r]
      by_cases e2 : i = k
      · subst e2
        exact ((far i hi).put 2 _).put 2 _
      · have hne : (f i).2 ≠ (f k).2 := fun e => e2 (h.inj hi hk e)
        exact ((far i hi).far (p := ⟨(f k).2, 2, none⟩) hne _).put 2 _
    · by_cases e2 : k = i
      · subst e2
        rw [sw_l]
        have hne : (f j).2 ≠ (f k).2 := fun e => e1 (h.inj hj hk e).symm
        exact ((far j hj).put 2 _).far (p := ⟨(f k).2, 2, none⟩) hne _
      · rw [sw_o e2 e1]
        have n1 : (f k).2 ≠ (f j).2 := fun e => e1 (h.inj hk hj e)
        have n2 : (f k).2 ≠ (f i).2 := fun e => e2 (h.inj hk hi e)
        exact ((far k hk).far (p := ⟨(f j).2, 2, none⟩) n1 _).far (p := ⟨(f i).2, 2, none⟩) n2 _
  refine ⟨⟨?_, ?_, hone, h.rd, fun k hk => ?_, h.td, fun k hk => ⟨(h.foot k hk).1, Nat.lt_of_lt_of_le (h.foot k hk).2 hc.size⟩⟩, hc⟩
  · rw [hw]
    exact (((h.blk.far (p := ⟨g, i, none⟩) htg.symm _).far (p := ⟨g, j, none⟩) htg.symm _).far (p := ⟨(f j).2, 2, none⟩) htj.symm _).far (p := ⟨(f i).2, 2, none⟩) hti.symm _
  · subst hA
    rw [hw, ← ptrs_sw f hi hj]
    have h1 := (h.row.stored i (ptrT (f j).2)).1
    have h2 := (h1.stored j (ptrT (f i).2)).1
    refine ownsRow_setCell_other (ownsRow_setCell_other h2 ?_ _) ?_ _
    · intro e; exact hnj (Option.some.inj e).symm
    · intro e; exact hni (Option.some.inj e).symm
  · unfold sw
    split
    · exact h.od j hj
    · split
      · exact h.od i hi
      · exact h.od k hk
end
/-- what the heap's calls keep: the queue, told apart from w0 by F and new blocks alone -/
def SQ (B : Nat) (F : Nat → Prop) (w0 : World) (tb mb : Nat) (w : World) (n : Nat) (f : Nat → Of) : Prop := ∃ A c, QX B (Ext F w0 w) w tb mb A c n f ∧ Chg F w0 w
theorem Chg.below' {F : Nat → Prop} {a w w' : World} (h : Chg F a w) (hb : Below w.heap.size w w') : Chg F a w' :=
  h.trans' (G := Non) (Chg.of_below hb) fun _ _ x => x.elim
theorem SQ.below {B tb mb n : Nat} {F : Nat → Prop} {w0 w w' : World} {f : Nat → Of} (h : SQ B F w0 tb mb w n f) (hb : Below w.heap.size w w') : SQ B F w0 tb mb w' n f := by
  obtain ⟨A, c, hq, hc⟩ := h
  have hs := hb.size
  refine ⟨A, c, (hq.below hb).more (fun k hk => hk.elim .inl fun hk => .inr ⟨hk.1, by omega⟩) fun k hk => ?_, hc.below' hb⟩
  rcases hk with hk | hk
  · have := hq.foot k (.inl hk)
    omega
  · have h1 := (hq.foot tb hq.td).1
    refine ⟨?_, hk.2⟩
    by_cases hk2 : k < w.heap.size
    · exact (hq.foot k (.inr ⟨hk.1, hk2⟩)).1
    · have := (hq.foot tb hq.td).2
      omega
end Go.Proofs.Ytcjhkafdfeopfaa
