/-
  The program's lines: holder, free.
-/
import Derived.Test.YthbbheegkhlniaaGreatM07
namespace Go.Proofs.YthbbheegkhlniaaGreat
open Go.RowKit Go.Lib Go.Shelf

/-- what is read of a line: its holders (j = 3) or waiters (j = 4) -/
structure LnR (w : World) (b j : Nat) (A : Option Addr) (c : Nat) (l : List Hd) : Prop where
  cell : w.cell? ⟨b, j, none⟩ = some (.slice A l.length c)
  lt : b < w.heap.size
  row : RowG heldC 3 w w.heap.size A l
theorem LnR.below {w w' : World} {b j : Nat} {A : Option Addr} {c : Nat} {l : List Hd} (h : LnR w b j A c l) (hb : Below w.heap.size w w') : LnR w' b j A c l :=
  ⟨(hb.cell (p := ⟨b, j, none⟩) h.lt).trans h.cell, Nat.lt_of_lt_of_le h.lt hb.size, (h.row.below hb (Nat.le_refl _)).more hb.size⟩
section
variable {B tb : Nat} {D : Nat → Prop} {w : World} {S : Sx}
theorem Mm.readH (h : Mm B D w tb S) {t : Th} {b : Nat} (hls : S.ls t = some b) : ∃ A c, S.hv t = .slice A (S.h t).length c ∧ LnR w b 3 A c (S.h t) := by
  obtain ⟨A, c, e⟩ := (h.hr t).form
  refine ⟨A, c, e, ⟨by rw [← e]; exact (h.ln t b hls).2.cell 3, (h.ln t b hls).2.lt, RowG.of_rows (fun _ => rfl) (by have := (h.hr t).own; rw [e] at this; exact this) rfl⟩⟩
theorem Mm.readW (h : Mm B D w tb S) {t : Th} {b : Nat} (hls : S.ls t = some b) : ∃ A c, S.wv t = .slice A (S.v t).length c ∧ LnR w b 4 A c (S.v t) := by
  obtain ⟨A, c, e⟩ := (h.wr t).form
  refine ⟨A, c, e, ⟨by rw [← e]; exact (h.ln t b hls).2.cell 4, (h.ln t b hls).2.lt, RowG.of_rows (fun _ => rfl) (by have := (h.wr t).own; rw [e] at this; exact this) rfl⟩⟩
end
set_option maxRecDepth 100000 in
set_option maxHeartbeats 6400000 in
theorem holder_any {w : World} {b : Nat} {A : Option Addr} {c : Nat} {l : List Hd} (h : LnR w b 3 A c l) (hl : l.length ≤ 1000000) (x : Int) :
    Calls Tryz.prog 29 #[pt b, .int .i64 x] w fun e w' => e = .returned (.int .i64 (idxI (idxL (ofP x) l))) ∧ Below w.heap.size w w' := by
  have c0 := h.cell
  obtain ⟨n, hn⟩ : ∃ n, n = l.length := ⟨_, rfl⟩
  have H := Lib.hid (And.intro h (And.intro hl hn))
  rw [← hn] at c0
  clear h hl hn
  go_enter Tryz.func29, Tryz.ntmps29
  go_wp2_with fail
  go_region_held3 (fun w' => w'.cell? ⟨b, 3, none⟩ = some (.slice A n c))
    (first
      | exact H3.out.1
      | exact H2.out.2.1
      | exact c0
      | exact ‹_›)
    (first
      | (go_at_call 43; refine (of_at x _).mono ?_; rintro e w2 ⟨q, rfl, hq⟩; have hL2 := (H.out.1.below (Below.refl _ w).drew).below hq.low; have H2 := Lib.hid (And.intro (And.intro hL2 hq) (by have := hL2.cell; rw [← H.out.2.2] at this; exact And.intro this trivial)); clear hL2 hq)
      | (go_at_call 52; refine (idx_any H2.out.1.1.row (Nat.le_refl _) H.out.2.2 H.out.2.1 eg_of (of_pred H2.out.1.2.lt H2.out.1.2.cell)).mono ?_; rintro e w3 ⟨rfl, hb3⟩; have hL3 := H2.out.1.1.below hb3; have H3 := Lib.hid (And.intro (by have := hL3.cell; rw [← H.out.2.2] at this; exact this) ((H2.out.1.2.low.trans (hb3.mono H2.out.1.2.low.size)))); clear hL3 hb3))
  all_goals
    go_wp2_with fail
    go_ret
    exact ⟨rfl, (show Below w.heap.size w w.drew from (Below.refl _ w).drew).trans H3.out.2⟩
/-- may a lock be had -/
def freeL (o : Hd) (hs ws : List Hd) : Bool := !(hs.any (agP o)) && !(ws.any (agP o))
set_option maxRecDepth 100000 in
set_option maxHeartbeats 6400000 in
theorem free_any {w : World} {b : Nat} {A A' : Option Addr} {c n' c' : Nat} {l l' : List Hd} (h : LnR w b 3 A c l) (hl : l.length ≤ 1000000) (h' : RowG heldC 3 w w.heap.size A' l') (hn' : n' = l'.length) (hl' : l'.length ≤ 1000000) (o : Hd) :
    Calls Tryz.prog 33 #[pt b, .agg #[.int .i64 o.1, .int .i64 o.2.1, .bool o.2.2], .slice A' n' c'] w fun e w' => e = .returned (.bool (freeL o l l')) ∧ Below w.heap.size w w' := by
  obtain ⟨n, hn⟩ : ∃ n, n = l.length := ⟨_, rfl⟩
  have hb0 : b < w.heap.size := h.lt
  obtain ⟨w1, hw1⟩ : ∃ w1, w1 = w.alloc (.cells #[.int .i64 o.1, .int .i64 o.2.1, .bool o.2.2] 62) := ⟨_, rfl⟩
  have hB1 : Below w.heap.size w w1 := by rw [hw1]; exact (Below.refl _ w).alloc (Nat.le_refl _) _
  obtain ⟨g0, g1, g2⟩ : HdAt w1 w.heap.size o := by rw [hw1]; exact HdAt.new w o
  have H := Lib.hid (And.intro (h.below hB1) (And.intro hl (And.intro hn (And.intro ((h'.below hB1 (Nat.le_refl _)).more hB1.size) (And.intro hn' (And.intro hl' hB1))))))
  have HW := Lib.hid hw1
  clear h hl hn h' hn' hl' hB1 hw1
  obtain ⟨r, hr0⟩ : ∃ r, r = freeL o l l' := ⟨_, rfl⟩
  rw [← hr0]
  have HR0 := Lib.hid hr0
  clear hr0
  go_enter Tryz.func33, Tryz.ntmps33
  go_upto_region 1 with fail
  rw [← HW.out]
  go_upto_region 2 with (go_at_call 53; refine (ag_at o _).mono ?_; rintro e w2 ⟨q, rfl, hq⟩; have hL2 := H.out.1.below hq.low; have c0 := hL2.cell; rw [← H.out.2.2.1] at c0; have H2 := Lib.hid (And.intro hL2 (And.intro ((H.out.2.2.2.1.below hq.low (Nat.le_refl _)).more hq.low.size) hq)); clear hL2 hq)
  cases hr : l.any (agP o) with
  | true =>
    have e : freeL o l l' = false := by unfold freeL; rw [hr]; rfl
    have HE := Lib.hid (HR0.out.trans e)
    clear e
    have HR := Lib.hid hr
    clear hr
    go_wp2_with (go_at_call 62; refine (contains_any H2.out.1.row (Nat.le_refl _) H.out.2.2.1 H.out.2.1 eg_ag (ag_pred H2.out.2.2.lt H2.out.2.2.at_)).mono ?_; rw [HR.out]; rintro e w3 ⟨rfl, hb3⟩; have H3 := Lib.hid (H2.out.2.2.low.trans (hb3.mono H2.out.2.2.low.size)); clear hb3)
    go_ret
    exact ⟨by rw [HE.out]; rfl, H.out.2.2.2.2.2.2.trans (H3.out.mono H.out.2.2.2.2.2.2.size)⟩
  | false =>
    have e : freeL o l l' = !(l'.any (agP o)) := by unfold freeL; rw [hr]; rfl
    have HE := Lib.hid (HR0.out.trans e)
    clear e
    have HR := Lib.hid hr
    clear hr
    obtain ⟨r2, hr2⟩ : ∃ r2, r2 = l'.any (agP o) := ⟨_, rfl⟩
    have HR2 := Lib.hid hr2
    clear hr2
    go_wp2_with (first
      | (go_at_call 62; refine (contains_any H3.out.1 (Nat.le_refl _) H.out.2.2.2.2.1 H.out.2.2.2.2.2.1 eg_ag (ag_pred H3.out.2.lt H3.out.2.at_)).mono ?_; rw [← HR2.out]; rintro e w4 ⟨rfl, hb4⟩; have H4 := Lib.hid (H3.out.2.low.trans (hb4.mono H3.out.2.low.size)); clear hb4)
      | (go_at_call 62; refine (contains_any H2.out.1.row (Nat.le_refl _) H.out.2.2.1 H.out.2.1 eg_ag (ag_pred H2.out.2.2.lt H2.out.2.2.at_)).mono ?_; rw [HR.out]; rintro e w3 ⟨rfl, hb3⟩; have H3 := Lib.hid (And.intro ((H2.out.2.1.below hb3 (Nat.le_refl _)).more hb3.size) (H2.out.2.2.below hb3)); clear hb3))
    go_ret
    exact ⟨by rw [HE.out, ← HR2.out]; rfl, H.out.2.2.2.2.2.2.trans (H4.out.mono H.out.2.2.2.2.2.2.size)⟩
end Go.Proofs.YthbbheegkhlniaaGreat
