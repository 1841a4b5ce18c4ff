/-
  The contracts of decoded and Decode.
-/
import Derived.Test.YtkdcnkadngbccaaGreatDoorRowM
import Derived.Test.YtkdcnkadngbccaaGreatDoorBackM
import Derived.Test.YtkdcnkadngbccaaGreatDoorRead2
namespace Go.Proofs.YtkdcnkadngbccaaGreatDoor
open Go.RowKit Go.Lib

theorem gr_below {w w1 w2 : World} {r : Option Nat} (h : w.grownBy w1 r) (hb : Below w.heap.size w1 w2) : w.grownBy w2 r :=
  ⟨hb.os.trans h.os, hb.tape.trans h.tape, hb.output.trans h.output, Nat.le_trans h.size hb.size, fun k hk hne => (hb.block k hk).trans (h.block k hk hne)⟩
theorem gr_trans {w w1 w2 : World} {r : Option Nat} (h : w.grownBy w1 r) (h2 : w1.grownBy w2 r) : w.grownBy w2 r :=
  ⟨h2.os.trans h.os, h2.tape.trans h.tape, h2.output.trans h.output, Nat.le_trans h.size h2.size, fun k hk hne => (h2.block k (Nat.lt_of_lt_of_le hk h.size) hne).trans (h.block k hk hne)⟩
theorem Blk.grown {w w' : World} {b g : Nat} {t : TypeId} {cs : Array Value} (h : Blk w b t cs) (hg : w.grownBy w' (some g)) (hne : b ≠ g) : Blk w' b t cs :=
  (hg.block b h.lt (by simpa using hne)).trans h
theorem Blk.c3 {w : World} {g : Nat} {t : TypeId} {a b c : Value} (h : Blk w g t #[a, b, c]) : w.cell? ⟨g, 0, none⟩ = some a ∧ w.cell? ⟨g, 1, none⟩ = some b ∧ w.cell? ⟨g, 2, none⟩ = some c ∧
    w.frozen? ⟨g, 0, none⟩ = false ∧ w.frozen? ⟨g, 1, none⟩ = false ∧ w.frozen? ⟨g, 2, none⟩ = false := ⟨h.cell 0, h.cell 1, h.cell 2, h.frozen 0, h.frozen 1, h.frozen 2⟩
/-- what is written above g leaves the reader as it was -/
theorem BR.above {w w' : World} {g B : Nat} {s : St} (h : BR w g s) (hb : Below B w w') (hg : g < B) : BR w' g s := h.below hb hg

/-- a value is read: what is handed back, the reader's state -/
def DdRet (g : Nat) (s : St) (w : World) (e : Ending) (w' : World) : Prop :=
  e = .returned (.agg #[.int .i64 (dV s).1.k, .int .i64 (dV s).1.n, .string (dV s).1.s]) ∧ BR w' g (dV s).2 ∧ w.grownBy w' (some g)

set_option maxRecDepth 100000 in
set_option maxHeartbeats 6400000 in
theorem decoded_any (g : Nat) (s : St) (w : World) (h : BR w g s) : Calls Tryz.prog 28 #[.pointer (some ⟨g, 0, none⟩)] w (DdRet g s w) := by
  have hg := h.lt
  obtain ⟨w1, hw1⟩ : ∃ w1, w1 = w.alloc (.cells #[.int .i64 0, .int .i64 0, .string ⟨#[]⟩] 40) := ⟨_, rfl⟩
  have hb1 : Below w.heap.size w w1 := by rw [hw1]; exact (Below.refl _ _).alloc (Nat.le_refl _) _
  have B1 : Blk w1 w.heap.size 40 #[.int .i64 0, .int .i64 0, .string ⟨#[]⟩] := by rw [hw1]; exact Blk.new _ _ _
  have H1 := Lib.hid (And.intro hw1 (And.intro (h.below hb1 hg) (And.intro B1 (gr_below (World.grownBy.refl w (some g)) hb1))))
  clear hw1 hb1 B1 h
  go_enter Tryz.func28, Tryz.ntmps28
  go_wp2_with fail
  rw [← H1.out.1]
  refine (rint_any g s w1 H1.out.2.1).mono ?_
  rintro e w2 ⟨rfl, hr2, hg2⟩
  obtain ⟨k, hk⟩ : ∃ k, k = (rInt s).1 := ⟨_, rfl⟩
  rw [← hk]
  have B2 := H1.out.2.2.1.grown hg2 (by omega)
  have HG2 := Lib.hid (gr_trans H1.out.2.2.2 hg2)
  obtain ⟨w3, hw3⟩ : ∃ w3, w3 = w2.alloc (.cells #[.int .i64 k, .int .i64 0, .string ⟨#[]⟩] 40) := ⟨_, rfl⟩
  have hb3 : Below w2.heap.size w2 w3 := by rw [hw3]; exact (Below.refl _ _).alloc (Nat.le_refl _) _
  have B3 : Blk w3 w2.heap.size 40 #[.int .i64 k, .int .i64 0, .string ⟨#[]⟩] := by rw [hw3]; exact Blk.new _ _ _
  have hs2 := HG2.out.size
  have hb2lt := B2.lt
  have H3 := Lib.hid (And.intro hw3 (And.intro (hr2.below hb3 hr2.lt) (And.intro (B2.below hb3 B2.lt) (And.intro B3 (gr_below HG2.out (hb3.mono hs2))))))
  have HK := Lib.hid hk
  have HB2 := Lib.hid B2
  have HR2 := Lib.hid hr2
  clear hr2 hg2 B2 hw3 hb3 B3 hk
  have c3 := H3.out.2.2.2.1.c3
  rw [H3.out.1] at c3
  obtain ⟨e0, e1, e2, _⟩ := c3
  have fin : ∀ (x : Va) (s' : St) (wz : World), (x, s') = dV s → BR wz g s' → w.grownBy wz (some g) → ∀ a b c : Value,
      DdRet g s w (.returned (.agg #[.int .i64 x.k, .int .i64 x.n, .string x.s])) (((wz.setCell ⟨w.heap.size, 0, none⟩ a).setCell ⟨w.heap.size, 1, none⟩ b).setCell ⟨w.heap.size, 2, none⟩ c) := by
    intro x s' wz he hr hgz a b c
    have hbz : Below w.heap.size wz (((wz.setCell ⟨w.heap.size, 0, none⟩ a).setCell ⟨w.heap.size, 1, none⟩ b).setCell ⟨w.heap.size, 2, none⟩ c) :=
      (((Below.refl _ wz).setCell (p := ⟨w.heap.size, 0, none⟩) (Nat.le_refl _) a).setCell (p := ⟨w.heap.size, 1, none⟩) (Nat.le_refl _) b).setCell (p := ⟨w.heap.size, 2, none⟩) (Nat.le_refl _) c
    have e1 : (dV s).1 = x := by rw [← he]
    have e2 : (dV s).2 = s' := by rw [← he]
    exact ⟨by rw [e1], by rw [e2]; exact hr.below hbz hg, gr_below hgz hbz⟩
  have HF := Lib.hid fin
  clear fin
  by_cases h12 : k = 1 ∨ k = 2
  · have hdv : (⟨k, (rInt (rInt s).2).1, ⟨#[]⟩⟩, (rInt (rInt s).2).2) = dV s := by
      unfold dV
      rw [← HK.out, if_pos h12]
    have HD := Lib.hid hdv
    clear hdv
    obtain ⟨s1, hs1⟩ : ∃ s1, s1 = (rInt s).2 := ⟨_, rfl⟩
    rw [← hs1] at HD H3
    clear hs1
    rcases h12 with rfl | rfl
    all_goals
      go_wp2_with fail
      rw [← H3.out.1]
      refine (rint_any g s1 w3 H3.out.2.1).mono ?_
      rintro e w4 ⟨rfl, hr4, hg4⟩
      have B4 := H3.out.2.2.1.grown hg4 (by omega)
      have B5 := H3.out.2.2.2.1.grown hg4 (by omega)
      have H4 := Lib.hid (And.intro (gr_trans H3.out.2.2.2.2 hg4) hr4)
      obtain ⟨c0, c1, c2, c3, c4, c5⟩ := B4.c3
      obtain ⟨d0, d1, d2, d3, d4, d5⟩ := B5.c3
      have hsz4 := hg4.size
      clear hr4 hg4 B4 B5 e0 e1 e2
      obtain ⟨n, hn⟩ : ∃ n, n = (rInt s1).1 := ⟨_, rfl⟩
      obtain ⟨s2, hs2'⟩ : ∃ s2, s2 = (rInt s1).2 := ⟨_, rfl⟩
      rw [← hn, ← hs2'] at HD
      rw [← hs2'] at H4
      rw [← hn]
      clear hn hs2'
      have hb9 : Below w.heap.size w4 (w4.setCell ⟨w2.heap.size, 1, none⟩ (.int .i64 n)) := (Below.refl _ w4).setCell (p := ⟨w2.heap.size, 1, none⟩) hs2 _
      have H9 := Lib.hid (And.intro (H4.out.2.below hb9 hg) (gr_below H4.out.1 hb9))
      clear hb9
      go_wp2_with fail
      refine bodyPost_ret (by rw [results_cell1 rfl]; go_simp; exact rfl) rfl ?_
      exact HF.out _ s2 _ HD.out H9.out.1 H9.out.2 _ _ _
  · by_cases h3 : k = 3
    · subst h3
      have hdv : (⟨3, 0, mkStr (rText (rInt s).2).1⟩, (rText (rInt s).2).2) = dV s := by
        unfold dV
        rw [← HK.out, if_neg (by decide), if_pos rfl]
      have HD := Lib.hid hdv
      clear hdv
      obtain ⟨s1, hs1⟩ : ∃ s1, s1 = (rInt s).2 := ⟨_, rfl⟩
      rw [← hs1] at HD H3
      clear hs1
      go_wp2_with fail
      rw [← H3.out.1]
      refine (rtext_any g s1 w3 H3.out.2.1).mono ?_
      rintro e w4 ⟨rfl, hr4, hg4⟩
      have B4 := H3.out.2.2.1.grown hg4 (by omega)
      have B5 := H3.out.2.2.2.1.grown hg4 (by omega)
      have H4 := Lib.hid (And.intro (gr_trans H3.out.2.2.2.2 hg4) hr4)
      obtain ⟨c0, c1, c2, c3, c4, c5⟩ := B4.c3
      obtain ⟨d0, d1, d2, d3, d4, d5⟩ := B5.c3
      have hsz4 := hg4.size
      clear hr4 hg4 B4 B5 e0 e1 e2
      obtain ⟨u, hu⟩ : ∃ u, u = mkStr (rText s1).1 := ⟨_, rfl⟩
      obtain ⟨s2, hs2'⟩ : ∃ s2, s2 = (rText s1).2 := ⟨_, rfl⟩
      rw [← hu, ← hs2'] at HD
      rw [← hs2'] at H4
      rw [← hu]
      clear hu hs2'
      have hb9 : Below w.heap.size w4 (w4.setCell ⟨w2.heap.size, 2, none⟩ (.string u)) := (Below.refl _ w4).setCell (p := ⟨w2.heap.size, 2, none⟩) hs2 _
      have H9 := Lib.hid (And.intro (H4.out.2.below hb9 hg) (gr_below H4.out.1 hb9))
      clear hb9
      go_wp2_with fail
      refine bodyPost_ret (by rw [results_cell1 rfl]; go_simp; exact rfl) rfl ?_
      exact HF.out _ s2 _ HD.out H9.out.1 H9.out.2 _ _ _
    · have hn1 : k ≠ 1 := fun e => h12 (.inl e)
      have hn2 : k ≠ 2 := fun e => h12 (.inr e)
      have hdv : (⟨k, 0, ⟨#[]⟩⟩, (rInt s).2) = dV s := by
        unfold dV
        rw [← HK.out, if_neg h12, if_neg h3]
      have HD := Lib.hid hdv
      clear hdv h12
      obtain ⟨c0, c1, c2, c3, c4, c5⟩ := HB2.out.c3
      have cz := H3.out.2.2.1.c3
      rw [H3.out.1] at cz
      obtain ⟨f0, f1, f2, f3, f4, f5⟩ := cz
      go_wp2_with fail
      refine bodyPost_ret (by rw [results_cell1 rfl]; go_simp; exact rfl) rfl ?_
      have hb9 : ∀ a b c o, Below w.heap.size w2 ((((w2.setCell ⟨w.heap.size, 0, none⟩ a).setCell ⟨w.heap.size, 1, none⟩ b).setCell ⟨w.heap.size, 2, none⟩ c).alloc o) := fun a b c o =>
        ((((Below.refl _ w2).setCell (p := ⟨w.heap.size, 0, none⟩) (Nat.le_refl _) a).setCell (p := ⟨w.heap.size, 1, none⟩) (Nat.le_refl _) b).setCell (p := ⟨w.heap.size, 2, none⟩) (Nat.le_refl _) c).alloc (by simp [World.setCell]; omega) _
      exact ⟨by rw [← HD.out], by rw [← HD.out]; exact HR2.out.below (hb9 _ _ _ _) hg, gr_below HG2.out (hb9 _ _ _ _)⟩
end Go.Proofs.YtkdcnkadngbccaaGreatDoor
