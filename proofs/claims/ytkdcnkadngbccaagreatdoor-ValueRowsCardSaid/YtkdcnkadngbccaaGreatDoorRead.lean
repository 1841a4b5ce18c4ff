/-
  The contracts of layer 1's reader: NewReader, spoil, Int, Count, Text, Left, Bad, Done.
-/
import Derived.Test.YtkdcnkadngbccaaGreatDoorNum
namespace Go.Proofs.YtkdcnkadngbccaaGreatDoor
open Go.RowKit Go.Lib

/-- block g is a reader in the state s; what it still has lies below it -/
def BR (w : World) (g : Nat) (s : St) : Prop :=
  ∃ A n c, Blk w g 75 #[.slice A n c, .bool s.isNone] ∧ n ≤ c ∧ c ≤ maxLen ∧ n ≤ 8000000000000 ∧ Rd w g A n (cells (s.getD [])) ∧ IsBytes (s.getD []) ∧ (s = none → A = none ∧ c = 0)

def NewRet (l : List Int) (w : World) (e : Ending) (w' : World) : Prop :=
  ∃ g, e = .returned (.pointer (some ⟨g, 0, none⟩)) ∧ BR w' g (some l) ∧ Below w.heap.size w w' ∧ w.heap.size ≤ g

theorem BR.cell0 {w : World} {g : Nat} {v : Value} {b : Value} (h : Blk w g 75 #[v, b]) : w.cell? ⟨g, 0, none⟩ = some v := by rw [h.cell 0]; rfl
theorem BR.cell1 {w : World} {g : Nat} {v : Value} {b : Value} (h : Blk w g 75 #[v, b]) : w.cell? ⟨g, 1, none⟩ = some b := by rw [h.cell 1]; rfl

theorem grown_set (w : World) (g i : Nat) (u : Value) : w.grownBy (w.setCell ⟨g, i, none⟩ u) (some g) :=
  ⟨rfl, rfl, rfl, by simp [World.setCell], fun k _ hk => Below.heap_setCell _ _ _ _ (fun e => hk (by rw [e]))⟩

theorem BR.below {w w' : World} {g : Nat} {s : St} {C : Nat} (h : BR w g s) (hb : Below C w w') (hg : g < C) : BR w' g s := by
  obtain ⟨A, n, c, h1, h2, h3, h4, h5, h6, h7⟩ := h
  exact ⟨A, n, c, h1.below hb hg, h2, h3, h4, h5.below hb (by omega), h6, h7⟩
theorem BR.lt {w : World} {g : Nat} {s : St} (h : BR w g s) : g < w.heap.size := by
  obtain ⟨A, n, c, h1, _⟩ := h
  exact h1.lt

set_option maxRecDepth 100000 in
set_option maxHeartbeats 800000 in
theorem new_any (A : Option Addr) (n c : Nat) (l : List Int) (w : World) (hr : Rd w w.heap.size A n (cells l)) (hb : IsBytes l) (hn : n ≤ 8000000000000) :
    Calls Tryz.prog 26 #[.slice A n c] w (NewRet l w) := by
  have hlen : l.length = n := by have := hr.len; rwa [cells_len] at this
  subst hlen
  go_enter Tryz.func26, Tryz.ntmps26
  go_wp2_with (go_at_call 53; refine (clone_any A _ c l _ hr (by omega)).mono ?_; rintro e w1 ⟨v1, rfl, h3, h4⟩; obtain ⟨A1, c1, rfl, hc1, hm1⟩ := own_shape h3)
  go_ret
  refine ⟨w1.heap.size, rfl, ⟨A1, l.length, c1, Blk.new _ _ _, hc1, hm1, hn, (Rd.of_own h3).alloc (Nat.le_refl _) _, hb, fun h => by cases h⟩, h4.alloc h4.size _, h4.size⟩

/-- a method of the reader at g hands back v and leaves it in the state s -/
def RdRet (g : Nat) (v : Value) (s : St) (w : World) (e : Ending) (w' : World) : Prop := e = .returned v ∧ BR w' g s ∧ w.grownBy w' (some g)

theorem BR.bad {w : World} {g : Nat} {v b : Value} (h : Blk w g 75 #[v, b]) : BR ((w.setCell ⟨g, 0, none⟩ (.slice none 0 0)).setCell ⟨g, 1, none⟩ (.bool true)) g none := by
  refine ⟨none, 0, 0, ?_, Nat.le_refl _, by simp [maxLen], by omega, Rd.empty, IsBytes.nil, fun _ => ⟨rfl, rfl⟩⟩
  have h1 := (h.put 0 (.slice none 0 0)).put 1 (.bool true)
  simpa using h1

set_option maxRecDepth 100000 in
set_option maxHeartbeats 800000 in
theorem spoil_any (g : Nat) (v b : Value) (w : World) (h : Blk w g 75 #[v, b]) :
    Calls Tryz.prog 55 #[.pointer (some ⟨g, 0, none⟩)] w (RdRet g (.tuple #[]) none w) := by
  have c0 := BR.cell0 h
  have c1 := BR.cell1 h
  have f0 := h.frozen 0
  have f1 := h.frozen 1
  have HB := Lib.hid (BR.bad h)
  clear h
  go_enter Tryz.func55, Tryz.ntmps55
  go_wp2
  go_end0
  exact ⟨rfl, HB.out, (grown_set _ _ _ _).trans (grown_set _ _ _ _)⟩

theorem number_none (A : Option Addr) (n c : Nat) (l : List Int) (w : World) (B : Nat) (hr : Rd w B A n (cells l)) (hb : IsBytes l) (hn : n ≤ 8000000000000) (h : num l = none) :
    Calls Tryz.prog 70 #[.slice A n c] w fun e w' => e = .returned (.tuple #[.int .i64 0, .int .i64 0]) ∧ w = w' :=
  (bnum_any A n c l w B hr hb (by omega)).mono fun e w' ⟨h1, h2⟩ => ⟨by rw [h1, numV, h], h2⟩
theorem number_some (A : Option Addr) (n c : Nat) (l : List Int) (w : World) (B : Nat) (hr : Rd w B A n (cells l)) (hb : IsBytes l) (hn : n ≤ 8000000000000) {u k : Nat} (h : num l = some (u, k)) :
    Calls Tryz.prog 70 #[.slice A n c] w fun e w' => e = .returned (.tuple #[.int .i64 (unfoldN u), .int .i64 (k : Int)]) ∧ w = w' :=
  (bnum_any A n c l w B hr hb (by omega)).mono fun e w' ⟨h1, h2⟩ => ⟨by rw [h1, numV, h], h2⟩

theorem rInt_getD (s : St) : rInt s = rInt (some (s.getD [])) ∨ (s = none ∧ rInt s = (0, none)) := by
  cases s with
  | none => exact .inr ⟨rfl, rfl⟩
  | some l => exact .inl rfl

/-- the reader behind a number that it has read -/
theorem BR.next {w : World} {g : Nat} {l : List Int} {A : Option Addr} {n c k : Nat} (h : Blk w g 75 #[.slice A n c, .bool false]) (hc : n ≤ c) (hm : c ≤ maxLen) (hn : n ≤ 8000000000000) (hr : Rd w g A n (cells l)) (hb : IsBytes l) (hk : k ≤ n) :
    BR (w.setCell ⟨g, 0, none⟩ (.slice (if c = k then A else A.map (·.add k)) (n - k) (c - k))) g (some (l.drop k)) := by
  refine ⟨_, _, _, by simpa using h.put 0 (.slice (if c = k then A else A.map (·.add k)) (n - k) (c - k)), by omega, by omega, by omega, ?_, hb.drop k, fun h => by cases h⟩
  have h2 := (hr.cutl hk hc).setCell (p := ⟨g, 0, none⟩) (Nat.le_refl _) (.slice (if c = k then A else A.map (·.add k)) (n - k) (c - k))
  simpa [cells, List.map_drop] using h2

theorem BR.next_at {w : World} {g : Nat} {l : List Int} {A : Option Addr} {n c k : Nat} (h : Blk w g 75 #[.slice A n c, .bool false]) (hc : n ≤ c) (hm : c ≤ maxLen) (hn : n ≤ 8000000000000) (hr : Rd w g A n (cells l)) (hb : IsBytes l) (hk : k ≤ n) (e : c = k) :
    BR (w.setCell ⟨g, 0, none⟩ (.slice A (n - k) 0)) g (some (l.drop k)) := by
  have h1 := BR.next h hc hm hn hr hb hk
  rw [if_pos e, show c - k = 0 by omega] at h1
  exact h1
theorem BR.next_far {w : World} {g : Nat} {l : List Int} {A : Option Addr} {n c k : Nat} (h : Blk w g 75 #[.slice A n c, .bool false]) (hc : n ≤ c) (hm : c ≤ maxLen) (hn : n ≤ 8000000000000) (hr : Rd w g A n (cells l)) (hb : IsBytes l) (hk : k ≤ n) (e : ¬ c = k) :
    BR (w.setCell ⟨g, 0, none⟩ (.slice (A.map fun x => x.add k) (n - k) (c - k))) g (some (l.drop k)) := by
  have h1 := BR.next h hc hm hn hr hb hk
  rw [if_neg e] at h1
  exact h1

set_option maxRecDepth 100000 in
set_option maxHeartbeats 1600000 in
theorem rint_any (g : Nat) (s : St) (w : World) (h : BR w g s) :
    Calls Tryz.prog 54 #[.pointer (some ⟨g, 0, none⟩)] w (RdRet g (.int .i64 (rInt s).1) (rInt s).2 w) := by
  obtain ⟨A, n, c, hblk, hnc, hcm, hn, hr, hb, _⟩ := h
  have c0 := BR.cell0 hblk
  have c1 := BR.cell1 hblk
  have f0 := hblk.frozen 0
  cases hnum : num (s.getD []) with
  | none =>
    have hs : rInt s = (0, none) := by
      cases s with
      | none => rfl
      | some l => exact rInt_none hnum
    have HS := Lib.hid hs
    have HN := Lib.hid hnum
    clear hs hnum
    go_enter Tryz.func54, Tryz.ntmps54
    go_wp2_with (first | (go_at_call 70; refine (number_none A n c _ _ g hr hb hn HN.out).mono ?_; rintro e w' ⟨rfl, rfl⟩) | (go_at_call 55; refine (spoil_any g _ _ _ hblk).mono ?_; rintro e w' ⟨rfl, h5, h6⟩))
    go_ret
    rw [HS.out]
    exact ⟨rfl, h5, h6⟩
  | some p =>
    obtain ⟨u, k⟩ := p
    have hs : ∃ l, s = some l := by
      cases s with
      | none => simp [num, dec] at hnum
      | some l => exact ⟨l, rfl⟩
    obtain ⟨l, rfl⟩ := hs
    simp only [Option.getD_some] at hnum hr hb
    have hi := num_inv hb hnum
    have hlen : l.length = n := by have := hr.len; rwa [cells_len] at this
    have HS := Lib.hid (rInt_some hnum)
    have HN := Lib.hid hnum
    have hk0 : 0 < k := hi.1
    have hkn : k ≤ n := by have := hi.2.1; omega
    have HB1 := Lib.hid (BR.next_at hblk hnc hcm hn hr hb hkn)
    have HB2 := Lib.hid (BR.next_far hblk hnc hcm hn hr hb hkn)
    clear hnum hi hlen
    go_enter Tryz.func54, Tryz.ntmps54
    go_wp2_with (go_at_call 70; refine (number_some A n c _ _ g hr hb hn HN.out).mono ?_; rintro e w' ⟨rfl, rfl⟩)
    all_goals
      go_ret
      rw [HS.out]
      first | exact ⟨rfl, HB1.out (by assumption), grown_set _ _ _ _⟩ | exact ⟨rfl, HB2.out (by assumption), grown_set _ _ _ _⟩

end Go.Proofs.YtkdcnkadngbccaaGreatDoor
