/-
  The program's timers: New, At, Next, Count.
-/
import Derived.Test.YtcjhkafdfeopfaaTmT
namespace Go.Proofs.Ytcjhkafdfeopfaa
open Go.RowKit Go.Lib Go.Maps

section
variable {B tb : Nat} {D : Nat → Prop} {w : World} {l : List On}
set_option maxRecDepth 100000 in
set_option maxHeartbeats 3200000 in
theorem new_any (w : World) (B : Nat) (hB : B ≤ w.heap.size) : Calls Try.prog 8 #[] w fun e w' => ∃ tb D, e = .returned (.pointer (some ⟨tb, 0, none⟩)) ∧ TI B D w' tb [] ∧ (∀ k, D k → w.heap.size ≤ k) ∧ Below w.heap.size w w' := by
  obtain ⟨w2, hw2⟩ : ∃ w2, w2 = (w.alloc (.map #[] 0)).alloc (.cells #[.slice none 0 0, .map (some w.heap.size)] 49) := ⟨_, rfl⟩
  have hs1 : (w.alloc (.map #[] 0)).heap.size = w.heap.size + 1 := by simp
  have hs2 : w2.heap.size = w.heap.size + 2 := by rw [hw2]; simp
  have hm0 : OwnP (w.alloc (.map #[] 0)) w.heap.size 0 (.map []) := World.ownsMap_made w Try.prog 3 RP
  have hm : OwnP w2 w.heap.size 0 (.map []) := by rw [hw2]; exact hm0.alloc _
  have hb : Blk w2 (w.heap.size + 1) 49 #[.slice none 0 0, .map (some w.heap.size)] := by
    have h := Blk.new (w.alloc (.map #[] 0)) 49 #[.slice none 0 0, .map (some w.heap.size)]
    rw [hs1, ← hw2] at h
    exact h
  have hbel : Below w.heap.size w w2 := by rw [hw2]; exact ((Below.refl _ w).alloc (Nat.le_refl _) _).alloc (by simp) _
  have hT : TX B (fun k => k = w.heap.size ∨ k = w.heap.size + 1) w2 (w.heap.size + 1) w.heap.size (fun k => k = w.heap.size + 1) none 0 0 (fun _ => (⟨0, 0⟩, 0)) (.map []) [] :=
    ⟨⟨hb, World.ownsRow_nil _ _ _ _, fun k hk => absurd hk (by omega), fun g hg => (by cases hg), fun k hk => absurd hk (by omega), rfl, fun k hk => by omega⟩, hm, KP.nil _, Rel.nil _, fun k _ hk => absurd hk (by omega), OkO.nil, by omega, fun k hk => .inr hk, .inl rfl, fun k hk => by omega⟩
  have HF := Lib.hid (show ∃ tb D, Value.pointer (some ⟨w.heap.size + 1, 0, none⟩) = .pointer (some ⟨tb, 0, none⟩) ∧ TI B D w2 tb [] ∧ (∀ k, D k → w.heap.size ≤ k) ∧ Below w.heap.size w w2 from ⟨_, _, rfl, ⟨_, _, _, _, _, _, _, hT⟩, fun k hk => by omega, hbel⟩)
  have HW := Lib.hid hw2
  clear hs1 hs2 hm0 hm hb hbel hT hw2
  have hmm := @run_makeMap Try.prog
  go_enter Try.func8, Try.ntmps8
  go_wp2_with fail
  go_ret
  rw [← HW.out]
  obtain ⟨tb, D, h1, h2⟩ := HF.out
  exact ⟨tb, D, by rw [← h1]; simp, h2⟩
set_option maxRecDepth 100000 in
set_option maxHeartbeats 3200000 in
theorem at_any (id : Int) (h : TI B D w tb l) (hN : NumI id) : Calls Try.prog 13 #[.pointer (some ⟨tb, 0, none⟩), .int .i64 id] w fun r w' => r = .returned (tmRes (atO id l)) ∧ Below w.heap.size w w' := by
  obtain ⟨mb, E, A, c, n, f, Dm, hX⟩ := h
  have c1 := hX.q.cell1
  by_cases hh : ∃ k, k < n ∧ (f k).1.i = id
  · obtain ⟨k, hk, rfl⟩ := hh
    have hl := look_has hX.m hX.kp hk hN
    have ct := hX.q.t_ hk
    have ha := hX.rel.at_ hX.ok hk
    unfold ptrT at hl
    rw [ha]
    clear ha hX hN
    go_enter Try.func13, Try.ntmps13
    go_wp2_with fail
    go_ret2
    exact ⟨rfl, Below.refl _ _⟩
  · obtain ⟨v, hl⟩ := look_none hX.m hX.kp (fun k hk e => hh ⟨k, hk, e⟩) hN
    have ha := hX.rel.none_ (id := id) fun k hk e => hh ⟨k, hk, e⟩
    rw [ha]
    clear ha hX hN hh
    go_enter Try.func13, Try.ntmps13
    go_wp2_with fail
    go_ret2
    exact ⟨rfl, Below.refl _ _⟩
set_option maxRecDepth 100000 in
set_option maxHeartbeats 3200000 in
theorem next_any (h : TI B D w tb l) (hl : l.length ≤ 900000) : Calls Try.prog 18 #[.pointer (some ⟨tb, 0, none⟩)] w fun r w' => r = .returned (tmRes (nextO l)) ∧ Below w.heap.size w w' := by
  obtain ⟨mb, E, A, c, n, f, Dm, hX⟩ := h
  have c0 := hX.q.cell0
  have hnl : n ≤ 900000 := by rw [hX.rel.len]; exact hl
  have hn0 : (0 : Int) ≤ (n : Int) := Int.natCast_nonneg _
  by_cases hn : 0 < n
  · obtain ⟨g, rfl, _, cg⟩ := hX.q.at_ hn
    have ct := hX.q.t_ hn
    obtain ⟨r, hr⟩ := hX.rel.first hX.ok hX.hp hn
    have ha : nextO l = some (f 0).1.t := by rw [hr]; rfl
    rw [ha]
    unfold ptrT at cg
    have hz : ((n : Int) == 0) = false := by rw [beq_eq_false_iff_ne]; omega
    have hni : (0 : Int) < (n : Int) := by omega
    clear hr ha hX hl
    go_enter Try.func18, Try.ntmps18
    go_wp2_with fail
    go_ret2
    exact ⟨rfl, Below.refl _ _⟩
  · obtain rfl : n = 0 := by omega
    have ha : nextO l = none := by rw [List.eq_nil_of_length_eq_zero hX.rel.len.symm]; rfl
    rw [ha]
    clear ha hX hl
    go_enter Try.func18, Try.ntmps18
    go_wp2_with fail
    go_ret2
    exact ⟨rfl, Below.refl _ _⟩
set_option maxRecDepth 100000 in
set_option maxHeartbeats 3200000 in
theorem tcount_any (h : TI B D w tb l) : Calls Try.prog 20 #[.pointer (some ⟨tb, 0, none⟩)] w fun r w' => r = .returned (.int .i64 l.length) ∧ Below w.heap.size w w' := by
  obtain ⟨mb, E, A, c, n, f, Dm, hX⟩ := h
  have c1 := hX.q.cell1
  have hl := fun ty => hX.m.len Try.underlying45 ty
  rw [hX.kp.size, hX.rel.len] at hl
  clear hX
  go_enter Try.func20, Try.ntmps20
  go_wp2_with fail
  go_ret
  exact ⟨rfl, Below.refl _ _⟩
end
end Go.Proofs.Ytcjhkafdfeopfaa
