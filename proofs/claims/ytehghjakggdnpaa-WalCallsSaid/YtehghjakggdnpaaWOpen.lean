/-
  The contract of Open.
-/
import Derived.Test.YtehghjakggdnpaaWRecs
import Derived.Test.YtehghjakggdnpaaWHof
namespace Go.Proofs.Ytehghjakggdnpaa
open Go.RowKit Go.Lib

/-- the next stamp of a disk whose head has this first one -/
def nextM (s : DS) (first : Int) : Int := if great4 s.cur 2 (2 * s.half) + 1 < first then first else great4 s.cur 2 (2 * s.half) + 1
theorem nextStamp_v {w : World} {g : Nat} {F : Nat → Prop} {s : DS} (N : Int) (hN : N = great4 s.cur 2 (2 * s.half) + 1) (h : DiskAt w g F s) (hb : AllBytes s.cur) (h2 : 2 ≤ s.last.length) :
    Calls Try.prog 38 #[.pointer (some ⟨g, 0, none⟩)] w fun e w' => e = .returned (.int .i64 N) ∧ Below w.heap.size w w' := by
  subst hN
  exact nextStamp_any h hb h2

/-- what Open answers where the head is there -/
def OpenRet (g : Nat) (gen area next : Int) (m : Nat) (R : List (List Int)) (w : World) (e : Ending) (w' : World) : Prop :=
  ∃ l v xs, e = .returned (.tuple #[.pointer (some ⟨l, 0, none⟩), v, .int .i64 0]) ∧ w'.ownsRow w.heap.size 38 1 v xs.length (vals xs) ∧ SlsIn w' w'.heap.size xs ∧ lists xs = R ∧
    (∀ x ∈ xs, 0 < x.n → ∀ ad, x.A = some ad → w.heap.size ≤ ad.block) ∧ LogAt w' l g gen area (m : Int) next ∧ w.heap.size ≤ l ∧ Below w.heap.size w w'

set_option maxRecDepth 100000 in
set_option maxHeartbeats 3200000 in
theorem open_some {w : World} {g : Nat} {F : Nat → Prop} {s : DS} (h : DiskAt w g F s) (hb : AllBytes s.cur) (h10 : 10 ≤ s.last.length) (gen area first : Int) (ho : headOfM s.cur = some (gen, area, first)) (ha : area = 0 ∨ area = 1) (hg : 0 ≤ gen ∧ gen < 4294967296) (hf : 1 ≤ first ∧ first < 4294967296) :
    Calls Try.prog 26 #[.pointer (some ⟨g, 0, none⟩)] w
      (OpenRet g gen area (nextM s first) (recsM s.cur (s.half + 1) (2 + area.toNat * s.half) s.half first).2 (recsM s.cur (s.half + 1) (2 + area.toNat * s.half) s.half first).1 w) := by
  have hle := h.ok.le
  have hNb := great4_bd hb 2 (2 * s.half)
  obtain ⟨N, hN⟩ : ∃ N, N = great4 s.cur 2 (2 * s.half) + 1 := ⟨_, rfl⟩
  obtain ⟨X, hX⟩ : ∃ X, X = nextM s first := ⟨_, rfl⟩
  have hX2 : X = if N < first then first else N := by rw [hX, hN]; rfl
  rw [← hX]
  have hNb2 : 1 ≤ N ∧ N ≤ 4294967296 := by omega
  have H := Lib.hid (And.intro h (And.intro hb (And.intro ho hN)))
  have HX := Lib.hid hX2
  clear h hb ho hN hX hX2 hNb
  go_enter Try.func26, Try.ntmps26
  go_wp2_with fail
  refine (size_any H.out.1).mono ?_
  rintro e w' ⟨rfl, rfl⟩
  have h10i : (10 : Int) ≤ (s.last.length : Int) := by omega
  go_wp2_with fail
  refine (headOf_any H.out.1 H.out.2.1 (by omega)).mono ?_
  rw [H.out.2.2.1]
  rintro e w1 ⟨rfl, hl1⟩
  have HL1 := Lib.hid hl1
  clear hl1
  simp only [hval]
  go_wp2_with fail
  obtain ⟨w2, hw2⟩ : ∃ w2, w2 = w1.alloc (.cells #[.int .i64 gen, .int .i64 area, .int .i64 first] 91) := ⟨_, rfl⟩
  have bh : Blk w2 w1.heap.size 91 #[.int .i64 gen, .int .i64 area, .int .i64 first] := by rw [hw2]; exact Blk.new _ _ _
  have hl2 : Below w.heap.size w w2 := by rw [hw2]; exact HL1.out.alloc HL1.out.size _
  rw [← hw2]
  clear hw2
  have e0 := bh.cell 0
  have e1 := bh.cell 1
  have e2 := bh.cell 2
  simp only [List.getElem?_toArray, List.getElem?_cons_zero, List.getElem?_cons_succ] at e0 e1 e2
  have H2 := Lib.hid (And.intro bh (And.intro hl2 (H.out.1.below hl2)))
  clear bh hl2
  refine wp_region_held_drew (S := fun w' => w'.cell? ⟨w1.heap.size, 0, none⟩ = some (.int .i64 gen) ∧ w'.cell? ⟨w1.heap.size, 1, none⟩ = some (.int .i64 area) ∧ w'.cell? ⟨w1.heap.size, 2, none⟩ = some (.int .i64 first)) (by kernel_rfl) ⟨e0, e1, e2⟩ (fun hHeld => ?_)
  refine wpAnyH_take (i := 0) (v := ?_) rfl (by kernel_rfl) (by kernel_rfl) (by kernel_rfl) (fun _ _ _ h => h) (Or.inl ⟨by rfl, ?_⟩) (by assumption) ?_
  rotate_left
  · (intro w hSw; (try dsimp only at hSw); go_simp; (try with_reducible rfl))
  simp only [Act.put, List.getElem_toArray, List.getElem_cons_zero, List.setIfInBounds_toArray, List.set_cons_zero, List.set_cons_succ]
  refine wpAnyH_take (i := 1) (v := ?_) rfl (by kernel_rfl) (by kernel_rfl) (by kernel_rfl) (fun _ _ _ h => h) (Or.inl ⟨by rfl, ?_⟩) (by assumption) ?_
  rotate_left
  · (intro w hSw; (try dsimp only at hSw); go_simp; (try with_reducible rfl))
  simp only [Act.put, List.getElem_toArray, List.getElem_cons_succ, List.getElem_cons_zero, List.setIfInBounds_toArray, List.set_cons_zero, List.set_cons_succ]
  refine wpAnyH_take (i := 2) (v := ?_) rfl (by kernel_rfl) (by kernel_rfl) (by kernel_rfl) (fun _ _ _ h => h) (Or.inl ⟨by rfl, ?_⟩) (by assumption) ?_
  rotate_left
  · (intro w hSw; (try dsimp only at hSw); go_simp; (try with_reducible rfl))
  simp only [Act.put, List.getElem_toArray, List.getElem_cons_succ, List.getElem_cons_zero, List.setIfInBounds_toArray, List.set_cons_zero, List.set_cons_succ]
  refine wpAnyH_take (i := 3) (v := ?_) rfl (by kernel_rfl) (by kernel_rfl) (by kernel_rfl) (fun _ _ _ h => h) (Or.inl ⟨by rfl, ?_⟩) (by assumption) ?_
  rotate_left
  · (intro w hSw; (try dsimp only at hSw); go_simp; (try with_reducible rfl))
  simp only [Act.put, List.getElem_toArray, List.getElem_cons_succ, List.getElem_cons_zero, List.setIfInBounds_toArray, List.set_cons_zero, List.set_cons_succ]
  refine wpAnyH_take (i := 4) (v := ?_) rfl (by kernel_rfl) (by kernel_rfl) (by kernel_rfl) (fun _ _ _ h => h) (Or.inl ⟨by rfl, ?_⟩) (by assumption) ?_
  rotate_left
  · (intro w hSw; (try dsimp only at hSw); go_simp; (try with_reducible rfl))
  simp only [Act.put, List.getElem_toArray, List.getElem_cons_succ, List.getElem_cons_zero, List.setIfInBounds_toArray, List.set_cons_zero, List.set_cons_succ]
  refine wpAnyH_take (i := 5) (v := ?_) rfl (by kernel_rfl) (by kernel_rfl) (by kernel_rfl) (fun _ _ _ h => h) (Or.inl ⟨by rfl, ?_⟩) (by assumption) ?_
  rotate_left
  · (intro w hSw; (try dsimp only at hSw); go_simp; (try with_reducible rfl))
  simp only [Act.put, List.getElem_toArray, List.getElem_cons_succ, List.getElem_cons_zero, List.setIfInBounds_toArray, List.set_cons_zero, List.set_cons_succ]
  refine wpAnyH_take (i := 7) (v := ?_) rfl (by kernel_rfl) (by kernel_rfl) (by kernel_rfl) (fun _ _ _ h => h) (Or.inl ⟨by rfl, ?_⟩) (by assumption) ?_
  rotate_left
  · (intro w hSw; (try dsimp only at hSw); go_simp; (try with_reducible rfl))
  simp only [Act.put, List.getElem_toArray, List.getElem_cons_succ, List.getElem_cons_zero, List.setIfInBounds_toArray, List.set_cons_zero, List.set_cons_succ]
  refine wpAnyH_take (i := 8) (v := ?_) rfl (by kernel_rfl) (by kernel_rfl) (by kernel_rfl) (fun _ _ _ h => h) (Or.inl ⟨by rfl, ?_⟩) (by assumption) ?_
  rotate_left
  · (intro w hSw; (try dsimp only at hSw); go_simp; (try with_reducible rfl))
  simp only [Act.put, List.getElem_toArray, List.getElem_cons_succ, List.getElem_cons_zero, List.setIfInBounds_toArray, List.set_cons_zero, List.set_cons_succ]
  refine wpAnyH_ready (rs := [6]) (by kernel_rfl) (by simp) ?_
  refine AllReadyH.cons rfl (fun K hK => ?_) AllReadyH.nil
  go_simp
  refine (nextStamp_v N H.out.2.2.2 (h := by exact H2.out.2.2) H.out.2.1 (by omega)).mono ?_
  rintro e w3 ⟨rfl, hl3⟩
  have hl3' : Below w2.heap.size w2 w3 := ⟨hl3.os, hl3.tape, hl3.output, hl3.size, hl3.block⟩
  have b3 := H2.out.1.below hl3' H2.out.1.lt
  have e0 := b3.cell 0
  have e1 := b3.cell 1
  have e2 := b3.cell 2
  simp only [List.getElem?_toArray, List.getElem?_cons_zero, List.getElem?_cons_succ] at e0 e1 e2
  have H3 := Lib.hid (And.intro b3 (H2.out.2.1.trans (hl3'.mono H2.out.2.1.size)))
  refine hK.out _ _ ?_ (fun hHeld => ?_)
  · exact ⟨e0, e1, e2⟩
  clear hK K hHeld hl3 hl3' b3
  (try simp only [Act.put, List.getElem_toArray, List.getElem_cons_succ, List.getElem_cons_zero, List.setIfInBounds_toArray, List.set_cons_zero, List.set_cons_succ])
  rcases (by omega : N < first ∨ ¬ N < first) with hc | hc
  case' inl => have hXe : X = first := by rw [HX.out, if_pos hc]
  case' inr => have hXe : X = N := by rw [HX.out, if_neg hc]
  all_goals
    subst hXe
    refine wpAnyH_ready (rs := [9]) (by kernel_rfl) (by simp) ?_
    refine AllReadyH.cons rfl (fun K hK => ?_) AllReadyH.nil
    go_simp
    refine hK.out _ _ ?_ (fun hHeld => ?_)
    · exact ⟨e0, e1, e2⟩
    clear hK K
    (try simp only [Act.put, List.getElem_toArray, List.getElem_cons_succ, List.getElem_cons_zero, List.setIfInBounds_toArray, List.set_cons_zero, List.set_cons_succ])
    refine wpAnyH_take (i := 10) (v := ?_) rfl (by kernel_rfl) (by kernel_rfl) (by kernel_rfl) (fun _ _ _ h => h) (Or.inl ⟨by rfl, ?_⟩) (by assumption) ?_
    rotate_left
    · (intro w hSw; (try dsimp only at hSw); go_simp; (try with_reducible rfl))
    simp only [Act.put, List.getElem_toArray, List.getElem_cons_succ, List.getElem_cons_zero, List.setIfInBounds_toArray, List.set_cons_zero, List.set_cons_succ]
    refine wpAnyH_ready (rs := [11]) (by kernel_rfl) (by simp) ?_
    refine AllReadyH.cons rfl (fun K hK => ?_) AllReadyH.nil
    go_simp
    refine hK.out _ _ ?_ (fun hHeld => ?_)
    · exact ⟨(World.cell?_alloc_lt w3 _ ⟨w1.heap.size, 0, none⟩ H3.out.1.lt).trans e0, (World.cell?_alloc_lt w3 _ ⟨w1.heap.size, 1, none⟩ H3.out.1.lt).trans e1, (World.cell?_alloc_lt w3 _ ⟨w1.heap.size, 2, none⟩ H3.out.1.lt).trans e2⟩
    clear hK K
    (try simp only [Act.put, List.getElem_toArray, List.getElem_cons_succ, List.getElem_cons_zero, List.setIfInBounds_toArray, List.set_cons_zero, List.set_cons_succ])
    refine wpAnyH_take (i := 12) (v := ?_) rfl (by kernel_rfl) (by kernel_rfl) (by kernel_rfl) (fun _ _ _ h => h) (Or.inl ⟨by rfl, ?_⟩) (by assumption) ?_
    rotate_left
    · (intro w hSw; (try dsimp only at hSw); go_simp; (try with_reducible rfl))
    simp only [Act.put, List.getElem_toArray, List.getElem_cons_succ, List.getElem_cons_zero, List.setIfInBounds_toArray, List.set_cons_zero, List.set_cons_succ]
    refine wpAnyH_done (by kernel_rfl) ?_ _
    clear hHeld e0 e1 e2
  all_goals
    obtain ⟨w4, hw4⟩ : ∃ w4, w4 = w3.alloc (.cells #[.pointer (some ⟨g, 0, none⟩), .int .i64 gen, .int .i64 area, .int .i64 0, .int .i64 X] 71) := ⟨_, rfl⟩
    have hlg4 : LogAt w4 w3.heap.size g gen area ((0 : Nat) : Int) X := by rw [hw4]; exact Blk.new _ _ _
    have hl34 : Below w3.heap.size w3 w4 := by rw [hw4]; exact (Below.refl _ _).alloc (Nat.le_refl _) _
    have sz4 : w4.heap.size = w3.heap.size + 1 := by rw [hw4]; exact World.size_alloc _ _
    have bh4 := H3.out.1.below hl34 H3.out.1.lt
    have e0 := bh4.cell 0
    have e1 := bh4.cell 1
    have e2 := bh4.cell 2
    simp only [List.getElem?_toArray, List.getElem?_cons_zero, List.getElem?_cons_succ] at e0 e1 e2
    have hl4 := H3.out.2.trans (hl34.mono H3.out.2.size)
    have hnl : ¬ F w3.heap.size := fun e => by
      have h1 := H.out.1.foot _ e
      have h2 := H3.out.2.size
      omega
    have H4 := Lib.hid (And.intro hlg4 (And.intro (H.out.1.below hl4) (And.intro hl4 sz4)))
    rw [← hw4]
    clear hw4 hlg4 hl34 bh4 sz4 hl4
    go_wp2_with fail
    refine (records_any (u := 0) (h := H4.out.2.1) (hl := H4.out.1) hnl H.out.2.1 (by omega) ha (by omega) _).mono ?_
    rintro e w5 ⟨v, xs, rfl, ho5, hs5, hls5, hfar5, hlg5, hc5⟩
    simp only [Nat.sub_zero, Nat.add_zero, Nat.zero_add] at hls5 hlg5
    have hB5 : Below w.heap.size w w5 := H4.out.2.2.1.trans (Chg.below hc5 (fun k hk => by rw [hk]; exact H3.out.2.size) H4.out.2.2.1.size)
    have H5 := Lib.hid (And.intro (own_base ho5 H4.out.2.2.1.size) (And.intro hs5 (And.intro hls5 (And.intro hfar5 (And.intro hlg5 hB5)))))
    clear ho5 hs5 hls5 hfar5 hlg5 hc5 hB5
    go_wp2
    go_ret3
    exact ⟨w3.heap.size, v, xs, rfl, H5.out.1, H5.out.2.1, H5.out.2.2.1, fun x hx h0 ad had => Nat.le_trans H4.out.2.2.1.size (H5.out.2.2.2.1 x hx h0 ad had), H5.out.2.2.2.2.1, H3.out.2.size, H5.out.2.2.2.2.2⟩

set_option maxRecDepth 100000 in
theorem open_none {w : World} {g : Nat} {F : Nat → Prop} {s : DS} (h : DiskAt w g F s) (hb : AllBytes s.cur) (h10 : 10 ≤ s.last.length) (ho : headOfM s.cur = none) :
    Calls Try.prog 26 #[.pointer (some ⟨g, 0, none⟩)] w fun e w' => e = .returned (.tuple #[.pointer none, .slice none 0 0, .int .i64 42]) ∧ Below w.heap.size w w' := by
  have hle := h.ok.le
  have H := Lib.hid (And.intro h (And.intro hb ho))
  have h10i : (10 : Int) ≤ (s.last.length : Int) := by omega
  clear h hb ho
  go_enter Try.func26, Try.ntmps26
  go_wp2_with fail
  refine (size_any H.out.1).mono ?_
  rintro e w' ⟨rfl, rfl⟩
  go_wp2_with fail
  refine (headOf_any H.out.1 H.out.2.1 (by omega)).mono ?_
  rw [H.out.2.2]
  rintro e w1 ⟨rfl, hl1⟩
  have HL1 := Lib.hid (hl1.alloc hl1.size (.cells #[.int .i64 0, .int .i64 0, .int .i64 0] 91))
  clear hl1
  simp only [hval]
  go_wp2
  go_ret3
  exact ⟨rfl, HL1.out⟩
end Go.Proofs.Ytehghjakggdnpaa
