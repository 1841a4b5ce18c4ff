/-
  The contracts of the document's Write.
-/
import Derived.Test.YtehghjakggdnpaaDkRefRead
import Derived.Test.YtehghjakggdnpaaDkAgg
namespace Go.Proofs.Ytehghjakggdnpaa
open Go.RowKit Go.Lib

set_option maxRecDepth 100000 in
theorem refWrite_no {w : World} {g : Nat} {G : Nat → Prop} {s : DS} (h : RefAt w g G s) (k : Int) (h0 : ¬ (0 ≤ k ∧ k < s.last.length)) (A : Option Addr) (n c : Nat) :
    Calls Try.prog 63 #[.pointer (some ⟨g, 0, none⟩), .int .i64 k, .slice A n c] w fun e w' => e = .returned (.int .i64 40) ∧ w = w' := by
  obtain ⟨A0, k0, c0⟩ := h.last_len
  by_cases hk : k < 0
  · go_enter Try.func63, Try.ntmps63
    go_wp2
    go_ret
    exact ⟨rfl, rfl⟩
  · have h1 : (s.last.length : Int) ≤ k := by omega
    clear h0
    go_enter Try.func63, Try.ntmps63
    go_wp2
    go_ret
    exact ⟨rfl, rfl⟩

set_option maxRecDepth 100000 in
theorem refWrite_len {w : World} {g : Nat} {G : Nat → Prop} {s : DS} (h : RefAt w g G s) (k : Nat) (hk : k < s.last.length) (A : Option Addr) (n c : Nat) (hn : n ≠ 64) :
    Calls Try.prog 63 #[.pointer (some ⟨g, 0, none⟩), .int .i64 k, .slice A n c] w fun e w' => e = .returned (.int .i64 41) ∧ w = w' := by
  obtain ⟨A0, k0, c0⟩ := h.last_len
  have h0 : ¬ ((n : Int) = 64) := by omega
  have h1 : (0 : Int) ≤ (k : Int) := Int.natCast_nonneg _
  have h2 : (k : Int) < (s.last.length : Int) := by omega
  have h3 : ¬ (s.last.length : Int) ≤ (k : Int) := by omega
  go_enter Try.func63, Try.ntmps63
  go_wp2
  go_ret
  exact ⟨rfl, rfl⟩

theorem Try.info89 : (Try.prog.info? 89).map (fun i => (i.zero, i.size, i.bytes)) = some (some (.agg #[.int .i64 0, .slice none 0 0]), 2, 32) := by kernel_rfl
theorem copyBytes_64 (A : Option Addr) (c : Nat) (b : List Int) (w : World) (hr : Rd w w.heap.size A 64 (cells b)) :
    Calls Try.prog 14 #[.slice A 64 c] w fun e w' => ∃ A2 c2, e = .returned (.slice A2 64 c2) ∧ w'.ownsRow w.heap.size 5 1 (.slice A2 64 c2) 64 (cells b) ∧ Below w.heap.size w w' :=
  (dkcopyBytes_any A 64 c b w hr (by omega)).mono fun e w' ⟨v, h1, h2, h3⟩ => by
    have hl : b.length = 64 := by have := hr.len; rwa [cells_len] at this
    rw [hl] at h2
    obtain ⟨A2, c2, rfl, _, _⟩ := own_shape h2
    exact ⟨A2, c2, h1, h2, h3⟩
theorem DataIn.chg {w w' : World} {F G : Nat → Prop} {v : Value} {b : List Int} (h : DataIn w G v b) (hc : Chg F w w') (hF : ∀ q cur, F q → ¬ Blk w q 5 cur) : DataIn w' (Ext G w w') v b :=
  ⟨own_chg h.1 hc fun q hq hf => by obtain ⟨cur, hb⟩ := own_blk h.1 q hq; exact hF q cur hf hb, fun q hq => .inl (h.2 q hq)⟩
theorem AllIn.chg {w w' : World} {F G : Nat → Prop} {vs : List Value} {bs : List (List Int)} (h : AllIn w G vs bs) (hc : Chg F w w') (hF : ∀ q cur, F q → ¬ Blk w q 5 cur) : AllIn w' (Ext G w w') vs bs :=
  ⟨h.1, fun i v b h1 h2 => (h.2 i v b h1 h2).chg hc hF⟩
def RefRet (g : Nat) (G : Nat → Prop) (s : DS) (v : Value) (w : World) (e : Ending) (w' : World) : Prop :=
  e = .returned v ∧ RefAt w' g (Ext G w w') s ∧ Chg G w w'
theorem wrow_snoc (wr : List (Nat × List Int)) (vs : List Value) (p : Nat × List Int) (v : Value) (h : vs.length = wr.length) : wrow (wr ++ [p]) (vs ++ [v]) = wrow wr vs ++ [[.int .i64 p.1, v]] := by
  unfold wrow
  rw [List.zip_append h.symm]
  simp

set_option maxRecDepth 100000 in
set_option maxHeartbeats 3200000 in
theorem refWrite_yes {w : World} {g : Nat} {G : Nat → Prop} {s : DS} (h : RefAt w g G s) (k : Nat) (hk : k < s.last.length) (A : Option Addr) (c : Nat) (b : List Int) (hr : Rd w w.heap.size A 64 (cells b)) (few : s.wr.length < 1000000) :
    Calls Try.prog 63 #[.pointer (some ⟨g, 0, none⟩), .int .i64 k, .slice A 64 c] w (RefRet g G (s.write k b) (.int .i64 0) w) := by
  have hle := h.ok.le
  have HD := Lib.hid h
  have HR := Lib.hid hr
  have hcl : (cells b).length = 64 := hr.len
  obtain ⟨L, W, lv, wv, h1, h2, h3, h4, h5, f1, f2, f3, f4, h6⟩ := h
  obtain ⟨i0, hi0, hz0, hz1, hz2⟩ := info_parts Try.info89
  have c0 := h1.cell 0
  have c1 := h1.cell 1
  simp only [List.getElem?_toArray, List.getElem?_cons_zero, List.getElem?_cons_succ] at c0 c1
  have c0' : ∃ A0 k0, L = .slice A0 s.last.length k0 := by
    rcases h2.2 with ⟨rfl, hn⟩ | ⟨gl, cap, cur, rfl, _⟩
    · exact ⟨none, 0, by rw [hn]⟩
    · exact ⟨_, _, rfl⟩
  obtain ⟨A0, k0, rfl⟩ := c0'
  have hk0 : (0 : Int) ≤ (k : Int) := Int.natCast_nonneg _
  have hk1 : (k : Int) < (s.last.length : Int) := by omega
  have hk2 : ¬ (s.last.length : Int) ≤ (k : Int) := by omega
  have lg := h1.lt
  have hWg := dkown_ne h4 h1 (by decide)
  have HX := Lib.hid (And.intro h1 (And.intro h2 (And.intro h3 (And.intro h4 (And.intro h5 (And.intro hWg (And.intro h6 hcl)))))))
  have HI := Lib.hid (And.intro hi0 (And.intro hz0 (And.intro hz1 hz2)))
  clear h1 h2 h3 h4 h5 hWg h6 hcl hi0 hz0 hz1 hz2 hr
  go_enter Try.func63, Try.ntmps63
  go_wp2_with fail
  refine wp_region_held_drew (S := fun _ => True) (by kernel_rfl) trivial (fun hHeld => ?_)
  refine wpAnyH_take (i := 0) (v := ?_) rfl (by kernel_rfl) (by kernel_rfl) (by kernel_rfl) (fun _ _ _ h => h) (Or.inl ⟨by rfl, ?_⟩) (by assumption) ?_
  rotate_left
  · (intro w hSw; (try dsimp only at hSw); go_simp; (try with_reducible rfl))
  simp only [Act.put, List.getElem_toArray, List.getElem_cons_zero, List.setIfInBounds_toArray, List.set_cons_zero, List.set_cons_succ]
  refine wpAnyH_take (i := 1) (v := ?_) rfl (by kernel_rfl) (by kernel_rfl) (by kernel_rfl) (fun _ _ _ h => h) (Or.inl ⟨by rfl, ?_⟩) (by assumption) ?_
  rotate_left
  · (intro w hSw; (try dsimp only at hSw); go_simp; (try with_reducible rfl))
  simp only [Act.put, List.getElem_toArray, List.getElem_cons_succ, List.getElem_cons_zero, List.setIfInBounds_toArray, List.set_cons_zero, List.set_cons_succ]
  refine wpAnyH_take (i := 2) (v := ?_) rfl (by kernel_rfl) (by kernel_rfl) (by kernel_rfl) (fun _ _ _ h => h) (Or.inl ⟨by rfl, ?_⟩) (by assumption) ?_
  rotate_left
  · (intro w hSw; (try dsimp only at hSw); go_simp; (try with_reducible rfl))
  simp only [Act.put, List.getElem_toArray, List.getElem_cons_succ, List.getElem_cons_zero, List.setIfInBounds_toArray, List.set_cons_zero, List.set_cons_succ]
  refine wpAnyH_take (i := 3) (v := ?_) rfl (by kernel_rfl) (by kernel_rfl) (by kernel_rfl) (fun _ _ _ h => h) (Or.inl ⟨by rfl, ?_⟩) (by assumption) ?_
  rotate_left
  · (intro w hSw; (try dsimp only at hSw); go_simp; (try with_reducible rfl))
  simp only [Act.put, List.getElem_toArray, List.getElem_cons_succ, List.getElem_cons_zero, List.setIfInBounds_toArray, List.set_cons_zero, List.set_cons_succ]
  refine wpAnyH_take (i := 5) (v := ?_) rfl (by kernel_rfl) (by kernel_rfl) (by kernel_rfl) (fun _ _ _ h => h) (Or.inl ⟨by rfl, ?_⟩) (by assumption) ?_
  rotate_left
  · (intro w hSw; (try dsimp only at hSw); go_simp; (try with_reducible rfl))
  simp only [Act.put, List.getElem_toArray, List.getElem_cons_succ, List.getElem_cons_zero, List.setIfInBounds_toArray, List.set_cons_zero, List.set_cons_succ]
  refine wpAnyH_take (i := 6) (v := ?_) rfl (by kernel_rfl) (by kernel_rfl) (by kernel_rfl) (fun _ _ _ h => h) (Or.inl ⟨by rfl, ?_⟩) (by assumption) ?_
  rotate_left
  · (intro w hSw; (try dsimp only at hSw); go_simp; (try with_reducible rfl))
  simp only [Act.put, List.getElem_toArray, List.getElem_cons_succ, List.getElem_cons_zero, List.setIfInBounds_toArray, List.set_cons_zero, List.set_cons_succ]
  refine wpAnyH_ready (rs := [4, 7]) (by kernel_rfl) (by simp) ?_
  refine AllReadyH.cons rfl (fun K hK => ?wA) (AllReadyH.cons rfl (fun K hK => ?wB) AllReadyH.nil)
  case' wA =>
    go_simp
    refine hK.out _ _ trivial (fun hHeld => ?_)
    clear hK K hHeld
    have hHeld : True := trivial
    refine wpAnyH_ready (rs := [7]) (by kernel_rfl) (by simp) ?_
    refine AllReadyH.cons rfl (fun K hK => ?_) AllReadyH.nil
    go_simp
    refine (copyBytes_64 A c b w.drew HR.out).mono ?_
    rintro e w2 ⟨A2, c2, rfl, o2, b2⟩
    have c1' : w2.cell? ⟨g, 1, none⟩ = some W := (b2.cell (p := ⟨g, 1, none⟩) lg).trans c1
    have hgw : ¬ g = w2.heap.size := by have := b2.size; simp at this; omega
    have HO := Lib.hid (And.intro o2 b2)
    clear o2 b2
    dsimp only
    refine hK.out _ _ trivial (fun hHeld => ?_)
    clear hK K hHeld
    have hHeld : True := trivial
    try simp only [Act.put, List.getElem_toArray, List.getElem_cons_succ, List.getElem_cons_zero, List.setIfInBounds_toArray, List.set_cons_zero, List.set_cons_succ]
    refine wpAnyH_take (i := 8) (v := ?_) rfl (by kernel_rfl) (by kernel_rfl) (by kernel_rfl) (fun _ _ _ h => h) (Or.inl ⟨by rfl, ?_⟩) (by assumption) ?_
    rotate_left
    · (intro w hSw; (try dsimp only at hSw); go_simp; (try with_reducible rfl))
    simp only [Act.put, List.getElem_toArray, List.getElem_cons_succ, List.getElem_cons_zero, List.setIfInBounds_toArray, List.set_cons_zero, List.set_cons_succ]
    refine wpAnyH_ready (rs := [9]) (by kernel_rfl) (by simp) ?_
    refine AllReadyH.cons rfl (fun K hK => ?_) AllReadyH.nil
    go_simp
    refine hK.out _ _ trivial (fun hHeld => ?_)
    clear hK K hHeld
    have hHeld : True := trivial
    try simp only [Act.put, List.getElem_toArray, List.getElem_cons_succ, List.getElem_cons_zero, List.setIfInBounds_toArray, List.set_cons_zero, List.set_cons_succ]
  case' wB =>
    go_simp
    refine (copyBytes_64 A c b w.drew HR.out).mono ?_
    rintro e w2 ⟨A2, c2, rfl, o2, b2⟩
    have c1' : w2.cell? ⟨g, 1, none⟩ = some W := (b2.cell (p := ⟨g, 1, none⟩) lg).trans c1
    have hgw : ¬ g = w2.heap.size := by have := b2.size; simp at this; omega
    have HO := Lib.hid (And.intro o2 b2)
    clear o2 b2
    dsimp only
    refine hK.out _ _ trivial (fun hHeld => ?_)
    clear hK K hHeld
    have hHeld : True := trivial
    try simp only [Act.put, List.getElem_toArray, List.getElem_cons_succ, List.getElem_cons_zero, List.setIfInBounds_toArray, List.set_cons_zero, List.set_cons_succ]
    refine wpAnyH_take (i := 8) (v := ?_) rfl (by kernel_rfl) (by kernel_rfl) (by kernel_rfl) (fun _ _ _ h => h) (Or.inl ⟨by rfl, ?_⟩) (by assumption) ?_
    rotate_left
    · (intro w hSw; (try dsimp only at hSw); go_simp; (try with_reducible rfl))
    simp only [Act.put, List.getElem_toArray, List.getElem_cons_succ, List.getElem_cons_zero, List.setIfInBounds_toArray, List.set_cons_zero, List.set_cons_succ]
    refine wpAnyH_ready (rs := [4, 9]) (by kernel_rfl) (by simp) ?_
    refine AllReadyH.cons rfl (fun K hK => ?wC) (AllReadyH.cons rfl (fun K hK => ?wD) AllReadyH.nil)
  case' wC =>
    go_simp
    refine hK.out _ _ trivial (fun hHeld => ?_)
    clear hK K hHeld
    have hHeld : True := trivial
    try simp only [Act.put, List.getElem_toArray, List.getElem_cons_succ, List.getElem_cons_zero, List.setIfInBounds_toArray, List.set_cons_zero, List.set_cons_succ]
    refine wpAnyH_ready (rs := [9]) (by kernel_rfl) (by simp) ?_
    refine AllReadyH.cons rfl (fun K hK => ?_) AllReadyH.nil
    go_simp
    refine hK.out _ _ trivial (fun hHeld => ?_)
    clear hK K hHeld
    have hHeld : True := trivial
    try simp only [Act.put, List.getElem_toArray, List.getElem_cons_succ, List.getElem_cons_zero, List.setIfInBounds_toArray, List.set_cons_zero, List.set_cons_succ]
  case' wD =>
    go_simp
    refine hK.out _ _ trivial (fun hHeld => ?_)
    clear hK K hHeld
    have hHeld : True := trivial
    try simp only [Act.put, List.getElem_toArray, List.getElem_cons_succ, List.getElem_cons_zero, List.setIfInBounds_toArray, List.set_cons_zero, List.set_cons_succ]
    have c1'' : (w2.alloc (.cells #[.int .i64 (k : Int), .slice A2 64 c2] 89)).cell? ⟨g, 1, none⟩ = some W := (World.cell?_alloc_lt w2 _ ⟨g, 1, none⟩ (World.block_lt_of_cell? w2 _ c1')).trans c1'
    refine wpAnyH_ready (rs := [4]) (by kernel_rfl) (by simp) ?_
    refine AllReadyH.cons rfl (fun K hK => ?_) AllReadyH.nil
    go_simp
    refine hK.out _ _ trivial (fun hHeld => ?_)
    clear hK K hHeld
    have hHeld : True := trivial
    try simp only [Act.put, List.getElem_toArray, List.getElem_cons_succ, List.getElem_cons_zero, List.setIfInBounds_toArray, List.set_cons_zero, List.set_cons_succ]
  all_goals
    have b2 : Below w.heap.size w w2 := ⟨HO.out.2.os, HO.out.2.tape, HO.out.2.output, HO.out.2.size, HO.out.2.block⟩
    have blk2 : Blk (w2.alloc (.cells #[.int .i64 (k : Int), .slice A2 64 c2] 89)) g 58 #[.slice A0 s.last.length k0, W] := (HX.out.1.below b2 lg).alloc _
    have own2 : (w2.alloc (.cells #[.int .i64 (k : Int), .slice A2 64 c2] 89)).ownsRow 0 89 2 W s.wr.length (Rows' (wrow s.wr wv)) := (own_chg HX.out.2.2.2.1 (Chg.of_below (F := Non) b2) (fun _ _ h => h.elim)).alloc _
    have H2 := Lib.hid (And.intro blk2 (And.intro own2 b2))
    clear blk2 own2 b2
    refine wpAnyH_ready (rs := [10]) (by kernel_rfl) (by simp) ?_
    refine AllReadyH.cons rfl (fun K hK => ?_) AllReadyH.nil
    refine step_append_lies _ (by rfl) (.tmp 25) (.tmp 30) 56 (by rfl) 0 89 i0 _ 2 32 Try.underlying56 HI.out.1 HI.out.2.1 HI.out.2.2.1 HI.out.2.2.2 (by rfl) (by omega) W s.wr.length _ (by rfl) H2.out.2.1
        ⟨w2.heap.size, 0, none⟩ 1 1 [.int .i64 (k : Int), .slice A2 64 c2] (by rfl) (by rfl) (World.news_of_block (cs := #[.int .i64 (k : Int), .slice A2 64 c2]) (t := 89) (fr := (0, 0)) (heap_alloc_new w2 _)) (by simp [Value.oneCell']) (by omega) (by simp [maxLen]; omega) (by omega) (by omega) (w2.heap.size + 1) (by simp) ?_
    intro gg cap w4 own4 hgrow hat hlt4
    refine hK.out _ _ ?_ (fun hHeld => ?_)
    · trivial
    clear hK K
    simp only [Act.put, List.getElem_toArray, List.getElem_cons_succ, List.getElem_cons_zero, List.setIfInBounds_toArray, List.set_cons_zero, List.set_cons_succ]
    refine wpAnyH_take (i := 11) (v := ?_) rfl (by kernel_rfl) (by kernel_rfl) (by kernel_rfl) (fun _ _ _ h => h) (Or.inl ⟨by rfl, ?_⟩) (by assumption) ?_
    rotate_left
    · (intro w hSw; (try dsimp only at hSw); go_simp; (try with_reducible rfl))
    simp only [Act.put, List.getElem_toArray, List.getElem_cons_succ, List.getElem_cons_zero, List.setIfInBounds_toArray, List.set_cons_zero, List.set_cons_succ]
    refine wpAnyH_take (i := 12) (v := ?_) rfl (by kernel_rfl) (by kernel_rfl) (by kernel_rfl) (fun _ _ _ h => h) (Or.inl ⟨by rfl, ?_⟩) (by assumption) ?_
    rotate_left
    · (intro w hSw; (try dsimp only at hSw); go_simp; (try with_reducible rfl))
    simp only [Act.put, List.getElem_toArray, List.getElem_cons_succ, List.getElem_cons_zero, List.setIfInBounds_toArray, List.set_cons_zero, List.set_cons_succ]
    have b4 := H2.out.1.grown hgrow HX.out.2.2.2.2.2.1
    have c4 := b4.cell 1
    have f4' := b4.frozen 1
    simp only [List.getElem?_toArray, List.getElem?_cons_zero, List.getElem?_cons_succ] at c4
    refine wpAnyH_ready (rs := [13]) (by kernel_rfl) (by simp) ?_
    refine AllReadyH.cons rfl (fun K hK => ?_) AllReadyH.nil
    go_simp
    refine hK.out _ _ ?_ (fun hHeld => ?_)
    · trivial
    clear hK K
    refine wpAnyH_done (by kernel_rfl) ?_ _
    obtain ⟨w5, hw5⟩ : ∃ w5, w5 = w4.setCell ⟨g, 1, none⟩ (.slice (some ⟨gg, 0, none⟩) (s.wr.length + 1) cap) := ⟨_, rfl⟩
    rw [← hw5]
    have hs2 := H2.out.2.2.size
    have hgg : gg ≠ g := by
      rcases hat with h | h
      · rintro rfl; exact HX.out.2.2.2.2.2.1 h
      · omega
    have hs24 := hgrow.size
    have hs45 : w5.heap.size = w4.heap.size := by rw [hw5]; simp [World.setCell]
    have b5 : Blk w5 g 58 #[.slice A0 s.last.length k0, .slice (some ⟨gg, 0, none⟩) (s.wr.length + 1) cap] := by
      rw [hw5]; simpa using b4.put 1 (.slice (some ⟨gg, 0, none⟩) (s.wr.length + 1) cap)
    have own5 : w5.ownsRow 0 89 2 (.slice (some ⟨gg, 0, none⟩) (s.wr.length + 1) cap) (s.wr.length + 1) (Rows' (wrow s.wr wv) ++ [.int .i64 (k : Int), .slice A2 64 c2]) := by
      rw [hw5]; exact own_keep own4 fun q hq => by
        simp only [Value.ownBlock, Option.some.injEq] at hq
        subst hq
        exact Below.heap_setCell _ _ _ _ hgg
    have chg25 : Chg (fun q => q = g ∨ W.ownBlock = some q) w2 w5 := by
      rw [hw5]
      exact (((((Chg.refl Non w2).alloc _).mono fun _ _ h => h.elim).grown hgrow fun q hq _ => .inr hq).setCell (fun _ => .inl rfl) _)
    have chg5 : Chg (fun q => q = g ∨ W.ownBlock = some q) w w5 := (Chg.of_below H2.out.2.2).trans' chg25 fun _ _ h => h
    have hno5 : ∀ (v : World) q cur, (Blk v g 58 #[.slice A0 s.last.length k0, W]) → (v.ownsRow 0 89 2 W s.wr.length (Rows' (wrow s.wr wv))) → (q = g ∨ W.ownBlock = some q) → ¬ Blk v q 5 cur := by
      intro v q cur hv1 hv2 hq hb
      rcases hq with rfl | hq
      · exact hb.ne hv1 (by decide) rfl
      · obtain ⟨cu, hb2⟩ := own_blk hv2 q hq
        exact hb.ne hb2 (by decide) rfl
    have hvl : wv.length = s.wr.length := by have := HX.out.2.2.2.2.1.1; simpa using this
    have blk2' : Blk w2 g 58 #[.slice A0 s.last.length k0, W] := HX.out.1.below H2.out.2.2 lg
    have own2' : w2.ownsRow 0 89 2 W s.wr.length (Rows' (wrow s.wr wv)) := own_chg HX.out.2.2.2.1 (Chg.of_below (F := Non) H2.out.2.2) (fun _ _ h => h.elim)
    have hb64 : b.length = 64 := by have := HX.out.2.2.2.2.2.2.2; rwa [cells_len] at this
    have hnew : DataIn w5 (Ext G w w5) (.slice A2 64 c2) b := by
      have ow := HO.out.1
      refine ⟨?_, fun q hq => .inr ⟨(ow.lt q hq).1, by have := (ow.lt q hq).2; have := chg25.size; omega⟩⟩
      rw [hb64]
      exact own_base (own_chg ow chg25 fun q hq hf => by obtain ⟨cur, hb⟩ := own_blk ow q hq; exact hno5 w2 q cur blk2' own2' hf hb) (Nat.zero_le _)
    have hdone : RefAt w5 g (Ext G w w5) (s.write k b) := by
      refine ⟨_, _, lv, wv ++ [.slice A2 64 c2], b5, ?_, HX.out.2.2.1.chg chg5 (fun q cur hf => hno5 w q cur HX.out.1 HX.out.2.2.2.1 hf), ?_, ?_, .inl f1, fun q hq => .inl (f2 q hq), ?_, ?_, ?_⟩
      · refine own_chg HX.out.2.1 chg5 fun q hq hf => ?_
        obtain ⟨cur, hb⟩ := own_blk HX.out.2.1 q hq
        rcases hf with rfl | hf
        · exact hb.ne HX.out.1 (by decide) rfl
        · obtain ⟨cu, hb2⟩ := own_blk HX.out.2.2.2.1 q hf
          exact hb.ne hb2 (by decide) rfl
      · have e1 : (s.write k b).wr.length = s.wr.length + 1 := by simp [DS.write]
        have e2 : Rows' (wrow (s.write k b).wr (wv ++ [.slice A2 64 c2])) = Rows' (wrow s.wr wv) ++ [.int .i64 (k : Int), .slice A2 64 c2] := by
          show Rows' (wrow (s.wr ++ [(k, b)]) _) = _
          rw [wrow_snoc _ _ _ _ hvl, rows_append]; rfl
        rw [e1, e2]; exact own5
      · have e3 : (s.write k b).wr.map (·.2) = s.wr.map (·.2) ++ [b] := by simp [DS.write]
        rw [e3]
        exact (HX.out.2.2.2.2.1.chg chg5 (fun q cur hf => hno5 w q cur HX.out.1 HX.out.2.2.2.1 hf)).snoc hnew
      · intro q hq
        simp only [Value.ownBlock, Option.some.injEq] at hq
        subst hq
        rcases hat with h | h
        · exact .inl (f3 _ h)
        · exact .inr ⟨by omega, by omega⟩
      · intro q hq
        rcases hq with h | h
        · have := f4 q h; have := chg5.size; omega
        · exact h.2
      · have h6 := HX.out.2.2.2.2.2.2.1
        exact ⟨h6.pos, h6.le, h6.len, fun p hp => by
          rcases List.mem_append.1 hp with hp | hp
          · exact h6.wlen p hp
          · obtain rfl := List.mem_singleton.1 hp
            exact ⟨hk, hb64⟩, by simp [DS.write]; omega⟩
    have HF := Lib.hid (show RefRet g G (s.write k b) (.int .i64 0) w (.returned (.int .i64 0)) w5 from ⟨rfl, hdone, chg5.mono fun q _ hq => hq.elim (fun e => e ▸ f1) (f3 q)⟩)
    clear hdone hnew hno5 chg5 chg25 own5 b5 blk2' own2' hs24 hs2 hs45 hgg hw5 own4 hgrow hat hlt4 b4 c4 f4' H2 HO
    go_wp2
    go_ret
    exact HF.out

end Go.Proofs.Ytehghjakggdnpaa
