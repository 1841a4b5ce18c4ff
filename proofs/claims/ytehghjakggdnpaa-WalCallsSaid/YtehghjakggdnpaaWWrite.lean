/-
  The contract of Write once more: the cache's map stays the one it was.
-/
import Derived.Test.YtehghjakggdnpaaDkLive
namespace Go.Proofs.Ytehghjakggdnpaa
open Go.RowKit Go.Lib

set_option maxRecDepth 100000 in
set_option maxHeartbeats 3200000 in
theorem write_yesm {w : World} {g : Nat} {F : Nat → Prop} {s : DS} (h : DiskAt w g F s) (k : Nat) (hk : k < s.last.length) (A : Option Addr) (c : Nat) (b : List Int) (hr : Rd w w.heap.size A 64 (cells b)) (few : s.wr.length < 1000000) :
    Calls Try.prog 58 #[.pointer (some ⟨g, 0, none⟩), .int .i64 k, .slice A 64 c] w (fun e w' => WriteRet g F (s.write k b) w e w' ∧ w'.cell? ⟨g, 1, none⟩ = w.cell? ⟨g, 1, none⟩) := by
  have hle := h.ok.le
  have hcl : (cells b).length = 64 := hr.len
  have HC := Lib.hid hcl
  have HD := Lib.hid h
  have HRR := Lib.hid hr
  have hlt := h.lt
  clear hcl h hr
  go_enter Try.func58, Try.ntmps58
  go_wp2_with fail
  refine (has_yes HD.out (k : Int) (by omega) (by omega)).mono ?_
  rintro e w' ⟨rfl, rfl⟩
  have hbu : Try.prog.built 87 [(0, .int .i64 (k : Int))] = some (.int .i64 (k : Int) :: zeros64).toArray := by kernel_rfl
  have HBU := Lib.hid hbu
  have hz67 := zero67
  clear hbu
  go_wp2_with (first | refine wpList_build_one rfl 87 0 (.tmp 15) rfl _ rfl (.int .i64 (k : Int) :: zeros64) HBU.out ?_ | refine wpList_store_blk rfl 87 (.tmp 7) (.tmp 16) rfl w.heap.size 0 (.int .i64 k :: zeros64) rfl rfl (.int .i64 0 :: zeros64) 87 ?a1 ?a2 ?a3 ?a4 ?_)
  case a1 => exact Blk.new_at _ _ _ rfl
  case a2 => simp [zeros64_len]
  case a3 => exact Try.size87
  case a4 =>
    intro v hv
    rcases List.mem_cons.1 hv with rfl | hv
    · rfl
    · exact cells_one (List.replicate 64 0) v hv
  intro w1 hb1 hc1 hs1
  rw [splice_whole (show (Value.int .i64 (k : Int) :: zeros64).length = (Value.int .i64 0 :: zeros64).length from rfl)] at hb1
  have HB1 := Lib.hid hb1
  have HS1 := Lib.hid hs1
  clear hb1 hs1
  go_wp2_with (refine wpList_copy_chg rfl (.tmp 18) (.tmp 19) 38 38 rfl 5 Try.underlying38 Try.size5 _ _ _ _ _ _ rfl rfl w.heap.size 1 _ 87 HB1.out (cells b) ?b2 ?b3 ?b4 ?b5 ?_)
  case b2 => rw [HC.out]; rfl
  case b3 =>
    intro h0
    have h3 := (HRR.out.alloc (Nat.le_refl _) (.cells z67 87)).keep (w' := w1) fun p hp => hc1.cell (by simp; omega) (by omega)
    obtain ⟨ad, rfl, _, hcell⟩ := h3.2 (by omega)
    exact ⟨ad, rfl, hcell⟩
  case b4 => rw [HC.out, List.length_cons, zeros64_len]; omega
  case b5 => exact cells_one _
  intro w2 hb2 hc2 hs2
  have hcs : splice (Value.int .i64 (k : Int) :: zeros64) 1 (cells b) = wcell (k, b) := by
    unfold splice wcell
    rw [List.drop_eq_nil_of_le (by rw [HC.out, List.length_cons, zeros64_len]; omega)]
    simp
  rw [hcs] at hb2
  have hbel : Below w.heap.size w w2 := by
    have h1 := HS1.out
    have e1 := ((Below.refl w.heap.size w).alloc (Nat.le_refl _) _).trans (hc1.below (B := w.heap.size) (fun k hk => by omega) (by simp))
    exact e1.trans (hc2.below (B := w.heap.size) (fun k hk => by omega) (by omega))
  have hsz : w2.heap.size = w.heap.size + 1 := by rw [hs2]; exact HS1.out
  have hd := HD.out.below hbel
  clear HB1 HS1 hc1 hc2 hs2 hcs HRR
  obtain ⟨gl, gm, W, d1, d2, d3, d4, f1, f2, f3, f4, f5, f6⟩ := hd
  have c0 := d1.cell 0
  have c1 := d1.cell 1
  have c2 := d1.cell 2
  have fz := d1.frozen 2
  simp only [List.getElem?_toArray, List.getElem?_cons_zero, List.getElem?_cons_succ] at c0 c1 c2
  have HW1 := Lib.hid ((hbel.cell (p := ⟨g, 1, none⟩) hlt).symm.trans c1)
  have lg := d1.lt
  have hne : g ≠ w.heap.size := by omega
  have hWg : W.ownBlock ≠ some g := dkown_ne d4 d1 (by decide)
  have hWb : W.ownBlock ≠ some w.heap.size := by
    intro e
    have := f5 _ (f4 _ e)
    have := HD.out.foot _ (f4 _ e)
    omega
  obtain ⟨cs, hcs⟩ : ∃ cs, cs = wcell (k, b) := ⟨_, rfl⟩
  have hcl : cs.length = 65 := by rw [hcs, wcell, List.length_cons, HC.out]
  rw [← hcs] at hb2
  have hrg : w2.rangeAt w.heap.size 0 cs := fun j v hv => by rw [Nat.zero_add]; exact hb2.src j v hv
  have hu := Try.underlying87
  have hi : (Try.prog.info? 87).map (·.size) = some cs.length := by rw [hcl]; exact Try.size87
  have h1c : ∀ v ∈ cs, v.oneCell' = true := by
    rw [hcs]
    intro v hv
    rcases List.mem_cons.1 hv with rfl | hv
    · rfl
    · exact cells_one _ v hv
  obtain ⟨i0, hi0, hz0, hz1, hz2⟩ := info_parts Try.info87
  have HX := Lib.hid (And.intro d2 (And.intro d3 (And.intro hbel (And.intro hcs (show w.heap.size < w2.heap.size by omega)))))
  have HB2 := Lib.hid hb2
  have HI := Lib.hid (And.intro hi0 (And.intro hz0 (And.intro hz1 hz2)))
  have HO := Lib.hid d4
  have HL := Lib.hid hcl
  clear d2 d3 hbel hsz hcs hb2 hi0 hz0 hz1 hz2 d4 hcl
  go_wp2_with fail
  refine wp_region_held_drew (S := fun w' => w'.rangeAt w.heap.size 0 cs) (by kernel_rfl) hrg (fun hHeld => ?_)
  refine wpAnyH_take (i := 0) (v := ?_) rfl (by kernel_rfl) (by kernel_rfl) (by kernel_rfl) (fun _ _ _ h => h) (Or.inl ⟨by rfl, ?_⟩) (by assumption) ?_
  rotate_left
  · (intro w hSw; (try dsimp only at hSw); go_simp; (try with_reducible rfl))
  simp only [Act.put, List.getElem_toArray, List.getElem_cons_zero, List.setIfInBounds_toArray, List.set_cons_zero, List.set_cons_succ]
  refine wpAnyH_take (i := 1) (v := ?_) rfl (by kernel_rfl) (by kernel_rfl) (by kernel_rfl) (fun _ _ _ h => h) (Or.inl ⟨by rfl, ?_⟩) (by assumption) ?_
  rotate_left
  · (intro w hSw; (try dsimp only at hSw); go_simp; (try with_reducible rfl))
  simp only [Act.put, List.getElem_toArray, List.getElem_cons_succ, List.getElem_cons_zero, List.setIfInBounds_toArray, List.set_cons_zero, List.set_cons_succ]
  refine wpAnyH_take (i := 2) (v := ?_) rfl (by kernel_rfl) (by kernel_rfl) (by kernel_rfl) (fun _ _ _ h => h) (Or.inl ⟨by rfl, ?_⟩) (by assumption) ?_
  rotate_left
  · (intro w hSw; (try dsimp only at hSw); go_simp; (try with_reducible rfl))
  simp only [Act.put, List.getElem_toArray, List.getElem_cons_succ, List.getElem_cons_zero, List.setIfInBounds_toArray, List.set_cons_zero, List.set_cons_succ]
  refine wpAnyH_take (i := 3) (v := ?_) rfl (by kernel_rfl) (by kernel_rfl) (by kernel_rfl) (fun _ _ _ h => h) (Or.inl ⟨by rfl, ?_⟩) (by assumption) ?_
  rotate_left
  · (intro w hSw; (try dsimp only at hSw); go_simp; (try with_reducible rfl))
  simp only [Act.put, List.getElem_toArray, List.getElem_cons_succ, List.getElem_cons_zero, List.setIfInBounds_toArray, List.set_cons_zero, List.set_cons_succ]
  refine wpAnyH_take (i := 5) (v := _) rfl (by kernel_rfl) (by kernel_rfl) (by kernel_rfl) (fun _ _ _ h => h) (yieldsIf_load_mid (by rfl) 87 _ rfl w.heap.size 0 rfl cs _ (fun w' h => h) hu rfl hi) (by assumption) ?_
  simp only [Act.put, List.getElem_toArray, List.getElem_cons_succ, List.getElem_cons_zero, List.setIfInBounds_toArray, List.set_cons_zero, List.set_cons_succ]
  refine wpAnyH_ready (rs := [4, 6]) (by kernel_rfl) (by simp) ?_
  refine AllReadyH.cons rfl (fun K hK => ?wA) (AllReadyH.cons rfl (fun K hK => ?wB) AllReadyH.nil)
  case' wA =>
    go_simp
    refine hK.out _ _ hrg (fun hHeld => ?_)
    clear hK K
    refine wpAnyH_ready (rs := [6]) (by kernel_rfl) (by simp) ?_
    refine AllReadyH.cons rfl (fun K hK => ?_) AllReadyH.nil
    refine step_slice_one (by rfl) 81 87 (.tmp 26) (by rfl) Try.underlying81 i0 HI.out.1 _ HI.out.2.1 65 HI.out.2.2.1 (by rfl) (by omega) (by omega) cs (by rfl) HL.out ?_
    refine hK.out _ _ ?_ (fun hHeld => ?_)
    · exact fun j v hv => (World.cell?_alloc_lt w2.drew _ ⟨w.heap.size, 0 + j, none⟩ HX.out.2.2.2.2).trans (hrg j v hv)
    clear hK K hHeld
    simp only [Act.put, List.getElem_toArray, List.getElem_cons_succ, List.getElem_cons_zero, List.setIfInBounds_toArray, List.set_cons_zero, List.set_cons_succ]
    change wpAnyH _ _ _ _ _ _ _ _ ((w2.alloc (.cells cs.toArray 87)).drew)
    skip
  case' wB =>
    refine step_slice_one (by rfl) 81 87 (.tmp 26) (by rfl) Try.underlying81 i0 HI.out.1 _ HI.out.2.1 65 HI.out.2.2.1 (by rfl) (by omega) (by omega) cs (by rfl) HL.out ?_
    refine hK.out _ _ ?_ (fun hHeld => ?_)
    · exact fun j v hv => (World.cell?_alloc_lt w2.drew _ ⟨w.heap.size, 0 + j, none⟩ HX.out.2.2.2.2).trans (hrg j v hv)
    clear hK K hHeld
    simp only [Act.put, List.getElem_toArray, List.getElem_cons_succ, List.getElem_cons_zero, List.setIfInBounds_toArray, List.set_cons_zero, List.set_cons_succ]
    refine wpAnyH_ready (rs := [4]) (by kernel_rfl) (by simp) ?_
    refine AllReadyH.cons rfl (fun K hK => ?_) AllReadyH.nil
    go_simp
    refine hK.out _ _ ?_ (fun hHeld => ?_)
    · exact fun j v hv => (World.cell?_alloc_lt w2.drew _ ⟨w.heap.size, 0 + j, none⟩ HX.out.2.2.2.2).trans (hrg j v hv)
    clear hK K hHeld
    change wpAnyH _ _ _ _ _ _ _ _ ((w2.alloc (.cells cs.toArray 87)).drew)
    skip
  all_goals
    obtain ⟨w3, hw3⟩ : ∃ w3, w3 = (w2.alloc (.cells cs.toArray 87)).drew := ⟨_, rfl⟩
    rw [← hw3]
    have own3 : w3.ownsRow 0 87 65 W s.wr.length (Rows' (s.wr.map wcell)) := by rw [hw3]; exact HO.out.alloc _
    have blk3 : Blk w3 w2.heap.size 87 cs.toArray := by rw [hw3]; exact Blk.new w2 87 cs.toArray
    have chg3 : Chg Non w2 w3 := by rw [hw3]; exact ((Chg.refl Non w2).alloc _).drew
    have sz3 : w3.heap.size = w2.heap.size + 1 := by rw [hw3]; simp
    have rg3 : w3.rangeAt w.heap.size 0 cs := fun j v hv => (chg3.cell HX.out.2.2.2.2 id).trans (hrg j v hv)
    clear hw3 hrg
    refine wpAnyH_ready (rs := [7]) (by kernel_rfl) (by simp) ?_
    refine AllReadyH.cons rfl (fun K hK => ?_) AllReadyH.nil
    refine step_append_lies w3 (by rfl) (.tmp 25) (.tmp 27) 81 (by rfl) 0 87 i0 _ 65 72 Try.underlying81 HI.out.1 HI.out.2.1 HI.out.2.2.1 HI.out.2.2.2 (by rfl) (by omega) W s.wr.length _ (by rfl) own3
        ⟨w2.heap.size, 0, none⟩ 1 1 cs (by rfl) (by rw [HL.out]) (World.news_of_block blk3) h1c (by omega) (by simp [maxLen]; omega) (by omega) (by omega) (w2.heap.size + 1) sz3 ?_
    intro gg cap w4 own4 hgrow hat hlt4
    have rg4 : w4.rangeAt w.heap.size 0 cs := fun j v hv => (hgrow.cell_far _ (by have := HX.out.2.2.2.2; simp; omega) (Ne.symm hWb)).trans (rg3 j v hv)
    refine hK.out _ _ ?_ (fun hHeld => ?_)
    · exact rg4
    clear hK K
    simp only [Act.put, List.getElem_toArray, List.getElem_cons_succ, List.getElem_cons_zero, List.setIfInBounds_toArray, List.set_cons_zero, List.set_cons_succ]
    refine wpAnyH_take (i := 8) (v := ?_) rfl (by kernel_rfl) (by kernel_rfl) (by kernel_rfl) (fun _ _ _ h => h) (Or.inl ⟨by rfl, ?_⟩) (by assumption) ?_
    rotate_left
    · (intro w hSw; (try dsimp only at hSw); go_simp; (try with_reducible rfl))
    simp only [Act.put, List.getElem_toArray, List.getElem_cons_succ, List.getElem_cons_zero, List.setIfInBounds_toArray, List.set_cons_zero, List.set_cons_succ]
    refine wpAnyH_take (i := 9) (v := ?_) rfl (by kernel_rfl) (by kernel_rfl) (by kernel_rfl) (fun _ _ _ h => h) (Or.inl ⟨by rfl, ?_⟩) (by assumption) ?_
    rotate_left
    · (intro w hSw; (try dsimp only at hSw); go_simp; (try with_reducible rfl))
    simp only [Act.put, List.getElem_toArray, List.getElem_cons_succ, List.getElem_cons_zero, List.setIfInBounds_toArray, List.set_cons_zero, List.set_cons_succ]
    have b4 := (d1.chg chg3 id).grown hgrow hWg
    have c4 := b4.cell 2
    have f4' := b4.frozen 2
    simp only [List.getElem?_toArray, List.getElem?_cons_zero, List.getElem?_cons_succ] at c4
    refine wpAnyH_ready (rs := [10]) (by kernel_rfl) (by simp) ?_
    refine AllReadyH.cons rfl (fun K hK => ?_) AllReadyH.nil
    go_simp
    refine hK.out _ _ ?_ (fun hHeld => ?_)
    · exact fun j v hv => (World.cell?_setCell_other w4 ⟨g, 2, none⟩ ⟨w.heap.size, 0 + j, none⟩ _ (by intro e; injection e with e; exact hne e)).trans (rg4 j v hv)
    clear hK K
    refine wpAnyH_done (by kernel_rfl) ?_ _
    obtain ⟨w5, hw5⟩ : ∃ w5, w5 = w4.setCell ⟨g, 2, none⟩ (.slice (some ⟨gg, 0, none⟩) (s.wr.length + 1) cap) := ⟨_, rfl⟩
    have hgg : gg ≠ g := by
      rcases hat with h | h
      · rintro rfl; exact hWg h
      · omega
    have b5 : Blk w5 g 83 #[.slice (some ⟨gl, 0, none⟩) s.last.length s.last.length, .map (some gm), .slice (some ⟨gg, 0, none⟩) (s.wr.length + 1) cap] := by
      rw [hw5]; simpa using b4.put 2 (.slice (some ⟨gg, 0, none⟩) (s.wr.length + 1) cap)
    have own5 : w5.ownsRow 0 87 65 (.slice (some ⟨gg, 0, none⟩) (s.wr.length + 1) cap) (s.wr.length + 1) (Rows' (s.wr.map wcell) ++ cs) := by
      rw [hw5]; exact own_keep own4 fun k hk => by
        simp only [Value.ownBlock, Option.some.injEq] at hk
        subst hk
        exact Below.heap_setCell _ _ _ _ hgg
    have chg5 : Chg (fun k => k = g ∨ W.ownBlock = some k) w2 w5 := by
      rw [hw5]
      exact ((chg3.mono fun _ _ h => h.elim).grown hgrow fun k hk _ => .inr hk).setCell (fun _ => .inl rfl) _
    have hat5 : W.ownBlock = some gg ∨ w2.heap.size ≤ gg := hat.imp id fun h => by omega
    have hlt5 : gg < w5.heap.size := by rw [hw5]; simpa [World.setCell] using hlt4
    rw [← hw5]
    have hgm : gm ≠ g := HX.out.2.1.ne d1
    have im5 : IMap Try.prog 3 w5 gm s.wr.length (cached s) := HX.out.2.1.chg chg5 (fun h => h.elim hgm (own_ne_map HO.out HX.out.2.1))
    have gl5 : Blk w5 gl 85 (Rows' (s.last.map cells)).toArray := HX.out.1.chg chg5 (fun h => h.elim (HX.out.1.ne d1 (by decide)) (dkown_ne HO.out HX.out.1 (by decide)))
    have hw5' : Blk w5 w.heap.size 87 cs.toArray := HB2.out.chg chg5 (fun h => h.elim (Ne.symm hne) hWb)
    have rg5 : w5.rangeAt w.heap.size 1 (cells b) := fun j v hv => hw5'.src (1 + j) v (by rw [HX.out.2.2.2.1, wcell, Nat.add_comm, List.getElem?_cons_succ]; exact hv)
    have c5 := b5.cell 1
    simp only [List.getElem?_toArray, List.getElem?_cons_zero, List.getElem?_cons_succ] at c5
    have hi64 : (Try.prog.info? 85).map (·.size) = some (cells b).length := by rw [HC.out]; exact Try.size85
    have H5 := Lib.hid (And.intro b5 (And.intro own5 (And.intro chg5 (And.intro hat5 (And.intro hlt5 (And.intro im5 (And.intro gl5 (And.intro hgm (And.intro hgg hw5')))))))))
    clear hw5 own4 hgrow hat hlt4 b4 c4 f4' rg4 rg3 own3 blk3 chg3 sz3 hHeld b5 own5 chg5 hat5 hlt5 gl5 c0 c1 c2 fz d1 hu hi hw5' hz67
    go_wp2_with fail
    refine wp_region_held_drew (S := fun w' => w'.cell? ⟨g, 1, none⟩ = some (.map (some gm)) ∧ w'.rangeAt w.heap.size 1 (cells b)) (by kernel_rfl) ⟨c5, rg5⟩ (fun hHeld => ?_)
    refine wpAnyH_take (i := 0) (v := ?_) rfl (by kernel_rfl) (by kernel_rfl) (by kernel_rfl) (fun _ _ _ h => h) (Or.inl ⟨by rfl, ?_⟩) (by assumption) ?_
    rotate_left
    · (intro w hSw; (try dsimp only at hSw); go_simp; (try with_reducible rfl))
    simp only [Act.put, List.getElem_toArray, List.getElem_cons_zero, List.setIfInBounds_toArray, List.set_cons_zero, List.set_cons_succ]
    refine wpAnyH_take (i := 1) (v := ?_) rfl (by kernel_rfl) (by kernel_rfl) (by kernel_rfl) (fun _ _ _ h => h) (Or.inl ⟨by rfl, ?_⟩) (by assumption) ?_
    rotate_left
    · (intro w hSw; (try dsimp only at hSw); go_simp; (try with_reducible rfl))
    simp only [Act.put, List.getElem_toArray, List.getElem_cons_succ, List.getElem_cons_zero, List.setIfInBounds_toArray, List.set_cons_zero, List.set_cons_succ]
    refine wpAnyH_take (i := 2) (v := ?_) rfl (by kernel_rfl) (by kernel_rfl) (by kernel_rfl) (fun _ _ _ h => h) (Or.inl ⟨by rfl, ?_⟩) (by assumption) ?_
    rotate_left
    · (intro w hSw; (try dsimp only at hSw); go_simp; (try with_reducible rfl))
    simp only [Act.put, List.getElem_toArray, List.getElem_cons_succ, List.getElem_cons_zero, List.setIfInBounds_toArray, List.set_cons_zero, List.set_cons_succ]
    refine wpAnyH_take (i := 3) (v := ?_) rfl (by kernel_rfl) (by kernel_rfl) (by kernel_rfl) (fun _ _ _ h => h) (Or.inl ⟨by rfl, ?_⟩) (by assumption) ?_
    rotate_left
    · (intro w hSw; (try dsimp only at hSw); go_simp; (try with_reducible rfl))
    simp only [Act.put, List.getElem_toArray, List.getElem_cons_succ, List.getElem_cons_zero, List.setIfInBounds_toArray, List.set_cons_zero, List.set_cons_succ]
    refine wpAnyH_take (i := 4) (v := ?_) rfl (by kernel_rfl) (by kernel_rfl) (by kernel_rfl) (fun _ _ _ h => h) (Or.inl ⟨by rfl, ?_⟩) (by assumption) ?_
    rotate_left
    · (intro w hSw; (try dsimp only at hSw); go_simp; (try with_reducible rfl))
    simp only [Act.put, List.getElem_toArray, List.getElem_cons_succ, List.getElem_cons_zero, List.setIfInBounds_toArray, List.set_cons_zero, List.set_cons_succ]
    refine wpAnyH_take (i := 5) (v := ?_) rfl (by kernel_rfl) (by kernel_rfl) (by kernel_rfl) (fun _ _ _ h => h) (Or.inl ⟨by rfl, ?_⟩) (by assumption) ?_
    rotate_left
    · (intro w hSw; (try dsimp only at hSw); go_simp; (try with_reducible rfl))
    simp only [Act.put, List.getElem_toArray, List.getElem_cons_succ, List.getElem_cons_zero, List.setIfInBounds_toArray, List.set_cons_zero, List.set_cons_succ]
    refine wpAnyH_take (i := 6) (v := _) rfl (by kernel_rfl) (by kernel_rfl) (by kernel_rfl) (fun _ _ _ h => h) (yieldsIf_load_mid (by rfl) 85 _ rfl w.heap.size 1 rfl (cells b) _ (fun w' h => h.2) Try.underlying85 rfl hi64) (by assumption) ?_
    simp only [Act.put, List.getElem_toArray, List.getElem_cons_succ, List.getElem_cons_zero, List.setIfInBounds_toArray, List.set_cons_zero, List.set_cons_succ]
    refine wpAnyH_ready (rs := [7]) (by kernel_rfl) (by simp) ?_
    refine AllReadyH.cons rfl (fun K hK => ?_) AllReadyH.nil
    refine step_store_imap (by rfl) (.tmp 34) (.tmp 35) (.tmp 37) (by rfl) Try.underlying3 Try.underlying80 (by rfl) (show IMap Try.prog 3 w5.drew gm s.wr.length (cached s) from im5) (by simp [maxLen]; omega) (k : Int) (by rfl) (WalkArith.wf_i64 (by omega)) (.agg (cells b).toArray) (by rfl) ?_
    intro w6 im6 chg6 sz6
    refine hK.out _ _ ?_ (fun hHeld => ?_)
    · exact ⟨(chg6.cell (by have := H5.out.1.lt; exact this) (fun e => H5.out.2.2.2.2.2.2.2.1 e.symm)).trans c5, fun j v hv => (chg6.cell (World.block_lt_of_cell? w5 _ (rg5 j v hv)) (fun e => im5.ne H5.out.2.2.2.2.2.2.2.2.2 e.symm)).trans (rg5 j v hv)⟩
    clear hK K
    refine wpAnyH_done (by kernel_rfl) ?_ _
    obtain ⟨b5, own5, chg5, hat5, hlt5, im5, gl5, hgm, hgg, hw5'⟩ := H5.out
    have chg6' : Chg (fun k => k = gm) w5 w6 := ⟨chg6.os, chg6.tape, chg6.output, chg6.size, chg6.block⟩
    have hc2 : Chg F w w5 := (Chg.of_below HX.out.2.2.1).trans' chg5 (fun i _ h => h.elim (fun e => e ▸ f1) (f4 i))
    have hc3 : Chg F w w6 := hc2.trans' chg6' (fun i _ h => h ▸ f3)
    have hs26 := Nat.le_trans chg5.size chg6'.size
    have hs6 := chg6'.size
    have hs2 := HX.out.2.2.2.2
    have hdone : DiskAt w6 g (Ext F w w6) (s.write k b) := by
      refine ⟨gl, gm, .slice (some ⟨gg, 0, none⟩) (s.wr.length + 1) cap, ?_, gl5.chg chg6' (im5.ne gl5).symm, ?_, ?_, .inl f1, .inl f2, .inl f3, ?_, ?_, ?_⟩
      · exact b5.chg chg6' (Ne.symm hgm)
      · rw [← cached_write, show (s.write k b).wr.length = s.wr.length + 1 by simp [DS.write]]; exact im6
      · have e1 : (s.write k b).wr.length = s.wr.length + 1 := by simp [DS.write]
        have e2 : Rows' ((s.write k b).wr.map wcell) = Rows' (s.wr.map wcell) ++ cs := by
          rw [HX.out.2.2.2.1]; simp [DS.write, Rows']
        rw [e1, e2]
        exact own_chg own5 chg6' fun q hq e => own_ne_map own5 im5 (by rw [hq, e])
      · intro q hq
        simp only [Value.ownBlock, Option.some.injEq] at hq
        subst hq
        rcases hat5 with h | h
        · exact .inl (f4 _ h)
        · exact .inr ⟨by omega, by omega⟩
      · intro q hq
        rcases hq with h | h
        · have := f5 q h; omega
        · exact h.2
      · exact ⟨f6.pos, f6.le, f6.len, fun p hp => by
          rcases List.mem_append.1 hp with hp | hp
          · exact f6.wlen p hp
          · obtain rfl := List.mem_singleton.1 hp
            exact ⟨hk, by have := HC.out; rwa [cells_len] at this⟩, by simp [DS.write]; omega⟩
    have hcell : w6.cell? ⟨g, 1, none⟩ = w.cell? ⟨g, 1, none⟩ := by
      rw [HW1.out]
      exact (b5.chg chg6' (Ne.symm hgm)).cell 1
    have HF := Lib.hid (show WriteRet g F (s.write k b) w (.returned (.int .i64 0)) w6 ∧ w6.cell? ⟨g, 1, none⟩ = w.cell? ⟨g, 1, none⟩ from ⟨⟨rfl, hdone, hc3⟩, hcell⟩)
    clear hdone hc3 hc2 chg6' hs26 hs6 hs2 b5 own5 chg5 hat5 hlt5 im5 gl5 hgm hgg hw5' H5 chg6 sz6 im6
    simp only [Act.put, List.getElem_toArray, List.getElem_cons_succ, List.getElem_cons_zero]
    go_wp2
    go_ret
    exact HF.out


/-- the disk's blocks that are cells, and its map -/
def MinF (w : World) (F : Nat → Prop) (gm : Nat) (k : Nat) : Prop := F k ∧ (k = gm ∨ ∃ t cs, Blk w k t cs)
theorem DiskAt.min {w : World} {g gm : Nat} {F : Nat → Prop} {s : DS} (h : DiskAt w g F s) (hm : w.cell? ⟨g, 1, none⟩ = some (.map (some gm))) : DiskAt w g (MinF w F gm) s := by
  obtain ⟨gl, gm', W, h1, h2, h3, h4, f1, f2, f3, f4, f5, h6⟩ := h
  have e := (h1.cell 1).symm.trans hm
  simp only [List.getElem?_toArray, List.getElem?_cons_zero, List.getElem?_cons_succ, Option.some.injEq, Value.map.injEq] at e
  subst e
  exact ⟨gl, gm', W, h1, h2, h3, h4, ⟨f1, .inr ⟨_, _, h1⟩⟩, ⟨f2, .inr ⟨_, _, h2⟩⟩, ⟨f3, .inl rfl⟩, fun k hk => ⟨f4 k hk, .inr (by obtain ⟨cur, hc⟩ := own_blk h4 k hk; exact ⟨_, _, hc⟩)⟩, fun k hk => f5 k hk.1, h6⟩
theorem DiskAt.map {w : World} {g : Nat} {F : Nat → Prop} {s : DS} (h : DiskAt w g F s) : ∃ gm, w.cell? ⟨g, 1, none⟩ = some (.map (some gm)) ∧ gm < w.heap.size := by
  obtain ⟨gl, gm, W, h1, h2, h3, h4, f1, f2, f3, f4, f5, h6⟩ := h
  exact ⟨gm, h1.cell 1, h3.lt⟩
end Go.Proofs.Ytehghjakggdnpaa
