/-
  The contracts of a log's Flush, and of lead.
-/
import Derived.Test.YtehghjakggdnpaaWLog
import Derived.Test.YtehghjakggdnpaaWHead
namespace Go.Proofs.Ytehghjakggdnpaa
open Go.RowKit Go.Lib

/-- the disk's footprint, and the log's block -/
def FL (F : Nat → Prop) (l : Nat) (k : Nat) : Prop := F k ∨ k = l

section
variable {w : World} {g l : Nat} {F : Nat → Prop} {s : DS} {gen area used next : Int}

theorem DiskAt.drew (h : DiskAt w g F s) : DiskAt w.drew g F s := h
theorem DiskAt.drewN (h : DiskAt w g F s) (n : Nat) : DiskAt (w.drewN n) g F s := h
theorem LogAt.drew (h : LogAt w l g gen area used next) : LogAt w.drew l g gen area used next := h
theorem LogAt.drewN (h : LogAt w l g gen area used next) (n : Nat) : LogAt (w.drewN n) l g gen area used next := h
theorem LogAt.below {w' : World} (h : LogAt w l g gen area used next) (hb : Below w.heap.size w w') : LogAt w' l g gen area used next := Blk.below h hb h.lt
theorem LogAt.chg {w' : World} {G : Nat → Prop} (h : LogAt w l g gen area used next) (hc : Chg G w w') (hn : ¬ G l) : LogAt w' l g gen area used next := Blk.chg h hc hn

set_option maxRecDepth 100000 in
theorem wflush_any (h : DiskAt w g F s) (hl : LogAt w l g gen area used next) (hn : ¬ F l) :
    Calls Try.prog 18 #[.pointer (some ⟨l, 0, none⟩)] w fun e w' => e = .returned (.tuple #[]) ∧ DiskAt w' g (Ext F w w') s.flush ∧ LogAt w' l g gen area used next ∧ Chg F w w' := by
  obtain ⟨c0, c1, c2, c3, c4⟩ := hl.c
  have H := Lib.hid (And.intro h hl)
  clear h hl
  go_enter Try.func18, Try.ntmps18
  go_wp2_with fail
  refine (flush_any H.out.1).mono ?_
  rintro e w' ⟨rfl, h2, h3⟩
  have HE := Lib.hid (And.intro h2 (And.intro (Blk.chg H.out.2 h3 hn) h3))
  clear h2 h3
  go_wp2
  go_end0
  exact ⟨rfl, HE.out⟩

theorem write_at (h : DiskAt w g F s) (k : Int) (hk : 0 ≤ k ∧ k < s.last.length) (A : Option Addr) (c : Nat) (b : List Int) (hr : Rd w w.heap.size A 64 (cells b)) (few : s.wr.length < 1000000) :
    Calls Try.prog 58 #[.pointer (some ⟨g, 0, none⟩), .int .i64 k, .slice A 64 c] w (WriteRet g F (s.write k.toNat b) w) := by
  obtain ⟨n, rfl⟩ : ∃ n : Nat, k = n := ⟨k.toNat, by omega⟩
  exact write_yes h n (by omega) A c b hr few

theorem headB_len (gen area first : Int) : (headB gen area first).length = 64 := by
  unfold headB; rw [put4_len, List.length_set, stampL_len]; simp [zeros]
theorem Try.size91 : (Try.prog.info? 91).map (·.size) = some 3 := by kernel_rfl

set_option maxRecDepth 100000 in
set_option maxHeartbeats 1600000 in
theorem lead_any (h : DiskAt w g F s) (hl : LogAt w l g gen area used next) (hn : ¬ F l) (hg : 0 ≤ gen ∧ gen < 4294967290) (a first : Int) (ha : 0 ≤ a ∧ a < 256) (hf : 0 ≤ first ∧ first < 4294967296) (few : s.wr.length < 1000000) (h2 : 2 ≤ s.last.length) :
    Calls Try.prog 40 #[.pointer (some ⟨l, 0, none⟩), .int .i64 a, .int .i64 first] w fun e w' => e = .returned (.tuple #[]) ∧
      DiskAt w' g (Ext F w w') (s.write ((gen + 1) % 2).toNat (headB (gen + 1) a first)).flush ∧ LogAt w' l g (gen + 1) a used next ∧ Chg (FL F l) w w' := by
  obtain ⟨c0, c1, c2, c3, c4⟩ := hl.c
  have f1 := hl.frozen 1
  have f2 := hl.frozen 2
  have lw := hl.lt
  have H := Lib.hid (And.intro h hl)
  clear h hl
  go_enter Try.func40, Try.ntmps40
  go_wp2_with fail
  obtain ⟨w1, hw1⟩ : ∃ w1, w1 = ((w.setCell ⟨l, 1, none⟩ (.int .i64 (gen + 1))).setCell ⟨l, 2, none⟩ (.int .i64 a)).alloc (.cells #[.int .i64 (gen + 1), .int .i64 a, .int .i64 first] 91) := ⟨_, rfl⟩
  have sz0 : ((w.setCell ⟨l, 1, none⟩ (.int .i64 (gen + 1))).setCell ⟨l, 2, none⟩ (.int .i64 a)).heap.size = w.heap.size := by simp [World.setCell]
  have hc1 : Chg (fun k => k = l) w w1 := by rw [hw1]; exact (((Chg.refl (fun k => k = l) w).setCell (fun _ => rfl) _).setCell (fun _ => rfl) _).alloc _
  have b1 : LogAt w1 l g (gen + 1) a used next := by rw [hw1]; exact ((Blk.put (Blk.put H.out.2 1 (.int .i64 (gen + 1))) 2 (.int .i64 a))).alloc _
  have bh : Blk w1 w.heap.size 91 #[.int .i64 (gen + 1), .int .i64 a, .int .i64 first] := by rw [hw1]; exact Blk.new_at _ _ _ sz0.symm
  have d1 : DiskAt w1 g F s := H.out.1.chg hc1 fun k hk e => hn (e ▸ hk)
  have sz1 : w1.heap.size = w.heap.size + 1 := by rw [hw1]; simp [World.setCell]
  rw [← hw1]
  clear hw1 c0 c1 c2 c3 c4 f1 f2
  obtain ⟨c0, c1, c2, c3, c4⟩ := b1.c
  have e0 := bh.cell 0
  have e1 := bh.cell 1
  have e2 := bh.cell 2
  simp only [List.getElem?_toArray, List.getElem?_cons_zero, List.getElem?_cons_succ] at e0 e1 e2
  have H1 := Lib.hid (And.intro d1 (And.intro b1 (And.intro bh (And.intro hc1 sz1))))
  clear d1 b1 bh hc1 sz1 sz0
  have hrg : w1.rangeAt w.heap.size 0 [.int .i64 (gen + 1), .int .i64 a, .int .i64 first] := by
    intro j v hv
    rw [Nat.zero_add]
    exact H1.out.2.2.1.src j v hv
  have hu91 := Try.underlying91
  have hi91 := Try.size91
  clear e0 e1 e2
  refine wp_region_held_drew (S := fun w' => w'.cell? ⟨l, 0, none⟩ = some (.pointer (some ⟨g, 0, none⟩)) ∧ w'.cell? ⟨l, 1, none⟩ = some (.int .i64 (gen + 1)) ∧ w'.rangeAt w.heap.size 0 [.int .i64 (gen + 1), .int .i64 a, .int .i64 first]) (by kernel_rfl) ⟨c0, c1, hrg⟩ (fun hHeld => ?_)
  refine wpAnyH_take (i := 0) (v := ?_) rfl (by kernel_rfl) (by kernel_rfl) (by kernel_rfl) (fun _ _ _ h => h) (Or.inl ⟨by rfl, ?_⟩) (by assumption) ?_
  rotate_left
  · (intro w hSw; (try dsimp only at hSw); go_simp; (try with_reducible rfl))
  simp only [Act.put, List.getElem_toArray, List.getElem_cons_zero, List.setIfInBounds_toArray, List.set_cons_zero, List.set_cons_succ]
  refine wpAnyH_take (i := 1) (v := ?_) rfl (by kernel_rfl) (by kernel_rfl) (by kernel_rfl) (fun _ _ _ h => h) (Or.inl ⟨by rfl, ?_⟩) (by assumption) ?_
  rotate_left
  · (intro w hSw; (try dsimp only at hSw); go_simp; (try with_reducible rfl))
  simp only [Act.put, List.getElem_toArray, List.getElem_cons_succ, List.getElem_cons_zero, List.setIfInBounds_toArray, List.set_cons_zero, List.set_cons_succ]
  refine wpAnyH_take (i := 2) (v := ?_) rfl (by kernel_rfl) (by kernel_rfl) (by kernel_rfl) (fun _ _ _ h => h) (Or.inl ⟨by rfl, ?_⟩) (by assumption) ?_
  rotate_left
  · (intro w hSw; (try dsimp only at hSw); go_simp; (try with_reducible rfl))
  simp only [Act.put, List.getElem_toArray, List.getElem_cons_succ, List.getElem_cons_zero, List.setIfInBounds_toArray, List.set_cons_zero, List.set_cons_succ]
  refine wpAnyH_take (i := 3) (v := ?_) rfl (by kernel_rfl) (by kernel_rfl) (by kernel_rfl) (fun _ _ _ h => h) (Or.inl ⟨by rfl, ?_⟩) (by assumption) ?_
  rotate_left
  · (intro w hSw; (try dsimp only at hSw); go_simp; (try with_reducible rfl))
  simp only [Act.put, List.getElem_toArray, List.getElem_cons_succ, List.getElem_cons_zero, List.setIfInBounds_toArray, List.set_cons_zero, List.set_cons_succ]
  refine wpAnyH_take (i := 4) (v := ?_) rfl (by kernel_rfl) (by kernel_rfl) (by kernel_rfl) (fun _ _ _ h => h) (Or.inl ⟨by rfl, ?_⟩) (by assumption) ?_
  rotate_left
  · (intro w hSw; (try dsimp only at hSw); go_simp; (try with_reducible rfl))
  simp only [Act.put, List.getElem_toArray, List.getElem_cons_succ, List.getElem_cons_zero, List.setIfInBounds_toArray, List.set_cons_zero, List.set_cons_succ]
  refine wpAnyH_take (i := 5) (v := ?_) rfl (by kernel_rfl) (by kernel_rfl) (by kernel_rfl) (fun _ _ _ h => h) (Or.inl ⟨by rfl, ?_⟩) (by assumption) ?_
  rotate_left
  · (intro w hSw; (try dsimp only at hSw); go_simp; (try with_reducible rfl))
  simp only [Act.put, List.getElem_toArray, List.getElem_cons_succ, List.getElem_cons_zero, List.setIfInBounds_toArray, List.set_cons_zero, List.set_cons_succ]
  refine wpAnyH_take (i := 6) (v := ?_) rfl (by kernel_rfl) (by kernel_rfl) (by kernel_rfl) (fun _ _ _ h => h) (Or.inl ⟨by rfl, ?_⟩) (by assumption) ?_
  rotate_left
  · (intro w hSw; (try dsimp only at hSw); go_simp; (try with_reducible rfl))
  simp only [Act.put, List.getElem_toArray, List.getElem_cons_succ, List.getElem_cons_zero, List.setIfInBounds_toArray, List.set_cons_zero, List.set_cons_succ]
  refine wpAnyH_take (i := 7) (v := ?_) rfl (by kernel_rfl) (by kernel_rfl) (by kernel_rfl) (fun _ _ _ h => h) (Or.inl ⟨by rfl, ?_⟩) (by assumption) ?_
  rotate_left
  · (intro w hSw; (try dsimp only at hSw); go_simp; (try with_reducible rfl))
  simp only [Act.put, List.getElem_toArray, List.getElem_cons_succ, List.getElem_cons_zero, List.setIfInBounds_toArray, List.set_cons_zero, List.set_cons_succ]
  refine wpAnyH_take (i := 8) (v := ?_) rfl (by kernel_rfl) (by kernel_rfl) (by kernel_rfl) (fun _ _ _ h => h) (Or.inl ⟨by rfl, ?_⟩) (by assumption) ?_
  rotate_left
  · (intro w hSw; (try dsimp only at hSw); go_simp; (try with_reducible rfl))
  simp only [Act.put, List.getElem_toArray, List.getElem_cons_succ, List.getElem_cons_zero, List.setIfInBounds_toArray, List.set_cons_zero, List.set_cons_succ]
  refine wpAnyH_take (i := 9) (v := _) rfl (by kernel_rfl) (by kernel_rfl) (by kernel_rfl) (fun _ _ _ h => h) (yieldsIf_load_mid (by rfl) 91 _ rfl w.heap.size 0 rfl [.int .i64 (gen + 1), .int .i64 a, .int .i64 first] _ (fun w' h => h.2.2) hu91 rfl hi91) (by assumption) ?_
  simp only [Act.put, List.getElem_toArray, List.getElem_cons_succ, List.getElem_cons_zero, List.setIfInBounds_toArray, List.set_cons_zero, List.set_cons_succ]
  refine wpAnyH_ready (rs := [10]) (by kernel_rfl) (by simp) ?_
  refine AllReadyH.cons rfl (fun K hK => ?_) AllReadyH.nil
  go_simp
  refine (headBytes_any _ (gen + 1) a first (by omega) ha hf).mono ?_
  rintro e w2 ⟨q, rfl, hq, hqlt, hl2⟩
  have hsz2 : w.heap.size < w2.heap.size := by have h1 := hl2.size; have h2 : w1.drew.heap.size = w.heap.size + 1 := H1.out.2.2.2.2; omega
  have b2 := H1.out.2.1.drew.below hl2
  have bh2 := (Blk.drew H1.out.2.2.1).below hl2 H1.out.2.2.1.lt
  have H2 := Lib.hid (And.intro hq (And.intro (H1.out.1.drew.below hl2) (And.intro b2 (And.intro bh2 hl2))))
  have hrg2 : w2.rangeAt w.heap.size 0 [.int .i64 (gen + 1), .int .i64 a, .int .i64 first] := by
    intro j v hv
    rw [Nat.zero_add]
    exact bh2.src j v hv
  refine hK.out _ _ ?_ (fun hHeld => ?_)
  · exact ⟨b2.c.1, b2.c.2.1, hrg2⟩
  clear hK K hq hl2 hHeld hrg
  (try simp only [Act.put, List.getElem_toArray, List.getElem_cons_succ, List.getElem_cons_zero, List.setIfInBounds_toArray, List.set_cons_zero, List.set_cons_succ])
  refine wpAnyH_ready (rs := [11]) (by kernel_rfl) (by simp) ?_
  refine AllReadyH.cons rfl (fun K hK => ?_) AllReadyH.nil
  go_simp
  have htm : (gen + 1).tmod 2 = (gen + 1) % 2 := Int.tmod_eq_emod_of_nonneg (by omega)
  rw [htm]
  refine (write_at H2.out.2.1 ((gen + 1) % 2) (by omega) _ 64 (headB (gen + 1) a first) (Blk.rd H2.out.1 (by rw [cells_len, headB_len])) few).mono ?_
  rintro e w3 ⟨rfl, hd3, hc3⟩
  have b3 := b2.chg hc3 hn
  have hnw : ¬ F w.heap.size := fun e => by have := H.out.1.foot _ e; omega
  have bh3 := bh2.chg hc3 hnw
  refine hK.out _ _ ?_ (fun hHeld => ?_)
  · exact ⟨b3.c.1, b3.c.2.1, fun j v hv => by rw [Nat.zero_add]; exact bh3.src j v hv⟩
  clear hK K hHeld hrg2
  refine wpAnyH_done (by kernel_rfl) ?_ _
  (try simp only [Act.put, List.getElem_toArray, List.getElem_cons_succ, List.getElem_cons_zero, List.setIfInBounds_toArray, List.set_cons_zero, List.set_cons_succ])
  have hfew : Chg (FL F l) w w3 := by
    have e1 : Chg (FL F l) w w1 := H1.out.2.2.2.1.mono fun k _ e => .inr e
    have e2 : Chg (FL F l) w w2 := e1.trans' (Chg.of_below (F := Non) (w := w1) ⟨H2.out.2.2.2.2.os, H2.out.2.2.2.2.tape, H2.out.2.2.2.2.output, H2.out.2.2.2.2.size, H2.out.2.2.2.2.block⟩) (fun _ _ h => h.elim)
    exact e2.trans' hc3 (fun k _ h => .inl h)
  have H3 := Lib.hid (And.intro hd3 (And.intro b3 hfew))
  obtain ⟨c0, c1, c2, c3, c4⟩ := b3.c
  have hn3 : ¬ Ext F w2 w3 l := fun h => h.elim hn fun h => by omega
  clear hd3 hc3 b3 bh3 hfew b2 bh2
  go_wp2_with fail
  refine (flush_any H3.out.1).mono ?_
  rintro e w4 ⟨rfl, hd4, hc4⟩
  have b4 := H3.out.2.1.chg hc4 hn3
  have H4 := Lib.hid (And.intro hd4 (And.intro b4 hc4))
  clear hd4 b4 hc4
  go_wp2
  go_end0
  have s3 := H3.out.2.2.size
  refine ⟨rfl, ?_, H4.out.2.1, H3.out.2.2.trans' H4.out.2.2 fun k hk h => h.elim .inl fun h => by omega⟩
  exact H4.out.1.ext (fun k hk => hk.elim (fun hk => hk.elim .inl fun hk => .inr ⟨by omega, by have := H4.out.2.2.size; omega⟩) fun hk => .inr ⟨by omega, hk.2⟩) fun k hk => hk.elim (fun hf => by have := H.out.1.foot k hf; have := H4.out.2.2.size; omega) fun h => h.2
end
end Go.Proofs.Ytehghjakggdnpaa
