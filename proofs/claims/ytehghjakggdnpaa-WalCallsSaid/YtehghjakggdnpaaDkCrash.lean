/-
  The contracts of Crash and Flush.
-/
import Derived.Test.YtehghjakggdnpaaDkWrite
namespace Go.Proofs.Ytehghjakggdnpaa
open Go.RowKit Go.Lib

/-- nothing is handed back; the disk is s -/
def DoneRet (g : Nat) (F : Nat → Prop) (s : DS) (w : World) (e : Ending) (w' : World) : Prop :=
  e = .returned (.tuple #[]) ∧ DiskAt w' g (Ext F w w') s ∧ Chg F w w'

theorem one_wcell (p : Nat × List Int) : ∀ v ∈ wcell p, v.oneCell' = true := by
  intro v hv
  rcases List.mem_cons.1 hv with rfl | hv
  · rfl
  · exact cells_one _ v hv
theorem clamp_lo (n : Int) (m : Nat) : (if (m : Int) < (if (0 : Int) > n then 0 else n) then (m : Int) else (if (0 : Int) > n then 0 else n)) = ((clampN n m : Nat) : Int) := by
  unfold clampN
  rcases Int.lt_or_le n 0 with h | h
  · rw [if_pos (by omega : (0 : Int) > n), if_neg (by omega)]; omega
  · rw [if_neg (by omega : ¬ (0 : Int) > n)]
    by_cases h2 : (m : Int) < n
    · rw [if_pos h2]; omega
    · rw [if_neg h2]; omega
theorem clamp_le (n : Int) (m : Nat) : clampN n m ≤ m := by unfold clampN; omega

/-- what holds at the head of the loop: the first k writes lie -/
def CrRel (g gl gm : Nat) (W : Value) (F : Nat → Prop) (s : DS) (kk : Nat) (w : World) (i : Value) (wr : World) : Prop :=
  ∃ k : Nat, k ≤ kk ∧ i = .int .i64 k ∧ Blk wr g 83 #[.slice (some ⟨gl, 0, none⟩) s.last.length s.last.length, .map (some gm), W] ∧
    Blk wr gl 85 (Rows' ((lay s.last (s.wr.take k)).map cells)).toArray ∧ IMap Try.prog 3 wr gm s.wr.length (cached s) ∧ wr.ownsRow 0 87 65 W s.wr.length (Rows' (s.wr.map wcell)) ∧ Chg F w wr

theorem lay_ok {s : DS} (h : s.Ok) (k : Nat) : ∀ b ∈ lay s.last (s.wr.take k), b.length = 64 := lay_all h.len fun p hp => (h.wlen p (List.mem_of_mem_take hp)).2
theorem lay_next {s : DS} {k : Nat} (hk : k < s.wr.length) : lay s.last (s.wr.take (k + 1)) = (lay s.last (s.wr.take k)).set s.wr[k].1 s.wr[k].2 := by
  rw [List.take_succ_eq_append_getElem hk, lay_snoc]

theorem DiskAt.fresh {w w' : World} {g gl gm : Nat} {F : Nat → Prop} {L : List (List Int)} {n : Nat} (hb : Blk w' g 83 #[.slice (some ⟨gl, 0, none⟩) n n, .map (some gm), .slice none 0 0]) (hl : Blk w' gl 85 (Rows' (L.map cells)).toArray) (hm : IMap Try.prog 3 w' gm 0 (fun _ => none))
    (hn : L.length = n) (h1 : 1 ≤ n) (h2 : n ≤ 65536) (hL : ∀ b ∈ L, b.length = 64) (f1 : F g) (f2 : F gl) (f3 : F gm) (f5 : ∀ k, F k → k < w.heap.size) (hs : w.heap.size ≤ w'.heap.size) : DiskAt w' g (Ext F w w') ⟨L, []⟩ := by
  subst hn
  refine ⟨gl, gm, .slice none 0 0, hb, hl, ?_, World.ownsRow_nil _ _ _ _, .inl f1, .inl f2, .inl f3, fun k hk => (by cases hk), fun k hk => ?_, ⟨h1, h2, hL, fun p hp => (by simp at hp), by simp⟩⟩
  · have e : cached ⟨L, []⟩ = fun _ => none := by funext x; simp [cached, lastWr]
    rw [e]; exact hm
  · rcases hk with h | h
    · have := f5 k h; omega
    · exact h.2

theorem getD_lt {α : Type} {l : List α} {i : Nat} (h : i < l.length) (d : α) : l.getD i d = l[i] := by rw [List.getD_eq_getElem?_getD, List.getElem?_eq_getElem h]; rfl
theorem crash_at {s : DS} {keep torn : Int} {k : Nat} (hk : k = clampN keep s.wr.length) (h : k < s.wr.length) : s.crash keep torn = ⟨(lay s.last (s.wr.take k)).set s.wr[k].1 (tear ((lay s.last (s.wr.take k)).getD s.wr[k].1 []) s.wr[k].2 (clampN torn 64)), []⟩ := by
  unfold DS.crash
  simp only [← hk, List.getElem?_eq_getElem h]
theorem crash_all {s : DS} {keep torn : Int} {k : Nat} (hk : k = clampN keep s.wr.length) (h : ¬ k < s.wr.length) : s.crash keep torn = ⟨lay s.last (s.wr.take k), []⟩ := by
  unfold DS.crash
  simp only [← hk, List.getElem?_eq_none (Nat.le_of_not_lt h)]
theorem tear_len {old new : List Int} {t : Nat} (h1 : old.length = 64) (h2 : new.length = 64) (ht : t ≤ 64) : (tear old new t).length = 64 := by simp [tear]; omega
theorem cells_tear {old new : List Int} {t : Nat} (h2 : new.length = 64) (ht : t ≤ 64) : cells (tear old new t) = (cells new).take t ++ (cells old).drop ((cells new).take t).length := by
  rw [List.length_take, cells_len, h2, Nat.min_eq_left ht]
  simp [tear, cells]

theorem crash_end {w w2 w4 : World} {g gl gm : Nat} {F : Nat → Prop} {s t : DS} {W : Value} {L : List (List Int)} (q1 : Blk w2 g 83 #[.slice (some ⟨gl, 0, none⟩) s.last.length s.last.length, .map (some gm), W]) (q2 : Blk w2 gl 85 (Rows' (L.map cells)).toArray)
    (qch : Chg F w w2) (hL64 : ∀ b ∈ L, b.length = 64) (hLn : L.length = s.last.length) (hcr : t = ⟨L, []⟩) (hgm : gm ≠ g) (hgl : gm ≠ gl) (im4 : IMap Try.prog 3 w4 gm 0 (fun _ => none)) (ch4 : Chg (fun k => k = gm) (w2.setCell ⟨g, 2, none⟩ (.slice none 0 0)) w4)
    (f1 : F g) (f2 : F gl) (f3 : F gm) (f5 : ∀ k, F k → k < w.heap.size) (ok : s.Ok) : DoneRet g F t w (.returned (.tuple #[])) w4 := by
  have hc : Chg F w w4 := (qch.setCell (p := ⟨g, 2, none⟩) (fun _ => f1) _).trans' ch4 (fun i _ e => e ▸ f3)
  refine ⟨rfl, ?_, hc⟩
  rw [hcr]
  have p1 := (q1.put 2 (.slice none 0 0)).chg ch4 (Ne.symm hgm)
  have p2 := (q2.far (p := ⟨g, 2, none⟩) (q2.ne q1 (by decide)) (.slice none 0 0)).chg ch4 (Ne.symm hgl)
  exact DiskAt.fresh (by simpa using p1) p2 im4 hLn ok.pos ok.le hL64 f1 f2 f3 f5 hc.size

set_option maxRecDepth 100000 in
set_option maxHeartbeats 6400000 in
theorem crash_some {w : World} {g : Nat} {F : Nat → Prop} {s : DS} (h : DiskAt w g F s) (keep torn : Int) (hn : 0 < s.wr.length) :
    Calls Try.prog 24 #[.pointer (some ⟨g, 0, none⟩), .int .i64 keep, .int .i64 torn] w (DoneRet g F (s.crash keep torn) w) := by
  have HD := Lib.hid h
  obtain ⟨gl, gm, W, d1, d2, d3, d4, f1, f2, f3, f4, f5, f6⟩ := h
  obtain ⟨gw, cap, rfl, _, hgw⟩ := d4.form hn
  have c0 := d1.cell 0
  have c2 := d1.cell 2
  simp only [List.getElem?_toArray, List.getElem?_cons_zero, List.getElem?_cons_succ] at c0 c2
  obtain ⟨hcn, hcm⟩ : s.wr.length ≤ cap ∧ cap ≤ maxLen := by
    rcases d4.2 with ⟨hv, _⟩ | ⟨g', cap', cur, hv, _, _, h1, h2, _⟩
    · cases hv
    · cases hv; exact ⟨h1, h2⟩
  unfold maxLen at hcm
  have few := f6.wfew
  have hle := f6.le
  obtain ⟨kx, hkx⟩ : ∃ kx, kx = (if (0 : Int) > keep then 0 else keep) := ⟨_, rfl⟩
  obtain ⟨tx, htx⟩ : ∃ tx, tx = (if (0 : Int) > torn then 0 else torn) := ⟨_, rfl⟩
  obtain ⟨kk, hkk⟩ : ∃ kk, kk = clampN keep s.wr.length := ⟨_, rfl⟩
  obtain ⟨tt, htt⟩ : ∃ tt, tt = clampN torn 64 := ⟨_, rfl⟩
  have hk1 : (if (s.wr.length : Int) < kx then (s.wr.length : Int) else kx) = (kk : Int) := by rw [hkx, hkk]; exact clamp_lo keep s.wr.length
  have ht1 : (if (64 : Int) < tx then (64 : Int) else tx) = (tt : Int) := by rw [htx, htt]; exact clamp_lo torn 64
  have hkn : kk ≤ s.wr.length := by rw [hkk]; exact clamp_le _ _
  have htn : tt ≤ 64 := by rw [htt]; exact clamp_le _ _
  have hk2 : (0 : Int) ≤ (kk : Int) := Int.natCast_nonneg _
  have hk3 : (kk : Int) ≤ (cap : Int) := by omega
  have ht2 : (0 : Int) ≤ (tt : Int) := Int.natCast_nonneg _
  have ht3 : (tt : Int) ≤ 64 := by omega
  have HK := Lib.hid (And.intro hkx.symm (And.intro hk1 (And.intro htx.symm (And.intro ht1 (And.intro hkk htt)))))
  clear hkx hk1 htx ht1 hkk htt
  go_enter Try.func24, Try.ntmps24
  go_wp2_with (first
    | refine wpList_max_int rfl (.tmp 9) (.const (.int .i64 0)) 3 3 rfl _ _ _ rfl rfl HK.out.1 ?_
    | refine wpList_min_int rfl (.tmp 10) (.tmp 15) 3 3 rfl _ _ _ rfl rfl HK.out.2.1 ?_
    | refine wpList_max_int rfl (.tmp 17) (.const (.int .i64 0)) 3 3 rfl _ _ _ rfl rfl HK.out.2.2.1 ?_
    | refine wpList_min_int rfl (.tmp 18) (.const (.int .i64 64)) 3 3 rfl _ _ _ rfl rfl HK.out.2.2.2.1 ?_)
  go_loopw [27] (fun i wr => CrRel g gl gm (.slice (some ⟨gw, 0, none⟩) s.wr.length cap) F s kk w i wr) (fun i _ => kk - (intOf i).toNat)
  case atStart => exact ⟨0, by omega, rfl, d1, by simpa [lay] using d2, d3, d4, Chg.refl _ _⟩
  case round =>
    obtain ⟨k, hk, rfl, b1, b2, b3, b4, hch⟩ := hrel
    clear c0 c2
    have c0 := b1.cell 0
    have c2 := b1.cell 2
    simp only [List.getElem?_toArray, List.getElem?_cons_zero, List.getElem?_cons_succ] at c0 c2
    by_cases hlt : k < kk
    · obtain ⟨p, hp⟩ : ∃ p, p = s.wr[k]'(by omega) := ⟨_, rfl⟩
      have hpw := f6.wlen p (by rw [hp]; exact List.getElem_mem _)
      obtain ⟨cs, hcs⟩ : ∃ cs, cs = wcell p := ⟨_, rfl⟩
      have hcl : cs.length = 65 := by rw [hcs, wcell, List.length_cons, cells_len, hpw.2]
      have hcl2 : (cells p.2).length = 64 := by rw [cells_len, hpw.2]
      have hrg : wr.rangeAt gw (k * 65) cs := by
        have h1 := own_range b4 (wcells_all _ fun q hq => (f6.wlen q hq).2) (i := k) (by simp; omega)
        simp only [List.getElem_map, ← hp] at h1
        rw [hcs]; exact h1
      have hk0 : (0 : Int) ≤ (k : Int) := Int.natCast_nonneg _
      have hk1 : (k : Int) < (kk : Int) := by omega
      have hq0 : (0 : Int) ≤ (p.1 : Int) := Int.natCast_nonneg _
      have hq1 : (p.1 : Int) < (s.last.length : Int) := by omega
      have hz67 := zero67
      have HRG := Lib.hid hrg
      have H67 := Lib.hid (show (Try.prog.info? 87).map (·.size) = some cs.length by rw [hcl]; exact Try.size87)
      have H64 := Lib.hid (show (Try.prog.info? 85).map (·.size) = some (cells p.2).length by rw [hcl2]; exact Try.size85)
      have HX := Lib.hid (And.intro hp (And.intro hcs (And.intro hcl (And.intro hcl2 hpw))))
      have HB := Lib.hid (And.intro b1 (And.intro b2 (And.intro b3 (And.intro b4 hch))))
      have hlg := b1.lt
      clear hrg hp hcs hcl hcl2 hpw b1 b2 b3 b4 hch d1 d2 d3 d4 c2
      go_wp2_with (first
        | refine wpList_load_mid rfl 87 (.tmp 29) rfl gw (k * 65) rfl cs _ HRG.out Try.underlying87 rfl H67.out ?_
        | refine wpList_store_blk rfl 87 (.tmp 7) (.tmp 30) rfl wr.heap.size 0 cs rfl rfl (.int .i64 0 :: zeros64) 87 ?a1 ?a2 ?a3 ?a4 ?_)
      case a1 => exact Blk.new_at _ _ _ rfl
      case a2 => rw [HX.out.2.2.1, List.length_cons, zeros64_len]; omega
      case a3 => exact H67.out
      case a4 => rw [HX.out.2.1]; exact one_wcell p
      intro w1 hb1 hc1 hs1
      rw [splice_whole (by rw [HX.out.2.2.1, List.length_cons, zeros64_len])] at hb1
      have hs1' : w1.heap.size = wr.heap.size + 1 := by rw [hs1]
      have chg1 : Chg Non wr w1 := ((Chg.refl Non wr).alloc _).trans' hc1 (fun i hi e => by omega)
      obtain ⟨b1, b2, b3, b4, hch⟩ := HB.out
      have e1 := b1.chg chg1 id
      have e2 := b2.chg chg1 id
      have e3 := b3.chg chg1 id
      have e4 := own_chg b4 chg1 fun _ _ h => h.elim
      have ech : Chg F w w1 := hch.trans' chg1 fun _ _ h => h.elim
      have g0 := e1.cell 0
      simp only [List.getElem?_toArray, List.getElem?_cons_zero] at g0
      have r0 : w1.cell? ⟨wr.heap.size, 0, none⟩ = some (.int .i64 p.1) := hb1.src 0 _ (by rw [HX.out.2.1]; rfl)
      have r1 : w1.rangeAt wr.heap.size 1 (cells p.2) := fun j v hv => hb1.src (1 + j) v (by rw [HX.out.2.1, wcell, Nat.add_comm, List.getElem?_cons_succ]; exact hv)
      have hne1 : gl ≠ g := e2.ne e1 (by decide)
      have hne2 : gl ≠ wr.heap.size := by have := b2.lt; omega
      have hfit : p.1 * 64 + (cells p.2).length ≤ (Rows' ((lay s.last (s.wr.take k)).map cells)).length := by
        rw [rows_len (cells_all _ (lay_ok f6 k)), List.length_map, lay_len, HX.out.2.2.2.1]
        have := HX.out.2.2.2.2.1
        omega
      have H1 := Lib.hid (And.intro e1 (And.intro e2 (And.intro e3 (And.intro e4 (And.intro ech (And.intro hfit (And.intro hne1 hne2)))))))
      clear hb1 hc1 hs1 chg1 b1 b2 b3 b4 hch HB e1 e2 e3 e4 ech c0 hz67 hfit hne1 hne2 HRG
      go_wp2_with fail
      refine wp_region_held_drew (S := fun w' => w'.cell? ⟨g, 0, none⟩ = some (.slice (some ⟨gl, 0, none⟩) s.last.length s.last.length) ∧ w'.cell? ⟨wr.heap.size, 0, none⟩ = some (.int .i64 p.1) ∧ w'.rangeAt wr.heap.size 1 (cells p.2)) (by kernel_rfl) ⟨g0, r0, r1⟩ (fun hHeld => ?_)
      refine wpAnyH_take (i := 0) (v := ?_) rfl (by kernel_rfl) (by kernel_rfl) (by kernel_rfl) (fun _ _ _ h => h) (Or.inl ⟨by rfl, ?_⟩) (by assumption) ?_
      rotate_left
      · (intro w hSw; (try dsimp only at hSw); go_simp; (try with_reducible rfl))
      simp only [Act.put, List.getElem_toArray, List.getElem_cons_zero, List.setIfInBounds_toArray, List.set_cons_zero, List.set_cons_succ]
      refine wpAnyH_take (i := 1) (v := ?_) rfl (by kernel_rfl) (by kernel_rfl) (by kernel_rfl) (fun _ _ _ h => h) (Or.inl ⟨by rfl, ?_⟩) (by assumption) ?_
      rotate_left
      · (intro w hSw; (try dsimp only at hSw); go_simp; (try with_reducible rfl))
      simp only [Act.put, List.getElem_toArray, List.getElem_cons_succ, List.getElem_cons_zero, List.setIfInBounds_toArray, List.set_cons_zero, List.set_cons_succ]
      refine wpAnyH_take (i := 2) (v := ?_) rfl (by kernel_rfl) (by kernel_rfl) (by kernel_rfl) (fun _ _ _ h => h) (Or.inl ⟨by rfl, ?_⟩) (by assumption) ?_
      rotate_left
      · (intro w hSw; (try dsimp only at hSw); go_simp; (try with_reducible rfl))
      simp only [Act.put, List.getElem_toArray, List.getElem_cons_succ, List.getElem_cons_zero, List.setIfInBounds_toArray, List.set_cons_zero, List.set_cons_succ]
      refine wpAnyH_take (i := 3) (v := ?_) rfl (by kernel_rfl) (by kernel_rfl) (by kernel_rfl) (fun _ _ _ h => h) (Or.inl ⟨by rfl, ?_⟩) (by assumption) ?_
      rotate_left
      · (intro w hSw; (try dsimp only at hSw); go_simp; (try with_reducible rfl))
      simp only [Act.put, List.getElem_toArray, List.getElem_cons_succ, List.getElem_cons_zero, List.setIfInBounds_toArray, List.set_cons_zero, List.set_cons_succ]
      refine wpAnyH_take (i := 4) (v := ?_) rfl (by kernel_rfl) (by kernel_rfl) (by kernel_rfl) (fun _ _ _ h => h) (Or.inl ⟨by rfl, ?_⟩) (by assumption) ?_
      rotate_left
      · (intro w hSw; (try dsimp only at hSw); go_simp; (try with_reducible rfl))
      simp only [Act.put, List.getElem_toArray, List.getElem_cons_succ, List.getElem_cons_zero, List.setIfInBounds_toArray, List.set_cons_zero, List.set_cons_succ]
      refine wpAnyH_take (i := 5) (v := ?_) rfl (by kernel_rfl) (by kernel_rfl) (by kernel_rfl) (fun _ _ _ h => h) (Or.inl ⟨by rfl, ?_⟩) (by assumption) ?_
      rotate_left
      · (intro w hSw; (try dsimp only at hSw); go_simp; (try with_reducible rfl))
      simp only [Act.put, List.getElem_toArray, List.getElem_cons_succ, List.getElem_cons_zero, List.setIfInBounds_toArray, List.set_cons_zero, List.set_cons_succ]
      refine wpAnyH_take (i := 6) (v := ?_) rfl (by kernel_rfl) (by kernel_rfl) (by kernel_rfl) (fun _ _ _ h => h) (Or.inl ⟨by rfl, ?_⟩) (by assumption) ?_
      rotate_left
      · (intro w hSw; (try dsimp only at hSw); go_simp; (try with_reducible rfl))
      simp only [Act.put, List.getElem_toArray, List.getElem_cons_succ, List.getElem_cons_zero, List.setIfInBounds_toArray, List.set_cons_zero, List.set_cons_succ]
      refine wpAnyH_take (i := 7) (v := _) rfl (by kernel_rfl) (by kernel_rfl) (by kernel_rfl) (fun _ _ _ h => h) (yieldsIf_load_mid (by rfl) 85 _ rfl wr.heap.size 1 rfl (cells p.2) _ (fun w' h => h.2.2) Try.underlying85 rfl H64.out) (by assumption) ?_
      simp only [Act.put, List.getElem_toArray, List.getElem_cons_succ, List.getElem_cons_zero, List.setIfInBounds_toArray, List.set_cons_zero, List.set_cons_succ]
      refine wpAnyH_take (i := 8) (v := ?_) rfl (by kernel_rfl) (by kernel_rfl) (by kernel_rfl) (fun _ _ _ h => h) (Or.inl ⟨by rfl, ?_⟩) (by assumption) ?_
      rotate_left
      · (intro w hSw; (try dsimp only at hSw); go_simp; (try with_reducible rfl))
      simp only [Act.put, List.getElem_toArray, List.getElem_cons_succ, List.getElem_cons_zero, List.setIfInBounds_toArray, List.set_cons_zero, List.set_cons_succ]
      refine wpAnyH_ready (rs := [9]) (by kernel_rfl) (by simp) ?_
      refine AllReadyH.cons rfl (fun K hK => ?_) AllReadyH.nil
      refine step_store_blk (by rfl) 85 (.tmp 39) (.tmp 38) (by rfl) gl (p.1 * 64) (cells p.2) (by rfl) (by rfl) _ 85 (show Blk w1.drew gl 85 _ from H1.out.2.1) H1.out.2.2.2.2.2.1 H64.out (cells_one _) ?_
      intro w2 hb2 hc2' hs2
      have hc2 : Chg (fun k => k = gl) w1 w2 := ⟨hc2'.os, hc2'.tape, hc2'.output, hc2'.size, hc2'.block⟩
      refine hK.out _ _ ?_ (fun hHeld => ?_)
      · exact ⟨(hc2.cell (World.block_lt_of_cell? _ _ g0) (fun e => H1.out.2.2.2.2.2.2.1 e.symm)).trans g0, (hc2.cell (World.block_lt_of_cell? _ _ r0) (fun e => H1.out.2.2.2.2.2.2.2 e.symm)).trans r0,
          fun j v hv => (hc2.cell (World.block_lt_of_cell? _ _ (r1 j v hv)) (fun e => H1.out.2.2.2.2.2.2.2 e.symm)).trans (r1 j v hv)⟩
      clear hK K
      refine wpAnyH_done (by kernel_rfl) ?_ _
      have HF : Hid (CrRel g gl gm (.slice (some ⟨gw, 0, none⟩) s.wr.length cap) F s kk w (.int .i64 ((k : Int) + 1)) w2) := by
        refine Lib.hid ⟨k + 1, by omega, by go_num, H1.out.1.chg hc2 (fun e => H1.out.2.2.2.2.2.2.1 e.symm), ?_, H1.out.2.2.1.chg hc2 (H1.out.2.2.1.ne H1.out.2.1), own_chg H1.out.2.2.2.1 hc2 (fun q hq e => dkown_ne H1.out.2.2.2.1 H1.out.2.1 (by decide) (by rw [hq, e])), H1.out.2.2.2.2.1.trans' hc2 fun i _ e => e ▸ f2⟩
        rw [lay_next (by omega), ← HX.out.1, List.map_set, ← rows_set (cells_all _ (lay_ok f6 k)) (by rw [List.length_map, lay_len]; exact HX.out.2.2.2.2.1) HX.out.2.2.2.1]
        exact hb2
      clear hb2 hc2 hc2' hs2 g0 r0 r1 H1 hHeld
      simp only [Act.put, List.getElem_toArray, List.getElem_cons_succ, List.getElem_cons_zero]
      go_wp2
      go_roundw
      case rel => exact HF.out
      case measure => simp [intOf]; omega
    · obtain rfl : k = kk := by omega
      by_cases hlast : k < s.wr.length
      · obtain ⟨p, hp⟩ : ∃ p, p = s.wr[k]'hlast := ⟨_, rfl⟩
        have hpw := f6.wlen p (by rw [hp]; exact List.getElem_mem _)
        obtain ⟨cs, hcs⟩ : ∃ cs, cs = wcell p := ⟨_, rfl⟩
        have hcl : cs.length = 65 := by rw [hcs, wcell, List.length_cons, cells_len, hpw.2]
        have hcl2 : (cells p.2).length = 64 := by rw [cells_len, hpw.2]
        have hrg : wr.rangeAt gw (k * 65) cs := by
          have h1 := own_range b4 (wcells_all _ fun q hq => (f6.wlen q hq).2) (i := k) (by simp; omega)
          simp only [List.getElem_map, ← hp] at h1
          rw [hcs]; exact h1
        have hk0 : (0 : Int) ≤ (k : Int) := Int.natCast_nonneg _
        have hk1 : (k : Int) < (s.wr.length : Int) := by omega
        have hq0 : (0 : Int) ≤ (p.1 : Int) := Int.natCast_nonneg _
        have hq1 : (p.1 : Int) < (s.last.length : Int) := by omega
        have hz67 := zero67
        have HRG := Lib.hid hrg
        have H67 := Lib.hid (show (Try.prog.info? 87).map (·.size) = some cs.length by rw [hcl]; exact Try.size87)
        have HX := Lib.hid (And.intro hp (And.intro hcs (And.intro hcl (And.intro hcl2 hpw))))
        have HB := Lib.hid (And.intro b1 (And.intro b2 (And.intro b3 (And.intro b4 hch))))
        have hlg := b1.lt
        clear hrg hp hcs hcl hcl2 hpw b1 b2 b3 b4 hch d1 d2 d3 d4
        go_wp2_with (first
          | refine wpList_load_mid rfl 87 (.tmp 53) rfl gw (k * 65) rfl cs _ HRG.out Try.underlying87 rfl H67.out ?_
          | refine wpList_store_blk rfl 87 (.tmp 8) (.tmp 54) rfl wr.heap.size 0 cs rfl rfl (.int .i64 0 :: zeros64) 87 ?n1 ?n2 ?n3 ?n4 ?_)
        case n1 => exact Blk.new_at _ _ _ rfl
        case n2 => rw [HX.out.2.2.1, List.length_cons, zeros64_len]; omega
        case n3 => exact H67.out
        case n4 => rw [HX.out.2.1]; exact one_wcell p
        intro w1 hb1 hc1 hs1
        rw [splice_whole (by rw [HX.out.2.2.1, List.length_cons, zeros64_len])] at hb1
        have hs1' : w1.heap.size = wr.heap.size + 1 := by rw [hs1]
        have chg1 : Chg Non wr w1 := ((Chg.refl Non wr).alloc _).trans' hc1 (fun i hi e => by omega)
        obtain ⟨b1, b2, b3, b4, hch⟩ := HB.out
        have e1 := b1.chg chg1 id
        have e2 := b2.chg chg1 id
        have e3 := b3.chg chg1 id
        have ech : Chg F w w1 := hch.trans' chg1 fun _ _ h => h.elim
        have g0 := e1.cell 0
        simp only [List.getElem?_toArray, List.getElem?_cons_zero] at g0
        have r0 : w1.cell? ⟨wr.heap.size, 0, none⟩ = some (.int .i64 p.1) := hb1.src 0 _ (by rw [HX.out.2.1]; rfl)
        have r1 : w1.rangeAt wr.heap.size 1 (cells p.2) := fun j v hv => hb1.src (1 + j) v (by rw [HX.out.2.1, wcell, Nat.add_comm, List.getElem?_cons_succ]; exact hv)
        have hne1 : gl ≠ g := e2.ne e1 (by decide)
        have hne2 : gl ≠ wr.heap.size := by have := b2.lt; omega
        have htk : ((cells p.2).take tt).length = tt := by rw [List.length_take, HX.out.2.2.2.1]; omega
        have hfit : p.1 * 64 + ((cells p.2).take tt).length ≤ (Rows' ((lay s.last (s.wr.take k)).map cells)).length := by
          rw [rows_len (cells_all _ (lay_ok f6 k)), List.length_map, lay_len, htk]
          have := HX.out.2.2.2.2.1
          omega
        have H1 := Lib.hid (And.intro e1 (And.intro e2 (And.intro e3 (And.intro htk (And.intro ech (And.intro hfit (And.intro hne1 hne2)))))))
        clear hb1 hc1 hs1 chg1 b1 b2 b3 b4 hch HB e1 e2 e3 ech c0 c2 hz67 hfit hne1 hne2 htk HRG
        go_wp2_with fail
        refine wp_region_held_drew (S := fun w' => w'.cell? ⟨g, 0, none⟩ = some (.slice (some ⟨gl, 0, none⟩) s.last.length s.last.length) ∧ w'.cell? ⟨wr.heap.size, 0, none⟩ = some (.int .i64 p.1)) (by kernel_rfl) ⟨g0, r0⟩ (fun hHeld => ?_)
        refine wpAnyH_take (i := 0) (v := ?_) rfl (by kernel_rfl) (by kernel_rfl) (by kernel_rfl) (fun _ _ _ h => h) (Or.inl ⟨by rfl, ?_⟩) (by assumption) ?_
        rotate_left
        · (intro w hSw; (try dsimp only at hSw); go_simp; (try with_reducible rfl))
        simp only [Act.put, List.getElem_toArray, List.getElem_cons_zero, List.setIfInBounds_toArray, List.set_cons_zero, List.set_cons_succ]
        refine wpAnyH_take (i := 1) (v := ?_) rfl (by kernel_rfl) (by kernel_rfl) (by kernel_rfl) (fun _ _ _ h => h) (Or.inl ⟨by rfl, ?_⟩) (by assumption) ?_
        rotate_left
        · (intro w hSw; (try dsimp only at hSw); go_simp; (try with_reducible rfl))
        simp only [Act.put, List.getElem_toArray, List.getElem_cons_succ, List.getElem_cons_zero, List.setIfInBounds_toArray, List.set_cons_zero, List.set_cons_succ]
        refine wpAnyH_take (i := 2) (v := ?_) rfl (by kernel_rfl) (by kernel_rfl) (by kernel_rfl) (fun _ _ _ h => h) (Or.inl ⟨by rfl, ?_⟩) (by assumption) ?_
        rotate_left
        · (intro w hSw; (try dsimp only at hSw); go_simp; (try with_reducible rfl))
        simp only [Act.put, List.getElem_toArray, List.getElem_cons_succ, List.getElem_cons_zero, List.setIfInBounds_toArray, List.set_cons_zero, List.set_cons_succ]
        refine wpAnyH_take (i := 3) (v := ?_) rfl (by kernel_rfl) (by kernel_rfl) (by kernel_rfl) (fun _ _ _ h => h) (Or.inl ⟨by rfl, ?_⟩) (by assumption) ?_
        rotate_left
        · (intro w hSw; (try dsimp only at hSw); go_simp; (try with_reducible rfl))
        simp only [Act.put, List.getElem_toArray, List.getElem_cons_succ, List.getElem_cons_zero, List.setIfInBounds_toArray, List.set_cons_zero, List.set_cons_succ]
        refine wpAnyH_take (i := 4) (v := ?_) rfl (by kernel_rfl) (by kernel_rfl) (by kernel_rfl) (fun _ _ _ h => h) (Or.inl ⟨by rfl, ?_⟩) (by assumption) ?_
        rotate_left
        · (intro w hSw; (try dsimp only at hSw); go_simp; (try with_reducible rfl))
        simp only [Act.put, List.getElem_toArray, List.getElem_cons_succ, List.getElem_cons_zero, List.setIfInBounds_toArray, List.set_cons_zero, List.set_cons_succ]
        refine wpAnyH_take (i := 5) (v := ?_) rfl (by kernel_rfl) (by kernel_rfl) (by kernel_rfl) (fun _ _ _ h => h) (Or.inl ⟨by rfl, ?_⟩) (by assumption) ?_
        rotate_left
        · (intro w hSw; (try dsimp only at hSw); go_simp; (try with_reducible rfl))
        simp only [Act.put, List.getElem_toArray, List.getElem_cons_succ, List.getElem_cons_zero, List.setIfInBounds_toArray, List.set_cons_zero, List.set_cons_succ]
        refine wpAnyH_take (i := 6) (v := ?_) rfl (by kernel_rfl) (by kernel_rfl) (by kernel_rfl) (fun _ _ _ h => h) (Or.inl ⟨by rfl, ?_⟩) (by assumption) ?_
        rotate_left
        · (intro w hSw; (try dsimp only at hSw); go_simp; (try with_reducible rfl))
        simp only [Act.put, List.getElem_toArray, List.getElem_cons_succ, List.getElem_cons_zero, List.setIfInBounds_toArray, List.set_cons_zero, List.set_cons_succ]
        refine wpAnyH_take (i := 7) (v := ?_) rfl (by kernel_rfl) (by kernel_rfl) (by kernel_rfl) (fun _ _ _ h => h) (Or.inl ⟨by rfl, ?_⟩) (by assumption) ?_
        rotate_left
        · (intro w hSw; (try dsimp only at hSw); go_simp; (try with_reducible rfl))
        simp only [Act.put, List.getElem_toArray, List.getElem_cons_succ, List.getElem_cons_zero, List.setIfInBounds_toArray, List.set_cons_zero, List.set_cons_succ]
        refine wpAnyH_take (i := 8) (v := ?_) rfl (by kernel_rfl) (by kernel_rfl) (by kernel_rfl) (fun _ _ _ h => h) (Or.inl ⟨by rfl, ?_⟩) (by assumption) ?_
        rotate_left
        · (intro w hSw; (try dsimp only at hSw); go_simp; (try with_reducible rfl))
        simp only [Act.put, List.getElem_toArray, List.getElem_cons_succ, List.getElem_cons_zero, List.setIfInBounds_toArray, List.set_cons_zero, List.set_cons_succ]
        refine wpAnyH_take (i := 9) (v := ?_) rfl (by kernel_rfl) (by kernel_rfl) (by kernel_rfl) (fun _ _ _ h => h) (Or.inl ⟨by rfl, ?_⟩) (by assumption) ?_
        rotate_left
        · (intro w hSw; (try dsimp only at hSw); go_simp; (try with_reducible rfl))
        simp only [Act.put, List.getElem_toArray, List.getElem_cons_succ, List.getElem_cons_zero, List.setIfInBounds_toArray, List.set_cons_zero, List.set_cons_succ]
        refine wpAnyH_take (i := 10) (v := ?_) rfl (by kernel_rfl) (by kernel_rfl) (by kernel_rfl) (fun _ _ _ h => h) (Or.inl ⟨by rfl, ?_⟩) (by assumption) ?_
        rotate_left
        · (intro w hSw; (try dsimp only at hSw); go_simp; (try with_reducible rfl))
        simp only [Act.put, List.getElem_toArray, List.getElem_cons_succ, List.getElem_cons_zero, List.setIfInBounds_toArray, List.set_cons_zero, List.set_cons_succ]
        refine wpAnyH_ready (rs := [11]) (by kernel_rfl) (by simp) ?_
        refine AllReadyH.cons rfl (fun K hK => ?_) AllReadyH.nil
        refine step_copy_chg (by rfl) (.tmp 62) (.tmp 65) 38 38 (by rfl) 5 Try.underlying38 Try.size5 _ _ _ _ _ _ (by rfl) (by rfl) gl (p.1 * 64) _ 85 (show Blk w1.drew gl 85 _ from H1.out.2.1) ((cells p.2).take tt) (by rw [H1.out.2.2.2.1]; exact (Nat.min_eq_left htn).symm)
          (fun _ => ⟨rfl, ⟨wr.heap.size, 1, none⟩, rfl, fun j v hv => by
            rw [Addr.add_mid]
            rw [List.getElem?_take] at hv
            split at hv
            · exact r1 j v hv
            · cases hv⟩) H1.out.2.2.2.2.2.1 (fun v hv => cells_one _ v (List.mem_of_mem_take hv)) ?_
        intro w2 hb2 hc2' hs2
        have hc2 : Chg (fun k => k = gl) w1 w2 := ⟨hc2'.os, hc2'.tape, hc2'.output, hc2'.size, hc2'.block⟩
        refine hK.out _ _ ?_ (fun hHeld => ?_)
        · exact ⟨(hc2.cell (World.block_lt_of_cell? _ _ g0) (fun e => H1.out.2.2.2.2.2.2.1 e.symm)).trans g0, (hc2.cell (World.block_lt_of_cell? _ _ r0) (fun e => H1.out.2.2.2.2.2.2.2 e.symm)).trans r0⟩
        clear hK K
        refine wpAnyH_done (by kernel_rfl) ?_ _
        have q1 := H1.out.1.chg hc2 (fun e => H1.out.2.2.2.2.2.2.1 e.symm)
        have q3 := H1.out.2.2.1.chg hc2 (H1.out.2.2.1.ne H1.out.2.1)
        have qch := H1.out.2.2.2.2.1.trans' hc2 fun i _ e => e ▸ f2
        obtain ⟨L, hL⟩ : ∃ L, L = (lay s.last (s.wr.take k)).set p.1 (tear ((lay s.last (s.wr.take k)).getD p.1 []) p.2 tt) := ⟨_, rfl⟩
        have hpl : p.1 < (lay s.last (s.wr.take k)).length := by rw [lay_len]; exact HX.out.2.2.2.2.1
        have q2 : Blk w2 gl 85 (Rows' (L.map cells)).toArray := by
          rw [rows_splice (cells_all _ (lay_ok f6 k)) (by rw [List.length_map]; exact hpl) (by rw [H1.out.2.2.2.1]; exact htn)] at hb2
          rw [hL, List.map_set, cells_tear HX.out.2.2.2.2.2 htn, getD_lt hpl]
          simp only [List.getElem_map] at hb2
          exact hb2
        have hL64 : ∀ b ∈ L, b.length = 64 := by
          rw [hL]
          intro b hb
          rcases List.mem_or_eq_of_mem_set hb with hb | rfl
          · exact lay_ok f6 k b hb
          · exact tear_len (by rw [getD_lt hpl]; exact lay_ok f6 k _ (List.getElem_mem _)) HX.out.2.2.2.2.2 htn
        have hLn : L.length = s.last.length := by rw [hL, List.length_set, lay_len]
        have hcr : s.crash keep torn = ⟨L, []⟩ := by rw [crash_at HK.out.2.2.2.2.1 hlast, hL, HX.out.1, HK.out.2.2.2.2.2]
        have x0 := q1.cell 1
        have x2 := q1.cell 2
        have xf := q1.frozen 2
        simp only [List.getElem?_toArray, List.getElem?_cons_zero, List.getElem?_cons_succ] at x0 x2
        have hgm : gm ≠ g := q3.ne q1
        have q3' := q3.setCell (p := ⟨g, 2, none⟩) hgm (.slice none 0 0)
        have HQ := Lib.hid (And.intro q1 (And.intro q2 (And.intro q3' (And.intro qch (And.intro hL64 (And.intro hLn (And.intro hcr hgm)))))))
        clear hb2 hc2 hc2' hs2 g0 r0 r1 H1 hHeld q1 q2 q3 q3' qch hL64 hLn hcr hL hpl
        simp only [Act.put, List.getElem_toArray, List.getElem_cons_succ, List.getElem_cons_zero]
        go_wp2_with (refine wpList_clear_imap rfl (.tmp 73) rfl Try.underlying80 rfl HQ.out.2.2.1 ?_; intro w4 im4 ch4 hs4)
        have HE := Lib.hid (crash_end HQ.out.1 HQ.out.2.1 HQ.out.2.2.2.1 HQ.out.2.2.2.2.1 HQ.out.2.2.2.2.2.1 HQ.out.2.2.2.2.2.2.1 HQ.out.2.2.2.2.2.2.2 (HQ.out.2.2.1.ne (HQ.out.2.1.far (p := ⟨g, 2, none⟩) (HQ.out.2.1.ne HQ.out.1 (by decide)) _)) im4 ch4 f1 f2 f3 f5 f6)
        go_end0
        exact HE.out
      · have hL64 := lay_ok f6 k
        have hLn : (lay s.last (s.wr.take k)).length = s.last.length := lay_len _ _
        have hcr := crash_all (torn := torn) HK.out.2.2.2.2.1 hlast
        have xf := b1.frozen 2
        have c1 := b1.cell 1
        simp only [List.getElem?_toArray, List.getElem?_cons_zero, List.getElem?_cons_succ] at c1
        have hgm : gm ≠ g := b3.ne b1
        have q3' := b3.setCell (p := ⟨g, 2, none⟩) hgm (.slice none 0 0)
        have HQ := Lib.hid (And.intro b1 (And.intro b2 (And.intro q3' (And.intro hch (And.intro hL64 (And.intro hLn (And.intro hcr (And.intro hgm (b3.ne b2)))))))))
        have hk1 : ¬ ((k : Int) < (s.wr.length : Int)) := by omega
        clear b1 b2 b3 b4 hch hL64 hLn hcr q3' d1 d2 d3 d4
        go_wp2_with (refine wpList_clear_imap rfl (.tmp 73) rfl Try.underlying80 rfl HQ.out.2.2.1 ?_; intro w4 im4 ch4 hs4)
        have HE := Lib.hid (crash_end HQ.out.1 HQ.out.2.1 HQ.out.2.2.2.1 HQ.out.2.2.2.2.1 HQ.out.2.2.2.2.2.1 HQ.out.2.2.2.2.2.2.1 HQ.out.2.2.2.2.2.2.2.1 HQ.out.2.2.2.2.2.2.2.2 im4 ch4 f1 f2 f3 f5 f6)
        go_end0
        exact HE.out

end Go.Proofs.Ytehghjakggdnpaa
