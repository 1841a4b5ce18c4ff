/-
  The contract of put.
-/
import Derived.Test.YtehghjakggdnpaaWFence
import Derived.Test.YtehghjakggdnpaaWConc
import Derived.Test.YtehghjakggdnpaaWWrite
import Derived.Test.YtehghjakggdnpaaWLead
import Derived.Test.YtehghjakggdnpaaWRecs
namespace Go.Proofs.Ytehghjakggdnpaa
open Go.RowKit Go.Lib Go.Shelf

/-- a record, its length ahead -/
def recBody (r : List Int) : List Int := [(r.length : Int) % 256, (r.length : Int) / 256] ++ r
def chunkOf (b : List Int) (k : Nat) : List Int := (b.drop (56 * k)).take 56
/-- a sector of a record -/
def secB (p : List Int) (x : Int) : List Int := stampL (zeros.take 4 ++ p ++ zeros.drop (4 + p.length)) x
/-- what is written, where the pieces ks were told -/
def putWs (b : List Int) (sec : Nat) (next : Int) (ks : List Nat) : List (Nat × List Int) := ks.zipIdx.map fun p => (sec + p.2, secB (chunkOf b p.1) (next + p.2))
theorem putWs_snoc (b : List Int) (sec : Nat) (next : Int) (ks : List Nat) (k : Nat) : putWs b sec next (ks ++ [k]) = putWs b sec next ks ++ [(sec + ks.length, secB (chunkOf b k) (next + ks.length))] := by
  unfold putWs
  rw [List.zipIdx_append]
  simp
theorem putWs_len (b : List Int) (sec : Nat) (next : Int) (ks : List Nat) : (putWs b sec next ks).length = ks.length := by simp [putWs]

/-- what holds between two pieces -/
def PutI (w w2 : World) (g l gm : Nat) (F : Nat → Prop) (s : DS) (gen area used next : Int) (sec gb n : Nat) (b : List Int) (pre : List (Fin (pcs (2 + n)))) (W : World) : Prop :=
  ∃ F' : Nat → Prop, DiskAt W g F' ⟨s.last, s.wr ++ putWs b sec next (pre.map (·.1))⟩ ∧ W.cell? ⟨g, 1, none⟩ = some (.map (some gm)) ∧ (∀ k, F' k → F k ∨ w2.heap.size ≤ k) ∧
    LogAt W l g gen area used (next + (pre.length : Nat)) ∧ Blk W w.heap.size 32 #[.pointer (some ⟨l, 0, none⟩)] ∧ Blk W (w.heap.size + 1) 3 #[.int .i64 ((sec + pre.length : Nat) : Int)] ∧
    Rd W w2.heap.size (some ⟨gb, 0, none⟩) (2 + n) (cells b) ∧ Chg (fun k => F k ∨ k = l ∨ k = w.heap.size + 1) w2 W ∧ (∀ k, F' k → k = gm ∨ ∃ t cs, Blk W k t cs)
theorem putI_own {w w2 : World} {g l gm : Nat} {F : Nat → Prop} {s : DS} {gen area used next : Int} {sec gb n : Nat} {b : List Int} (hgm : gm < w2.heap.size) : OwnFrom w2.heap.size (PutI w w2 g l gm F s gen area used next sec gb n b) := by
  rintro pre W W' row ⟨F', hd, hm, hF', hlg, kl, ks, hrb, hch, hmin⟩ hg hr
  have hne : ∀ {k : Nat} {t : TypeId} {cs : Array Value}, Blk W k t cs → row ≠ some k := fun hb e => by
    obtain ⟨_, o, ho, hc⟩ := hr _ e
    unfold Blk at hb
    rw [hb] at ho
    cases ho
    simp [Obj.isCells] at hc
  have hgmr : row ≠ some gm := fun e => by have := (hr _ e).1; omega
  have hgb : ∃ t cs, Blk W g t cs := by
    obtain ⟨_, _, _, h1, _⟩ := hd
    exact ⟨_, _, h1⟩
  obtain ⟨_, _, hgb⟩ := hgb
  refine ⟨F', hd.keep (fun k hk => ?_) hg.size, ?_, hF', Blk.grown hlg hg (hne hlg), kl.grown hg (hne kl), ks.grown hg (hne ks), hrb.grown hch.size hg (fun _ ad e e2 => ?_), hch.grown hg (fun k e hk => ?_), fun k hk => ?_⟩
  · rcases hmin k hk with rfl | ⟨_, _, hb⟩
    · exact hg.block _ (hd.foot _ hk) (Ne.symm hgmr)
    · exact hg.block _ hb.lt (Ne.symm (hne hb))
  · rw [← hm]
    exact World.cell?_of_block (hg.block _ hgb.lt (Ne.symm (hne hgb)))
  · have h1 := (hr _ e2).1
    obtain ⟨_, e3, h2, _⟩ := hrb.2 (by omega)
    rw [e] at e3
    cases e3
    omega
  · have := (hr _ e).1
    omega
  · rcases hmin k hk with h | ⟨t, cs, hb⟩
    · exact .inl h
    · exact .inr ⟨t, cs, hb.grown hg (hne hb)⟩

attribute [local go_sem] Oper.semAt_some

set_option maxRecDepth 100000 in
set_option maxHeartbeats 3200000 in
theorem put_any {w : World} {g l : Nat} {F : Nat → Prop} {s : DS} {gen area used next : Int} (h : DiskAt w g F s) (hl : LogAt w l g gen area used next) (hn : ¬ F l) (sec : Nat) (A : Option Addr) (n c : Nat) (r : List Int) (hr : Rd w w.heap.size A n (cells r)) (hn4 : n ≤ 4096)
    (hx : 0 ≤ next ∧ next + 100 < 4294967296) (hs : sec + pcs (2 + n) ≤ s.last.length) (few : s.wr.length + 100 < 1000000) :
    Calls Try.prog 46 #[.pointer (some ⟨l, 0, none⟩), .int .i64 sec, .slice A n c] w fun e w' => e = .returned (.int .i64 (sec + pcs (2 + n) : Nat)) ∧
      DiskAt w' g (Ext F w w') ⟨s.last, s.wr ++ putWs (recBody r) sec next (List.range (pcs (2 + n)))⟩ ∧ LogAt w' l g gen area used (next + (pcs (2 + n) : Nat)) ∧ Chg (FL F l) w w' := by
  have hnl : r.length = n := by have := hr.len; rwa [cells_len] at this
  have hle := h.ok.le
  obtain ⟨c0, c1, c2, c3, c4⟩ := hl.c
  have hlw := hl.lt
  have H := Lib.hid (And.intro h (And.intro hl (And.intro hr hnl)))
  clear h hl hr hnl
  refine (callsIn_wide (n := 6)).1 ?_
  refine callsIn_of_wp_marks Try.func46 rfl trivial ?_ rfl
  simp only [Try.ntmps46, List.size_toArray, List.length_cons, List.length_nil, Nat.reduceAdd, Nat.reduceSub, Array.replicate_succ, Array.replicate_zero, List.push_toArray, List.append_toArray, List.nil_append, List.cons_append]
  have hn0 : (0 : Int) ≤ (n : Int) := by omega
  have hn4i : (n : Int) ≤ 4096 := by omega
  gi_wp2_with fail
  obtain ⟨w0, hw0⟩ : ∃ w0, w0 = (((w.alloc (.cells #[.pointer (some ⟨l, 0, none⟩)] 32)).alloc (.cells #[.int .i64 sec] 3)).alloc (.cells #[.int .u8 ((n : Int) % 256), .int .u8 ((n : Int) / 256)] 5)).alloc (.cells #[.slice (some ⟨w.heap.size + 1 + 1, 0, none⟩) 2 2, .slice A n c] 38) := ⟨_, rfl⟩
  have k1 : Blk w0 w.heap.size 32 #[.pointer (some ⟨l, 0, none⟩)] := by rw [hw0]; exact (((Blk.new _ _ _).alloc _).alloc _).alloc _
  have k2 : Blk w0 (w.heap.size + 1) 3 #[.int .i64 sec] := by rw [hw0]; exact ((Blk.new_at _ _ _ (by simp)).alloc _).alloc _
  have k3 : Blk w0 (w.heap.size + 1 + 1) 5 (cells [(n : Int) % 256, (n : Int) / 256]).toArray := by rw [hw0]; exact (Blk.new_at _ _ _ (by simp)).alloc _
  have k4 : Blk w0 (w.heap.size + 1 + 1 + 1) 38 #[.slice (some ⟨w.heap.size + 1 + 1, 0, none⟩) 2 2, .slice A n c] := by rw [hw0]; exact Blk.new_at _ _ _ (by simp)
  have hl0 : Below w.heap.size w w0 := by rw [hw0]; exact ((((Below.refl _ w).alloc (Nat.le_refl _) _).alloc (by simp) _).alloc (by simp; omega) _).alloc (by simp; omega) _
  have sz0 : w0.heap.size = w.heap.size + 4 := by rw [hw0]; simp
  rw [← hw0]
  clear hw0
  have hT : Two2 w0 (w.heap.size + 1 + 1 + 1) (some ⟨w.heap.size + 1 + 1, 0, none⟩) 2 2 [(n : Int) % 256, (n : Int) / 256] A n c r :=
    ⟨k4.cell 0, k4.cell 1, k4.lt, Blk.rd k3 rfl, (H.out.2.2.1.below hl0 (Nat.le_refl _)).more hl0.size⟩
  have H0 := Lib.hid (And.intro k1 (And.intro k2 (And.intro hl0 (And.intro sz0 hT))))
  clear k1 k2 k3 k4 hl0 sz0 hT
  refine ⟨trivial, callsIn_wide.2 ((concat_any w0 _ _ _ _ _ _ _ _ _ H0.out.2.2.2.2 (by omega) (by omega) (by omega)).mono ?_)⟩
  rintro e w1 ⟨v1, rfl, ho1, hl1⟩
  obtain ⟨gb, cb, rfl, hgb0, hgb1⟩ := ho1.form (by omega)
  have hcb : 2 + n ≤ cb ∧ cb ≤ maxLen := by
    obtain ⟨_, c', e, h1, h2⟩ := own_shape ho1
    injection e with e1 e2 e3
    subst e3
    exact ⟨h1, h2⟩
  have hbody : [(n : Int) % 256, (n : Int) / 256] ++ r = recBody r := by unfold recBody; rw [H.out.2.2.2]
  rw [hbody] at ho1
  have H1 := Lib.hid (And.intro ho1 (And.intro (H0.out.1.below hl1 H0.out.1.lt) (And.intro (H0.out.2.1.below hl1 H0.out.2.1.lt) (And.intro (H0.out.2.2.1.trans (hl1.mono H0.out.2.2.1.size)) (And.intro hcb (And.intro hgb0 hgb1))))))
  have sz1 : w.heap.size + 4 ≤ w1.heap.size := by have := hl1.size; have := H0.out.2.2.2.1; omega
  clear ho1 hl1 hbody hcb hgb0 hgb1
  gi_wp2_with fail
  refine ⟨trivial, callsIn_wide.2 ((chunk_any _ _ _ w1).mono ?_)⟩
  rintro e w2' ⟨rfl, rfl⟩
  gi_wp2_with fail
  obtain ⟨w2, hw2⟩ : ∃ w2, w2 = (w1.alloc (.cells #[.slice (some ⟨gb, 0, none⟩) (2 + n) cb] 38)).alloc (.cells #[.int .i64 56] 3) := ⟨_, rfl⟩
  have bS : Blk w2 w1.heap.size 38 #[.slice (some ⟨gb, 0, none⟩) (2 + n) cb] := by rw [hw2]; exact (Blk.new _ _ _).alloc _
  have bN : Blk w2 (w1.heap.size + 1) 3 #[.int .i64 56] := by rw [hw2]; exact Blk.new_at _ _ _ (by simp)
  have hl12 : Below w1.heap.size w1 w2 := by rw [hw2]; exact ((Below.refl _ w1).alloc (Nat.le_refl _) _).alloc (by simp) _
  have sz2 : w2.heap.size = w1.heap.size + 2 := by rw [hw2]; simp
  rw [← hw2]
  clear hw2
  have hl2 : Below w.heap.size w w2 := H1.out.2.2.2.1.trans (hl12.mono H1.out.2.2.2.1.size)
  have hd2 := H.out.1.below hl2
  obtain ⟨gm, hgm, hgm2⟩ := hd2.map
  have hI0 : PutI w w2 g l gm F s gen area used next sec gb n (recBody r) [] w2 :=
    ⟨MinF w2 F gm, by simpa [putWs] using hd2.min hgm, hgm, fun k hk => .inl hk.1, by simpa using H.out.2.1.below hl2, H1.out.2.1.below hl12 H1.out.2.1.lt, by simpa using H1.out.2.2.1.below hl12 H1.out.2.2.1.lt,
      (Rd.own H1.out.1).below hl12 (Nat.le_refl _) |>.more hl12.size, Chg.refl _ _, fun k hk => hk.2⟩
  have H2 := Lib.hid (And.intro bS (And.intro bN (And.intro hl2 (And.intro hgm hgm2))))
  have HI0 := Lib.hid hI0
  clear bS bN hl12 hl2 hd2 hgm hI0
  refine wpIn_rangeFunc_ownG (α := Fin (pcs (2 + n))) (encs := fun x => #[pval gb (2 + n) x.1]) (Kp := Keep2 w1.heap.size (w1.heap.size + 1)) (S := fun ys => ys = List.finRange (pcs (2 + n))) (Sp := fun _ => True) (N := pcs (2 + n)) (w0 := w2) rfl (by omega) (gf := 75) (lb := #[.pointer (some ⟨w1.heap.size, 0, none⟩), .pointer (some ⟨w1.heap.size + 1, 0, none⟩)]) rfl trivial (enters_of Try.func75 (by kernel_rfl) rfl)
    ?seq (fun h k => ⟨k.1.trans h.1, k.2.trans h.2⟩) ?kb (Below.refl _ _) (fun _ => rfl)
    (PutI w w2 g l gm F s gen area used next sec gb n (recBody r)) (fun _ _ _ => False) ?own (fun _ _ _ _ _ hs _ _ => hs) HI0.out
    (fun x => { tmps := #[.pointer (some ⟨l, 0, none⟩), .int .i64 sec, .slice A n c, .pointer (some ⟨w.heap.size, 0, none⟩), .pointer (some ⟨w.heap.size + 1, 0, none⟩), undef, .int .i64 0, .int .i64 n, .slice (some ⟨gb, 0, none⟩) (2 + n) cb, pval gb (2 + n) x.1, undef, .slice A n c, .int .i64 n, .int .i64 n, .int .u8 ((n : Int) % 256), .int .i64 n, .int .i64 ((n : Int) / 256), .int .u8 ((n : Int) / 256), .slice (some ⟨w.heap.size + 1 + 1, 0, none⟩) 2 2, .slice A n c, .slice (some ⟨w.heap.size + 1 + 1 + 1, 0, none⟩) 2 2, .slice (some ⟨gb, 0, none⟩) (2 + n) cb, .slice (some ⟨gb, 0, none⟩) (2 + n) cb, .func (.func 75) #[] #[.pointer (some ⟨w1.heap.size, 0, none⟩), .pointer (some ⟨w1.heap.size + 1, 0, none⟩)], pval gb (2 + n) x.1, undef, undef, undef, undef, undef, undef, undef, undef, undef, undef, undef, undef, undef, undef, undef, undef, undef, undef, undef, undef, undef, undef, undef, undef, undef, undef, undef, undef], defers := [] }) ?assign ?body ?done ?stop
  case seq =>
    intro lr J Jx W hW hJ _ hY h0
    exact chunk1_in Fence.wide 5 trivial rfl (by omega) lr w1.heap.size (w1.heap.size + 1) gb (2 + n) cb (by omega) (by omega) H1.out.2.2.2.2.1.1 H1.out.2.2.2.2.1.2 J Jx hY W (H2.out.1.below hW H2.out.1.lt) (H2.out.2.1.below hW H2.out.2.1.lt) h0
      (fun pre W1 h1 => hJ pre W1 W1.drew none h1 ⟨rfl, rfl, rfl, Nat.le_refl _, fun _ _ _ => rfl⟩ (fun r e => by cases e))
  case kb =>
    intro W lr o o' hlr _ _ _
    exact ⟨World.putObj_heap_other (by omega), World.putObj_heap_other (by omega)⟩
  case own => exact putI_own H2.out.2.2.2.2
  case assign =>
    intro lr x W K hK
    gi_wp2
    exact hK
  case body =>
    rintro lr pre x W ⟨F', hd, hm, hF', hlg, kl, ks, hrb, hch, hmin⟩ hlen
    have hxl := x.2
    have hmk := make64
    refine wpIn_block ?_
    refine wpIn_seq_k fun K5 hK5 => ?_
    refine region_round (by kernel_rfl) (fun _ _ h => h) ?_
    go_wp2_with fail
    have hdl := hd.foot
    have hfl : ¬ F' l := fun e => (hF' l e).elim hn fun h => by have := H2.out.2.2.1.size; omega
    have hB0 := hch.size
    have hwB := H2.out.2.2.1.size
    have hsB : w.heap.size + 4 ≤ w2.heap.size := by omega
    have hfs : ¬ F' (w.heap.size + 1) := fun e => (hF' _ e).elim (fun h => by have := H.out.1.foot _ h; omega) fun h => by omega
    have hpc : pcs (2 + n) ≤ 74 := by unfold pcs; omega
    -- the piece
    have hpl : (chunkOf (recBody r) x.1).length = plen (2 + n) x.1 := by
      unfold chunkOf plen recBody
      simp only [List.length_take, List.length_drop, List.length_append, List.length_cons, List.length_nil, H.out.2.2.2]
    have hpb : plen (2 + n) x.1 ≤ 56 := by unfold plen; omega
    have hp0 : 0 < plen (2 + n) x.1 := by unfold plen; have := x.2; unfold pcs at this; omega
    have hx56 : 56 * x.1 < 2 + n := by have := x.2; unfold pcs at this; omega
    have hrp : Rd W w2.heap.size (some ⟨gb, 56 * x.1, none⟩) (plen (2 + n) x.1) (cells (chunkOf (recBody r) x.1)) := by
      have h1 := (hrb.cutl (k := 56 * x.1) (cap := 2 + n + 1) (by omega) (by omega)).cuth (k := plen (2 + n) x.1) (by unfold plen; omega)
      rw [if_neg (by omega)] at h1
      have e1 : ((cells (recBody r)).drop (56 * x.1)).take (plen (2 + n) x.1) = cells (chunkOf (recBody r) x.1) := by
        unfold chunkOf cells plen
        rw [List.map_take, List.map_drop, List.take_eq_take_iff]
        simp only [List.length_drop, List.length_map, recBody, List.length_append, List.length_cons, List.length_nil, H.out.2.2.2]
        omega
      rw [e1] at h1
      have e2 : (some (⟨gb, 0, none⟩ : Addr)).map (·.add (56 * x.1)) = some ⟨gb, 56 * x.1, none⟩ := by
        rw [Option.map_some, Addr.add_mid, Nat.zero_add]
      rwa [e2] at h1
    have HP := Lib.hid (And.intro hrp hpl)
    have HI := Lib.hid (And.intro hd (And.intro hm (And.intro hF' (And.intro hlg (And.intro kl (And.intro ks (And.intro hrb (And.intro hch hmin))))))))
    clear hrp hpl hd hm hlg kl ks hrb hch hmin
    refine wpIn_seq_k fun K6 hK6 => ?_
    refine region_round (by kernel_rfl) (fun _ _ h => h) ?_
    go_wp2_with (refine wpList_copy_chg rfl (.tmp 27) (.tmp 28) 38 38 rfl 5 Try.underlying38 Try.size5 _ _ _ _ _ _ rfl rfl W.heap.size 4 zeros64 5 (Blk.new W 5 zarr) (cells (chunkOf (recBody r) x.1)) ?b2 ?b3 ?b4 ?b5 ?_)
    case b2 => rw [cells_len, HP.out.2]; exact (Nat.min_eq_left (by omega)).symm
    case b3 =>
      intro _ jj v hv
      obtain ⟨ad, e, hlt', hc⟩ := HP.out.1.2 hp0
      obtain rfl := Option.some.inj e
      have h1 := hc jj v hv
      rw [Addr.add_mid] at h1
      exact (World.cell?_alloc_lt W _ ⟨gb, 56 * x.1 + jj, none⟩ (by simp only at hlt' ⊢; omega)).trans h1
    case b4 => rw [cells_len, HP.out.2, zeros64_len]; omega
    case b5 => exact cells_one _
    intro W6 hb6 hc6 hs6
    have hsp : splice zeros64 4 (cells (chunkOf (recBody r) x.1)) = cells (zeros.take 4 ++ chunkOf (recBody r) x.1 ++ zeros.drop (4 + (chunkOf (recBody r) x.1).length)) := by
      unfold splice
      rw [cells_len, cells_append, cells_append, show zeros64 = cells zeros from (by unfold zeros64 cells zeros; rw [List.map_replicate])]
      simp [cells, List.map_take, List.map_drop]
    rw [hsp] at hb6
    have hl6 : Below W.heap.size W W6 := ((Below.refl _ W).alloc (Nat.le_refl _) _).trans (hc6.below (fun k hk => Nat.le_of_eq hk.symm) (by rw [World.size_alloc]; omega))
    have sz6 : W6.heap.size = W.heap.size + 1 := by simpa using hs6
    have hlen6 : (zeros.take 4 ++ chunkOf (recBody r) x.1 ++ zeros.drop (4 + (chunkOf (recBody r) x.1).length)).length = 64 := by
      simp only [List.length_append, List.length_take, List.length_drop, HP.out.2]
      simp [zeros]; omega
    have hlg6 := HI.out.2.2.2.1.below hl6
    have hkl6 := HI.out.2.2.2.2.1.below hl6 HI.out.2.2.2.2.1.lt
    have H6 := Lib.hid (And.intro hb6 (And.intro hl6 (And.intro sz6 hlen6)))
    obtain ⟨d0, d1, d2, d3, d4⟩ := hlg6.c
    have dk := hkl6.cell 0
    simp only [List.getElem?_toArray, List.getElem?_cons_zero] at dk
    clear hb6 hc6 hs6 hsp hl6 hlen6 hlg6 hkl6
    go_wp2_with fail
    refine wpIn_seq_k fun K7 hK7 => ?_
    refine region_round (by kernel_rfl) (fun _ _ h => h) ?_
    go_wp2_with fail
    refine (stamp_any W6 W.heap.size _ (next + (pre.length : Nat)) H6.out.1 H6.out.2.2.2 ⟨by omega, by omega⟩).mono ?_
    rintro e W7 ⟨rfl, hb7, hc7⟩
    have hl7 : Below W.heap.size W W7 := H6.out.2.1.trans (hc7.below (fun k hk => Nat.le_of_eq (by unfold One at hk; exact hk.symm)) (by omega))
    have hlg7 := HI.out.2.2.2.1.below hl7
    have hkl7 := HI.out.2.2.2.2.1.below hl7 HI.out.2.2.2.2.1.lt
    have hks7 := HI.out.2.2.2.2.2.1.below hl7 HI.out.2.2.2.2.2.1.lt
    have sz7 : W.heap.size < W7.heap.size := by have := hc7.size; omega
    have H7 := Lib.hid (And.intro hb7 (And.intro hl7 (And.intro (HI.out.1.below hl7) (And.intro hlg7 (And.intro hkl7 hks7)))))
    obtain ⟨d0, d1, d2, d3, d4⟩ := hlg7.c
    have dk := hkl7.cell 0
    have ds := hks7.cell 0
    simp only [List.getElem?_toArray, List.getElem?_cons_zero] at dk ds
    clear hb7 hc7 hl7 hlg7 hkl7 hks7
    go_wp2_with fail
    refine wpIn_seq_k fun K8 hK8 => ?_
    refine region_round_draw (by kernel_rfl) (fun _ _ h => h) (by kernel_rfl) ?_
    refine wpAny_of_held (S := fun w' => w'.cell? ⟨w.heap.size, 0, none⟩ = some (.pointer (some ⟨l, 0, none⟩)) ∧ w'.cell? ⟨l, 0, none⟩ = some (.pointer (some ⟨g, 0, none⟩)) ∧ w'.cell? ⟨w.heap.size + 1, 0, none⟩ = some (.int .i64 ((sec + pre.length : Nat) : Int))) _ _ _ _ ?_
    have hHeld : W7.drew.cell? ⟨w.heap.size, 0, none⟩ = some (.pointer (some ⟨l, 0, none⟩)) ∧ W7.drew.cell? ⟨l, 0, none⟩ = some (.pointer (some ⟨g, 0, none⟩)) ∧ W7.drew.cell? ⟨w.heap.size + 1, 0, none⟩ = some (.int .i64 ((sec + pre.length : Nat) : Int)) := ⟨dk, d0, ds⟩
    refine wpAnyH_take (i := 0) (v := ?_) rfl (by kernel_rfl) (by kernel_rfl) (by kernel_rfl) (fun _ _ _ h => h) (Or.inl ⟨by rfl, ?_⟩) (by assumption) ?_
    rotate_left
    · (intro w hSw; (try dsimp only at hSw); go_simp; (try with_reducible rfl))
    simp only [Act.put, List.getElem_toArray, List.getElem_cons_zero, List.setIfInBounds_toArray, List.set_cons_zero, List.set_cons_succ]
    refine wpAnyH_take (i := 1) (v := ?_) rfl (by kernel_rfl) (by kernel_rfl) (by kernel_rfl) (fun _ _ _ h => h) (Or.inl ⟨by rfl, ?_⟩) (by assumption) ?_
    rotate_left
    · (intro w hSw; (try dsimp only at hSw); go_simp; (try with_reducible rfl))
    simp only [Act.put, List.getElem_toArray, List.getElem_cons_succ, List.getElem_cons_zero, List.setIfInBounds_toArray, List.set_cons_zero, List.set_cons_succ]
    refine wpAnyH_take (i := 2) (v := ?_) rfl (by kernel_rfl) (by kernel_rfl) (by kernel_rfl) (fun _ _ _ h => h) (Or.inl ⟨by rfl, ?_⟩) (by assumption) ?_
    rotate_left
    · (intro w hSw; (try dsimp only at hSw); go_simp; (try with_reducible rfl))
    simp only [Act.put, List.getElem_toArray, List.getElem_cons_succ, List.getElem_cons_zero, List.setIfInBounds_toArray, List.set_cons_zero, List.set_cons_succ]
    refine wpAnyH_take (i := 3) (v := ?_) rfl (by kernel_rfl) (by kernel_rfl) (by kernel_rfl) (fun _ _ _ h => h) (Or.inl ⟨by rfl, ?_⟩) (by assumption) ?_
    rotate_left
    · (intro w hSw; (try dsimp only at hSw); go_simp; (try with_reducible rfl))
    simp only [Act.put, List.getElem_toArray, List.getElem_cons_succ, List.getElem_cons_zero, List.setIfInBounds_toArray, List.set_cons_zero, List.set_cons_succ]
    refine wpAnyH_take (i := 4) (v := ?_) rfl (by kernel_rfl) (by kernel_rfl) (by kernel_rfl) (fun _ _ _ h => h) (Or.inl ⟨by rfl, ?_⟩) (by assumption) ?_
    rotate_left
    · (intro w hSw; (try dsimp only at hSw); go_simp; (try with_reducible rfl))
    simp only [Act.put, List.getElem_toArray, List.getElem_cons_succ, List.getElem_cons_zero, List.setIfInBounds_toArray, List.set_cons_zero, List.set_cons_succ]
    refine wpAnyH_take (i := 5) (v := ?_) rfl (by kernel_rfl) (by kernel_rfl) (by kernel_rfl) (fun _ _ _ h => h) (Or.inl ⟨by rfl, ?_⟩) (by assumption) ?_
    rotate_left
    · (intro w hSw; (try dsimp only at hSw); go_simp; (try with_reducible rfl))
    simp only [Act.put, List.getElem_toArray, List.getElem_cons_succ, List.getElem_cons_zero, List.setIfInBounds_toArray, List.set_cons_zero, List.set_cons_succ]
    refine wpAnyH_ready (rs := [6]) (by kernel_rfl) (by simp) ?_
    refine AllReadyH.cons rfl (fun K hK => ?_) AllReadyH.nil
    go_simp
    have hsl : sec + pre.length < s.last.length := by omega
    refine (write_yesm (w := W7.drew) H7.out.2.2.1 (sec + pre.length) hsl (some ⟨W.heap.size, 0, none⟩) 64 (secB (chunkOf (recBody r) x.1) (next + (pre.length : Nat))) (Blk.rd (Blk.drew H7.out.1) (by unfold secB; rw [cells_len, stampL_len]; exact H6.out.2.2.2)) ?few).mono ?_
    case few =>
      simp only [List.length_append, putWs_len, List.length_map]
      omega
    rintro e W8 ⟨⟨rfl, hd8, hc8⟩, hm8⟩
    have hlg8 := (show LogAt W7.drew l g gen area used (next + (pre.length : Nat)) from H7.out.2.2.2.1).chg hc8 hfl
    have hkl8 := (Blk.drew H7.out.2.2.2.2.1).chg hc8 (fun e => (hF' _ e).elim (fun h => by have := H.out.1.foot _ h; omega) fun h => by omega)
    have hks8 := (Blk.drew H7.out.2.2.2.2.2).chg hc8 hfs
    obtain ⟨f0, f1, f2, f3, f4⟩ := hlg8.c
    have fk := hkl8.cell 0
    have fs := hks8.cell 0
    simp only [List.getElem?_toArray, List.getElem?_cons_zero] at fk fs
    refine hK.out _ _ ?_ (fun hHeld2 => ?_)
    · exact ⟨fk, f0, fs⟩
    clear hK K
    refine wpAnyH_done (by kernel_rfl) ?_ _
    have hm8' : W8.cell? ⟨g, 1, none⟩ = some (.map (some gm)) := by
      rw [hm8]
      have hgl : g < W.heap.size := HI.out.1.lt
      exact (H7.out.2.1.cell (p := ⟨g, 1, none⟩) hgl).trans HI.out.2.1
    have hc8' : Chg F' W W8 := (Chg.of_below H7.out.2.1).trans (show Chg F' W7 W8 from ⟨hc8.os, hc8.tape, hc8.output, hc8.size, hc8.block⟩)
    have H8 := Lib.hid (And.intro hd8 (And.intro hm8' (And.intro hlg8 (And.intro hkl8 (And.intro hks8 hc8')))))
    have fz3 := hks8.frozen 0
    have fz4 := hlg8.frozen 4
    have sz8 := hc8.size
    have sz8' : W7.heap.size ≤ W8.heap.size := sz8
    clear hd8 hc8 hm8 hm8' hlg8 hkl8 hks8 hHeld hHeld2 hc8' dk d0 d1 d2 d3 d4 ds
    (try simp only [Exit.then])
    refine hK8 _ _ ?_
    clear hK8 K8
    refine wpIn_seq_k fun K9 hK9 => ?_
    refine region_round (by kernel_rfl) (fun _ _ h => h) ?_
    go_wp2_with fail
    refine region_round (by kernel_rfl) (fun _ _ h => h) ?_
    go_wp2_with fail
    obtain ⟨W10, hW10⟩ : ∃ W10, W10 = ((W8.setCell ⟨w.heap.size + 1, 0, none⟩ (.int .i64 ((sec : Int) + (pre.length : Int) + 1))).setCell ⟨l, 4, none⟩ (.int .i64 (next + (pre.length : Int) + 1))) := ⟨_, rfl⟩
    have hcA : Chg (fun k => F' k ∨ k = l ∨ k = w.heap.size + 1) W W10 := by
      rw [hW10]
      exact ((H8.out.2.2.2.2.2.mono (fun k _ h => .inl h)).setCell (p := ⟨w.heap.size + 1, 0, none⟩) (fun _ => .inr (.inr rfl)) _).setCell (p := ⟨l, 4, none⟩) (fun _ => .inr (.inl rfl)) _
    have hcB : Chg (fun k => k = l ∨ k = w.heap.size + 1) W8 W10 := by
      rw [hW10]
      exact ((Chg.refl (fun k => k = l ∨ k = w.heap.size + 1) W8).setCell (p := ⟨w.heap.size + 1, 0, none⟩) (fun _ => .inr rfl) _).setCell (p := ⟨l, 4, none⟩) (fun _ => .inl rfl) _
    have hll : l ≠ w.heap.size + 1 := by omega
    have hFg : F' g := by
      obtain ⟨_, _, _, _, _, _, _, f1, _⟩ := HI.out.1
      exact f1
    have hdn : ∀ k, Ext F' W7.drew W8 k → ¬ (k = l ∨ k = w.heap.size + 1) := by
      rintro k (h | h) (e | e)
      · exact hfl (e ▸ h)
      · exact hfs (e ▸ h)
      · have h1 : W7.heap.size ≤ k := h.1
        omega
      · have h1 : W7.heap.size ≤ k := h.1
        omega
    have hd10 := H8.out.1.chg hcB hdn
    have hm10 : W10.cell? ⟨g, 1, none⟩ = some (.map (some gm)) := (hcB.cell (p := ⟨g, 1, none⟩) H8.out.1.lt (hdn g (.inl hFg))).trans H8.out.2.1
    have hlen' : ((pre ++ [x]).length : Int) = (pre.length : Int) + 1 := by simp
    have hlg10 : LogAt W10 l g gen area used (next + ((pre ++ [x]).length : Int)) := by
      rw [hW10, hlen', ← Int.add_assoc]
      exact Blk.put (Blk.far H8.out.2.2.1 (p := ⟨w.heap.size + 1, 0, none⟩) hll _) 4 _
    have hkl10 : Blk W10 w.heap.size 32 #[.pointer (some ⟨l, 0, none⟩)] := by
      rw [hW10]
      exact (H8.out.2.2.2.1.far (p := ⟨w.heap.size + 1, 0, none⟩) (by simp) _).far (p := ⟨l, 4, none⟩) (by simp only [ne_eq]; omega) _
    have hks10 : Blk W10 (w.heap.size + 1) 3 #[.int .i64 ((sec + (pre ++ [x]).length : Nat) : Int)] := by
      rw [hW10, show ((sec + (pre ++ [x]).length : Nat) : Int) = (sec : Int) + (pre.length : Int) + 1 by simp; omega]
      exact (H8.out.2.2.2.2.1.put 0 _).far (p := ⟨l, 4, none⟩) (Ne.symm hll) _
    rw [← hW10]
    clear hW10
    have hst : (DS.write ⟨s.last, s.wr ++ putWs (recBody r) sec next (pre.map (·.1))⟩ (sec + pre.length) (secB (chunkOf (recBody r) x.1) (next + (pre.length : Nat)))) = ⟨s.last, s.wr ++ putWs (recBody r) sec next ((pre ++ [x]).map (·.1))⟩ := by
      rw [List.map_append, List.map_cons, List.map_nil, putWs_snoc, List.length_map]
      simp [DS.write]
    rw [hst] at hd10
    have hgbn : ¬ (F' gb ∨ gb = l ∨ gb = w.heap.size + 1) := by
      have h1 := H1.out.2.2.2.2.2.1
      have h2 := H1.out.2.2.2.2.2.2
      have h3 := H0.out.2.2.2.1
      rintro (h | h | h)
      · rcases hF' _ h with h | h
        · have := H.out.1.foot _ h; omega
        · omega
      · omega
      · omega
    refine ⟨⟨hcA.size, fun k o hk ho hc => (hcA.block k (Array.getElem?_eq_some_iff.1 ho).1 ?_).trans ho⟩, ⟨hcA.block _ (by omega) ?_, hcA.block _ (by omega) ?_⟩, MinF W10 (Ext F' W7.drew W8) gm, hd10.min hm10, hm10, ?_, hlg10, hkl10, hks10, ?_, ?_, fun k hk => hk.2⟩
    · rintro (h | h | h)
      · rcases HI.out.2.2.2.2.2.2.2.2 k h with e | ⟨t, cs, hb⟩
        · have := H2.out.2.2.2.2; omega
        · unfold Blk at hb
          rw [hb] at ho
          cases ho
          simp [Obj.isCells] at hc
      · omega
      · omega
    · rintro (h | h | h)
      · rcases hF' _ h with h | h
        · have := H.out.1.foot _ h; omega
        · omega
      · omega
      · omega
    · rintro (h | h | h)
      · rcases hF' _ h with h | h
        · have := H.out.1.foot _ h; omega
        · omega
      · omega
      · omega
    · rintro k ⟨h | h, _⟩
      · exact hF' k h
      · have h1 : W7.heap.size ≤ k := h.1
        exact .inr (by omega)
    · refine ⟨HI.out.2.2.2.2.2.2.1.1, fun h0 => ?_⟩
      obtain ⟨ad, e, h1, h2⟩ := HI.out.2.2.2.2.2.2.1.2 h0
      refine ⟨ad, e, h1, fun jj v hv => (hcA.cell (p := ad.add jj) (by rw [addr_block]; omega) (by rw [addr_block]; obtain rfl := Option.some.inj e; exact hgbn)).trans (h2 jj v hv)⟩
    · refine HI.out.2.2.2.2.2.2.2.1.trans' hcA (fun k hk h => ?_)
      rcases h with h | h
      · rcases hF' _ h with h | h
        · exact .inl h
        · omega
      · exact .inr h
  case done =>
    rintro D ys W hD rfl hI hK
    have hI' := putI_own H2.out.2.2.2.2 _ _ _ (some D) hI (grownBy_putObj' W D (.deferred none)) (fun r e => by cases e; exact ⟨hD, _, hK, rfl⟩)
    obtain ⟨_, _, _, _, _, _, ks, _, _, _⟩ := hI
    have cs := ks.cell 0
    simp only [List.getElem?_toArray, List.getElem?_cons_zero, List.length_finRange] at cs
    gi_wp2
    refine ⟨by simp, .inl ⟨_, _, rfl, run_takeDeferred hK, ?_⟩⟩
    refine ⟨_, results_tmp rfl _ _ _, ?_⟩
    obtain ⟨F', hd, hm, hF', hlg, kl, ks, hrb, hch, hmin⟩ := hI'
    rw [List.length_finRange] at hlg
    have hmap : (List.finRange (pcs (2 + n))).map (·.1) = List.range (pcs (2 + n)) := by
      apply List.ext_getElem
      · simp
      · intro i h1 h2; simp
    rw [hmap] at hd
    have hs2 := H2.out.2.2.1.size
    have hs3 := hch.size
    refine ⟨rfl, hd.ext (fun k hk => ?_) (fun k hk => ?_), hlg, ?_⟩
    · rcases hF' k hk with h | h
      · exact .inl h
      · exact .inr ⟨by omega, hd.foot k hk⟩
    · rcases hk with h | h
      · have := H.out.1.foot k h; omega
      · exact h.2
    · refine (Chg.of_below H2.out.2.2.1).trans' hch (fun k hk h => ?_)
      rcases h with h | h | h
      · exact .inl h
      · exact .inr h
      · omega
  case stop =>
    rintro D c pre W _ _ h _
    exact h.elim
end Go.Proofs.Ytehghjakggdnpaa
