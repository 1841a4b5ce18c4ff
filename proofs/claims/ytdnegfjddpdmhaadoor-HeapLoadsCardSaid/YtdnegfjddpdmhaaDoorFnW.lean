/-
  The contract of with.
-/
import Derived.Test.YtdnegfjddpdmhaaDoorFnN
import Derived.Deep.RegionHeld3
namespace Go.Proofs.YtdnegfjddpdmhaaDoor
open Go.RowKit Go.Lib

theorem Tryd.dksize5 : (Tryd.prog.info? 5).map (·.size) = some 1 := by kernel_rfl

set_option maxRecDepth 100000 in
set_option maxHeartbeats 6400000 in
theorem with_any (w : World) (g c : Nat) (p : List Int) (s : List Slot) (hp : IsPg p s) (h : PAt w w.heap.size g c p s.length) (j : Nat) (hj : j ≤ 254) (o : Slot) (hf : Fit (setP s j o))
    (A : Option Addr) (n cb : Nat) (hb : Rd w w.heap.size A n (cells (bsS o))) (m : Int) (hm : m = mkS o) :
    Calls Tryd.prog 77 #[.slice (some ⟨g, 0, none⟩) 256 c, .int .i64 j, .int .u8 m, .slice A n cb] w (PgRet (imgP (setP s j o)) w) := by
  have hn := h.n_le
  have hc := h.cap
  have hct := h.top
  have hsl := hp.slots
  have HM := Lib.hid (marks_any w w.heap.size g c p s.length h)
  have hd : PAt w.drew w.heap.size g c p s.length := { h with rd := h.rd.drew }
  have hwj : IntKind.i64.wrap ((j : Int) + 1) = (j : Int) + 1 := by first | go_num | (rw [IntKind.wrap_i64]; omega) | (simp [IntKind.wrap]; omega)
  have HB1 := Lib.hid (begin_pg w.drew w.heap.size g c p s hp hd s.length s.length rfl (by omega))
  have HB2 := Lib.hid (begin_pg w.drew w.heap.size g c p s hp hd ((j : Int) + 1) (j + 1) (by omega) (by omega))
  have HB3 := Lib.hid (begin_pg w.drew w.heap.size g c p s hp hd j j rfl (by omega))
  rw [List.take_length] at HB1
  have hw2 := wt_take_le s (j + 1)
  have hw3 : wtP (s.take j) ≤ wtP (s.take (j + 1)) := by
    have := wt_take_le (s.take (j + 1)) j
    rwa [List.take_take, Nat.min_eq_left (by omega)] at this
  obtain ⟨z1, hz1⟩ : ∃ z, z = 256 - wtP s := ⟨_, rfl⟩
  obtain ⟨z2, hz2⟩ : ∃ z, z = 256 - wtP (s.take (j + 1)) := ⟨_, rfl⟩
  obtain ⟨z3, hz3⟩ : ∃ z, z = 256 - wtP (s.take j) := ⟨_, rfl⟩
  rw [← hz1] at HB1
  rw [← hz2] at HB2
  rw [← hz3] at HB3
  have hz12 : z1 ≤ z2 := by omega
  have hz23 : z2 ≤ z3 := by omega
  have hz3c : z3 ≤ 256 := by omega
  have hz1i : (z1 : Int) ≤ (z2 : Int) := by omega
  have hz2i : (z2 : Int) ≤ (c : Int) := by omega
  have hz3i : (z3 : Int) ≤ 256 := by omega
  have HZ := Lib.hid (And.intro hz1 (And.intro hz2 hz3))
  obtain ⟨A1, hA1⟩ : ∃ A1 : Option Addr, A1 = if c = z1 then some ⟨g, 0, none⟩ else some ⟨g, z1, none⟩ := ⟨_, rfl⟩
  obtain ⟨A3, hA3⟩ : ∃ A3 : Option Addr, A3 = if c = z3 then some ⟨g, 0, none⟩ else some ⟨g, z3, none⟩ := ⟨_, rfl⟩
  have hr1 : Rd w w.heap.size A1 (z2 - z1) (cells (rowsP (s.drop (j + 1)))) := by
    have h1 := (h.rd.cutl (k := z1) (cap := c) (by omega) hc).cuth (k := z2 - z1) (by omega)
    rw [show List.take (z2 - z1) (List.drop z1 (cells p)) = cells ((p.drop z1).take (z2 - z1)) by simp [cells]] at h1
    have e1 := hp.mid (j + 1)
    rw [← hz1, show wtP s - wtP (s.take (j + 1)) = z2 - z1 by omega] at e1
    rw [e1] at h1
    rw [hA1]
    simpa [Addr.add_lit] using h1
  have hr3 : Rd w w.heap.size A3 (256 - z3) (cells (rowsP (s.take j))) := by
    have h1 := h.rd.cutl (k := z3) (cap := c) (by omega) hc
    rw [show List.drop z3 (cells p) = cells (p.drop z3) by simp [cells]] at h1
    have e1 := hp.tail j
    rw [← hz3] at e1
    rw [e1] at h1
    rw [hA3]
    simpa [Addr.add_lit] using h1
  have hbl : n = (bsS o).length := by have := hb.1; rw [cells_len] at this; exact this.symm
  have hn200 : n ≤ 200 := by
    have := hf.len o (by have := set_at s j o; exact List.mem_of_getElem? this)
    omega
  have HR := Lib.hid (And.intro hr1 (And.intro hb hr3))
  have HA1 := Lib.hid hA1
  have HA3 := Lib.hid hA3
  have HP := Lib.hid (And.intro hp h)
  have HFT := Lib.hid hf
  obtain ⟨w2, hw2⟩ : ∃ w2, w2 = (w.alloc (.cells #[.slice A1 (z2 - z1) (c - z1), .slice A n cb, .slice A3 (256 - z3) (c - z3)] 33)).drew := ⟨_, rfl⟩
  have hbw2 : Below w.heap.size w w2 := by rw [hw2]; exact ((Below.refl _ _).alloc (Nat.le_refl _) _).drew
  have hs2 : w2.heap.size = w.heap.size + 1 := by rw [hw2]; exact Array.size_push _
  have hblk2 : Blk w2 w.heap.size 33 #[.slice A1 (z2 - z1) (c - z1), .slice A n cb, .slice A3 (256 - z3) (c - z3)] := by rw [hw2]; exact (Blk.new w _ _).drew
  have hthr : Thr w2 w.heap.size A1 (z2 - z1) (c - z1) (rowsP (s.drop (j + 1))) A n cb (bsS o) A3 (256 - z3) (c - z3) (rowsP (s.take j)) :=
    ⟨by rw [hblk2.cell]; rfl, by rw [hblk2.cell]; rfl, by rw [hblk2.cell]; rfl, by omega, (hr1.below hbw2 (Nat.le_refl _)).more (by omega), (hb.below hbw2 (Nat.le_refl _)).more (by omega), (hr3.below hbw2 (Nat.le_refl _)).more (by omega)⟩
  have hcat := concat_any w2 w.heap.size A1 (z2 - z1) (c - z1) _ A n cb _ A3 (256 - z3) (c - z3) _ hthr (by omega) (by omega) (by omega)
  rw [List.append_assoc, ← set_rows] at hcat
  obtain ⟨R, hR⟩ : ∃ R, R = rowsP (setP s j o) := ⟨_, rfl⟩
  rw [← hR] at hcat
  have HRL := Lib.hid (show R.length = wtP (setP s j o) by rw [hR]; rfl)
  obtain ⟨r, hr⟩ : ∃ r, r = R.length := ⟨_, rfl⟩
  have HRr := Lib.hid hr
  have HRR := Lib.hid hR
  have HCAT := Lib.hid hcat
  have HW2 := Lib.hid hw2
  have HB2W := Lib.hid (And.intro hbw2 hs2)
  clear hcat hw2 hbw2 hs2 hblk2 hthr hR hr
  clear hz1 hz2 hz3 hw2 hw3 hr1 hr3 hA1 hA3 hb hbl h hp hd hf
  go_enter Tryd.func77, Tryd.ntmps77
  go_wp2_with fail
  refine HM.out.mono ?_
  rintro e w' ⟨rfl, hw'⟩
  obtain rfl := hw'.symm
  go_wp2_with fail
  refine wp_region_held_drew (S := fun _ => True) (by kernel_rfl) trivial (fun hHeld => ?_)
  refine wpAnyH_take (i := 0) (v := ?_) rfl (by kernel_rfl) (by kernel_rfl) (by kernel_rfl) (fun _ _ _ h => h) (Or.inl ⟨by rfl, ?_⟩) (by assumption) ?_
  rotate_left
  · (intro w hSw; (try dsimp only at hSw); go_simp; (try with_reducible rfl))
  simp only [Act.put, List.getElem_toArray, List.getElem_cons_zero, List.setIfInBounds_toArray, List.set_cons_zero, List.set_cons_succ]
  refine wpAnyH_take (i := 1) (v := ?_) rfl (by kernel_rfl) (by kernel_rfl) (by kernel_rfl) (fun _ _ _ h => h) (Or.inl ⟨by rfl, ?_⟩) (by assumption) ?_
  rotate_left
  · (intro w hSw; (try dsimp only at hSw); go_simp; (try with_reducible rfl))
  simp only [Act.put, List.getElem_toArray, List.getElem_cons_succ, List.getElem_cons_zero, List.setIfInBounds_toArray, List.set_cons_zero, List.set_cons_succ]
  refine wpAnyH_take (i := 2) (v := ?_) rfl (by kernel_rfl) (by kernel_rfl) (by kernel_rfl) (fun _ _ _ h => h) (Or.inl ⟨by rfl, ?_⟩) (by assumption) ?_
  rotate_left
  · (intro w hSw; (try dsimp only at hSw); go_simp; (try with_reducible rfl))
  simp only [Act.put, List.getElem_toArray, List.getElem_cons_succ, List.getElem_cons_zero, List.setIfInBounds_toArray, List.set_cons_zero, List.set_cons_succ]
  refine wpAnyH_take (i := 4) (v := ?_) rfl (by kernel_rfl) (by kernel_rfl) (by kernel_rfl) (fun _ _ _ h => h) (Or.inl ⟨by rfl, ?_⟩) (by assumption) ?_
  rotate_left
  · (intro w hSw; (try dsimp only at hSw); go_simp; (try with_reducible rfl))
  simp only [Act.put, List.getElem_toArray, List.getElem_cons_succ, List.getElem_cons_zero, List.setIfInBounds_toArray, List.set_cons_zero, List.set_cons_succ]
  refine wpAnyH_take (i := 5) (v := ?_) rfl (by kernel_rfl) (by kernel_rfl) (by kernel_rfl) (fun _ _ _ h => h) (Or.inl ⟨by rfl, ?_⟩) (by assumption) ?_
  rotate_left
  · (intro w hSw; (try dsimp only at hSw); go_simp; (try with_reducible rfl))
  simp only [Act.put, List.getElem_toArray, List.getElem_cons_succ, List.getElem_cons_zero, List.setIfInBounds_toArray, List.set_cons_zero, List.set_cons_succ]
  refine wpAnyH_take (i := 6) (v := ?_) rfl (by kernel_rfl) (by kernel_rfl) (by kernel_rfl) (fun _ _ _ h => h) (Or.inl ⟨by rfl, ?_⟩) (by assumption) ?_
  rotate_left
  · (intro w hSw; (try dsimp only at hSw); go_simp; (try with_reducible rfl))
  simp only [Act.put, List.getElem_toArray, List.getElem_cons_succ, List.getElem_cons_zero, List.setIfInBounds_toArray, List.set_cons_zero, List.set_cons_succ]
  refine wpAnyH_take (i := 9) (v := ?_) rfl (by kernel_rfl) (by kernel_rfl) (by kernel_rfl) (fun _ _ _ h => h) (Or.inl ⟨by rfl, ?_⟩) (by assumption) ?_
  rotate_left
  · (intro w hSw; (try dsimp only at hSw); go_simp; (try with_reducible rfl))
  simp only [Act.put, List.getElem_toArray, List.getElem_cons_succ, List.getElem_cons_zero, List.setIfInBounds_toArray, List.set_cons_zero, List.set_cons_succ]
  refine wpAnyH_take (i := 10) (v := ?_) rfl (by kernel_rfl) (by kernel_rfl) (by kernel_rfl) (fun _ _ _ h => h) (Or.inl ⟨by rfl, ?_⟩) (by assumption) ?_
  rotate_left
  · (intro w hSw; (try dsimp only at hSw); go_simp; (try with_reducible rfl))
  simp only [Act.put, List.getElem_toArray, List.getElem_cons_succ, List.getElem_cons_zero, List.setIfInBounds_toArray, List.set_cons_zero, List.set_cons_succ]
  refine wpAnyH_take (i := 11) (v := ?_) rfl (by kernel_rfl) (by kernel_rfl) (by kernel_rfl) (fun _ _ _ h => h) (Or.inl ⟨by rfl, ?_⟩) (by assumption) ?_
  rotate_left
  · (intro w hSw; (try dsimp only at hSw); go_simp; (try with_reducible rfl))
  simp only [Act.put, List.getElem_toArray, List.getElem_cons_succ, List.getElem_cons_zero, List.setIfInBounds_toArray, List.set_cons_zero, List.set_cons_succ]
  refine wpAnyH_take (i := 12) (v := ?_) rfl (by kernel_rfl) (by kernel_rfl) (by kernel_rfl) (fun _ _ _ h => h) (Or.inl ⟨by rfl, ?_⟩) (by assumption) ?_
  rotate_left
  · (intro w hSw; (try dsimp only at hSw); go_simp; (try with_reducible rfl))
  simp only [Act.put, List.getElem_toArray, List.getElem_cons_succ, List.getElem_cons_zero, List.setIfInBounds_toArray, List.set_cons_zero, List.set_cons_succ]
  refine wpAnyH_ready (rs := [3]) (by kernel_rfl) (by simp) ?_
  refine AllReadyH.cons rfl (fun K hK => ?_) AllReadyH.nil
  go_simp
  refine HB1.out.mono ?_
  rintro e w1 ⟨rfl, rfl⟩
  refine hK.out _ _ trivial (fun hHeld => ?_)
  clear hK K
  try simp only [Act.put, List.getElem_toArray, List.getElem_cons_succ, List.getElem_cons_zero, List.setIfInBounds_toArray, List.set_cons_zero, List.set_cons_succ]
  refine wpAnyH_ready (rs := [7]) (by kernel_rfl) (by simp) ?_
  refine AllReadyH.cons rfl (fun K hK => ?_) AllReadyH.nil
  go_simp
  refine HB2.out.mono ?_
  rintro e w1 ⟨rfl, rfl⟩
  refine hK.out _ _ trivial (fun hHeld => ?_)
  clear hK K
  try simp only [Act.put, List.getElem_toArray, List.getElem_cons_succ, List.getElem_cons_zero, List.setIfInBounds_toArray, List.set_cons_zero, List.set_cons_succ]
  refine wpAnyH_take (i := 8) (v := ?_) rfl (by kernel_rfl) (by kernel_rfl) (by kernel_rfl) (fun _ _ _ h => h) (Or.inl ⟨by rfl, ?_⟩) (by assumption) ?_
  rotate_left
  · (intro w hSw; (try dsimp only at hSw); go_simp; (try with_reducible rfl))
  simp only [Act.put, List.getElem_toArray, List.getElem_cons_succ, List.getElem_cons_zero, List.setIfInBounds_toArray, List.set_cons_zero, List.set_cons_succ]
  refine wpAnyH_ready (rs := [13]) (by kernel_rfl) (by simp) ?_
  refine AllReadyH.cons rfl (fun K hK => ?_) AllReadyH.nil
  go_simp
  refine HB3.out.mono ?_
  rintro e w1 ⟨rfl, rfl⟩
  refine hK.out _ _ trivial (fun hHeld => ?_)
  clear hK K
  try simp only [Act.put, List.getElem_toArray, List.getElem_cons_succ, List.getElem_cons_zero, List.setIfInBounds_toArray, List.set_cons_zero, List.set_cons_succ]
  refine wpAnyH_take (i := 14) (v := ?_) rfl (by kernel_rfl) (by kernel_rfl) (by kernel_rfl) (fun _ _ _ h => h) (Or.inl ⟨by rfl, ?_⟩) (by assumption) ?_
  rotate_left
  · (intro w hSw; (try dsimp only at hSw); go_simp; (try with_reducible rfl))
  simp only [Act.put, List.getElem_toArray, List.getElem_cons_succ, List.getElem_cons_zero, List.setIfInBounds_toArray, List.set_cons_zero, List.set_cons_succ]
  rw [← HA1.out, ← HA3.out]
  refine wpAnyH_ready (rs := [15]) (by kernel_rfl) (by simp) ?_
  refine AllReadyH.cons rfl (fun K hK => ?_) AllReadyH.nil
  go_simp
  rw [← HW2.out]
  refine hK.out _ _ trivial (fun hHeld => ?_)
  clear hK K
  try simp only [Act.put, List.getElem_toArray, List.getElem_cons_succ, List.getElem_cons_zero, List.setIfInBounds_toArray, List.set_cons_zero, List.set_cons_succ]
  refine wpAnyH_ready (rs := [16]) (by kernel_rfl) (by simp) ?_
  refine AllReadyH.cons rfl (fun K hK => ?_) AllReadyH.nil
  go_simp
  refine HCAT.out.mono ?_
  rintro e w3 ⟨vr, rfl, hown, hb3⟩
  have hfr := HFT.out.room
  have hslen := set_len s j o
  rw [← HRr.out] at hown
  obtain ⟨Ar, cr, rfl, hcr1, hcr2⟩ := own_shape hown
  have H3 := Lib.hid (And.intro (Rd.of_own hown) (HB2W.out.1.trans (hb3.mono HB2W.out.1.size)))
  have H3S := Lib.hid hb3.size
  clear hown hb3
  refine hK.out _ _ trivial (fun hHeld => ?_)
  clear hK K
  try simp only [Act.put, List.getElem_toArray, List.getElem_cons_succ, List.getElem_cons_zero, List.setIfInBounds_toArray, List.set_cons_zero, List.set_cons_succ]
  refine wpAnyH_take (i := 17) (v := ?_) rfl (by kernel_rfl) (by kernel_rfl) (by kernel_rfl) (fun _ _ _ h => h) (Or.inl ⟨by rfl, ?_⟩) (by assumption) ?_
  rotate_left
  · (intro w hSw; (try dsimp only at hSw); go_simp; (try with_reducible rfl))
  simp only [Act.put, List.getElem_toArray, List.getElem_cons_succ, List.getElem_cons_zero, List.setIfInBounds_toArray, List.set_cons_zero, List.set_cons_succ]
  refine wpAnyH_done (by kernel_rfl) ?_ _
  try simp only [Act.put, List.getElem_toArray, List.getElem_cons_succ, List.getElem_cons_zero, List.setIfInBounds_toArray, List.set_cons_zero, List.set_cons_succ]
  go_wp2_with fail
  refine (new_any w3).mono ?_
  rintro e w4 ⟨gq, rfl, hq, hgq, hb4⟩
  have H4 := Lib.hid (And.intro hq (And.intro hgq hb4))
  clear hq hgq hb4
  have hbw4 : Below w.heap.size w w4 := H3.out.2.trans (H4.out.2.2.mono H3.out.2.size)
  have hgq4 : w.heap.size ≤ gq := Nat.le_trans H3.out.2.size H4.out.2.1
  have hp4 := HP.out.2.below hbw4 (Nat.le_refl _)
  have hr4 := H3.out.1.below H4.out.2.2 (Nat.le_refl _)
  have HQ := Lib.hid (And.intro hbw4 (And.intro hgq4 (And.intro hp4 hr4)))
  have hps : (cells (p.take (1 + s.length))).length = 1 + s.length := by rw [cells_len, List.length_take, HP.out.1.len]; omega
  have HPS := Lib.hid hps
  have HSRC := Lib.hid (show ∀ i v, (cells (p.take (1 + s.length)))[i]? = some v → w4.cell? ⟨g, i, none⟩ = some v from fun i v hv => by
    obtain ⟨ad, e1, _, hcc⟩ := hp4.rd.2 (by omega)
    obtain rfl := Option.some.inj e1
    have hi : i < 1 + s.length := by have := (List.getElem?_eq_some_iff.1 hv).1; rwa [hps] at this
    have h := hcc i v (by rw [← hv]; simp [cells, List.getElem?_take, hi])
    rwa [Addr.add_lit, Nat.zero_add] at h)
  clear hbw4 hgq4 hp4 hr4 hps
  have hone1 : (1 : Int) + (s.length : Int) ≤ (c : Int) := by omega
  go_wp2_with (refine wpList_copy_splice rfl (.tmp 33) (.tmp 37) 33 33 rfl 5 Tryd.underlying33 Tryd.dksize5 _ _ _ _ _ _ rfl rfl gq 0 (cells zeros) 5 H4.out.1 (cells (p.take (1 + s.length))) ?k1 ?k2 ?k3 (cells_one _) w3.heap.size w3 H4.out.2.2 H4.out.2.1 ?_)
  case k1 => rw [HPS.out]; exact (Nat.min_eq_left (by omega)).symm
  case k2 => exact fun _ => HSRC.out
  case k3 => rw [HPS.out, cells_len, zeros_len]; omega
  intro w5 hg5 hb5
  have hg5' : Blk w5 gq 5 (cells (st1 s)).toArray := by
    have h := hg5.out
    rw [splice_cells, with1 HP.out.1] at h
    exact h
  have hst1 : (st1 s).length = 256 := by simp [st1, marks_len]; omega
  have hc0 : ∃ v, w5.cell? ⟨gq, 0, none⟩ = some v := by
    rw [hg5'.cell]
    exact ⟨_, Array.getElem?_eq_getElem (by simp [cells_len, hst1])⟩
  have hc1 : ∃ v, w5.cell? ⟨gq, 1 + j, none⟩ = some v := by
    rw [hg5'.cell]
    exact ⟨_, Array.getElem?_eq_getElem (by simp [cells_len, hst1]; omega)⟩
  obtain ⟨v0, hc0⟩ := hc0
  obtain ⟨v1, hc1⟩ := hc1
  have hf0 := hg5'.frozen 0
  have hf1 := hg5'.frozen (1 + j)
  have H5 := Lib.hid (And.intro hg5' hb5)
  clear hg5 hg5' hb5
  have hwu : IntKind.u8.wrap ((j : Int) + 1) = (j : Int) + 1 := by rw [IntKind.wrap_u8]; omega
  have hwn : IntKind.u8.wrap (s.length : Int) = (s.length : Int) := by rw [IntKind.wrap_u8]; omega
  have hj0 : (0 : Int) ≤ (j : Int) := Int.natCast_nonneg _
  have hrb : r ≤ 256 := by have := HRL.out; have := HRr.out; omega
  obtain ⟨zr, hzr⟩ : ∃ zr, zr = 256 - r := ⟨_, rfl⟩
  have hzi : (256 : Int) - (r : Int) = (zr : Int) := by omega
  have hzb : zr ≤ 256 := by omega
  have hzb1 : (zr : Int) ≤ 256 := by omega
  have hzb0 : (0 : Int) ≤ (zr : Int) := by omega
  have HZR := Lib.hid hzr
  clear hzr
  have H7 := Lib.hid (show ∀ x : Int, x = ((max s.length (j + 1) : Nat) : Int) →
      Blk ((w5.setCell ⟨gq, 0, none⟩ (.int .u8 x)).setCell ⟨gq, 1 + j, none⟩ (.int .u8 (mkS o))) gq 5 (cells (st3 (setP s j o))).toArray ∧
      Below w3.heap.size w3 ((w5.setCell ⟨gq, 0, none⟩ (.int .u8 x)).setCell ⟨gq, 1 + j, none⟩ (.int .u8 (mkS o))) from fun x hx => by
    have h := (H5.out.1.put 0 (.int .u8 x)).put (1 + j) (.int .u8 (mkS o))
    simp only [List.setIfInBounds_toArray, set_cells] at h
    rw [hx, with3 s j o (by omega) hj, ← hx] at h
    exact ⟨h, (H5.out.2.setCell (p := ⟨gq, 0, none⟩) H4.out.2.1 _).setCell (p := ⟨gq, 1 + j, none⟩) H4.out.2.1 _⟩)
  have hst3 : (cells (st3 (setP s j o))).length = 256 := by
    have h := (H7.out _ rfl).1
    rw [cells_len]
    have := HFT.out.room
    simp [st3, marks_len]
    omega
  have HS3 := Lib.hid hst3
  have HFIN := Lib.hid (show splice (cells (st3 (setP s j o))) zr (cells R) = cells (imgP (setP s j o)) by
    rw [splice_cells, HZR.out, HRr.out, HRR.out, with4 _ HFT.out.room])
  clear hst3
  by_cases hlt : s.length < j + 1
  · have hlt1 : (s.length : Int) < (j : Int) + 1 := by omega
    have HX := Lib.hid (show ((j : Int) + 1) = ((max s.length (j + 1) : Nat) : Int) by omega)
    by_cases hr0 : r = 0
    · have hz : zr = 256 := by have := HZR.out; omega
      subst hz
      obtain rfl := hr0
      go_wp2_with (refine wpList_copy_splice rfl (.tmp 57) (.tmp 58) 33 33 rfl 5 Tryd.underlying33 Tryd.dksize5 _ _ _ _ _ _ rfl rfl gq 256 (cells (st3 (setP s j o))) 5 ?k1 (cells R) ?k2 ?k3 ?k4 (cells_one _) w3.heap.size w3 ?k5 ?k6 ?_)
      case k1 => exact (H7.out _ HX.out).1
      case k2 => rw [List.eq_nil_of_length_eq_zero HRr.out.symm]; rfl
      case k3 => rw [List.eq_nil_of_length_eq_zero HRr.out.symm]; rfl
      case k4 => rw [HS3.out, cells_len]; have h1 := HRr.out; have h2 := HZR.out; omega
      case k5 => exact (H7.out _ HX.out).2
      case k6 => exact H4.out.2.1
      intro w8 hg8 hb8
      have HF := Lib.hid (show PgRet (imgP (setP s j o)) w (.returned (.slice (some ⟨gq, 0, none⟩) 256 256)) w8 from
        ⟨gq, rfl, by have h := hg8.out; rw [HFIN.out] at h; exact h, HQ.out.2.1, H3.out.2.trans (hb8.mono H3.out.2.size)⟩)
      clear hg8 hb8
      go_wp2
      go_ret
      exact HF.out
    · have hz : ¬ (256 : Nat) = zr := by have := HZR.out; omega
      have hz' : ¬ zr = 256 := by omega
      go_wp2_with (refine wpList_copy_splice rfl (.tmp 57) (.tmp 58) 33 33 rfl 5 Tryd.underlying33 Tryd.dksize5 _ _ _ _ _ _ rfl rfl gq zr (cells (st3 (setP s j o))) 5 ?k1 (cells R) ?k2 ?k3 ?k4 (cells_one _) w3.heap.size w3 ?k5 ?k6 ?_)
      case k1 => exact (H7.out _ HX.out).1
      case k2 => rw [cells_len, ← HRr.out]; exact (Nat.min_eq_left (by have := HZR.out; omega)).symm
      case k3 =>
        intro h0
        obtain ⟨ad, e1, hlt9, hcc⟩ := H3.out.1.2 (by rw [cells_len] at h0; have := HRr.out; omega)
        exact ⟨ad, e1, fun i v hv => ((H7.out _ HX.out).2.cell (p := ad.add i) (by rw [addr_block]; exact hlt9)).trans (hcc i v hv)⟩
      case k4 => rw [HS3.out, cells_len]; have h1 := HRr.out; have h2 := HZR.out; omega
      case k5 => exact (H7.out _ HX.out).2
      case k6 => exact H4.out.2.1
      intro w8 hg8 hb8
      have HF := Lib.hid (show PgRet (imgP (setP s j o)) w (.returned (.slice (some ⟨gq, 0, none⟩) 256 256)) w8 from
        ⟨gq, rfl, by have h := hg8.out; rw [HFIN.out] at h; exact h, HQ.out.2.1, H3.out.2.trans (hb8.mono H3.out.2.size)⟩)
      clear hg8 hb8
      go_wp2
      go_ret
      exact HF.out
  · have hlt1 : ¬ ((s.length : Int) < (j : Int) + 1) := by omega
    have HX := Lib.hid (show (s.length : Int) = ((max s.length (j + 1) : Nat) : Int) by omega)
    by_cases hr0 : r = 0
    · have hz : zr = 256 := by have := HZR.out; omega
      subst hz
      obtain rfl := hr0
      go_wp2_with (refine wpList_copy_splice rfl (.tmp 57) (.tmp 58) 33 33 rfl 5 Tryd.underlying33 Tryd.dksize5 _ _ _ _ _ _ rfl rfl gq 256 (cells (st3 (setP s j o))) 5 ?k1 (cells R) ?k2 ?k3 ?k4 (cells_one _) w3.heap.size w3 ?k5 ?k6 ?_)
      case k1 => exact (H7.out _ HX.out).1
      case k2 => rw [List.eq_nil_of_length_eq_zero HRr.out.symm]; rfl
      case k3 => rw [List.eq_nil_of_length_eq_zero HRr.out.symm]; rfl
      case k4 => rw [HS3.out, cells_len]; have h1 := HRr.out; have h2 := HZR.out; omega
      case k5 => exact (H7.out _ HX.out).2
      case k6 => exact H4.out.2.1
      intro w8 hg8 hb8
      have HF := Lib.hid (show PgRet (imgP (setP s j o)) w (.returned (.slice (some ⟨gq, 0, none⟩) 256 256)) w8 from
        ⟨gq, rfl, by have h := hg8.out; rw [HFIN.out] at h; exact h, HQ.out.2.1, H3.out.2.trans (hb8.mono H3.out.2.size)⟩)
      clear hg8 hb8
      go_wp2
      go_ret
      exact HF.out
    · have hz : ¬ (256 : Nat) = zr := by have := HZR.out; omega
      have hz' : ¬ zr = 256 := by omega
      go_wp2_with (refine wpList_copy_splice rfl (.tmp 57) (.tmp 58) 33 33 rfl 5 Tryd.underlying33 Tryd.dksize5 _ _ _ _ _ _ rfl rfl gq zr (cells (st3 (setP s j o))) 5 ?k1 (cells R) ?k2 ?k3 ?k4 (cells_one _) w3.heap.size w3 ?k5 ?k6 ?_)
      case k1 => exact (H7.out _ HX.out).1
      case k2 => rw [cells_len, ← HRr.out]; exact (Nat.min_eq_left (by have := HZR.out; omega)).symm
      case k3 =>
        intro h0
        obtain ⟨ad, e1, hlt9, hcc⟩ := H3.out.1.2 (by rw [cells_len] at h0; have := HRr.out; omega)
        exact ⟨ad, e1, fun i v hv => ((H7.out _ HX.out).2.cell (p := ad.add i) (by rw [addr_block]; exact hlt9)).trans (hcc i v hv)⟩
      case k4 => rw [HS3.out, cells_len]; have h1 := HRr.out; have h2 := HZR.out; omega
      case k5 => exact (H7.out _ HX.out).2
      case k6 => exact H4.out.2.1
      intro w8 hg8 hb8
      have HF := Lib.hid (show PgRet (imgP (setP s j o)) w (.returned (.slice (some ⟨gq, 0, none⟩) 256 256)) w8 from
        ⟨gq, rfl, by have h := hg8.out; rw [HFIN.out] at h; exact h, HQ.out.2.1, H3.out.2.trans (hb8.mono H3.out.2.size)⟩)
      clear hg8 hb8
      go_wp2
      go_ret
      exact HF.out
end Go.Proofs.YtdnegfjddpdmhaaDoor
