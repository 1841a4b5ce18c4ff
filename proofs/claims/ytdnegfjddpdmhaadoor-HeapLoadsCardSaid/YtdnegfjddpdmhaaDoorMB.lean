/-
  The document's own heap: Cut and Put.
-/
import Derived.Test.YtdnegfjddpdmhaaDoorMA
namespace Go.Proofs.YtdnegfjddpdmhaaDoor
open Go.RowKit Go.Lib

def RErr (B hb : Nat) (D : Nat → Prop) (w : World) (er : Int) (ps : Pgs) (e : Ending) (w' : World) : Prop := e = .returned (.int .i64 er) ∧ RhTo B hb D w ps w'
theorem rcut_is {s : List Slot} {k : Int} (hs : GoodP s) (h : takenP s k = true) : rcutP s k = some (imgP (trimP (setP s k.toNat none))) := by
  unfold rcutP bytesP
  rw [if_pos h, if_pos (fit_can (cut_good hs h).fit)]
theorem rput_is {s : List Slot} {k : Int} {b : List Int} (hs : GoodP s) (hb : IsBytes b) : rputP s k b = (putS s k b).map imgP := by
  rw [rput_put hs.fit hs.trim k hb]
  simp only [putP, putS]
  split <;> rfl
section
variable (w : World) (B hb : Nat) (D : Nat → Prop) (ps : Pgs) (h : RhV B D w hb ps) (hok : HOk ps) (hB : B ≤ w.heap.size)
include h hok hB
set_option maxRecDepth 100000 in
set_option maxHeartbeats 3200000 in
theorem rcut_any (p k : Int) : Calls Tryd.prog 34 #[.pointer (some ⟨hb, 0, none⟩), .agg #[.int .i64 p, .int .i64 k]] w (RErr B hb D w (cutE ps p k) (cutN ps p k)) := by
  have hft : ∀ k, D k → B ≤ k ∧ k < w.heap.size := fun k hk => h.foot hk
  obtain ⟨w1, hw1⟩ : ∃ w1, w1 = w.alloc (.cells #[.int .i64 p, .int .i64 k] 32) := ⟨_, rfl⟩
  have k1 : Blk w1 w.heap.size 32 #[.int .i64 p, .int .i64 k] := by rw [hw1]; exact Blk.new _ _ _
  have hl1 : Below w.heap.size w w1 := by rw [hw1]; exact (Below.refl _ w).alloc (Nat.le_refl _) _
  have HGT := Lib.hid (rget_any (h.below hl1) p k)
  have hc0 := k1.cell 0
  have hc1 := k1.cell 1
  simp only [List.getElem?_toArray, List.getElem?_cons_zero, List.getElem?_cons_succ] at hc0 hc1
  have HW1 := Lib.hid hw1
  rw [hw1] at hc0 hc1
  have H := Lib.hid (And.intro h (And.intro hft (And.intro hl1 (And.intro k1 hok))))
  have s1 : w1.heap.size = w.heap.size + 1 := by rw [hw1]; simp
  clear h hft k1 hl1 hw1 hok
  go_enter Tryd.func34, Tryd.ntmps34
  go_wp2_with fail
  rw [← HW1.out]
  refine HGT.out.mono ?_
  rintro e w2 ⟨v2, rfl, _, hb12⟩
  have hb2 := below_le H.out.2.2.1 hb12
  have hk2 := H.out.2.2.2.1.below hb12 (by omega)
  have e0 := hk2.cell 0
  have e1 := hk2.cell 1
  simp only [List.getElem?_toArray, List.getElem?_cons_zero, List.getElem?_cons_succ] at e0 e1
  have HB2 := Lib.hid hb2
  have HK2 := Lib.hid hk2
  clear hb2 hb12 hk2
  cases hg : (getH ps p k).isSome with
  | false =>
    have HE := Lib.hid (show cutE ps p k = 13 ∧ cutN ps p k = ps from ⟨by rw [cutE, if_neg (by rw [hg]; simp)], by rw [cutN, if_neg (by rw [hg]; simp)]⟩)
    clear hg
    go_wp2_with fail
    go_ret
    exact ⟨by rw [HE.out.1]; rfl, by rw [HE.out.2]; exact RhTo.same H.out.1 HB2.out hB⟩
  | true =>
    obtain ⟨h0, h1, htk⟩ := getH_some hg
    obtain ⟨q, rfl⟩ : ∃ q : Nat, p = (q : Int) := ⟨p.toNat, by omega⟩
    rw [Int.toNat_natCast] at h1 htk
    have HE := Lib.hid (show cutE ps (q : Int) k = 0 ∧ cutN ps (q : Int) k = trimH (setH ps q (trimP (setP (pgAt ps q) k.toNat none))) from
      ⟨by rw [cutE, if_pos hg], by rw [cutN, if_pos hg, Int.toNat_natCast]⟩)
    have hV2 := H.out.1.below HB2.out
    have hV2' := hV2
    obtain ⟨v, ys, hx, hps⟩ := hV2
    have hyl : q < ys.length := by rw [← prslots_len, hps]; exact h1
    obtain ⟨A, c, rfl, _, _⟩ := own_shape hx.own
    have hc := hx.blk.cell 0
    simp only [List.getElem?_toArray, List.getElem?_cons_zero] at hc
    obtain ⟨ad, c', hv, hcx⟩ := hx.at_ hyl
    injection hv with hv1 _ hv3
    subst hv1
    obtain ⟨x, hxe⟩ : ∃ x, x = ys[q] := ⟨_, rfl⟩
    rw [← hxe] at hcx
    have hokx := hx.pg x (by rw [hxe]; exact List.getElem_mem hyl)
    have hxs : slotsOf x.xs = pgAt ps q := by rw [hxe, ← hps, pgAt_pr hyl]
    obtain ⟨xn, hxn⟩ : ∃ n, n = x.xs.length := ⟨_, rfl⟩
    have hpg := hokx.pgr
    have hxn3 : xn ≤ 300 := by have := hokx.few; omega
    unfold Pr.val at hcx
    rw [← hxn] at hpg hcx
    have hgs := hokx.good
    rw [hxs] at hgs
    obtain ⟨s', hs'⟩ : ∃ s', s' = trimP (setP (pgAt ps q) k.toNat none) := ⟨_, rfl⟩
    have hgood' : GoodP s' := by rw [hs']; exact cut_good hgs htk
    have hlen' : (imgP s').length = 256 := hgood'.pg.len
    have HC := Lib.hid (show ∀ d, Calls Tryd.prog 62 #[.agg #[.slice x.A xn x.c], .int .i64 k] (World.drewN w2 d) (BsRet (some (imgP s')) (World.drewN w2 d)) from fun d => by
      have h9 := refCut_any (World.drewN w2 d) x.A xn x.c x.xs (hpg.below (below_dN (Below.refl _ _) d)) hxn3 k
      rw [hxs, rcut_is hgs htk, ← hs'] at h9
      exact h9)
    have HS := Lib.hid (And.intro hs' (And.intro hgood' (And.intro hlen' hV2')))
    have HAD := Lib.hid (show (ad.add q).block < w2.heap.size from World.block_lt_of_cell? _ _ hcx)
    have hbl2 := hx.blk.lt
    have hwl2 := HK2.out.lt
    have HLQ := Lib.hid h1
    have hlq : (q : Int) < (ys.length : Int) := by omega
    clear hg h0 htk hx hps hxe hokx hxs hxn hpg hgs hs' hgood' hlen' hc0 hc1 hV2' hv3
    go_wp2_with fail
    go_region_held3 (fun w' => w'.cell? ⟨hb, 0, none⟩ = some (.slice (some ad) ys.length c) ∧ w'.cell? ⟨w.heap.size, 0, none⟩ = some (.int .i64 (q : Int)) ∧ w'.cell? ⟨w.heap.size, 1, none⟩ = some (.int .i64 k) ∧ w'.cell? (ad.add q) = some (.slice x.A xn x.c))
      (first | exact HK.out | go_keep)
      (first | (go_at_call 62; refine (HC.out _).mono ?_; rintro e w3 ⟨v3, rfl, hown3, hbel3'⟩; have hbel3 := dN_below hbel3'; have HK := Lib.hid (show w3.cell? ⟨hb, 0, none⟩ = some (.slice (some ad) ys.length c) ∧ w3.cell? ⟨w.heap.size, 0, none⟩ = some (.int .i64 (q : Int)) ∧ w3.cell? ⟨w.heap.size, 1, none⟩ = some (.int .i64 k) ∧ w3.cell? (ad.add q) = some (.slice x.A xn x.c) from ⟨(hbel3.cell (p := ⟨hb, 0, none⟩) hbl2).trans hc, (hbel3.cell (p := ⟨w.heap.size, 0, none⟩) hwl2).trans e0, (hbel3.cell (p := ⟨w.heap.size, 1, none⟩) hwl2).trans e1, (hbel3.cell HAD.out).trans hcx⟩); have HO3 := Lib.hid (And.intro hown3 (show Below w2.heap.size w2 w3 from hbel3)); clear hown3 hbel3 hbel3'))
    have hown3 := HO3.out.1
    simp only [Option.getD_some] at hown3
    rw [HS.out.2.2.1] at hown3
    obtain ⟨A3, c3, rfl, _, _⟩ := own_shape hown3
    have hV3 := HS.out.2.2.2.below HO3.out.2
    have s2 := HB2.out.size
    have s3 := HO3.out.2.size
    have HSET := Lib.hid (rset_any w3 B hb D ps hV3 H.out.2.2.2.2.few (by omega) q (by have h8 := H.out.2.2.2.2.few; have h9 := HLQ.out; omega) A3 c3 s' HS.out.2.1 (own_base hown3 (Nat.zero_le _)) (fun j hj hd => by have h8 : w2.heap.size ≤ j := (hown3.lt j hj).1; have h9 := (H.out.2.1 j hd).2; have h7 := HB2.out.size; omega))
    clear hown3 hV3
    go_wp2_with fail
    refine HSET.out.mono ?_
    rintro e w4 ⟨rfl, hto⟩
    have HF := Lib.hid (RhTo.after (HB2.out.trans (HO3.out.2.mono s2)) hto hB H.out.2.1)
    clear hto
    go_wp2_with fail
    go_ret
    exact ⟨by rw [HE.out.1]; rfl, by rw [HE.out.2, ← HS.out.1]; exact HF.out⟩
end
end Go.Proofs.YtdnegfjddpdmhaaDoor

/-
  The document's own heap: Put.
-/
namespace Go.Proofs.YtdnegfjddpdmhaaDoor
open Go.RowKit Go.Lib

section
variable (w : World) (B hb : Nat) (D : Nat → Prop) (ps : Pgs) (h : RhV B D w hb ps) (hok : HOk ps) (hB : B ≤ w.heap.size)
include h hok hB
set_option maxRecDepth 100000 in
set_option maxHeartbeats 3200000 in
theorem rput_any (p k : Int) (A2 : Option Addr) (n2 c2 : Nat) (b : List Int) (hr : RdX D w A2 n2 (cells b)) (hb2 : IsBytes b) (hn2 : n2 ≤ 100000) : Calls Tryd.prog 33 #[.pointer (some ⟨hb, 0, none⟩), .agg #[.int .i64 p, .int .i64 k], .slice A2 n2 c2] w (RErr B hb D w (putE ps p k b) (putN ps p k b)) := by
  have hft : ∀ k, D k → B ≤ k ∧ k < w.heap.size := fun k hk => h.foot hk
  obtain ⟨w1, hw1⟩ : ∃ w1, w1 = w.alloc (.cells #[.int .i64 p, .int .i64 k] 32) := ⟨_, rfl⟩
  have k1 : Blk w1 w.heap.size 32 #[.int .i64 p, .int .i64 k] := by rw [hw1]; exact Blk.new _ _ _
  have hl1 : Below w.heap.size w w1 := by rw [hw1]; exact (Below.refl _ w).alloc (Nat.le_refl _) _
  have HGT := Lib.hid (rget_any (h.below hl1) p k)
  have hc0 := k1.cell 0
  have hc1 := k1.cell 1
  simp only [List.getElem?_toArray, List.getElem?_cons_zero, List.getElem?_cons_succ] at hc0 hc1
  have HW1 := Lib.hid hw1
  rw [hw1] at hc0 hc1
  have H := Lib.hid (And.intro h (And.intro hft (And.intro hl1 (And.intro k1 (And.intro hok (And.intro hr hb2))))))
  have s1 : w1.heap.size = w.heap.size + 1 := by rw [hw1]; simp
  clear h hft k1 hl1 hw1 hok hr hb2
  go_enter Tryd.func33, Tryd.ntmps33
  go_wp2_with fail
  rw [← HW1.out]
  refine HGT.out.mono ?_
  rintro e w2 ⟨v2, rfl, _, hb12⟩
  have hbw2 := below_le H.out.2.2.1 hb12
  have hk2 := H.out.2.2.2.1.below hb12 (by omega)
  have e0 := hk2.cell 0
  have e1 := hk2.cell 1
  simp only [List.getElem?_toArray, List.getElem?_cons_zero, List.getElem?_cons_succ] at e0 e1
  have HB2 := Lib.hid hbw2
  have HK2 := Lib.hid hk2
  clear hbw2 hb12 hk2
  cases hg : (getH ps p k).isSome with
  | false =>
    have HE := Lib.hid (show putE ps p k b = 13 ∧ putN ps p k b = ps from ⟨by rw [putE, if_neg (by rw [hg]; simp)], by rw [putN, if_neg (by rw [hg]; simp)]⟩)
    clear hg
    go_wp2_with fail
    go_ret
    exact ⟨by rw [HE.out.1]; rfl, by rw [HE.out.2]; exact RhTo.same H.out.1 HB2.out hB⟩
  | true =>
    obtain ⟨h0, h1, htk⟩ := getH_some hg
    obtain ⟨q, rfl⟩ : ∃ q : Nat, p = (q : Int) := ⟨p.toNat, by omega⟩
    rw [Int.toNat_natCast] at h1 htk
    have HGS := Lib.hid hg
    have hV2 := H.out.1.below HB2.out
    have hV2' := hV2
    obtain ⟨v, ys, hx, hps⟩ := hV2
    have hyl : q < ys.length := by rw [← prslots_len, hps]; exact h1
    obtain ⟨A, c, rfl, _, _⟩ := own_shape hx.own
    have hc := hx.blk.cell 0
    simp only [List.getElem?_toArray, List.getElem?_cons_zero] at hc
    obtain ⟨ad, c', hv, hcx⟩ := hx.at_ hyl
    injection hv with hv1 _ hv3
    subst hv1
    obtain ⟨x, hxe⟩ : ∃ x, x = ys[q] := ⟨_, rfl⟩
    rw [← hxe] at hcx
    have hokx := hx.pg x (by rw [hxe]; exact List.getElem_mem hyl)
    have hxs : slotsOf x.xs = pgAt ps q := by rw [hxe, ← hps, pgAt_pr hyl]
    obtain ⟨xn, hxn⟩ : ∃ n, n = x.xs.length := ⟨_, rfl⟩
    have hpg := hokx.pgr
    have hxn3 : xn ≤ 300 := by have := hokx.few; omega
    unfold Pr.val at hcx
    rw [← hxn] at hpg hcx
    have hgs := hokx.good
    rw [hxs] at hgs
    obtain ⟨r, hr'⟩ : ∃ r, r = putS (pgAt ps q) k b := ⟨_, rfl⟩
    have HRD := Lib.hid (H.out.2.2.2.2.2.1.below HB2.out).rd
    have HC := Lib.hid (show ∀ d, Calls Tryd.prog 61 #[.agg #[.slice x.A xn x.c], .int .i64 k, .slice A2 n2 c2] (World.drewN w2 d) (BsRet (r.map imgP) (World.drewN w2 d)) from fun d => by
      have h9 := refPut_any (World.drewN w2 d) x.A xn x.c x.xs (hpg.below (below_dN (Below.refl _ _) d)) hxn3 k A2 n2 c2 b HRD.out H.out.2.2.2.2.2.2 hn2
      rw [hxs, rput_is hgs H.out.2.2.2.2.2.2, ← hr'] at h9
      exact h9)
    have HS := Lib.hid (And.intro hr' (And.intro hgs hV2'))
    have HAD := Lib.hid (show (ad.add q).block < w2.heap.size from World.block_lt_of_cell? _ _ hcx)
    have hbl2 := hx.blk.lt
    have hwl2 := HK2.out.lt
    have HLQ := Lib.hid h1
    have hlq : (q : Int) < (ys.length : Int) := by omega
    clear hg h0 htk hx hps hxe hokx hxs hxn hpg hgs hr' hc0 hc1 hV2' hv3
    go_wp2_with fail
    go_region_held3 (fun w' => w'.cell? ⟨hb, 0, none⟩ = some (.slice (some ad) ys.length c) ∧ w'.cell? ⟨w.heap.size, 0, none⟩ = some (.int .i64 (q : Int)) ∧ w'.cell? ⟨w.heap.size, 1, none⟩ = some (.int .i64 k) ∧ w'.cell? (ad.add q) = some (.slice x.A xn x.c))
      (first | exact HK.out | go_keep)
      (first | (go_at_call 61; refine (HC.out _).mono ?_; rintro e w3 ⟨v3, rfl, hown3, hbel3'⟩; have hbel3 := dN_below hbel3'; have HK := Lib.hid (show w3.cell? ⟨hb, 0, none⟩ = some (.slice (some ad) ys.length c) ∧ w3.cell? ⟨w.heap.size, 0, none⟩ = some (.int .i64 (q : Int)) ∧ w3.cell? ⟨w.heap.size, 1, none⟩ = some (.int .i64 k) ∧ w3.cell? (ad.add q) = some (.slice x.A xn x.c) from ⟨(hbel3.cell (p := ⟨hb, 0, none⟩) hbl2).trans hc, (hbel3.cell (p := ⟨w.heap.size, 0, none⟩) hwl2).trans e0, (hbel3.cell (p := ⟨w.heap.size, 1, none⟩) hwl2).trans e1, (hbel3.cell HAD.out).trans hcx⟩); have HO3 := Lib.hid (And.intro hown3 (show Below w2.heap.size w2 w3 from hbel3)); clear hown3 hbel3 hbel3'))
    have HQ := Lib.hid (show q ≤ 255 by have h8 := H.out.2.2.2.2.1.few; have h9 := HLQ.out; omega)
    have HBB := Lib.hid (HB2.out.trans (HO3.out.2.mono HB2.out.size))
    cases r with
    | none =>
      have HE := Lib.hid (show putE ps (q : Int) k b = 36 ∧ putN ps (q : Int) k b = ps from
        ⟨by rw [putE, if_pos HGS.out, Int.toNat_natCast, ← HS.out.1]; rfl, by rw [putN, if_pos HGS.out, Int.toNat_natCast, ← HS.out.1]⟩)
      simp only [Option.map_none, Option.isSome_none]
      go_wp2_with fail
      go_ret
      exact ⟨by rw [HE.out.1]; rfl, by rw [HE.out.2]; exact RhTo.same H.out.1 HBB.out hB⟩
    | some t =>
      obtain ⟨p0, p1, p2, p3, p4, p5⟩ := put_some HS.out.1.symm HS.out.2.1 H.out.2.2.2.2.2.2
      have hokN := putN_ok (p := (q : Int)) (k := k) (b := b) H.out.2.2.2.2.1 H.out.2.2.2.2.2.2
      have hpn : putN ps (q : Int) k b = setH ps q t := by rw [putN, if_pos HGS.out, Int.toNat_natCast, ← HS.out.1]
      have HE := Lib.hid (show putE ps (q : Int) k b = 0 ∧ putN ps (q : Int) k b = trimH (setH ps q t) from
        ⟨by rw [putE, if_pos HGS.out, Int.toNat_natCast, ← HS.out.1]; rfl, by rw [hpn] at hokN ⊢; exact (trimH_id hokN.last).symm⟩)
      have hown3 := HO3.out.1
      simp only [Option.map_some, Option.getD_some] at hown3
      rw [show (imgP t).length = 256 from p4.pg.len] at hown3
      obtain ⟨A3, c3, rfl, _, _⟩ := own_shape hown3
      have hV3 := HS.out.2.2.below HO3.out.2
      have s2 := HB2.out.size
      have s3 := HO3.out.2.size
      have HSET := Lib.hid (rset_any w3 B hb D ps hV3 H.out.2.2.2.2.1.few (by omega) q HQ.out A3 c3 t p4 (own_base hown3 (Nat.zero_le _)) (fun j hj hd => by have h8 : w2.heap.size ≤ j := (hown3.lt j hj).1; have h9 := (H.out.2.1 j hd).2; have h7 := HB2.out.size; omega))
      simp only [Option.map_some, Option.isSome_some]
      clear hown3 hV3 p0 p1 p2 p3 p4 p5 hokN hpn
      go_wp2_with fail
      refine HSET.out.mono ?_
      rintro e w4 ⟨rfl, hto⟩
      have HF := Lib.hid (RhTo.after HBB.out hto hB H.out.2.1)
      clear hto
      go_wp2_with fail
      go_ret
      exact ⟨by rw [HE.out.1]; rfl, by rw [HE.out.2]; exact HF.out⟩
end
end Go.Proofs.YtdnegfjddpdmhaaDoor

/-
  The document's own heap: Restore.
-/
namespace Go.Proofs.YtdnegfjddpdmhaaDoor
open Go.RowKit Go.Lib

def orN (ps : Pgs) (q : Nat) : Option (List Slot) → Pgs
  | some t => setH ps q t
  | none => ps
section
variable (w : World) (B hb : Nat) (D : Nat → Prop) (ps : Pgs) (h : RhV B D w hb ps) (hok : HOk ps) (hB : B ≤ w.heap.size)
include h hok hB
set_option maxRecDepth 100000 in
set_option maxHeartbeats 6400000 in
theorem rres_any (p k : Int) (A2 : Option Addr) (n2 c2 : Nat) (b : List Int) (hr : RdX D w A2 n2 (cells b)) (hb2 : IsBytes b) (hn2 : n2 ≤ 100000) : Calls Tryd.prog 35 #[.pointer (some ⟨hb, 0, none⟩), .agg #[.int .i64 p, .int .i64 k], .slice A2 n2 c2] w (RErr B hb D w (resE ps p k b) (resN ps p k b)) := by
  have hft : ∀ k, D k → B ≤ k ∧ k < w.heap.size := fun k hk => h.foot hk
  obtain ⟨w1, hw1⟩ : ∃ w1, w1 = w.alloc (.cells #[.int .i64 p, .int .i64 k] 32) := ⟨_, rfl⟩
  have k1 : Blk w1 w.heap.size 32 #[.int .i64 p, .int .i64 k] := by rw [hw1]; exact Blk.new _ _ _
  have hl1 : Below w.heap.size w w1 := by rw [hw1]; exact (Below.refl _ w).alloc (Nat.le_refl _) _
  have HGT := Lib.hid (rget_any (h.below hl1) p k)
  have hc0 := k1.cell 0
  have hc1 := k1.cell 1
  simp only [List.getElem?_toArray, List.getElem?_cons_zero, List.getElem?_cons_succ] at hc0 hc1
  have HW1 := Lib.hid hw1
  rw [hw1] at hc0 hc1
  have H := Lib.hid (And.intro h (And.intro hft (And.intro hl1 (And.intro k1 (And.intro hok (And.intro hr hb2))))))
  have s1 : w1.heap.size = w.heap.size + 1 := by rw [hw1]; simp
  clear h hft k1 hl1 hw1 hok hr hb2
  go_enter Tryd.func35, Tryd.ntmps35
  go_wp2_with fail
  rw [← HW1.out]
  refine HGT.out.mono ?_
  rintro e w2 ⟨v2, rfl, _, hb12⟩
  have hbw2 := below_le H.out.2.2.1 hb12
  have hk2 := H.out.2.2.2.1.below hb12 (by omega)
  have e0 := hk2.cell 0
  have e1 := hk2.cell 1
  simp only [List.getElem?_toArray, List.getElem?_cons_zero, List.getElem?_cons_succ] at e0 e1
  have s2 := hb12.size
  have HB2 := Lib.hid hbw2
  have HK2 := Lib.hid hk2
  clear hbw2 hb12 hk2 hc0 hc1
  cases hg : (getH ps p k).isSome with
  | true =>
    have HE := Lib.hid (show resE ps p k b = 12 ∧ resN ps p k b = ps by
      have h1 : resE ps p k b = 12 := by rw [resE, if_pos hg]
      exact ⟨h1, resN_fail (by rw [h1]; decide)⟩)
    clear hg
    go_wp2_with fail
    go_ret
    exact ⟨by rw [HE.out.1]; rfl, by rw [HE.out.2]; exact RhTo.same H.out.1 HB2.out hB⟩
  | false =>
    have hng : ¬ (getH ps p k).isSome = true := by rw [hg]; simp
    by_cases hbad : p < 0 ∨ 255 < p ∨ k < 0 ∨ 250 < k
    · have HE := Lib.hid (show resE ps p k b = 41 ∧ resN ps p k b = ps by
        have h1 : resE ps p k b = 41 := by rw [resE, if_neg hng, if_pos hbad]
        exact ⟨h1, resN_fail (by rw [h1]; decide)⟩)
      have HBAD := Lib.hid hbad
      clear hg hng hbad
      by_cases b1 : p < 0
      · have d1 : decide (p < 0) = true := decide_eq_true b1
        go_wp2_with fail
        go_ret
        exact ⟨by rw [HE.out.1]; rfl, by rw [HE.out.2]; exact RhTo.same H.out.1 HB2.out hB⟩
      have d1 : decide (p < 0) = false := decide_eq_false b1
      by_cases b2 : 255 < p
      · have d2 : decide (255 < p) = true := decide_eq_true b2
        go_wp2_with fail
        go_ret
        exact ⟨by rw [HE.out.1]; rfl, by rw [HE.out.2]; exact RhTo.same H.out.1 HB2.out hB⟩
      have d2 : decide (255 < p) = false := decide_eq_false b2
      by_cases b3 : k < 0
      · have d3 : decide (k < 0) = true := decide_eq_true b3
        go_wp2_with fail
        go_ret
        exact ⟨by rw [HE.out.1]; rfl, by rw [HE.out.2]; exact RhTo.same H.out.1 HB2.out hB⟩
      have d3 : decide (k < 0) = false := decide_eq_false b3
      have b4 : 250 < k := by have := HBAD.out; omega
      have d4 : decide (250 < k) = true := decide_eq_true b4
      go_wp2_with fail
      go_ret
      exact ⟨by rw [HE.out.1]; rfl, by rw [HE.out.2]; exact RhTo.same H.out.1 HB2.out hB⟩
    · obtain ⟨q, rfl⟩ : ∃ q : Nat, p = (q : Int) := ⟨p.toNat, by omega⟩
      have b2 : ¬ 255 < (q : Int) := by omega
      have b3 : ¬ k < 0 := by omega
      have b4 : ¬ 250 < k := by omega
      have hq255 : q ≤ 255 := by omega
      have hq0 : (0 : Int) ≤ (q : Int) := Int.natCast_nonneg _
      obtain ⟨r, hr'⟩ : ∃ r, r = putS (pgAt ps q) k b := ⟨_, rfl⟩
      have HE := Lib.hid (show resE ps (q : Int) k b = (if r.isSome then 0 else 36) ∧ resN ps (q : Int) k b = orN ps q r by
        have h1 : resE ps (q : Int) k b = (if r.isSome then 0 else 36) := by rw [resE, if_neg hng, if_neg hbad, Int.toNat_natCast, ← hr']
        refine ⟨h1, ?_⟩
        rw [resN, h1, Int.toNat_natCast, ← hr']
        cases r <;> rfl)
      have hV2 := H.out.1.below HB2.out
      have HS := Lib.hid (And.intro hr' (And.intro (H.out.2.2.2.2.1.at_ q) hV2))
      obtain ⟨v, ys, hx, hps⟩ := hV2
      obtain ⟨A, c, rfl, _, _⟩ := own_shape hx.own
      have hc := hx.blk.cell 0
      simp only [List.getElem?_toArray, List.getElem?_cons_zero] at hc
      have hbl2 := hx.blk.lt
      have hwl2 := HK2.out.lt
      obtain ⟨w3, hw3⟩ : ∃ w3, w3 = w2.alloc (.cells #[.slice none 0 0] 70) := ⟨_, rfl⟩
      have hb23 : Below w2.heap.size w2 w3 := by rw [hw3]; exact (Below.refl _ w2).alloc (Nat.le_refl _) _
      have k3 : Blk w3 w2.heap.size 70 #[.slice none 0 0] := by rw [hw3]; exact Blk.new _ _ _
      have e0' : w3.cell? ⟨w.heap.size, 0, none⟩ = some (.int .i64 (q : Int)) := (hb23.cell (p := ⟨w.heap.size, 0, none⟩) hwl2).trans e0
      have e1' : w3.cell? ⟨w.heap.size, 1, none⟩ = some (.int .i64 k) := (hb23.cell (p := ⟨w.heap.size, 1, none⟩) hwl2).trans e1
      have hc' : w3.cell? ⟨hb, 0, none⟩ = some (.slice A ys.length c) := (hb23.cell (p := ⟨hb, 0, none⟩) hbl2).trans hc
      have hc3 := k3.cell 0
      have hf3 := k3.frozen 0
      simp only [List.getElem?_toArray, List.getElem?_cons_zero] at hc3
      have HW3 := Lib.hid hw3
      have HB3 := Lib.hid (And.intro hb23 (And.intro hx hps))
      obtain ⟨N, hN⟩ : ∃ N, N = ys.length := ⟨_, rfl⟩
      have HN := Lib.hid hN
      rw [← hN] at hc'
      clear hg hng hbad hr' hx hps hw3 hb23 k3 hN
      by_cases hqn : q < N
      · have hqn1 : (q : Int) < (N : Int) := by omega
        have hX3 := HB3.out.2.1.below HB3.out.1
        have hky : q < ys.length := by rw [← HN.out]; exact hqn
        obtain ⟨g, c9, hv, _, _⟩ := hX3.own.form (by omega)
        injection hv with hv1 _ hv3
        subst hv1
        subst hv3
        have hcx := hX3.own.cells (g := g) rfl q _ (prvals_at hky)
        obtain ⟨x, hxe⟩ : ∃ x, x = ys[q] := ⟨_, rfl⟩
        have hokx := hX3.pg x (by rw [hxe]; exact List.getElem_mem hky)
        have hxs : slotsOf x.xs = pgAt ps q := by rw [hxe, ← HB3.out.2.2, pgAt_pr hky]
        obtain ⟨xn, hxn⟩ : ∃ n, n = x.xs.length := ⟨_, rfl⟩
        have hxn3 : xn ≤ 300 := by have := hokx.few; omega
        rw [← hxe] at hcx
        unfold Pr.val at hcx
        rw [← hxn, show ((⟨g, 0, none⟩ : Addr).add q) = ⟨g, q, none⟩ by simp [Addr.add]; omega] at hcx
        have hpg := hokx.pgr
        rw [← hxn] at hpg
        have HP := Lib.hid (And.intro hpg (And.intro hxs (And.intro hokx hxn)))
        have hne1 : ¬ w.heap.size = w2.heap.size := by omega
        have hne2 : ¬ w2.heap.size = w.heap.size := by omega
        clear hX3 hxe hokx hxs hxn hpg
        go_wp2_with fail
        rw [← HW3.out]
        go_quiet (fail)
        go_wp2_with fail
        obtain ⟨wq, hwq⟩ : ∃ wq, wq = w3.drewN nq := ⟨_, rfl⟩
        rw [← hwq]
        have q0 : wq.cell? ⟨hb, 0, none⟩ = some (.slice (some ⟨g, 0, none⟩) N c) := by rw [hwq]; exact hc'
        have q1 : wq.cell? ⟨w.heap.size, 0, none⟩ = some (.int .i64 (q : Int)) := by rw [hwq]; exact e0'
        have q2 : wq.cell? ⟨w.heap.size, 1, none⟩ = some (.int .i64 k) := by rw [hwq]; exact e1'
        have q3 : wq.cell? ⟨w2.heap.size, 0, none⟩ = some (.slice none 0 0) := by rw [hwq]; exact hc3
        have q4 : wq.cell? ⟨g, q, none⟩ = some (.slice x.A xn x.c) := by rw [hwq]; exact hcx
        have q5 : wq.frozen? ⟨w2.heap.size, 0, none⟩ = false := by rw [hwq]; exact hf3
        have d0 : wq.drew.cell? ⟨hb, 0, none⟩ = some (.slice (some ⟨g, 0, none⟩) N c) := q0
        have d1 : wq.drew.cell? ⟨w.heap.size, 0, none⟩ = some (.int .i64 (q : Int)) := q1
        have d2 : wq.drew.cell? ⟨w.heap.size, 1, none⟩ = some (.int .i64 k) := q2
        have d3 : wq.drew.cell? ⟨w2.heap.size, 0, none⟩ = some (.slice none 0 0) := q3
        have d4 : wq.drew.cell? ⟨g, q, none⟩ = some (.slice x.A xn x.c) := q4
        have d5 : wq.drew.frozen? ⟨w2.heap.size, 0, none⟩ = false := q5
        have HWQ := Lib.hid hwq
        clear hwq
        go_still_tail 8, (by kernel_rfl)
        repeat still_step
        change wpList _ _ _ _ _ wq.drew
        go_wp2_with fail
        have H29' : Below w2.heap.size w2 (wq.setCell ⟨w2.heap.size, 0, none⟩ (.slice x.A xn x.c)).drew := by
          rw [HWQ.out]
          have h1 : Below w2.heap.size w2 (w3.drewN nq) := below_dN HB3.out.1 nq
          have h2 := h1.setCell (p := ⟨w2.heap.size, 0, none⟩) (Nat.le_refl _) (.slice x.A xn x.c)
          exact ⟨h2.os, h2.tape, h2.output, h2.size, h2.block⟩
        have hpg9 : PgR (wq.setCell ⟨w2.heap.size, 0, none⟩ (.slice x.A xn x.c)).drew x.A xn x.c x.xs := by
          have h1 : x.Ok D (wq.setCell ⟨w2.heap.size, 0, none⟩ (.slice x.A xn x.c)).drew := HP.out.2.2.1.keep fun j hj => by
            have h9 := (H.out.2.1 j hj).2
            rw [HWQ.out]
            exact Below.heap_setCell (w3.drewN nq) ⟨w2.heap.size, 0, none⟩ _ j (by show j ≠ w2.heap.size; omega)
          have h2 := h1.pgr
          rw [← HP.out.2.2.2] at h2
          exact h2
        obtain ⟨w9, hw9⟩ : ∃ w9, w9 = (wq.setCell ⟨w2.heap.size, 0, none⟩ (.slice x.A xn x.c)).drew := ⟨_, rfl⟩
        rw [← hw9]
        have h29 : Below w2.heap.size w2 w9 := by
          rw [hw9]
          exact H29'
        have hrd9 : Rd w9 w9.heap.size A2 n2 (cells b) := ((H.out.2.2.2.2.2.1.below HB2.out).below h29).rd
        have hpc := refPut_any w9 x.A xn x.c x.xs (by rw [hw9]; exact hpg9) (by omega) k A2 n2 c2 b hrd9 H.out.2.2.2.2.2.2 hn2
        rw [HP.out.2.1, rput_is HS.out.2.1 H.out.2.2.2.2.2.2, ← HS.out.1] at hpc
        have HPC := Lib.hid hpc
        have H29 := Lib.hid h29
        clear hw9 h29 hrd9 hpc
        refine HPC.out.mono ?_
        rintro e w10 ⟨v10, rfl, hown10, hb10⟩
        have s9 := H29.out.size
        have s10 := hb10.size
        have h210 : Below w2.heap.size w2 w10 := H29.out.trans (hb10.mono H29.out.size)
        have k10 := HK2.out.below h210 hwl2
        have f0 := k10.cell 0
        have f1 := k10.cell 1
        simp only [List.getElem?_toArray, List.getElem?_cons_zero, List.getElem?_cons_succ] at f0 f1
        have H10 := Lib.hid (And.intro h210 hown10)
        clear hown10 hb10 h210 k10
        cases r with
        | none =>
          simp only [Option.map_none, Option.isSome_none]
          go_wp2_with fail
          go_ret
          exact ⟨by rw [HE.out.1]; rfl, by rw [HE.out.2]; exact RhTo.same H.out.1 (HB2.out.trans (H10.out.1.mono HB2.out.size)) hB⟩
        | some t =>
          obtain ⟨p0, p1, p2, p3, p4, p5⟩ := put_some HS.out.1.symm HS.out.2.1 H.out.2.2.2.2.2.2
          have hokN := H.out.2.2.2.2.1.set p4 p5 hq255
          have hown10 := H10.out.2
          simp only [Option.map_some, Option.getD_some] at hown10
          rw [show (imgP t).length = 256 from p4.pg.len] at hown10
          obtain ⟨A3, c3, rfl, _, _⟩ := own_shape hown10
          have sw2 := HB2.out.size
          have HSET := Lib.hid (rset_any w10 B hb D ps (HS.out.2.2.below H10.out.1) H.out.2.2.2.2.1.few (by omega) q hq255 A3 c3 t p4 (own_base hown10 (Nat.zero_le _)) (fun j hj hd => by have h8 : w9.heap.size ≤ j := (hown10.lt j hj).1; have h9 := (H.out.2.1 j hd).2; omega))
          have HTR := Lib.hid (trimH_id hokN.last)
          simp only [Option.map_some, Option.isSome_some]
          clear hown10 p0 p1 p2 p3 p4 p5 hokN
          go_wp2_with fail
          refine HSET.out.mono ?_
          rintro e w11 ⟨rfl, hto⟩
          rw [HTR.out] at hto
          have HF := Lib.hid (RhTo.after (HB2.out.trans (H10.out.1.mono HB2.out.size)) hto hB H.out.2.1)
          clear hto
          go_wp2_with fail
          go_ret
          exact ⟨by rw [HE.out.1]; rfl, by rw [HE.out.2]; exact HF.out⟩
      · have hqn1 : ¬ (q : Int) < (N : Int) := by omega
        go_wp2_with fail
        rw [← HW3.out]
        go_quiet (fail)
        go_wp2_with fail
        obtain ⟨w9, hw9⟩ : ∃ w9, w9 = w3.drewN nq := ⟨_, rfl⟩
        rw [← hw9]
        have h29 : Below w2.heap.size w2 w9 := by
          rw [hw9]
          exact below_dN HB3.out.1 nq
        have hrd9 : Rd w9 w9.heap.size A2 n2 (cells b) := ((H.out.2.2.2.2.2.1.below HB2.out).below h29).rd
        have hpc := refPut_any w9 none 0 0 [] (PgR.nil) (by omega) k A2 n2 c2 b hrd9 H.out.2.2.2.2.2.2 hn2
        rw [show slotsOf [] = pgAt ps q from (pgAt_ge (by rw [← HB3.out.2.2, prslots_len, ← HN.out]; omega)).symm, rput_is HS.out.2.1 H.out.2.2.2.2.2.2, ← HS.out.1] at hpc
        have HPC := Lib.hid hpc
        have H29 := Lib.hid h29
        clear hw9 h29 hrd9 hpc
        refine HPC.out.mono ?_
        rintro e w10 ⟨v10, rfl, hown10, hb10⟩
        have s9 := H29.out.size
        have s10 := hb10.size
        have h210 : Below w2.heap.size w2 w10 := H29.out.trans (hb10.mono H29.out.size)
        have k10 := HK2.out.below h210 hwl2
        have f0 := k10.cell 0
        have f1 := k10.cell 1
        simp only [List.getElem?_toArray, List.getElem?_cons_zero, List.getElem?_cons_succ] at f0 f1
        have H10 := Lib.hid (And.intro h210 hown10)
        clear hown10 hb10 h210 k10
        cases r with
        | none =>
          simp only [Option.map_none, Option.isSome_none]
          go_wp2_with fail
          go_ret
          exact ⟨by rw [HE.out.1]; rfl, by rw [HE.out.2]; exact RhTo.same H.out.1 (HB2.out.trans (H10.out.1.mono HB2.out.size)) hB⟩
        | some t =>
          obtain ⟨p0, p1, p2, p3, p4, p5⟩ := put_some HS.out.1.symm HS.out.2.1 H.out.2.2.2.2.2.2
          have hokN := H.out.2.2.2.2.1.set p4 p5 hq255
          have hown10 := H10.out.2
          simp only [Option.map_some, Option.getD_some] at hown10
          rw [show (imgP t).length = 256 from p4.pg.len] at hown10
          obtain ⟨A3, c3, rfl, _, _⟩ := own_shape hown10
          have sw2 := HB2.out.size
          have HSET := Lib.hid (rset_any w10 B hb D ps (HS.out.2.2.below H10.out.1) H.out.2.2.2.2.1.few (by omega) q hq255 A3 c3 t p4 (own_base hown10 (Nat.zero_le _)) (fun j hj hd => by have h8 : w9.heap.size ≤ j := (hown10.lt j hj).1; have h9 := (H.out.2.1 j hd).2; omega))
          have HTR := Lib.hid (trimH_id hokN.last)
          simp only [Option.map_some, Option.isSome_some]
          clear hown10 p0 p1 p2 p3 p4 p5 hokN
          go_wp2_with fail
          refine HSET.out.mono ?_
          rintro e w11 ⟨rfl, hto⟩
          rw [HTR.out] at hto
          have HF := Lib.hid (RhTo.after (HB2.out.trans (H10.out.1.mono HB2.out.size)) hto hB H.out.2.1)
          clear hto
          go_wp2_with fail
          go_ret
          exact ⟨by rw [HE.out.1]; rfl, by rw [HE.out.2]; exact HF.out⟩
end
end Go.Proofs.YtdnegfjddpdmhaaDoor

/-
  The document's own heap: Add.
-/
namespace Go.Proofs.YtdnegfjddpdmhaaDoor
open Go.RowKit Go.Lib

theorem fitsP_is {sp : List Slot} {b : List Int} {rm : Int} {n2 : Nat} (h : rm = roomI sp (ffP sp)) (hl : b.length = n2) (hf : (n2 : Int) ≤ rm) : fitsP sp b = true := by
  rw [fitsP, decide_eq_true_eq, hl, ← h]; exact hf
theorem fitsP_no {sp : List Slot} {b : List Int} {rm : Int} {n2 : Nat} (h : rm = roomI sp (ffP sp)) (hl : b.length = n2) (hf : ¬ (n2 : Int) ≤ rm) : fitsP sp b = false := by
  rw [fitsP, decide_eq_false_iff_not, hl, ← h]; exact hf
theorem fitH_here {b : List Int} {ps : Pgs} {j : Nat} (hno : ∀ i, i < j → fitsP (pgAt ps i) b = false) (hy : fitsP (pgAt ps j) b = true) : fitH b ps = j := by
  have h1 : ¬ j < fitH b ps := fun h => by rw [fitH_no h] at hy; cases hy
  have h2 : ¬ fitH b ps < j := fun h => by
    rcases Nat.lt_or_ge (fitH b ps) ps.length with h3 | h3
    · have h4 := fitH_yes h3
      rw [hno _ h] at h4
      cases h4
    · have h5 := hno _ h
      rw [pgAt_ge h3] at h5
      rw [pgAt_ge (by omega)] at hy
      rw [h5] at hy
      cases hy
  omega
theorem fitH_full {b : List Int} {ps : Pgs} {m : Nat} (hb : b.length ≤ 200) (hno : ∀ i, i < m → fitsP (pgAt ps i) b = false) : m ≤ fitH b ps := by
  rcases Nat.lt_or_ge (fitH b ps) m with h | h
  · have h1 := hno _ h
    rw [fitH_fits hb] at h1
    cases h1
  · exact h
/-- the result's own cells are written -/
theorem rto_cells {B hb g : Nat} {D : Nat → Prop} {w w1 w2 : World} {ps : Pgs} {x y : Value} (h : RhTo B hb D w1 ps w2) (hg1 : g < w1.heap.size) (hgn : ¬ D g) (hb1 : Below w.heap.size w w1) (hg : w.heap.size ≤ g) (hB : B ≤ w.heap.size) (hD : ∀ k, D k → B ≤ k ∧ k < w.heap.size) :
    RhTo B hb D w ps ((w2.setCell ⟨g, 0, none⟩ x).setCell ⟨g, 1, none⟩ y) := by
  have hc : Chg (fun k => k = g) w2 ((w2.setCell ⟨g, 0, none⟩ x).setCell ⟨g, 1, none⟩ y) := ((Chg.refl (fun k => k = g) w2).setCell (p := ⟨g, 0, none⟩) (fun _ => rfl) _).setCell (p := ⟨g, 1, none⟩) (fun _ => rfl) _
  have s1 := hb1.size
  refine RhTo.of (C := fun k => D k ∨ k = g) (h.1.chg hc fun k hk he => ?_) ((h.2.mono fun k _ hk => .inl hk).trans' hc fun k _ hk => .inr hk) hb1 hB hD (fun k hk => ?_) (fun k hk hc => ?_)
  · subst he
    rcases hk with hk | hk
    · exact hgn hk
    · omega
  · rcases hk with hk | hk
    · exact .inl hk
    · exact .inr (by omega)
  · rcases hc with hc | hc
    · exact hc
    · omega
def AdkR (ps : Pgs) (b : List Int) (w1 : World) (g j : Nat) (wr : World) : Prop :=
  (∀ i, i < j → fitsP (pgAt ps i) b = false) ∧ Below w1.heap.size w1 wr ∧ Blk wr g 32 #[.int .i64 0, .int .i64 0] ∧ g < wr.heap.size

section
variable (w : World) (B hb : Nat) (D : Nat → Prop) (ps : Pgs) (h : RhV B D w hb ps) (hok : HOk ps) (hB : B ≤ w.heap.size)
include h hok hB
set_option maxRecDepth 100000 in
set_option maxHeartbeats 6400000 in
theorem radd_any (A2 : Option Addr) (n2 c2 : Nat) (b : List Int) (hr : RdX D w A2 n2 (cells b)) (hb2 : IsBytes b) :
    Calls Tryd.prog 24 #[.pointer (some ⟨hb, 0, none⟩), .slice A2 n2 c2] w fun e w' => e = .returned (.tuple #[.agg #[.int .i64 (addPg ps b), .int .i64 (addSl ps b)], .int .i64 (addE ps b)]) ∧ RhTo B hb D w (addN ps b) w' := by
  have hlen : b.length = n2 := by have := hr.rd.len; rwa [cells_len] at this
  have hft : ∀ k, D k → B ≤ k ∧ k < w.heap.size := fun k hk => h.foot hk
  have H := Lib.hid (And.intro h (And.intro hr (And.intro hft (And.intro hok (And.intro hb2 hlen)))))
  obtain ⟨w1, hw1⟩ : ∃ w1, w1 = w.alloc (.cells #[.int .i64 0, .int .i64 0] 32) := ⟨_, rfl⟩
  have k1 : Blk w1 w.heap.size 32 #[.int .i64 0, .int .i64 0] := by rw [hw1]; exact Blk.new _ _ _
  have hl1 : Below w.heap.size w w1 := by rw [hw1]; exact (Below.refl _ w).alloc (Nat.le_refl _) _
  have s1 : w1.heap.size = w.heap.size + 1 := by rw [hw1]; simp
  have H1 := Lib.hid (And.intro hl1 (And.intro k1 s1))
  have HW1 := Lib.hid hw1
  have hn20 : (0 : Int) ≤ (n2 : Int) := Int.natCast_nonneg _
  have hbl := h.lt
  by_cases hbig : 200 < n2
  · have HF := Lib.hid (addE_range (ps := ps) (b := b) (by rw [hlen]; exact hbig))
    have hbi : (200 : Int) < (n2 : Int) := by omega
    rw [HF.out.1, HF.out.2.1, HF.out.2.2.1, HF.out.2.2.2]
    clear h hr hb2 hlen hft hok k1 hl1 hw1
    go_enter Tryd.func24, Tryd.ntmps24
    go_wp2_with fail
    refine bodyPost_ret (by rw [results_cell_tmp rfl]; go_simp; exact rfl) rfl ?_
    rw [← HW1.out]
    exact ⟨rfl, RhTo.same H.out.1 H1.out.1 hB⟩
  · have hbi : ¬ ((200 : Int) < (n2 : Int)) := by omega
    clear h hr hb2 hlen hft hok k1 hl1 hw1
    have H0 := Lib.hid (show AdkR ps b w1 w.heap.size 0 w1 from ⟨fun i hi => by omega, Below.refl _ _, H1.out.2.1, by omega⟩)
    go_enter Tryd.func24, Tryd.ntmps24
    go_wp2_with fail
    rw [← HW1.out]
    go_loopw [6] (fun i wr => ∃ j : Nat, j ≤ 256 ∧ i = .int .i64 j ∧ AdkR ps b w1 w.heap.size j wr) (fun i _ => 256 - (intOf i).toNat)
    case atStart => exact ⟨0, by omega, rfl, H0.out⟩
    case round =>
      obtain ⟨j, hj, rfl, hrel⟩ := hrel
      have HR := Lib.hid hrel
      have HWR := Lib.hid (H1.out.1.trans (hrel.2.1.mono H1.out.1.size))
      have hj0 : (0 : Int) ≤ (j : Int) := Int.natCast_nonneg _
      have swr := hrel.2.2.2
      have swr1 := hrel.2.1.size
      by_cases hlt : j < 256
      · have hlt1 : (j : Int) < 256 := by omega
        clear hrel
        have hVr := H.out.1.below HWR.out
        obtain ⟨v, ys, hx, hps⟩ := hVr
        obtain ⟨A, c, rfl, _, _⟩ := own_shape hx.own
        have hbl2 := hx.blk.lt
        obtain ⟨w3, hw3⟩ : ∃ w3, w3 = wr.alloc (.cells #[.slice none 0 0] 70) := ⟨_, rfl⟩
        have hb23 : Below wr.heap.size wr w3 := by rw [hw3]; exact (Below.refl _ wr).alloc (Nat.le_refl _) _
        have k3 : Blk w3 wr.heap.size 70 #[.slice none 0 0] := by rw [hw3]; exact Blk.new _ _ _
        have hX3 := hx.below hb23
        have hc' := hX3.blk.cell 0
        have hc3 := k3.cell 0
        have hf3 := k3.frozen 0
        simp only [List.getElem?_toArray, List.getElem?_cons_zero] at hc' hc3
        have HW3 := Lib.hid hw3
        have HB3 := Lib.hid (And.intro hb23 (And.intro hX3 hps))
        obtain ⟨N, hN⟩ : ∃ N, N = ys.length := ⟨_, rfl⟩
        have HN := Lib.hid hN
        rw [← hN] at hc'
        have s3 := hb23.size
        clear hx hps hw3 hb23 k3 hN hX3
        by_cases hqn : j < N
        · have hqn1 : (j : Int) < (N : Int) := by omega
          have hX3 := HB3.out.2.1
          have hky : j < ys.length := by rw [← HN.out]; exact hqn
          obtain ⟨g, c9, hv, _, _⟩ := hX3.own.form (by omega)
          injection hv with hv1 _ hv3
          subst hv1
          subst hv3
          have hcx := hX3.own.cells (g := g) rfl j _ (prvals_at hky)
          obtain ⟨x, hxe⟩ : ∃ x, x = ys[j] := ⟨_, rfl⟩
          have hokx := hX3.pg x (by rw [hxe]; exact List.getElem_mem hky)
          have hxs : slotsOf x.xs = pgAt ps j := by rw [hxe, ← HB3.out.2.2, pgAt_pr hky]
          obtain ⟨xn, hxn⟩ : ∃ n, n = x.xs.length := ⟨_, rfl⟩
          have hxn3 : xn ≤ 300 := by have := hokx.few; omega
          rw [← hxe] at hcx
          unfold Pr.val at hcx
          rw [← hxn, show ((⟨g, 0, none⟩ : Addr).add j) = ⟨g, j, none⟩ by simp [Addr.add]; omega] at hcx
          have HP := Lib.hid (And.intro hxs (And.intro hokx hxn))
          have hdf := fun q hq => (H.out.2.2.1 q hq).2
          clear hX3 hxe hokx hxs hxn
          rw [HW3.out] at hc' hc3 hf3 hcx
          go_wp2_with fail
          have L9 : (wr.alloc (.cells #[.slice x.A xn x.c] 70)).cell? ⟨wr.heap.size, 0, none⟩ = some (.slice x.A xn x.c) := by
            have h2 := (Blk.new wr 70 #[.slice x.A xn x.c]).cell 0
            exact h2
          have H29' : Below wr.heap.size wr (wr.alloc (.cells #[.slice x.A xn x.c] 70)) := (Below.refl _ wr).alloc (Nat.le_refl _) _
          have hpg9 : PgR (wr.alloc (.cells #[.slice x.A xn x.c] 70)) x.A xn x.c x.xs := by
            have h1 : x.Ok D (wr.alloc (.cells #[.slice x.A xn x.c] 70)) := HP.out.2.1.keep fun q hq => by
              have h9 := hdf q hq
              have h8 := HWR.out.size
              rw [H29'.block q (by omega), HB3.out.1.block q (by omega)]
            have h2 := h1.pgr
            rw [← HP.out.2.2] at h2
            exact h2
          obtain ⟨w9, hw9⟩ : ∃ w9, w9 = wr.alloc (.cells #[.slice x.A xn x.c] 70) := ⟨_, rfl⟩
          rw [← hw9]
          have h29 : Below wr.heap.size wr w9 := by
            rw [hw9]
            exact H29'
          have hl9 : w9.cell? ⟨wr.heap.size, 0, none⟩ = some (.slice x.A xn x.c) := by rw [hw9]; exact L9
          have hxlen : xn ≤ 300 := by omega
          obtain ⟨sp, hsp⟩ : ∃ sp, sp = pgAt ps j := ⟨_, rfl⟩
          have hgs : GoodP sp := by rw [hsp]; exact H.out.2.2.2.1.at_ j
          have hpg9' : PgR w9 x.A xn x.c x.xs := by rw [hw9]; exact hpg9
          have hso : slotsOf x.xs = sp := by rw [hsp]; exact HP.out.1
          have hrm := refRoom_any w9 x.A xn x.c x.xs hpg9' hxlen (by rw [hso]; exact hgs.fit) (by rw [hso]; exact hgs.trim)
          rw [hso] at hrm
          have HRM := Lib.hid hrm
          have H9 := Lib.hid (And.intro h29 (And.intro hpg9' (And.intro hso (And.intro hgs (And.intro hsp (World.block_lt_of_cell? _ _ hl9))))))
          obtain ⟨rm, hrme⟩ : ∃ rm, rm = roomI sp (ffP sp) := ⟨_, rfl⟩
          have HRE := Lib.hid hrme
          have s29 := h29.size
          clear hw9 h29 hpg9' hso hgs hsp hrm hrme
          refine HRM.out.mono ?_
          rintro e w10 ⟨rfl, hb10⟩
          rw [← HRE.out]
          have hl10 : w10.cell? ⟨wr.heap.size, 0, none⟩ = some (.slice x.A xn x.c) := (hb10.cell (p := ⟨wr.heap.size, 0, none⟩) H9.out.2.2.2.2.2).trans hl9
          have HB10 := Lib.hid (And.intro hb10 (H9.out.1.trans (hb10.mono H9.out.1.size)))
          have s10 := hb10.size
          clear hl9 hb10
          by_cases hfit : (n2 : Int) ≤ rm
          · have hft := fitsP_is (b := b) HRE.out H.out.2.2.2.2.2 hfit
            have hfe := fitH_here HR.out.1 (show fitsP (pgAt ps j) b = true by rw [← H9.out.2.2.2.2.1]; exact hft)
            obtain ⟨a1, a2, a3, a4⟩ := addE_ok (ps := ps) (b := b) (k := j) (by have := H.out.2.2.2.2.2; omega) (by omega) hfe
            have hokN := addN_ok (b := b) H.out.2.2.2.1 H.out.2.2.2.2.1
            have hap := add_put hft
            rw [← H9.out.2.2.2.2.1] at a3 a4
            obtain ⟨b1, b2, b3, b4, b5, b6⟩ := put_some hap H9.out.2.2.2.1 H.out.2.2.2.2.1
            have hri : rputP sp (ffP sp) b = some (imgP (setP sp (ffP sp) (some b))) := by rw [rput_is H9.out.2.2.2.1 H.out.2.2.2.2.1, hap]; rfl
            have hrk : raddK sp b = ffP sp := by unfold raddK; rw [hri]; rfl
            have had := refAdd_any w10 x.A xn x.c x.xs (H9.out.2.1.below HB10.out.1) hxlen A2 n2 c2 b (H.out.2.1.below (HWR.out.trans (HB10.out.2.mono HWR.out.size))).rd H.out.2.2.2.2.1 (by omega)
            rw [H9.out.2.2.1, hri, hrk] at had
            have HADD := Lib.hid had
            have HE := Lib.hid (And.intro a1 (And.intro a2 (And.intro a3 (And.intro a4 (And.intro b5 (trimH_id hokN.last))))))
            clear hft hfe a1 a2 a3 a4 hokN hap b1 b2 b3 b4 b5 b6 hri hrk had
            go_wp2_with fail
            refine HADD.out.mono ?_
            rintro e w11 ⟨v11, rfl, ho11, hb11⟩
            simp only [Option.getD_some, Option.isSome_some] at ho11 ⊢
            rw [show (imgP (setP sp (ffP sp) (some b))).length = 256 from HE.out.2.2.2.2.1.pg.len] at ho11
            obtain ⟨A3, c3, rfl, _, _⟩ := own_shape ho11
            have s11 := hb11.size
            have hbb := HB10.out.2.trans (hb11.mono (by omega))
            have hbw := HWR.out.trans (hbb.mono HWR.out.size)
            have hk11 := HR.out.2.2.1.below hbb (by omega)
            have HSET := Lib.hid (rset_any w11 B hb D ps (H.out.1.below hbw) H.out.2.2.2.1.few (by have := hbw.size; omega) j (by omega) A3 c3 (setP sp (ffP sp) (some b)) HE.out.2.2.2.2.1 (own_base ho11 (Nat.zero_le _)) (fun q hq hd => by have h8 : w10.heap.size ≤ q := (ho11.lt q hq).1; have h9 := (H.out.2.2.1 q hd).2; have := HWR.out.size; omega))
            have HK11 := Lib.hid (And.intro hk11 hbw)
            clear ho11 hb11 hbb hbw hk11
            go_wp2_with fail
            refine HSET.out.mono ?_
            rintro e w12 ⟨rfl, hto⟩
            rw [← HE.out.2.2.2.1, HE.out.2.2.2.2.2] at hto
            have hk12 := HK11.out.1.chg hto.2 (fun he => by have h9 := (H.out.2.2.1 _ he).2; omega)
            have z0 := hk12.cell 0
            have z1 := hk12.cell 1
            have z2 := hk12.frozen 0
            have z3 := hk12.frozen 1
            simp only [List.getElem?_toArray, List.getElem?_cons_zero, List.getElem?_cons_succ] at z0 z1
            have HF := Lib.hid (And.intro hto hk12)
            clear hto hk12
            go_wp2_with fail
            refine bodyPost_ret (by rw [results_cell_tmp rfl]; go_simp; exact rfl) rfl ?_
            exact ⟨by rw [HE.out.1, HE.out.2.1, HE.out.2.2.1], rto_cells HF.out.1 (by have := HWR.out.size; omega) (fun he => by have h9 := (H.out.2.2.1 _ he).2; omega) HK11.out.2 (Nat.le_refl _) hB H.out.2.2.1⟩
          · have hnf := fitsP_no (b := b) HRE.out H.out.2.2.2.2.2 hfit
            have HF := Lib.hid (show AdkR ps b w1 w.heap.size (j + 1) w10 from ⟨fun i hi => by
              rcases Nat.lt_or_ge i j with h1 | h1
              · exact HR.out.1 i h1
              · obtain rfl : i = j := by omega
                rw [← H9.out.2.2.2.2.1]; exact hnf, HR.out.2.1.trans (HB10.out.2.mono HR.out.2.1.size), HR.out.2.2.1.below HB10.out.2 (by have := HR.out.2.2.2; omega), by omega⟩)
            clear hnf
            go_wp2_with fail
            go_roundw
            case rel => exact ⟨j + 1, by omega, by go_num, HF.out⟩
            case measure => simp [intOf]; omega
        · have hqn1 : ¬ ((j : Int) < (N : Int)) := by omega
          have hpe : pgAt ps j = [] := pgAt_ge (by rw [← HB3.out.2.2, prslots_len, ← HN.out]; omega)
          have HPE := Lib.hid (show slotsOf [] = pgAt ps j from hpe.symm)
          have HC3 := Lib.hid hc3
          clear hpe
          rw [HW3.out] at hc' hc3 hf3
          go_wp2_with fail
          rw [← HW3.out]
          have L9 := HC3.out
          have H29' := HB3.out.1
          have hpg9 : PgR w3 none 0 0 [] := PgR.nil
          obtain ⟨w9, hw9⟩ : ∃ w9, w9 = w3 := ⟨_, rfl⟩
          rw [← hw9]
          have h29 : Below wr.heap.size wr w9 := by
            rw [hw9]
            exact H29'
          have hl9 : w9.cell? ⟨wr.heap.size, 0, none⟩ = some (.slice none 0 0) := by rw [hw9]; exact L9
          have hxlen : 0 ≤ 300 := by omega
          obtain ⟨sp, hsp⟩ : ∃ sp, sp = pgAt ps j := ⟨_, rfl⟩
          have hgs : GoodP sp := by rw [hsp]; exact H.out.2.2.2.1.at_ j
          have hpg9' : PgR w9 none 0 0 [] := by rw [hw9]; exact hpg9
          have hso : slotsOf [] = sp := by rw [hsp]; exact HPE.out
          have hrm := refRoom_any w9 none 0 0 [] hpg9' hxlen (by rw [hso]; exact hgs.fit) (by rw [hso]; exact hgs.trim)
          rw [hso] at hrm
          have HRM := Lib.hid hrm
          have H9 := Lib.hid (And.intro h29 (And.intro hpg9' (And.intro hso (And.intro hgs (And.intro hsp (World.block_lt_of_cell? _ _ hl9))))))
          obtain ⟨rm, hrme⟩ : ∃ rm, rm = roomI sp (ffP sp) := ⟨_, rfl⟩
          have HRE := Lib.hid hrme
          have s29 := h29.size
          clear hw9 h29 hpg9' hso hgs hsp hrm hrme
          refine HRM.out.mono ?_
          rintro e w10 ⟨rfl, hb10⟩
          rw [← HRE.out]
          have hl10 : w10.cell? ⟨wr.heap.size, 0, none⟩ = some (.slice none 0 0) := (hb10.cell (p := ⟨wr.heap.size, 0, none⟩) H9.out.2.2.2.2.2).trans hl9
          have HB10 := Lib.hid (And.intro hb10 (H9.out.1.trans (hb10.mono H9.out.1.size)))
          have s10 := hb10.size
          clear hl9 hb10
          by_cases hfit : (n2 : Int) ≤ rm
          · have hft := fitsP_is (b := b) HRE.out H.out.2.2.2.2.2 hfit
            have hfe := fitH_here HR.out.1 (show fitsP (pgAt ps j) b = true by rw [← H9.out.2.2.2.2.1]; exact hft)
            obtain ⟨a1, a2, a3, a4⟩ := addE_ok (ps := ps) (b := b) (k := j) (by have := H.out.2.2.2.2.2; omega) (by omega) hfe
            have hokN := addN_ok (b := b) H.out.2.2.2.1 H.out.2.2.2.2.1
            have hap := add_put hft
            rw [← H9.out.2.2.2.2.1] at a3 a4
            obtain ⟨b1, b2, b3, b4, b5, b6⟩ := put_some hap H9.out.2.2.2.1 H.out.2.2.2.2.1
            have hri : rputP sp (ffP sp) b = some (imgP (setP sp (ffP sp) (some b))) := by rw [rput_is H9.out.2.2.2.1 H.out.2.2.2.2.1, hap]; rfl
            have hrk : raddK sp b = ffP sp := by unfold raddK; rw [hri]; rfl
            have had := refAdd_any w10 none 0 0 [] (H9.out.2.1.below HB10.out.1) hxlen A2 n2 c2 b (H.out.2.1.below (HWR.out.trans (HB10.out.2.mono HWR.out.size))).rd H.out.2.2.2.2.1 (by omega)
            rw [H9.out.2.2.1, hri, hrk] at had
            have HADD := Lib.hid had
            have HE := Lib.hid (And.intro a1 (And.intro a2 (And.intro a3 (And.intro a4 (And.intro b5 (trimH_id hokN.last))))))
            clear hft hfe a1 a2 a3 a4 hokN hap b1 b2 b3 b4 b5 b6 hri hrk had
            go_wp2_with fail
            refine HADD.out.mono ?_
            rintro e w11 ⟨v11, rfl, ho11, hb11⟩
            simp only [Option.getD_some, Option.isSome_some] at ho11 ⊢
            rw [show (imgP (setP sp (ffP sp) (some b))).length = 256 from HE.out.2.2.2.2.1.pg.len] at ho11
            obtain ⟨A3, c3, rfl, _, _⟩ := own_shape ho11
            have s11 := hb11.size
            have hbb := HB10.out.2.trans (hb11.mono (by omega))
            have hbw := HWR.out.trans (hbb.mono HWR.out.size)
            have hk11 := HR.out.2.2.1.below hbb (by omega)
            have HSET := Lib.hid (rset_any w11 B hb D ps (H.out.1.below hbw) H.out.2.2.2.1.few (by have := hbw.size; omega) j (by omega) A3 c3 (setP sp (ffP sp) (some b)) HE.out.2.2.2.2.1 (own_base ho11 (Nat.zero_le _)) (fun q hq hd => by have h8 : w10.heap.size ≤ q := (ho11.lt q hq).1; have h9 := (H.out.2.2.1 q hd).2; have := HWR.out.size; omega))
            have HK11 := Lib.hid (And.intro hk11 hbw)
            clear ho11 hb11 hbb hbw hk11
            go_wp2_with fail
            refine HSET.out.mono ?_
            rintro e w12 ⟨rfl, hto⟩
            rw [← HE.out.2.2.2.1, HE.out.2.2.2.2.2] at hto
            have hk12 := HK11.out.1.chg hto.2 (fun he => by have h9 := (H.out.2.2.1 _ he).2; omega)
            have z0 := hk12.cell 0
            have z1 := hk12.cell 1
            have z2 := hk12.frozen 0
            have z3 := hk12.frozen 1
            simp only [List.getElem?_toArray, List.getElem?_cons_zero, List.getElem?_cons_succ] at z0 z1
            have HF := Lib.hid (And.intro hto hk12)
            clear hto hk12
            go_wp2_with fail
            refine bodyPost_ret (by rw [results_cell_tmp rfl]; go_simp; exact rfl) rfl ?_
            exact ⟨by rw [HE.out.1, HE.out.2.1, HE.out.2.2.1], rto_cells HF.out.1 (by have := HWR.out.size; omega) (fun he => by have h9 := (H.out.2.2.1 _ he).2; omega) HK11.out.2 (Nat.le_refl _) hB H.out.2.2.1⟩
          · have hnf := fitsP_no (b := b) HRE.out H.out.2.2.2.2.2 hfit
            have HF := Lib.hid (show AdkR ps b w1 w.heap.size (j + 1) w10 from ⟨fun i hi => by
              rcases Nat.lt_or_ge i j with h1 | h1
              · exact HR.out.1 i h1
              · obtain rfl : i = j := by omega
                rw [← H9.out.2.2.2.2.1]; exact hnf, HR.out.2.1.trans (HB10.out.2.mono HR.out.2.1.size), HR.out.2.2.1.below HB10.out.2 (by have := HR.out.2.2.2; omega), by omega⟩)
            clear hnf
            go_wp2_with fail
            go_roundw
            case rel => exact ⟨j + 1, by omega, by go_num, HF.out⟩
            case measure => simp [intOf]; omega
      · have hlt1 : ¬ ((j : Int) < 256) := by omega
        have hfe : 256 ≤ fitH b ps := Nat.le_trans (by omega) (fitH_full (b := b) (ps := ps) (m := j) (by have := H.out.2.2.2.2.2; omega) HR.out.1)
        have HE := Lib.hid (addE_full (ps := ps) (b := b) (by have := H.out.2.2.2.2.2; omega) hfe)
        have kr := HR.out.2.2.1
        have z0 := kr.cell 0
        have z1 := kr.cell 1
        have z2 := kr.frozen 0
        have z3 := kr.frozen 1
        simp only [List.getElem?_toArray, List.getElem?_cons_zero, List.getElem?_cons_succ] at z0 z1
        clear hrel hfe kr
        go_wp2_with fail
        refine bodyPost_ret (by rw [results_cell_tmp rfl]; go_simp; exact rfl) rfl ?_
        rw [HE.out.1, HE.out.2.1, HE.out.2.2.1, HE.out.2.2.2]
        exact ⟨rfl, rto_cells (w1 := wr) ((RhTo.same (H.out.1.below HWR.out) (Below.refl _ _) (by have := HWR.out.size; omega))) (by omega) (fun he => by have h9 := (H.out.2.2.1 _ he).2; omega) HWR.out (Nat.le_refl _) hB H.out.2.2.1⟩
end
end Go.Proofs.YtdnegfjddpdmhaaDoor
