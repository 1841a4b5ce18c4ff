/-
  HeapUndo returns true for all rows of calls and every call: a row that is cut and restored, put and put back, added and cut, leaves the pages as they were; what is handed in is left as it was.
  No condition but the reach of the statement's form; the listed variables are tied by the card.
-/
import Derived.Test.YtdnegfjddpdmhaaDoorHpR
import Derived.Test.YtdnegfjddpdmhaaDoorTie
import Derived.Test.YtdnegfjddpdmhaaDoorCards
import Derived.Lay
import Derived.MakeChecks
import Derived.JoinedOf
import Derived.Stop.Joined
import Derived.HandedShaped
namespace Go.Proofs.YtdnegfjddpdmhaaDoor
open Go.RowKit Go.Lib

/-- rows of calls that have been added so far -/
def AdLoop2 (w0 : World) (hb : Nat) (n : Nat) (i : Value) (wr : World) : Prop :=
  ∃ (k : Nat) (D : Nat → Prop) (ps : Pgs), k ≤ n ∧ i = .int .i64 k ∧ HS w0 D wr hb ps ∧ ps.length ≤ k ∧ ∀ s ∈ ps, s.length ≤ 251

set_option maxRecDepth 100000 in
set_option maxHeartbeats 12800000 in
theorem heapUndo_walk (A : Option Addr) (c : Nat) (cl : List C7) (z : C7) (w : World) (hc : CIn7 w w.heap.size A cl) (hl : cl.length ≤ c) (hm : c ≤ maxLen) (hz : z.Ok w) :
    Calls Tryd.prog 6 #[.slice A cl.length c, .agg #[.int .i64 z.what, .int .i64 z.nn, .int .i64 z.p, .int .i64 z.k, .slice z.A z.n z.c]] w (YesB w) := by
  obtain ⟨wB, hwB⟩ : ∃ wB, wB = w.alloc (.cells #[.int .i64 z.what, .int .i64 z.nn, .int .i64 z.p, .int .i64 z.k, .slice z.A z.n z.c] 35) := ⟨_, rfl⟩
  have hb0 : Below w.heap.size w wB := by rw [hwB]; exact (Below.refl _ w).alloc (Nat.le_refl _) _
  have hbk : Blk wB w.heap.size 35 #[.int .i64 z.what, .int .i64 z.nn, .int .i64 z.p, .int .i64 z.k, .slice z.A z.n z.c] := by rw [hwB]; exact Blk.new _ _ _
  have hcB := hc.below hb0 (Nat.le_refl _)
  have HZ := Lib.hid (show ∀ w', Below wB.heap.size wB w' → w'.cell? ⟨w.heap.size, 0, none⟩ = some (.int .i64 z.what) ∧ w'.cell? ⟨w.heap.size, 2, none⟩ = some (.int .i64 z.p) ∧ w'.cell? ⟨w.heap.size, 3, none⟩ = some (.int .i64 z.k) ∧ w'.cell? ⟨w.heap.size, 4, none⟩ = some (.slice z.A z.n z.c) from fun w' hb' => by
    have h1 := hbk.below hb' hbk.lt
    exact ⟨h1.cell 0, h1.cell 2, h1.cell 3, h1.cell 4⟩)
  have hzr := hz.1.le hb0
  have HB0 := Lib.hid hb0
  have H := Lib.hid (And.intro hcB (And.intro hzr hz.2.1))
  have HWB := Lib.hid hwB
  have HL := Lib.hid (Nat.le_trans hl hm)
  have hzl : z.data.length = z.n := by have := hz.1.len; rwa [cells_len] at this
  have HZL := Lib.hid hzl
  obtain ⟨zw, hzw⟩ : ∃ q, q = z.what := ⟨_, rfl⟩
  obtain ⟨zn, hzn⟩ : ∃ q, q = z.nn := ⟨_, rfl⟩
  obtain ⟨zp, hzp⟩ : ∃ q, q = z.p := ⟨_, rfl⟩
  obtain ⟨zk, hzk⟩ : ∃ q, q = z.k := ⟨_, rfl⟩
  obtain ⟨zA, hzA⟩ : ∃ q, q = z.A := ⟨_, rfl⟩
  obtain ⟨zm, hzm⟩ : ∃ q, q = z.n := ⟨_, rfl⟩
  obtain ⟨zc, hzc⟩ : ∃ q, q = z.c := ⟨_, rfl⟩
  rw [← hzw, ← hzn, ← hzp, ← hzk, ← hzA, ← hzm, ← hzc] at HWB
  rw [← hzw, ← hzp, ← hzk, ← hzA, ← hzm, ← hzc] at HZ
  rw [← hzA, ← hzm] at H
  rw [← hzm] at HZL
  rw [← hzw, ← hzn, ← hzp, ← hzk, ← hzA, ← hzm, ← hzc]
  have hzm0 : (0 : Int) ≤ (zm : Int) := Int.natCast_nonneg _
  clear hc hl hm hz hb0 hbk hcB hzr hwB hzl hzw hzn hzp hzk hzA hzm hzc
  go_enter Tryd.func6, Tryd.ntmps6
  go_wp2_with fail
  rw [← HWB.out]
  refine (alive_any wB).mono ?_
  rintro e w1 ⟨rfl, h1⟩
  have H1 := Lib.hid h1
  clear h1
  go_wp2_with fail
  refine (great_any A c cl w1 w.heap.size (H.out.1.below H1.out HB0.out.size) HL.out).mono ?_
  rintro e w1' ⟨rfl, rfl | ⟨rfl, hfew, _⟩⟩
  · go_wp2_with fail
    go_ret
    exact ⟨rfl, HB0.out.trans (H1.out.mono HB0.out.size)⟩
  obtain ⟨_, _, _, hd4⟩ := HZ.out _ H1.out
  by_cases hb5 : 500 < zm
  · have hb5i : (500 : Int) < (zm : Int) := by omega
    go_wp2_with fail
    go_ret
    exact ⟨rfl, HB0.out.trans (H1.out.mono HB0.out.size)⟩
  have hb5i : ¬ ((500 : Int) < (zm : Int)) := by omega
  go_wp2_with fail
  clear hd4
  refine (hs_new wB w1 H1.out).mono ?_
  rintro e w2 ⟨hb, D, rfl, h2, _, _⟩
  have H2 := Lib.hid (show AdLoop2 wB hb cl.length (.int .i64 0) w2 from ⟨0, D, [], Nat.zero_le _, rfl, h2, Nat.le_refl _, fun _ h => (by cases h)⟩)
  obtain ⟨n, hn⟩ : ∃ n, n = cl.length := ⟨_, rfl⟩
  rw [← hn] at hfew H2 ⊢
  have HN := Lib.hid hn
  have hn0 : (0 : Int) ≤ (n : Int) := Int.natCast_nonneg _
  clear h2 hn
  go_wp2_with fail
  go_loopw [6] (fun i wr => AdLoop2 wB hb n i wr) (fun i _ => n - (intOf i).toNat)
  case atStart => exact H2.out
  case round =>
    obtain ⟨k, D, ps, hk, rfl, hS, hpl, hsm⟩ := hrel
    have hk0 : (0 : Int) ≤ (k : Int) := Int.natCast_nonneg _
    have HR := Lib.hid (And.intro hS (And.intro hpl hsm))
    clear hS hpl hsm
    by_cases hlt : k < n
    · have hlt1 : (k : Int) < (n : Int) := by omega
      have hkl : k < cl.length := by rw [← HN.out]; exact hlt
      have hcr := H.out.1.below HR.out.1.low HB0.out.size
      obtain ⟨ad, rfl, _, _, _, _, _, d4⟩ := hcr.at_ hkl
      have hmem := List.getElem_mem (l := cl) hkl
      obtain ⟨x, hx⟩ : ∃ x, x = cl[k] := ⟨_, rfl⟩
      rw [← hx] at d4 hmem
      have hxb := (H.out.1.num x hmem).1
      have HAD := Lib.hid (hs_add HR.out.1 x.A x.n x.c x.data (HR.out.1.arg ((H.out.1.rd x hmem).more HB0.out.size)) hxb)
      have HXB := Lib.hid hxb
      clear hcr hx hmem hxb
      go_wp2_with fail
      refine HAD.out.mono ?_
      rintro e w3 ⟨rfl, hS3, _⟩
      have HF := Lib.hid (show AdLoop2 wB hb n (.int .i64 ((k : Int) + 1)) w3 from ⟨k + 1, _, _, by omega, by go_num, hS3, by have h8 := addN_len ps x.data; have h9 := HR.out.2.1; omega, addN_slots HXB.out HR.out.1.ok HR.out.2.2⟩)
      clear hS3
      go_wp2_with fail
      go_roundw
      case rel => exact HF.out
      case measure => simp [intOf]; omega
    · have hlt1 : ¬ ((k : Int) < (n : Int)) := by omega
      have hpl : ps.length ≤ 80 := by have := HR.out.2.1; omega
      have HPG := Lib.hid (hs_pagesB HR.out.1)
      go_wp2_with fail
      refine HPG.out.mono ?_
      rintro e w4 ⟨A4, c4, n4, ys, rfl, hn4, hbf, hys, hb4⟩
      have hS4 := HR.out.1.below hb4
      have hdis : ∀ j, (wr.heap.size ≤ j ∧ j < w4.heap.size) → ¬ D j := fun j hj hd => by have := (HR.out.1.hp.foot hd).2; omega
      have HGT := Lib.hid (hs_get hS4 zp zk)
      have H4 := Lib.hid (And.intro hbf (And.intro hys (And.intro hn4 (And.intro hdis hS4))))
      obtain ⟨_, hd2, hd3, _⟩ := HZ.out _ hS4.low
      clear hn4 hbf hys hb4 hS4 hdis HPG
      go_wp2_with fail
      refine HGT.out.mono ?_
      rintro e w5 ⟨A5, c5, n5, rfl, hn5, ho5, _, _, hb5'⟩
      have hS5 := H4.out.2.2.2.2.below hb5'
      have HS45 := Lib.hid hb5'.size
      have H5 := Lib.hid (And.intro hS5 (And.intro (H4.out.1.below hb5') (And.intro (H4.out.2.2.2.2.made ho5) hn5)))
      obtain ⟨ld0, ld2, ld3, ld4⟩ := HZ.out _ hS5.low
      obtain ⟨there, hth⟩ : ∃ q, q = (getH ps zp zk).isSome := ⟨_, rfl⟩
      have HTH := Lib.hid hth
      rw [← hth]
      clear hn5 ho5 hb5' hS5 HGT hth hd2 hd3
      by_cases hw0 : zw = 0
      · subst hw0
        have HAD := Lib.hid (hs_add H5.out.1 zA zm zc z.data (H5.out.1.arg H.out.2.1) H.out.2.2)
        go_wp2_with fail
        refine HAD.out.mono ?_
        rintro e w6 ⟨rfl, hS6, hch6⟩
        have H6 := Lib.hid (And.intro hS6 (H5.out.2.1.chg hch6 fun j _ hj => H4.out.2.2.2.1 j hj))
        clear hS6 hch6 HAD
        have hba := (Below.refl w6.heap.size w6).alloc (Nat.le_refl _) (.cells #[.int .i64 (addPg ps z.data), .int .i64 (addSl ps z.data)] 32)
        by_cases he : addE ps z.data = 0
        · obtain ⟨u1, u2⟩ := undo_add H5.out.1.ok H.out.2.2 he
          have hcu := hs_cut (H6.out.1.below hba) (addPg ps z.data) (addSl ps z.data)
          rw [u1, u2] at hcu
          have HCU := Lib.hid hcu
          have hbx := Blk.new w6 32 #[.int .i64 (addPg ps z.data), .int .i64 (addSl ps z.data)]
          have HBF := Lib.hid (H6.out.2.below hba)
          have HDJ := Lib.hid (show ∀ j, j < (w6.alloc (.cells #[.int .i64 (addPg ps z.data), .int .i64 (addSl ps z.data)] 32)).heap.size → (wr.heap.size ≤ j ∧ j < w4.heap.size) → ¬ Ext D w5 w6 j from fun j _ hj hd => hd.elim (H4.out.2.2.2.1 j hj) fun h => by have := H5.out.1.low.size; have h9 := HS45.out; omega)
          rw [he]
          clear u1 u2 hcu hba he
          obtain ⟨pg, hpg⟩ : ∃ pg, pg = addPg ps z.data := ⟨_, rfl⟩
          obtain ⟨sl, hsl⟩ : ∃ sl, sl = addSl ps z.data := ⟨_, rfl⟩
          rw [← hpg, ← hsl] at HCU HBF HDJ hbx ⊢
          clear hpg hsl hbx
          go_wp2_with fail
          refine HCU.out.mono ?_
          rintro e w7 ⟨rfl, hS7, hch7⟩
          have T := Lib.hid (And.intro hS7 (HBF.out.chg hch7 HDJ.out))
          clear hS7 hch7 HCU
          have HPG := Lib.hid (hs_pagesB T.out.1)
          go_wp2_with fail
          refine HPG.out.mono ?_
          rintro e wp ⟨Ap, cp, np, zs, rfl, hnp, hbfp, hzs, hbp⟩
          have HSL := Lib.hid (same_pages wp hbfp (T.out.2.below hbp) hnp H4.out.2.2.1 (by rw [hzs, H4.out.2.1]) (by rw [← pslots_len, hzs]; omega))
          have H9 := Lib.hid (T.out.1.below hbp)
          clear hnp hbfp hzs hbp HPG
          go_wp2_with fail
          refine HSL.out.mono ?_
          rintro e wq ⟨rfl, hbq⟩
          have H10 := Lib.hid (H9.out.below hbq)
          clear hbq
          go_wp2_with fail
          go_ret
          exact ⟨rfl, HB0.out.trans (H10.out.low.mono HB0.out.size)⟩
        · have T := Lib.hid (show HS wB (Ext D w5 w6) (w6.alloc (.cells #[.int .i64 (addPg ps z.data), .int .i64 (addSl ps z.data)] 32)) hb ps ∧ Bf (fun k => wr.heap.size ≤ k ∧ k < w4.heap.size) (w6.alloc (.cells #[.int .i64 (addPg ps z.data), .int .i64 (addSl ps z.data)] 32)) A4 c4 ys from by
            have h7 := H6.out.1.below hba
            rw [addN_fail he] at h7
            exact ⟨h7, H6.out.2.below hba⟩)
          obtain ⟨ae, hae⟩ : ∃ ae, ae = addE ps z.data := ⟨_, rfl⟩
          rw [← hae] at he ⊢
          clear hae hba
          have HPG := Lib.hid (hs_pagesB T.out.1)
          go_wp2_with fail
          refine HPG.out.mono ?_
          rintro e wp ⟨Ap, cp, np, zs, rfl, hnp, hbfp, hzs, hbp⟩
          have HSL := Lib.hid (same_pages wp hbfp (T.out.2.below hbp) hnp H4.out.2.2.1 (by rw [hzs, H4.out.2.1]) (by rw [← pslots_len, hzs]; omega))
          have H9 := Lib.hid (T.out.1.below hbp)
          clear hnp hbfp hzs hbp HPG
          go_wp2_with fail
          refine HSL.out.mono ?_
          rintro e wq ⟨rfl, hbq⟩
          have H10 := Lib.hid (H9.out.below hbq)
          clear hbq
          go_wp2_with fail
          go_ret
          exact ⟨rfl, HB0.out.trans (H10.out.low.mono HB0.out.size)⟩
      by_cases hw1 : zw = 1
      · subst hw1
        have HOP := Lib.hid (hs_put H5.out.1 zp zk zA zm zc z.data (H5.out.1.arg H.out.2.1) H.out.2.2)
        go_wp2_with fail
        refine HOP.out.mono ?_
        rintro e w6 ⟨rfl, hS6, hch6⟩
        have H6 := Lib.hid (And.intro hS6 (H5.out.2.1.chg hch6 fun j _ hj => H4.out.2.2.2.1 j hj))
        have HCH6 := Lib.hid hch6
        obtain ⟨m0, m2, m3, m4⟩ := HZ.out _ hS6.low
        clear hS6 hch6 HOP
        by_cases he : putE ps zp zk z.data = 0
        · obtain ⟨old, hold⟩ := put_there he
          obtain ⟨u1, u2⟩ := undo_putput H5.out.1.ok H.out.2.2 hold he
          have hobs : IsBytes old := by obtain ⟨_, _, _, _, _, _, h9⟩ := getH_there H5.out.1.ok hold; exact h9
          have HOB := Lib.hid hobs
          have HTO := Lib.hid (show (getH ps zp zk).getD [] = old by rw [hold]; rfl)
          have hth : there = true := by rw [HTH.out, hold]; rfl
          have hsec := hs_put H6.out.1 zp zk A5 n5 c5 old (by have h9 := H5.out.2.2.1; rw [HTO.out] at h9; exact h9.step HCH6.out) HOB.out
          rw [u1, u2] at hsec
          have HSEC := Lib.hid hsec
          rw [he]
          clear hold u1 u2 hobs hsec he
          subst hth
          go_wp2_with fail
          refine HSEC.out.mono ?_
          rintro e w7 ⟨rfl, hS7, hch7⟩
          have T := Lib.hid (And.intro hS7 (H6.out.2.chg hch7 fun j _ hj hd => hd.elim (H4.out.2.2.2.1 j hj) fun h => by have h9 := HS45.out; omega))
          clear hS7 hch7 HSEC
          have HPG := Lib.hid (hs_pagesB T.out.1)
          go_wp2_with fail
          refine HPG.out.mono ?_
          rintro e wp ⟨Ap, cp, np, zs, rfl, hnp, hbfp, hzs, hbp⟩
          have HSL := Lib.hid (same_pages wp hbfp (T.out.2.below hbp) hnp H4.out.2.2.1 (by rw [hzs, H4.out.2.1]) (by rw [← pslots_len, hzs]; omega))
          have H9 := Lib.hid (T.out.1.below hbp)
          clear hnp hbfp hzs hbp HPG
          go_wp2_with fail
          refine HSL.out.mono ?_
          rintro e wq ⟨rfl, hbq⟩
          have H10 := Lib.hid (H9.out.below hbq)
          clear hbq
          go_wp2_with fail
          go_ret
          exact ⟨rfl, HB0.out.trans (H10.out.low.mono HB0.out.size)⟩
        · have T := Lib.hid (show HS wB (Ext D w5 w6) w6 hb ps ∧ Bf (fun k => wr.heap.size ≤ k ∧ k < w4.heap.size) w6 A4 c4 ys from by
            have h7 := H6.out.1
            rw [putN_fail he] at h7
            exact ⟨h7, H6.out.2⟩)
          obtain ⟨ae, hae⟩ : ∃ ae, ae = putE ps zp zk z.data := ⟨_, rfl⟩
          rw [← hae] at he ⊢
          clear hae
          have HPG := Lib.hid (hs_pagesB T.out.1)
          go_wp2_with fail
          refine HPG.out.mono ?_
          rintro e wp ⟨Ap, cp, np, zs, rfl, hnp, hbfp, hzs, hbp⟩
          have HSL := Lib.hid (same_pages wp hbfp (T.out.2.below hbp) hnp H4.out.2.2.1 (by rw [hzs, H4.out.2.1]) (by rw [← pslots_len, hzs]; omega))
          have H9 := Lib.hid (T.out.1.below hbp)
          clear hnp hbfp hzs hbp HPG
          go_wp2_with fail
          refine HSL.out.mono ?_
          rintro e wq ⟨rfl, hbq⟩
          have H10 := Lib.hid (H9.out.below hbq)
          clear hbq
          go_wp2_with fail
          go_ret
          exact ⟨rfl, HB0.out.trans (H10.out.low.mono HB0.out.size)⟩
      by_cases hw2 : zw = 2
      · subst hw2
        have HOP := Lib.hid (hs_cut H5.out.1 zp zk)
        go_wp2_with fail
        refine HOP.out.mono ?_
        rintro e w6 ⟨rfl, hS6, hch6⟩
        have H6 := Lib.hid (And.intro hS6 (H5.out.2.1.chg hch6 fun j _ hj => H4.out.2.2.2.1 j hj))
        have HCH6 := Lib.hid hch6
        obtain ⟨m0, m2, m3, m4⟩ := HZ.out _ hS6.low
        clear hS6 hch6 HOP
        by_cases he : cutE ps zp zk = 0
        · obtain ⟨old, hold⟩ := cut_there he
          obtain ⟨u1, u2⟩ := undo_cut H5.out.1.ok (by omega) HR.out.2.2 hold
          have hobs : IsBytes old := by obtain ⟨_, _, _, _, _, _, h9⟩ := getH_there H5.out.1.ok hold; exact h9
          have HOB := Lib.hid hobs
          have HTO := Lib.hid (show (getH ps zp zk).getD [] = old by rw [hold]; rfl)
          have hth : there = true := by rw [HTH.out, hold]; rfl
          have hsec := hs_res H6.out.1 zp zk A5 n5 c5 old (by have h9 := H5.out.2.2.1; rw [HTO.out] at h9; exact h9.step HCH6.out) HOB.out
          rw [u1, u2] at hsec
          have HSEC := Lib.hid hsec
          rw [he]
          clear hold u1 u2 hobs hsec he
          subst hth
          go_wp2_with fail
          refine HSEC.out.mono ?_
          rintro e w7 ⟨rfl, hS7, hch7⟩
          have T := Lib.hid (And.intro hS7 (H6.out.2.chg hch7 fun j _ hj hd => hd.elim (H4.out.2.2.2.1 j hj) fun h => by have h9 := HS45.out; omega))
          clear hS7 hch7 HSEC
          have HPG := Lib.hid (hs_pagesB T.out.1)
          go_wp2_with fail
          refine HPG.out.mono ?_
          rintro e wp ⟨Ap, cp, np, zs, rfl, hnp, hbfp, hzs, hbp⟩
          have HSL := Lib.hid (same_pages wp hbfp (T.out.2.below hbp) hnp H4.out.2.2.1 (by rw [hzs, H4.out.2.1]) (by rw [← pslots_len, hzs]; omega))
          have H9 := Lib.hid (T.out.1.below hbp)
          clear hnp hbfp hzs hbp HPG
          go_wp2_with fail
          refine HSL.out.mono ?_
          rintro e wq ⟨rfl, hbq⟩
          have H10 := Lib.hid (H9.out.below hbq)
          clear hbq
          go_wp2_with fail
          go_ret
          exact ⟨rfl, HB0.out.trans (H10.out.low.mono HB0.out.size)⟩
        · have T := Lib.hid (show HS wB (Ext D w5 w6) w6 hb ps ∧ Bf (fun k => wr.heap.size ≤ k ∧ k < w4.heap.size) w6 A4 c4 ys from by
            have h7 := H6.out.1
            rw [cutN_fail he] at h7
            exact ⟨h7, H6.out.2⟩)
          obtain ⟨ae, hae⟩ : ∃ ae, ae = cutE ps zp zk := ⟨_, rfl⟩
          rw [← hae] at he ⊢
          clear hae
          have HPG := Lib.hid (hs_pagesB T.out.1)
          go_wp2_with fail
          refine HPG.out.mono ?_
          rintro e wp ⟨Ap, cp, np, zs, rfl, hnp, hbfp, hzs, hbp⟩
          have HSL := Lib.hid (same_pages wp hbfp (T.out.2.below hbp) hnp H4.out.2.2.1 (by rw [hzs, H4.out.2.1]) (by rw [← pslots_len, hzs]; omega))
          have H9 := Lib.hid (T.out.1.below hbp)
          clear hnp hbfp hzs hbp HPG
          go_wp2_with fail
          refine HSL.out.mono ?_
          rintro e wq ⟨rfl, hbq⟩
          have H10 := Lib.hid (H9.out.below hbq)
          clear hbq
          go_wp2_with fail
          go_ret
          exact ⟨rfl, HB0.out.trans (H10.out.low.mono HB0.out.size)⟩
      by_cases hw3 : zw = 3
      · subst hw3
        by_cases hfar : 20 < zp ∧ zp < 256
        · have hf1 : 20 < zp := hfar.1
          have hf2 : zp < 256 := hfar.2
          clear hfar
          go_wp2_with fail
          go_ret
          exact ⟨rfl, HB0.out.trans (H5.out.1.low.mono HB0.out.size)⟩
        have hfar2 : zp ≤ 20 ∨ 256 ≤ zp := by omega
        clear hfar
        have HOP := Lib.hid (hs_res H5.out.1 zp zk zA zm zc z.data (H5.out.1.arg H.out.2.1) H.out.2.2)
        rcases hfar2 with hfar2 | hfar2
        · go_wp2_with fail
          refine HOP.out.mono ?_
          rintro e w6 ⟨rfl, hS6, hch6⟩
          have H6 := Lib.hid (And.intro hS6 (H5.out.2.1.chg hch6 fun j _ hj => H4.out.2.2.2.1 j hj))
          have HCH6 := Lib.hid hch6
          obtain ⟨m0, m2, m3, m4⟩ := HZ.out _ hS6.low
          clear hS6 hch6 HOP
          by_cases he : resE ps zp zk z.data = 0
          · obtain ⟨hnone, u1, u2⟩ := undo_res H5.out.1.ok H.out.2.2 he
            have hth : there = false := by rw [HTH.out, hnone]; rfl
            have hsec := hs_cut H6.out.1 zp zk
            rw [u1, u2] at hsec
            have HSEC := Lib.hid hsec
            rw [he]
            clear hnone u1 u2 hsec he
            subst hth
            go_wp2_with fail
            refine HSEC.out.mono ?_
            rintro e w7 ⟨rfl, hS7, hch7⟩
            have T := Lib.hid (And.intro hS7 (H6.out.2.chg hch7 fun j _ hj hd => hd.elim (H4.out.2.2.2.1 j hj) fun h => by have h9 := HS45.out; omega))
            clear hS7 hch7 HSEC
            have HPG := Lib.hid (hs_pagesB T.out.1)
            go_wp2_with fail
            refine HPG.out.mono ?_
            rintro e wp ⟨Ap, cp, np, zs, rfl, hnp, hbfp, hzs, hbp⟩
            have HSL := Lib.hid (same_pages wp hbfp (T.out.2.below hbp) hnp H4.out.2.2.1 (by rw [hzs, H4.out.2.1]) (by rw [← pslots_len, hzs]; omega))
            have H9 := Lib.hid (T.out.1.below hbp)
            clear hnp hbfp hzs hbp HPG
            go_wp2_with fail
            refine HSL.out.mono ?_
            rintro e wq ⟨rfl, hbq⟩
            have H10 := Lib.hid (H9.out.below hbq)
            clear hbq
            go_wp2_with fail
            go_ret
            exact ⟨rfl, HB0.out.trans (H10.out.low.mono HB0.out.size)⟩
          · have T := Lib.hid (show HS wB (Ext D w5 w6) w6 hb ps ∧ Bf (fun k => wr.heap.size ≤ k ∧ k < w4.heap.size) w6 A4 c4 ys from by
              have h7 := H6.out.1
              rw [resN_fail he] at h7
              exact ⟨h7, H6.out.2⟩)
            obtain ⟨ae, hae⟩ : ∃ ae, ae = resE ps zp zk z.data := ⟨_, rfl⟩
            rw [← hae] at he ⊢
            clear hae
            have HPG := Lib.hid (hs_pagesB T.out.1)
            go_wp2_with fail
            refine HPG.out.mono ?_
            rintro e wp ⟨Ap, cp, np, zs, rfl, hnp, hbfp, hzs, hbp⟩
            have HSL := Lib.hid (same_pages wp hbfp (T.out.2.below hbp) hnp H4.out.2.2.1 (by rw [hzs, H4.out.2.1]) (by rw [← pslots_len, hzs]; omega))
            have H9 := Lib.hid (T.out.1.below hbp)
            clear hnp hbfp hzs hbp HPG
            go_wp2_with fail
            refine HSL.out.mono ?_
            rintro e wq ⟨rfl, hbq⟩
            have H10 := Lib.hid (H9.out.below hbq)
            clear hbq
            go_wp2_with fail
            go_ret
            exact ⟨rfl, HB0.out.trans (H10.out.low.mono HB0.out.size)⟩
        · go_wp2_with fail
          refine HOP.out.mono ?_
          rintro e w6 ⟨rfl, hS6, hch6⟩
          have H6 := Lib.hid (And.intro hS6 (H5.out.2.1.chg hch6 fun j _ hj => H4.out.2.2.2.1 j hj))
          have HCH6 := Lib.hid hch6
          obtain ⟨m0, m2, m3, m4⟩ := HZ.out _ hS6.low
          clear hS6 hch6 HOP
          by_cases he : resE ps zp zk z.data = 0
          · obtain ⟨hnone, u1, u2⟩ := undo_res H5.out.1.ok H.out.2.2 he
            have hth : there = false := by rw [HTH.out, hnone]; rfl
            have hsec := hs_cut H6.out.1 zp zk
            rw [u1, u2] at hsec
            have HSEC := Lib.hid hsec
            rw [he]
            clear hnone u1 u2 hsec he
            subst hth
            go_wp2_with fail
            refine HSEC.out.mono ?_
            rintro e w7 ⟨rfl, hS7, hch7⟩
            have T := Lib.hid (And.intro hS7 (H6.out.2.chg hch7 fun j _ hj hd => hd.elim (H4.out.2.2.2.1 j hj) fun h => by have h9 := HS45.out; omega))
            clear hS7 hch7 HSEC
            have HPG := Lib.hid (hs_pagesB T.out.1)
            go_wp2_with fail
            refine HPG.out.mono ?_
            rintro e wp ⟨Ap, cp, np, zs, rfl, hnp, hbfp, hzs, hbp⟩
            have HSL := Lib.hid (same_pages wp hbfp (T.out.2.below hbp) hnp H4.out.2.2.1 (by rw [hzs, H4.out.2.1]) (by rw [← pslots_len, hzs]; omega))
            have H9 := Lib.hid (T.out.1.below hbp)
            clear hnp hbfp hzs hbp HPG
            go_wp2_with fail
            refine HSL.out.mono ?_
            rintro e wq ⟨rfl, hbq⟩
            have H10 := Lib.hid (H9.out.below hbq)
            clear hbq
            go_wp2_with fail
            go_ret
            exact ⟨rfl, HB0.out.trans (H10.out.low.mono HB0.out.size)⟩
          · have T := Lib.hid (show HS wB (Ext D w5 w6) w6 hb ps ∧ Bf (fun k => wr.heap.size ≤ k ∧ k < w4.heap.size) w6 A4 c4 ys from by
              have h7 := H6.out.1
              rw [resN_fail he] at h7
              exact ⟨h7, H6.out.2⟩)
            obtain ⟨ae, hae⟩ : ∃ ae, ae = resE ps zp zk z.data := ⟨_, rfl⟩
            rw [← hae] at he ⊢
            clear hae
            have HPG := Lib.hid (hs_pagesB T.out.1)
            go_wp2_with fail
            refine HPG.out.mono ?_
            rintro e wp ⟨Ap, cp, np, zs, rfl, hnp, hbfp, hzs, hbp⟩
            have HSL := Lib.hid (same_pages wp hbfp (T.out.2.below hbp) hnp H4.out.2.2.1 (by rw [hzs, H4.out.2.1]) (by rw [← pslots_len, hzs]; omega))
            have H9 := Lib.hid (T.out.1.below hbp)
            clear hnp hbfp hzs hbp HPG
            go_wp2_with fail
            refine HSL.out.mono ?_
            rintro e wq ⟨rfl, hbq⟩
            have H10 := Lib.hid (H9.out.below hbq)
            clear hbq
            go_wp2_with fail
            go_ret
            exact ⟨rfl, HB0.out.trans (H10.out.low.mono HB0.out.size)⟩
      have T := Lib.hid (And.intro H5.out.1 H5.out.2.1)
      have HPG := Lib.hid (hs_pagesB T.out.1)
      go_wp2_with fail
      refine HPG.out.mono ?_
      rintro e wp ⟨Ap, cp, np, zs, rfl, hnp, hbfp, hzs, hbp⟩
      have HSL := Lib.hid (same_pages wp hbfp (T.out.2.below hbp) hnp H4.out.2.2.1 (by rw [hzs, H4.out.2.1]) (by rw [← pslots_len, hzs]; omega))
      have H9 := Lib.hid (T.out.1.below hbp)
      clear hnp hbfp hzs hbp HPG
      go_wp2_with fail
      refine HSL.out.mono ?_
      rintro e wq ⟨rfl, hbq⟩
      have H10 := Lib.hid (H9.out.below hbq)
      clear hbq
      go_wp2_with fail
      go_ret
      exact ⟨rfl, HB0.out.trans (H10.out.low.mono HB0.out.size)⟩

section
open Go.ChangeShapes Go.WideShapes Go.ChangeAt
open Go.ChangeMaps (open_string shut_string)
set_option linter.unusedVariables false
set_option maxRecDepth 100000 in
theorem heapUndo_lifted (os : Os) (started : os.Started) (H : Type) (enc : TypeId × Value → H) :
    ReturnsInHanded {} Tryd.checked os 6 .any (fun w args => (Rows.heapUndoSpec.pre enc Tryd.prog Tryd.f6 Rows.heapUndoRow.domain false w args ∧ laidMetH Tryd.prog Rows.heapUndoRow.laid w) ∧ sizedMet enc Tryd.prog Tryd.f6 (OpenSpec.ofChange Rows.heapUndoSpec) false w args)
      (Rows.heapUndoSpec.post enc Tryd.prog Tryd.f6 false true false false) := by
  refine returnsInHanded_of_change_and (C := Tryd.checked) (X := fun w _ => laidMetH Tryd.prog Rows.heapUndoRow.laid w) (fun _ _ _ hh h => h.of_heap hh) own started (by kernel_rfl) Tryd.func6
    (ChangeSpec.witness_shaped (enc := enc) (C := Tryd.checked) (os := os) (X := fun w _ => laidMetH Tryd.prog Rows.heapUndoRow.laid w) false (World.laidAll Tryd.prog os Rows.heapUndoRow.laid) #[.slice none 0 0, .agg #[.int .i64 0, .int .i64 0, .int .i64 0, .int .i64 0, .slice none 0 0]] 8 (World.laidAll_os _ _ _)
      (World.shaped_of_ZipB (by kernel_rfl) (by kernel_rfl)) (by kernel_rfl) (by kernel_rfl) (by kernel_rfl)
      (by rw [MakeChecks.laidMetH_plain _ _ _ (by kernel_rfl)]; exact laidMet_laidAll _ (by kernel_rfl) (by kernel_rfl))) ?_
  intro W base args ds gs before hval0 hW hcnd hsz hL _
  have hval : ∀ (j : Nat) t v, Tryd.f6.params[j]? = some t → args[j]? = some v → Value.okWide Tryd.prog W .any base t v := hval0
  have hW' := hW
  obtain ⟨p, q, hA0, hV, rfl, hfz, hnd⟩ := hW
  have hA : DataW.TrodAll enc Tryd.prog W 0 (fun _ => true) true Tryd.f6.params.toList args.toList ds p := hA0
  rw [Tryd.params6] at hA hval
  obtain ⟨v0, vs0, d0, ds0, p0, q0, hargs, rfl, rfl, h0, r0⟩ := trodAll_cons hA
  obtain ⟨v1, vs1, d1, ds1, p1, q1, rfl, rfl, rfl, h1, r1⟩ := trodAll_cons r0
  obtain ⟨rfl, rfl, rfl⟩ := trodAll_nil r1
  obtain rfl : args = #[v0, v1] := by cases args; simp_all
  obtain ⟨rfl, rfl⟩ := trodVars_none hV
  have k0 := h0
  have lt0 : ∀ x ∈ p0, x.block < W.heap.size := by obtain ⟨m, hm⟩ := k0; exact DataW.trod_lt m _ _ _ hm
  have k1 := h1
  have lt1 : ∀ x ∈ p1, x.block < W.heap.size := by obtain ⟨m, hm⟩ := k1; exact DataW.trod_lt m _ _ _ hm
  obtain ⟨a0, len0, cap0, rfl⟩ := okWide_slice Tryd.underlying22 (hval 0 22 v0 rfl rfl)
  obtain ⟨z0, rfl, l0, m0, o0, q0x, r0x⟩ := rd_of_calls7 Tryd.underlying22 Tryd.underlying35 (by kernel_rfl) ⟨rfl, by kernel_rfl, Tryd.underlying3⟩ ⟨rfl, by kernel_rfl, Tryd.underlying3⟩ ⟨rfl, by kernel_rfl, Tryd.underlying32⟩ ⟨rfl, by kernel_rfl, Tryd.underlying33⟩ ⟨rfl, by kernel_rfl, Tryd.underlying3⟩ ⟨rfl, by kernel_rfl, Tryd.underlying3⟩ Tryd.underlying5 (by kernel_rfl) (by kernel_rfl) h0
  have o0y : ∀ x ∈ z0, x.Ok W ∧ x.n ≤ 140737488355328 := fun x hx => by
    refine ⟨(o0 x hx).1, ?_⟩
    rcases (o0 x hx).2 with h | ⟨q, hq, hle⟩
    · omega
    · have h9 : q ≤ 140737488355328 := by
        have h8 := List.all_eq_true.1 hsz _ (DataW.weights_mem_each (j := 0) (t := 22) rfl rfl q hq)
        have h7 : q ≤ reachBytes := by simpa using h8
        unfold reachBytes at h7
        omega
      omega
  obtain ⟨z1, o1, rfl⟩ := call7_of_wide Tryd.underlying35 (by kernel_rfl) ⟨rfl, by kernel_rfl, Tryd.underlying3⟩ ⟨rfl, by kernel_rfl, Tryd.underlying3⟩ ⟨rfl, by kernel_rfl, Tryd.underlying32⟩ ⟨rfl, by kernel_rfl, Tryd.underlying33⟩ ⟨rfl, by kernel_rfl, Tryd.underlying3⟩ ⟨rfl, by kernel_rfl, Tryd.underlying3⟩ Tryd.underlying5 (by kernel_rfl) (by kernel_rfl) (hval 1 35 v1 rfl rfl) h1
  clear hA0 hval0
  refine (heapUndo_walk a0 cap0 z0 z1 W (CIn7.of o0y q0x r0x) l0 m0 o1).mono fun e W' ⟨he, bel⟩ => ?_
  subst he
  exact ⟨_, rfl, _, _, _, [], _, [], hW', trodAll_mk1 (shut_bool Tryd.underlying4 _), (trodAll_cons_mk (Below.trod laidOut (by kernel_rfl) (of_decide_eq_true (by kernel_rfl)) k0 bel lt0) (trodAll_cons_mk (Below.trod laidOut (by kernel_rfl) (of_decide_eq_true (by kernel_rfl)) k1 bel lt1) trodAll_mk0)), rfl, bel.frame _, fun h => by cases h⟩

theorem heapUndo_over : Rows.heapUndoRow.holds Tryd.pinned (OpenSpec.ofChange Rows.heapUndoSpec) :=
  OpenClaim.holds_of_wide 6 Tryd.f6 rfl rfl rfl rfl rfl rfl rfl ⟨rfl, rfl, rfl, rfl, rfl⟩ rfl rfl rfl rfl rfl (by kernel_rfl) Tryd.func6 (by kernel_rfl)
    (of_decide_eq_true (by kernel_rfl)) (by unfold Func.isWrapper; first | (rw [if_pos (by decide +kernel)]; kernel_rfl) | (rw [if_neg (by decide +kernel)]; exact ⟨rfl, rfl⟩))
    (fun os started H enc _ => heapUndo_lifted os started H enc)

theorem heapUndo_card : Rows.HeapUndoCardSaid :=
  Claim7.holds_tied_plain_at .later [] [.data, .pinned] true _ false
    heapUndo_over (fun _ h => by cases h) (by kernel_rfl) (fun _ h => by cases h) heapUndo_row_tie rfl ⟨rfl, rfl⟩ (by kernel_rfl) rfl
    (fun f fn hf hfn => by
      obtain rfl : f = 6 := Option.some.inj ((show Tryd.prog.funcNamed Rows.heapUndoRow.func = some 6 by kernel_rfl).symm.trans hf) |>.symm
      obtain rfl : fn = Tryd.f6 := (Option.some.inj (Tryd.func6.symm.trans hfn)).symm
      have hall : (Tryd.f6.params.toList.all fun t => !Tryd.prog.wantsStandIn t) = true := by kernel_rfl
      exact ⟨by kernel_rfl, fun j t ht => by
        have h1 := List.all_eq_true.1 hall t (List.mem_of_getElem? (by simpa using ht))
        show Tryd.prog.wantsStandIn t = false
        simpa using h1⟩)
    (by kernel_rfl)
end
#print axioms heapUndo_card
end Go.Proofs.YtdnegfjddpdmhaaDoor
