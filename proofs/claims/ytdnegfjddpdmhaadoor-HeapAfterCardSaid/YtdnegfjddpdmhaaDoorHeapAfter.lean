/-
  HeapAfter returns true for all rows and every number: all rows are told in batches of any size, each once, in order; the rows that are handed in are left as they were.
  No condition but the reach of the statement's form; the listed variables are tied by the card.
-/
import Derived.Test.YtdnegfjddpdmhaaDoorHpS
import Derived.Test.YtdnegfjddpdmhaaDoorTie
import Derived.Test.YtdnegfjddpdmhaaDoorCards
import Derived.Lay
import Derived.MakeChecks
import Derived.JoinedOf
import Derived.Stop.Joined
import Derived.HandedShaped
namespace Go.Proofs.YtdnegfjddpdmhaaDoor
open Go.RowKit Go.Lib

theorem HS.chg {w0 w w' : World} {D F : Nat → Prop} {hb : Nat} {ps : Pgs} (h : HS w0 D w hb ps) (hc : Chg F w w') (hd : ∀ k, D k → ¬ F k) (hl : ∀ k, F k → w0.heap.size ≤ k) : HS w0 D w' hb ps :=
  ⟨h.hp.chg hc hd, h.ok, h.low.trans (hc.below hl h.low.size)⟩
theorem same_rids (w : World) {l : List Pl} {A1 A2 : Option Addr} {n1 n2 c1 c2 b1 b2 : Nat} (h1 : w.ownsRow b1 32 2 (.slice A1 n1 c1) n1 (ridC l)) (h2 : w.ownsRow b2 32 2 (.slice A2 n2 c2) n2 (ridC l)) (e1 : n1 = l.length) (e2 : n2 = l.length) (hn : l.length ≤ 65280) :
    Calls Tryd.prog 16 #[.slice A1 n1 c1, .slice A2 n2 c2] w fun e w' => e = .returned (.bool true) ∧ Below w.heap.size w w' := by
  subst e1
  subst e2
  refine (sameRids_yes A1 A2 c1 c2 l w (RidIn.of_own h1) (RidIn.of_own h2) (by omega)).mono ?_
  rintro e w' ⟨rfl, d, rfl⟩
  exact ⟨rfl, below_dN (Below.refl _ _) d⟩
/-- between two batches -/
structure BaAt (w0 : World) (D : Nat → Prop) (hb : Nat) (ps : Pgs) (A7 : Option Addr) (n7 c7 bx : Nat) (j : Nat) (p q : Int) (Ag : Option Addr) (cg : Nat) (wr : World) : Prop where
  hs : HS w0 D wr hb ps
  all : wr.ownsRow 0 32 2 (.slice A7 n7 c7) n7 (ridC (allH ps))
  blk : Blk wr bx 32 #[.int .i64 p, .int .i64 q]
  at_ : AtJ (allH ps) j p q
  got : wr.ownsRow (bx + 1) 32 2 (.slice Ag j cg) j (ridC ((allH ps).take j))
  cap : j ≤ cg ∧ cg ≤ maxLen
  sz : bx + 2 ≤ wr.heap.size
theorem BaAt.below {w0 wr w' : World} {D : Nat → Prop} {hb : Nat} {ps : Pgs} {A7 : Option Addr} {n7 c7 bx j : Nat} {p q : Int} {Ag : Option Addr} {cg : Nat} (h : BaAt w0 D hb ps A7 n7 c7 bx j p q Ag cg wr) (hb' : Below wr.heap.size wr w') : BaAt w0 D hb ps A7 n7 c7 bx j p q Ag cg w' :=
  ⟨h.hs.below hb', own_chg h.all (F := Non) (Chg.of_below hb') (fun _ _ hn => hn), h.blk.below hb' h.blk.lt, h.at_, own_chg h.got (F := Non) (Chg.of_below hb') (fun _ _ hn => hn), h.cap, Nat.le_trans h.sz hb'.size⟩
/-- a batch more -/
theorem BaAt.step {w0 w w7 : World} {D : Nat → Prop} {hb : Nat} {ps : Pgs} {A7 : Option Addr} {n7 c7 bx j m : Nat} {p q : Int} {Ag A5 : Option Addr} {cg c5 : Nat} (h : BaAt w0 D hb ps A7 n7 c7 bx j p q Ag cg w) (hD : ∀ k, D k → k < bx) (hA : ∀ k, (Value.slice A7 n7 c7).ownBlock = some k → k < bx) (h0 : w0.heap.size ≤ bx)
    (hm : j + (m + 1) ≤ (allH ps).length) (hgr : w.grownBy w7 (Value.slice Ag j cg).ownBlock) (hown : w7.ownsRow (bx + 1) 32 2 (.slice A5 (j + (m + 1)) c5) (j + (m + 1)) (ridC ((allH ps).take j) ++ ridC (((allH ps).drop j).take (m + 1)))) (hcap : j + (m + 1) ≤ c5 ∧ c5 ≤ maxLen) (p' q' : Int) (hp : (((allH ps).drop j).take (m + 1))[m]? = some (p', q')) :
    w7.cell? ⟨bx, 0, none⟩ = some (.int .i64 p) ∧ w7.cell? ⟨bx, 1, none⟩ = some (.int .i64 q) ∧ w7.frozen? ⟨bx, 0, none⟩ = false ∧ w7.frozen? ⟨bx, 1, none⟩ = false ∧
    BaAt w0 D hb ps A7 n7 c7 bx (j + (m + 1)) p' q' A5 c5 ((w7.setCell ⟨bx, 0, none⟩ (.int .i64 p')).setCell ⟨bx, 1, none⟩ (.int .i64 q')) := by
  have hgb : ∀ k, (Value.slice Ag j cg).ownBlock = some k → bx + 1 ≤ k := fun k hk => (h.got.lt k hk).1
  have hc7 : Chg (fun k => (Value.slice Ag j cg).ownBlock = some k) w w7 := (Chg.refl _ w).grown hgr (fun k hk _ => hk)
  have hb7 : Blk w7 bx 32 #[.int .i64 p, .int .i64 q] := h.blk.chg hc7 fun hk => by have := hgb _ hk; omega
  obtain ⟨w8, hw8⟩ : ∃ w8, w8 = (w7.setCell ⟨bx, 0, none⟩ (.int .i64 p')).setCell ⟨bx, 1, none⟩ (.int .i64 q') := ⟨_, rfl⟩
  have hc8 : Chg (fun k => k = bx) w7 w8 := by rw [hw8]; exact ((Chg.refl (fun k => k = bx) w7).setCell (p := ⟨bx, 0, none⟩) (fun _ => rfl) _).setCell (p := ⟨bx, 1, none⟩) (fun _ => rfl) _
  have hc : Chg (fun k => (Value.slice Ag j cg).ownBlock = some k ∨ k = bx) w w8 := (hc7.mono fun k _ hk => .inl hk).trans' hc8 fun k _ hk => .inr hk
  refine ⟨hb7.cell 0, hb7.cell 1, hb7.frozen 0, hb7.frozen 1, ?_⟩
  rw [← hw8]
  refine ⟨h.hs.chg hc (fun k hk hf => ?_) (fun k hf => ?_), own_chg h.all hc (fun k hk hf => ?_), ?_, ?_, ?_, hcap, Nat.le_trans h.sz hc.size⟩
  · have := hD k hk
    rcases hf with hf | hf
    · have := hgb k hf; omega
    · omega
  · rcases hf with hf | hf
    · have := hgb k hf; omega
    · omega
  · have := hA k hk
    rcases hf with hf | hf
    · have := hgb k hf; omega
    · omega
  · rw [hw8]; exact (hb7.put 0 _).put 1 _
  · refine .inr ⟨by omega, by omega, ?_⟩
    rw [List.getElem?_take_of_lt (by omega), List.getElem?_drop] at hp
    have h1 : (allH ps)[j + (m + 1) - 1]'(by omega) = (p', q') := by
      have := (List.getElem?_eq_some_iff.1 hp).2
      exact this
    rw [h1]
    exact ⟨rfl, rfl⟩
  · have e : ridC ((allH ps).take j) ++ ridC (((allH ps).drop j).take (m + 1)) = ridC ((allH ps).take (j + (m + 1))) := by
      have e2 : (allH ps).take (j + (m + 1)) = (allH ps).take j ++ ((allH ps).drop j).take (m + 1) := List.take_add
      rw [e2]
      unfold ridC
      rw [List.flatMap_append]
    rw [e] at hown
    refine own_chg hown hc8 fun k hk hf => ?_
    have := (hown.lt k hk).1
    omega

def BaRel (w0 : World) (D : Nat → Prop) (hb : Nat) (ps : Pgs) (A7 : Option Addr) (n7 c7 bx : Nat) (g i : Value) (wr : World) : Prop :=
  ∃ (k j : Nat) (p q : Int) (Ag : Option Addr) (cg : Nat), k ≤ j ∧ j ≤ n7 ∧ i = .int .i64 k ∧ g = .slice Ag j cg ∧ BaAt w0 D hb ps A7 n7 c7 bx j p q Ag cg wr
set_option maxRecDepth 100000 in
set_option maxHeartbeats 12800000 in
theorem heapAfter_walk (A : Option Addr) (n c : Nat) (xs : List Rb) (most : Int) (w : World) (hx : RIn0 w A n xs) (hxb : ∀ x ∈ xs, IsBytes x.l ∧ x.n ≤ x.c ∧ x.c ≤ maxLen) (hnc : n ≤ c) (hcm : c ≤ maxLen) (hxs : ∀ x ∈ xs, x.n ≤ 140737488355328) (_ : -9223372036854775808 ≤ most ∧ most ≤ 9223372036854775807) :
    Calls Tryd.prog 7 #[.slice A n c, .int .i64 most] w (YesB w) := by
  have H := Lib.hid (And.intro hx (And.intro hxb hxs))
  have hnm : n ≤ maxLen := Nat.le_trans hnc hcm
  have hn0 : (0 : Int) ≤ (n : Int) := Int.natCast_nonneg _
  clear hx hxb hxs
  go_enter Tryd.func7, Tryd.ntmps7
  go_wp2_with fail
  refine (alive_any w).mono ?_
  rintro e w1 ⟨rfl, h1⟩
  have H1 := Lib.hid h1
  clear h1
  by_cases hbig : 60 < n
  · have hbi : (60 : Int) < (n : Int) := by omega
    go_wp2_with fail
    go_ret
    exact ⟨rfl, H1.out⟩
  have hbi : ¬ ((60 : Int) < (n : Int)) := by omega
  have HW := Lib.hid (weigh_any A n c xs 12000 w1 (H.out.1.below H1.out) H.out.2.2 hnm (by omega))
  go_wp2_with fail
  refine HW.out.mono ?_
  rintro e w1' ⟨⟨r, rfl, _⟩, rfl⟩
  by_cases hr : 12000 < r
  · go_wp2_with fail
    go_ret
    exact ⟨rfl, H1.out⟩
  by_cases hm1 : most < 1
  · go_wp2_with fail
    go_ret
    exact ⟨rfl, H1.out⟩
  have hm1' : 1 ≤ most := by omega
  go_wp2_with fail
  refine (hs_new w w1' H1.out).mono ?_
  rintro e w2 ⟨hb, D, rfl, h2, _, _⟩
  have H2 := Lib.hid (show AdLoop w hb n (.int .i64 0) w2 from ⟨0, D, [], Nat.zero_le _, rfl, h2, Nat.le_refl _⟩)
  clear h2 HW
  go_wp2_with fail
  go_loopw [6] (fun i wr => AdLoop w hb n i wr) (fun i _ => n - (intOf i).toNat)
  case atStart => exact H2.out
  case round =>
    obtain ⟨k, D, ps, hk, rfl, hS, hpl⟩ := hrel
    have hk0 : (0 : Int) ≤ (k : Int) := Int.natCast_nonneg _
    have HR := Lib.hid (And.intro hS hpl)
    clear hS hpl
    by_cases hlt : k < n
    · have hlt1 : (k : Int) < (n : Int) := by omega
      obtain ⟨ad, x, rfl, hx, hc, _⟩ := (H.out.1.below HR.out.1.low).at_ hlt
      have hmem := List.mem_of_getElem? hx
      have HAD := Lib.hid (hs_add HR.out.1 x.A x.n x.c x.l (HR.out.1.arg (H.out.1.el x hmem)) (H.out.2.1 x hmem).1)
      unfold Rb.val at hc
      clear hx hmem
      go_wp2_with fail
      refine HAD.out.mono ?_
      rintro e w3 ⟨rfl, hS3, _⟩
      have HF := Lib.hid (show AdLoop w hb n (.int .i64 ((k : Int) + 1)) w3 from ⟨k + 1, _, _, by omega, by go_num, hS3, by have h8 := addN_len ps x.l; have h9 := HR.out.2; omega⟩)
      clear hS3
      go_wp2_with fail
      go_roundw
      case rel => exact HF.out
      case measure => simp [intOf]; omega
    · have hlt1 : ¬ ((k : Int) < (n : Int)) := by omega
      have HAL := Lib.hid (hs_all HR.out.1)
      go_wp2_with fail
      refine HAL.out.mono ?_
      rintro e w4 ⟨A7, c7, n7, rfl, hn7, ho7, hb4⟩
      have hS4 := HR.out.1.below hb4
      have hN5 : n7 ≤ 65280 := by rw [hn7]; exact ridC_bound HR.out.1.hp.good HR.out.1.ok.few
      have hn70 : (0 : Int) ≤ (n7 : Int) := Int.natCast_nonneg _
      obtain ⟨wl, hwl⟩ : ∃ wl, wl = (w4.alloc (.cells #[.int .i64 0, .int .i64 (-1)] 32)).alloc (.cells #[] 32) := ⟨_, rfl⟩
      have hb4l : Below w4.heap.size w4 wl := by rw [hwl]; exact ((Below.refl _ w4).alloc (Nat.le_refl _) _).alloc (by simp) _
      have hbx : Blk wl w4.heap.size 32 #[.int .i64 0, .int .i64 (-1)] := by rw [hwl]; exact (Blk.new _ _ _).alloc _
      have hsl : wl.heap.size = w4.heap.size + 2 := by rw [hwl]; simp
      have hg0 : wl.ownsRow (w4.heap.size + 1) 32 2 (.slice (some ⟨w4.heap.size + 1, 0, none⟩) 0 0) 0 (ridC ((allH ps).take 0)) := by
        have h9 := World.ownsRow_lit (base := w4.heap.size + 1) (size := 2) (e := 32) (w4.alloc (.cells #[.int .i64 0, .int .i64 (-1)] 32)) #[] 0 (by simp) (by simp [maxLen]) (by simp)
        rw [hwl]
        simpa [ridC] using h9
      have h0 : BaRel w D hb ps A7 n7 c7 w4.heap.size (.slice (some ⟨w4.heap.size + 1, 0, none⟩) 0 0) (.int .i64 0) wl :=
        ⟨0, 0, 0, -1, _, 0, Nat.le_refl _, Nat.zero_le _, rfl, rfl, ⟨hS4.below hb4l, own_chg (own_base2 ho7 (Nat.zero_le _)) (F := Non) (Chg.of_below hb4l) (fun _ _ hn => hn), hbx, .inl ⟨rfl, rfl, rfl⟩, hg0, ⟨Nat.le_refl _, by simp [maxLen]⟩, by omega⟩⟩
      have HWL := Lib.hid hwl
      have HBA := Lib.hid (And.intro h0 (And.intro hn7 (And.intro (show ∀ k, D k → k < w4.heap.size from fun k hk => by have h8 := (HR.out.1.hp.foot hk).2; have h9 := hb4.size; omega) (And.intro (show ∀ k, (Value.slice A7 n7 c7).ownBlock = some k → k < w4.heap.size from fun k hk => (ho7.lt k hk).2) hS4.low.size))))
      clear hn7 ho7 hS4 hb4 hwl hb4l hbx hsl hg0 h0 HAL
      go_wp2_with fail
      rw [← HWL.out]
      go_loopw [9, 10] (fun g i wr => BaRel w D hb ps A7 n7 c7 w4.heap.size g i wr) (fun _ i _ => n7 + 1 - (intOf i).toNat)
      case atStart => exact HBA.out.1
      case round =>
        obtain ⟨k, j, p, q, Ag, cg, hkj, hj, rfl, rfl, hba⟩ := hrel
        have hk0 : (0 : Int) ≤ (k : Int) := Int.natCast_nonneg _
        have e0 := hba.blk.cell 0
        have e1 := hba.blk.cell 1
        simp only [List.getElem?_toArray, List.getElem?_cons_zero, List.getElem?_cons_succ] at e0 e1
        have ha := hs_after hba.hs p q most
        rw [aft_at hba.at_] at ha
        have HAF := Lib.hid ha
        have HL := Lib.hid hba
        clear hba ha
        have hkn : (k : Int) ≤ (n7 : Int) := by omega
        have hj0 : (0 : Int) ≤ (j : Int) := Int.natCast_nonneg _
        go_wp2_with fail
        refine HAF.out.mono ?_
        rintro e w6 ⟨A6, c6, n6, rfl, hn6, ho6, hb6⟩
        have HL6 := Lib.hid (HL.out.below hb6)
        have hl6 : n6 = min most.toNat (n7 - j) := by rw [hn6, List.length_take, List.length_drop, ← HBA.out.2.1]
        have hn60 : (0 : Int) ≤ (n6 : Int) := Int.natCast_nonneg _
        have hn6m : ¬ most < (n6 : Int) := by omega
        by_cases hz : n6 = 0
        · subst hz
          have hjN : j = n7 := by omega
          have HJN := Lib.hid hjN
          have HPG := Lib.hid (hs_pagesB HL6.out.hs)
          clear hn6 ho6 hb6 hl6 hjN e0 e1 HAF
          go_wp2_with fail
          refine HPG.out.mono ?_
          rintro e w7 ⟨Ap, cp, np, ys, rfl, hnp, hbf, hys, hb7⟩
          have HL7 := Lib.hid (HL6.out.below hb7)
          have hrin : RIn w7 Ap np cp (ys.map ofPv) := ⟨by rw [hnp]; exact hbf.rin.rd, fun x hx => by
            obtain ⟨y, hy, rfl⟩ := List.mem_map.1 hx
            exact (hbf.ok y hy).sl⟩
          have hld := load_any w7 w.heap.size HL7.out.hs.low.size Ap np cp (ys.map ofPv) hrin (by have h8 := HL7.out.hs.ok.few; rw [hnp, ← pslots_len, hys]; omega)
          rw [rlists_pv, hys, load_own HL7.out.hs.ok] at hld
          have HLD := Lib.hid hld
          clear hnp hbf hys hb7 hrin hld HPG
          go_wp2_with fail
          refine HLD.out.mono ?_
          rintro e w8 (⟨h9, _⟩ | ⟨ps2, hb2, D2, h9, rfl, hp2, hb8, _⟩)
          · cases h9
          cases h9
          have HL8 := Lib.hid (HL7.out.below hb8)
          have H2S := Lib.hid (show HS w D2 w8 hb2 ps from ⟨hp2, HL8.out.hs.ok, HL8.out.hs.low⟩)
          have hgot := HL8.out.got
          rw [List.take_of_length_le (by rw [HJN.out, HBA.out.2.1]; exact Nat.le_refl _)] at hgot
          have HSR := Lib.hid (same_rids w8 hgot HL8.out.all (by rw [HJN.out]; exact HBA.out.2.1) HBA.out.2.1 (by rw [← HBA.out.2.1]; exact hN5))
          clear hp2 hb8 hgot HLD
          go_wp2_with fail
          refine HSR.out.mono ?_
          rintro e w9 ⟨rfl, hb9⟩
          have HL9 := Lib.hid (HL8.out.below hb9)
          have HAL := Lib.hid (hs_all (H2S.out.below hb9))
          clear hb9
          go_wp2_with fail
          refine HAL.out.mono ?_
          rintro e wa ⟨Aa, ca, na, rfl, hna, hoa, hba⟩
          have HLa := Lib.hid (HL9.out.below hba)
          have HSR2 := Lib.hid (same_rids wa hoa HLa.out.all hna HBA.out.2.1 (by rw [← HBA.out.2.1]; exact hN5))
          clear hna hoa hba HAL
          go_wp2_with fail
          refine HSR2.out.mono ?_
          rintro e wb ⟨rfl, hbb⟩
          have HLb := Lib.hid (HLa.out.below hbb)
          clear hbb
          go_wp2_with fail
          go_ret
          exact ⟨rfl, HLb.out.hs.low⟩
        · obtain ⟨m, hm⟩ : ∃ m, n6 = m + 1 := ⟨n6 - 1, by omega⟩
          subst hm
          have hjm : j + (m + 1) ≤ n7 := by omega
          obtain ⟨g6, cap6, hv6, hgb6, hlt6⟩ := ho6.form (by omega)
          injection hv6 with f1 f2 f3
          subst f1
          subst f3
          obtain ⟨l, hl⟩ : ∃ l, l = ((allH ps).drop j).take most.toNat := ⟨_, rfl⟩
          have hlm : l = ((allH ps).drop j).take (m + 1) := by
            rw [hl]
            rcases Nat.lt_or_ge most.toNat (n7 - j) with h1 | h1
            · rw [show most.toNat = m + 1 by omega]
            · rw [List.take_of_length_le (by rw [List.length_drop, ← HBA.out.2.1]; exact h1), List.take_of_length_le (by rw [List.length_drop, ← HBA.out.2.1]; omega)]
          rw [← hl] at ho6 hn6
          have hml : m < l.length := by rw [← hn6]; omega
          obtain ⟨c1, c2⟩ := ridC_at hml
          obtain ⟨x1, hx1⟩ : ∃ x, x = l[m].1 := ⟨_, rfl⟩
          obtain ⟨x2, hx2⟩ : ∃ x, x = l[m].2 := ⟨_, rfl⟩
          have hlast : (((allH ps).drop j).take (m + 1))[m]? = some (x1, x2) := by rw [← hlm, List.getElem?_eq_getElem hml, hx1, hx2]
          rw [← hx1] at c1
          rw [← hx2] at c2
          obtain ⟨i0, hi, hz0, hz1, hz2⟩ := info_parts Tryd.dkinfo32
          have HL6g := Lib.hid HL6.out.got
          have hne6 : (Value.slice Ag j cg).ownBlock ≠ some g6 := fun hk => by have := (HL.out.got.lt _ hk).2; omega
          have HX := Lib.hid (And.intro hlm (And.intro hlast (And.intro ho6 (And.intro c1 (And.intro c2 hne6)))))
          have hnews : ∀ i u, (ridC l)[i]? = some u → w6.cell? ((⟨g6, 0, none⟩ : Addr).add i) = some u := ho6.cells (g := g6) rfl
          have HNW := Lib.hid (And.intro hnews (show (ridC l).length = (m + 1) * 2 by rw [ridC_len, ← hn6]))
          have HRO := Lib.hid (show ∀ u ∈ ridC l, u.oneCell' = true from fun u hu => by
            simp only [ridC, List.mem_flatMap] at hu
            obtain ⟨y, _, hy⟩ := hu
            simp at hy
            rcases hy with rfl | rfl <;> rfl)
          have hs6 : w4.heap.size + 2 ≤ w6.heap.size := HL6.out.sz
          have hmm : (m : Int) + 1 - 1 = (m : Int) := by omega
          clear hn6 ho6 hb6 hl6 hl hlm hlast c1 c2 hx1 hx2 hml hne6 hnews e0 e1 HAF
          go_wp2_with (at_builtin; refine wpList_append_own _ rfl (.tmp 62) (.tmp 63) 41 rfl (w4.heap.size + 1) 32 i0 (.agg #[.int .i64 0, .int .i64 0]) 2 16 Tryd.underlying41 hi hz0 hz1 hz2 rfl (by decide) _ j _ rfl HL6g.out ⟨g6, 0, none⟩ (m + 1) c6 (ridC l) rfl HNW.out.2 HNW.out.1 HRO.out (by unfold maxLen; omega) (by omega) (by omega) ?_)
          intro v7 w7 hown7 hgr7 _
          obtain ⟨A5, c5, rfl, hc51, hc52⟩ := own_shape2 hown7
          rw [HX.out.1] at hown7
          obtain ⟨d0, d1, d2, d3, hstep⟩ := HL6.out.step HBA.out.2.2.1 HBA.out.2.2.2.1 HBA.out.2.2.2.2 (by rw [← HBA.out.2.1]; exact hjm) hgr7 hown7 ⟨hc51, hc52⟩ x1 x2 HX.out.2.1
          have ho7 := own_chg HX.out.2.2.1 ((Chg.refl (fun k => (Value.slice Ag j cg).ownBlock = some k) w6).grown hgr7 (fun k hk _ => hk)) (fun k hk hf => HX.out.2.2.2.2.2 (by cases hk; exact hf))
          have l0 : w7.cell? ⟨g6, m * 2, none⟩ = some (.int .i64 x1) := by rw [ho7.cellAt _ (by omega)]; exact HX.out.2.2.2.1
          have l1 : w7.cell? ⟨g6, m * 2 + 1, none⟩ = some (.int .i64 x2) := by rw [ho7.cellAt _ (by omega)]; exact HX.out.2.2.2.2.1
          have HF := Lib.hid (show BaRel w D hb ps A7 n7 c7 w4.heap.size (.slice A5 (j + (m + 1)) c5) (.int .i64 ((k : Int) + 1)) ((w7.setCell ⟨w4.heap.size, 0, none⟩ (.int .i64 x1)).setCell ⟨w4.heap.size, 1, none⟩ (.int .i64 x2)) from
            ⟨k + 1, j + (m + 1), x1, x2, A5, c5, by omega, hjm, by go_num, rfl, hstep⟩)
          clear hown7 hgr7 hstep ho7 hc51 hc52
          go_wp2_with fail
          go_roundw
          case rel => exact HF.out
          case measure => simp [intOf]; omega

section
open Go.ChangeShapes Go.WideShapes Go.ChangeAt
open Go.ChangeMaps (open_string shut_string)
set_option linter.unusedVariables false
set_option maxRecDepth 100000 in
theorem heapAfter_lifted (os : Os) (started : os.Started) (H : Type) (enc : TypeId × Value → H) :
    ReturnsInHanded {} Tryd.checked os 7 .any (fun w args => (Rows.heapAfterSpec.pre enc Tryd.prog Tryd.f7 Rows.heapAfterRow.domain false w args ∧ laidMetH Tryd.prog Rows.heapAfterRow.laid w) ∧ sizedMet enc Tryd.prog Tryd.f7 (OpenSpec.ofChange Rows.heapAfterSpec) false w args)
      (Rows.heapAfterSpec.post enc Tryd.prog Tryd.f7 false true false false) := by
  refine returnsInHanded_of_change_and (C := Tryd.checked) (X := fun w _ => laidMetH Tryd.prog Rows.heapAfterRow.laid w) (fun _ _ _ hh h => h.of_heap hh) own started (by kernel_rfl) Tryd.func7
    (ChangeSpec.witness_shaped (enc := enc) (C := Tryd.checked) (os := os) (X := fun w _ => laidMetH Tryd.prog Rows.heapAfterRow.laid w) false (World.laidAll Tryd.prog os Rows.heapAfterRow.laid) #[.slice none 0 0, .int .i64 0] 8 (World.laidAll_os _ _ _)
      (World.shaped_of_ZipB (by kernel_rfl) (by kernel_rfl)) (by kernel_rfl) (by kernel_rfl) (by kernel_rfl)
      (by rw [MakeChecks.laidMetH_plain _ _ _ (by kernel_rfl)]; exact laidMet_laidAll _ (by kernel_rfl) (by kernel_rfl))) ?_
  intro W base args ds gs before hval0 hW hcnd hsz hL _
  have hval : ∀ (j : Nat) t v, Tryd.f7.params[j]? = some t → args[j]? = some v → Value.okWide Tryd.prog W .any base t v := hval0
  have hW' := hW
  obtain ⟨p, q, hA0, hV, rfl, hfz, hnd⟩ := hW
  have hA : DataW.TrodAll enc Tryd.prog W 0 (fun _ => true) true Tryd.f7.params.toList args.toList ds p := hA0
  rw [Tryd.params7] at hA hval
  obtain ⟨v0, vs0, d0, ds0, p0, q0, hargs, rfl, rfl, h0, r0⟩ := trodAll_cons hA
  obtain ⟨v1, vs1, d1, ds1, p1, q1, rfl, rfl, rfl, h1, r1⟩ := trodAll_cons r0
  obtain ⟨rfl, rfl, rfl⟩ := trodAll_nil r1
  obtain rfl : args = #[v0, v1] := by cases args; simp_all
  obtain ⟨rfl, rfl⟩ := trodVars_none hV
  have k0 := h0
  have lt0 : ∀ x ∈ p0, x.block < W.heap.size := by obtain ⟨m, hm⟩ := k0; exact DataW.trod_lt m _ _ _ hm
  have k1 := h1
  have lt1 : ∀ x ∈ p1, x.block < W.heap.size := by obtain ⟨m, hm⟩ := k1; exact DataW.trod_lt m _ _ _ hm
  obtain ⟨a0, len0, cap0, rfl⟩ := okWide_slice Tryd.underlying38 (hval 0 38 v0 rfl rfl)
  obtain ⟨z0, r0x, w0, l0, m0, o0⟩ := rd_of_lists Tryd.underlying38 Tryd.underlying33 (by kernel_rfl) Tryd.underlying5 (by kernel_rfl) (by kernel_rfl) h0
  have o0y : ∀ x ∈ z0, x.n ≤ 140737488355328 := fun x hx => by
    rcases o0 x hx with h | ⟨q, hq, hle⟩
    · omega
    · have h9 : q ≤ 140737488355328 := by
        have h8 := List.all_eq_true.1 hsz _ (DataW.weights_mem_each (j := 0) (t := 38) rfl rfl q hq)
        have h7 : q ≤ reachBytes := by simpa using h8
        unfold reachBytes at h7
        omega
      omega
  obtain ⟨a1, rfl, rfl, rfl, w1⟩ := open_int Tryd.underlying3 (hval 1 3 v1 rfl rfl) h1
  clear hA0 hval0
  refine (heapAfter_walk a0 len0 cap0 z0 a1 W r0x w0 l0 m0 o0y (bounds_i64 w1)).mono fun e W' ⟨he, bel⟩ => ?_
  subst he
  exact ⟨_, rfl, _, _, _, [], _, [], hW', trodAll_mk1 (shut_bool Tryd.underlying4 _), (trodAll_cons_mk (Below.trod laidOut (by kernel_rfl) (of_decide_eq_true (by kernel_rfl)) k0 bel lt0) (trodAll_cons_mk (Below.trod laidOut (by kernel_rfl) (of_decide_eq_true (by kernel_rfl)) k1 bel lt1) trodAll_mk0)), rfl, bel.frame _, fun h => by cases h⟩

theorem heapAfter_over : Rows.heapAfterRow.holds Tryd.pinned (OpenSpec.ofChange Rows.heapAfterSpec) :=
  OpenClaim.holds_of_wide 7 Tryd.f7 rfl rfl rfl rfl rfl rfl rfl ⟨rfl, rfl, rfl, rfl, rfl⟩ rfl rfl rfl rfl rfl (by kernel_rfl) Tryd.func7 (by kernel_rfl)
    (of_decide_eq_true (by kernel_rfl)) (by unfold Func.isWrapper; first | (rw [if_pos (by decide +kernel)]; kernel_rfl) | (rw [if_neg (by decide +kernel)]; exact ⟨rfl, rfl⟩))
    (fun os started H enc _ => heapAfter_lifted os started H enc)

theorem heapAfter_card : Rows.HeapAfterCardSaid :=
  Claim7.holds_tied_plain_at .later [] [.data, .pinned] true _ false
    heapAfter_over (fun _ h => by cases h) (by kernel_rfl) (fun _ h => by cases h) heapAfter_row_tie rfl ⟨rfl, rfl⟩ (by kernel_rfl) rfl
    (fun f fn hf hfn => by
      obtain rfl : f = 7 := Option.some.inj ((show Tryd.prog.funcNamed Rows.heapAfterRow.func = some 7 by kernel_rfl).symm.trans hf) |>.symm
      obtain rfl : fn = Tryd.f7 := (Option.some.inj (Tryd.func7.symm.trans hfn)).symm
      have hall : (Tryd.f7.params.toList.all fun t => !Tryd.prog.wantsStandIn t) = true := by kernel_rfl
      exact ⟨by kernel_rfl, fun j t ht => by
        have h1 := List.all_eq_true.1 hall t (List.mem_of_getElem? (by simpa using ht))
        show Tryd.prog.wantsStandIn t = false
        simpa using h1⟩)
    (by kernel_rfl)
end
#print axioms heapAfter_card
end Go.Proofs.YtdnegfjddpdmhaaDoor
