/-
  PageKeeps returns true for all rows of calls, slots and bytes: what is put is got, all other slots have what they had; what is cut is gone, and put again the page is as it was; what is handed in is left as it was.
  No condition but the reach of the statement's form; the listed variables are tied by the card.
-/
import Derived.Test.YtmgjoogfhkfooaaDoorPgK
import Derived.Test.YtmgjoogfhkfooaaDoorTie
import Derived.Test.YtmgjoogfhkfooaaDoorCards
import Derived.Lay
import Derived.MakeChecks
import Derived.JoinedOf
import Derived.Stop.Joined
import Derived.HandedShaped
namespace Go.Proofs.YtmgjoogfhkfooaaDoor
open Go.RowKit Go.Lib

/-- how far the first loop is -/
def KpRel (w : World) (n : Nat) (p i : Value) (wr : World) : Prop :=
  ∃ (k : Nat) (A : Option Addr) (c : Nat) (l : List Int) (s : List Slot), k ≤ n ∧ i = .int .i64 k ∧ p = .slice A 256 c ∧ PgV w wr A c l s
/-- how far the second loop is -/
def KqRel (w : World) (n : Nat) (i : Value) (wr : World) : Prop := ∃ k : Nat, k ≤ n ∧ i = .int .i64 k ∧ Below w.heap.size w wr
theorem cells64_at {l : List Int} {k : Nat} (hk : k < l.length) : (cells64 l)[k]? = some (.int .i64 l[k]) := by simp [cells64, hk]

set_option maxRecDepth 100000 in
set_option maxHeartbeats 6400000 in
theorem pageKeeps_walk (A : Option Addr) (c : Nat) (cl : List Cl) (slot : Int) (A2 : Option Addr) (n2 c2 : Nat) (b : List Int) (w : World) (hc : CallsIn w w.heap.size A cl) (hl : cl.length ≤ c) (hm : c ≤ maxLen)
    (hsl : -9223372036854775808 ≤ slot ∧ slot ≤ 9223372036854775807) (hr : Rd w w.heap.size A2 n2 (cells b)) (hwf : ∀ z ∈ b, (Lit.int .u8 z).wf = true) (hbl : b.length = n2) (hn2 : n2 ≤ c2) (hc2 : c2 ≤ maxLen) :
    Calls Tryd.prog 5 #[.slice A cl.length c, .int .i64 slot, .slice A2 n2 c2] w (YesB w) := by
  have HC := Lib.hid hc
  have HL := Lib.hid (Nat.le_trans hl hm)
  have HB := Lib.hid (And.intro hr (bytes_wf hwf))
  have HBL := Lib.hid hbl
  unfold maxLen at hc2
  have hn63 : n2 ≤ 9223372036854775807 := by omega
  clear hc hl hm hr hwf hn2 hc2 hbl
  go_enter Tryd.func5, Tryd.ntmps5
  go_wp2_with fail
  refine (alive_any w).mono ?_
  rintro e w1 ⟨rfl, h1⟩
  have HA := Lib.hid h1
  clear h1
  go_wp2_with fail
  refine (great_any A c cl w1 w.heap.size (HC.out.below HA.out (Nat.le_refl _)) HL.out).mono ?_
  rintro e w2 ⟨rfl, rfl | ⟨rfl, hfew, hsmall⟩⟩
  · go_wp2
    go_ret
    exact ⟨rfl, HA.out⟩
  have HS := Lib.hid hsmall
  clear hsmall
  by_cases hbig : 1000 < n2
  · go_wp2
    go_ret
    exact ⟨rfl, HA.out⟩
  go_wp2_with fail
  refine (new_any w1).mono ?_
  rintro e w3 ⟨g, rfl, hk, hg, hb⟩
  have H3 := Lib.hid (PgV.new HA.out hk hb)
  clear hk hg hb
  go_wp2_with fail
  go_loopw [7, 8] (fun p i wr => KpRel w cl.length p i wr) (fun _ i _ => cl.length - (intOf i).toNat)
  case atStart => exact ⟨0, _, _, _, _, by omega, rfl, rfl, H3.out⟩
  case round =>
    obtain ⟨k, A1, c1, l, s, hk, rfl, rfl, hv⟩ := hrel
    have HV := Lib.hid hv
    have hk0 : (0 : Int) ≤ (k : Int) := Int.natCast_nonneg _
    clear hv
    by_cases hlt : k < cl.length
    · have HCW := Lib.hid (HC.out.below HV.out.b (Nat.le_refl _))
      obtain ⟨ad, rfl, _, d0, d1, d2⟩ := HCW.out.at_ hlt
      have hrd := (HCW.out.rd cl[k] (List.getElem_mem hlt)).more HV.out.b.size
      have HN := Lib.hid (HCW.out.num cl[k] (List.getElem_mem hlt))
      obtain ⟨x, hx⟩ : ∃ x, x = cl[k] := ⟨_, rfl⟩
      rw [← hx] at d0 d1 d2 hrd HN
      have HRD := Lib.hid hrd
      clear hrd hx
      go_wp2_with fail
      refine (add_pg HV.out x.A x.n x.c x.data HRD.out HN.out.1).mono ?_
      rintro e w4 (⟨v, _, rfl, _, hb4⟩ | ⟨A4, c4, l4, _, rfl, hv4, _⟩)
      · have HF := Lib.hid (show KpRel w cl.length (.slice A1 256 c1) (.int .i64 ((k : Int) + 1)) w4 from ⟨k + 1, A1, c1, l, s, by omega, by simp, rfl, HV.out.below hb4⟩)
        clear hb4
        go_wp2
        go_roundw
        case rel => exact HF.out
        case measure => simp [intOf]; omega
      · have HF := Lib.hid (show KpRel w cl.length (.slice A4 256 c4) (.int .i64 ((k : Int) + 1)) w4 from ⟨k + 1, A4, c4, l4, _, by omega, by simp, rfl, hv4⟩)
        clear hv4
        go_wp2
        go_roundw
        case rel => exact HF.out
        case measure => simp [intOf]; omega
    · have HRB := Lib.hid ((HB.out.1.below HV.out.b (Nat.le_refl _)).more HV.out.b.size)
      go_wp2_with fail
      refine (put_pgv HV.out slot A2 n2 c2 b HRB.out HB.out.2).mono ?_
      rintro e w4 (⟨A4, c4, _, rfl, hb4⟩ | ⟨A4, c4, l4, hs0, hs1, hroom, rfl, hv4, hb4⟩)
      · have HF := Lib.hid (HV.out.below hb4).b
        clear hb4
        go_wp2
        go_ret
        exact ⟨rfl, HF.out⟩
      obtain ⟨m, rfl⟩ : ∃ m : Nat, slot = (m : Int) := ⟨slot.toNat, by omega⟩
      rw [Int.toNat_natCast] at hv4 hroom
      have HQ := Lib.hid hv4
      have HP4 := Lib.hid (HV.out.below hb4)
      have HR4 := Lib.hid ((HRB.out.below hb4 (Nat.le_refl _)).more hb4.size)
      have hat := set_at s m (some b)
      obtain ⟨t, ht⟩ : ∃ t, t = setP s m (some b) := ⟨_, rfl⟩
      have HT := Lib.hid ht
      have HOT := Lib.hid (fun (j : Nat) (b' : List Int) (h : s[j]? = some (some b')) (hne : j ≠ m) => set_other (o := some b) h hne)
      rw [← ht] at hat HQ HOT
      have HAT := Lib.hid hat
      have hm250 : m ≤ 250 := by omega
      clear hv4 hb4 ht hat hroom
      go_wp2_with fail
      refine (get_pgv HQ.out (m : Int)).mono ?_
      rintro e w5 ⟨A5, c5, rfl, hr5, hb5⟩
      rw [(taken_at HAT.out).1]
      rw [(taken_at HAT.out).2] at hr5 ⊢
      rw [show (some b).getD [] = b from rfl, HBL.out] at hr5 ⊢
      have HSB := Lib.hid (same_any A5 A2 n2 n2 c5 c2 b b w5 hr5 ((HR4.out.below hb5 (Nat.le_refl _)).more hb5.size) (by omega))
      rw [decide_eq_true (show b = b from rfl)] at HSB
      have HQ5 := Lib.hid (HQ.out.below hb5)
      have HP5 := Lib.hid (HP4.out.below hb5)
      have HR5 := Lib.hid ((HR4.out.below hb5 (Nat.le_refl _)).more hb5.size)
      clear hr5 hb5
      go_wp2_with fail
      refine HSB.out.mono ?_
      rintro e w6 ⟨rfl, hb6⟩
      have HQ6 := Lib.hid (HQ5.out.below hb6)
      have HP6 := Lib.hid (HP5.out.below hb6)
      have HR6 := Lib.hid ((HR5.out.below hb6 (Nat.le_refl _)).more hb6.size)
      clear hb6
      go_wp2_with fail
      refine (right_pgv HQ6.out).mono ?_
      rintro e w7 ⟨rfl, hb7⟩
      have HQ7 := Lib.hid (HQ6.out.below hb7)
      have HP7 := Lib.hid (HP6.out.below hb7)
      have HR7 := Lib.hid ((HR6.out.below hb7 (Nat.le_refl _)).more hb7.size)
      clear hb7
      go_wp2_with fail
      refine (slots_pgv HP7.out).mono ?_
      rintro e w8 ⟨A8, c8, rfl, hr8, hb8⟩
      have HQ8 := Lib.hid (HQ7.out.below hb8)
      have HP8 := Lib.hid (HP7.out.below hb8)
      have HR8 := Lib.hid ((HR7.out.below hb8 (Nat.le_refl _)).more hb8.size)
      have hLs := slotsN_le s s.length
      have hpl := HP8.out.pg.slots
      have HME := Lib.hid (fun (x : Int) (h : x ∈ slotsN s s.length) => slotsN_mem h)
      obtain ⟨L, hLL⟩ : ∃ L, L = slotsN s s.length := ⟨_, rfl⟩
      rw [← hLL] at hr8 hLs HME ⊢
      have HL8 := Lib.hid hr8
      have hL255 : L.length ≤ 255 := by omega
      clear hr8 hb8 hLL hLs hpl
      go_wp2_with fail
      go_loopw [17] (fun i wr => KqRel w8 L.length i wr) (fun i _ => L.length - (intOf i).toNat)
      case atStart => exact ⟨0, by omega, rfl, Below.refl _ _⟩
      case round =>
        obtain ⟨i, hi, rfl, hbr⟩ := hrel
        have hi0 : (0 : Int) ≤ (i : Int) := Int.natCast_nonneg _
        have HQr := Lib.hid (HQ8.out.below hbr)
        have HPr := Lib.hid (HP8.out.below hbr)
        have HLr := Lib.hid ((HL8.out.below hbr (Nat.le_refl _)).more hbr.size)
        have HBR := Lib.hid hbr
        clear hbr
        by_cases hil : i < L.length
        · obtain ⟨ad, u, rfl, _, hu, hcu⟩ := HLr.out.at_ hil
          rw [cells64_at hil] at hu
          obtain rfl := Option.some.inj hu
          obtain ⟨j, b', hj, hsj⟩ := HME.out L[i] (List.getElem_mem hil)
          rw [hj] at hcu
          have hjs : j < s.length := (List.getElem?_eq_some_iff.1 hsj).1
          have hs255 := HPr.out.pg.slots
          have hj255 : j ≤ 255 := by omega
          have hb200 : b'.length ≤ 200 := by
            have := HPr.out.pg.fit.len (some b') (List.mem_of_getElem? hsj)
            simpa [bsS] using this
          have HSJ := Lib.hid hsj
          have hj0 : (0 : Int) ≤ (j : Int) := Int.natCast_nonneg _
          clear hu hj hsj hjs hs255
          go_wp2_with fail
          refine (get_pgv HPr.out (j : Int)).mono ?_
          rintro e w9 ⟨A9, c9, rfl, hr9, hb9⟩
          rw [(taken_at HSJ.out).1]
          rw [(taken_at HSJ.out).2] at hr9 ⊢
          rw [show (some b').getD [] = b' from rfl] at hr9 ⊢
          have HQ9 := Lib.hid (HQr.out.below hb9)
          have HL9 := (HLr.out.below hb9 (Nat.le_refl _))
          have HB9 := Lib.hid (HBR.out.trans (hb9.mono HBR.out.size))
          have HR9 := Lib.hid hr9
          have hcu9 : w9.cell? (ad.add i) = some (.int .i64 (j : Int)) := by
            obtain ⟨ad', u', e1, _, hu', hcu'⟩ := HL9.at_ hil
            obtain rfl := Option.some.inj e1
            rw [cells64_at hil] at hu'
            rw [hcu']
            have hlt : (ad.add i).block < wr.heap.size := World.block_lt_of_cell? _ _ hcu
            have h1 := hb9.cell hlt
            rw [h1, hcu] at hcu'
            exact hcu'.symm
          clear hb9 hr9 hcu HL9
          by_cases hjm : j = m
          · subst hjm
            go_wp2_with fail
            refine (get_pgv HQ9.out (j : Int)).mono ?_
            rintro e w10 ⟨A10, c10, rfl, hr10, hb10⟩
            rw [(taken_at HAT.out).1]
            have hcu10 : w10.cell? (ad.add i) = some (.int .i64 (j : Int)) := (hb10.cell (World.block_lt_of_cell? _ _ hcu9)).trans hcu9
            have HF := Lib.hid (show KqRel w8 L.length (.int .i64 ((i : Int) + 1)) w10 from ⟨i + 1, by omega, by simp, HB9.out.trans (hb10.mono HB9.out.size)⟩)
            clear hr10 hb10 hcu9
            go_wp2
            go_roundw
            case rel => exact HF.out
            case measure => simp [intOf]; omega
          · have hne : ¬ ((j : Int) = (m : Int)) := by omega
            have hneb : ((j : Int) != (m : Int)) = true := by simp; omega
            have HTJ := Lib.hid (HOT.out j b' HSJ.out hjm)
            go_wp2_with fail
            refine (get_pgv HQ9.out (j : Int)).mono ?_
            rintro e w10 ⟨A10, c10, rfl, hr10, hb10⟩
            rw [(taken_at HTJ.out).1]
            rw [(taken_at HTJ.out).2] at hr10 ⊢
            rw [show (some b').getD [] = b' from rfl] at hr10 ⊢
            have hcu10 : w10.cell? (ad.add i) = some (.int .i64 (j : Int)) := (hb10.cell (World.block_lt_of_cell? _ _ hcu9)).trans hcu9
            have HSB9 := Lib.hid (same_any A9 A10 b'.length b'.length c9 c10 b' b' w10 ((HR9.out.below hb10 (Nat.le_refl _)).more hb10.size) hr10 (by omega))
            rw [decide_eq_true (show b' = b' from rfl)] at HSB9
            have HB10 := Lib.hid (HB9.out.trans (hb10.mono HB9.out.size))
            clear hr10 hb10 hcu9
            go_wp2_with fail
            refine HSB9.out.mono ?_
            rintro e w11 ⟨rfl, hb11⟩
            have HF := Lib.hid (show KqRel w8 L.length (.int .i64 ((i : Int) + 1)) w11 from ⟨i + 1, by omega, by simp, HB10.out.trans (hb11.mono HB10.out.size)⟩)
            clear hb11
            go_wp2
            go_roundw
            case rel => exact HF.out
            case measure => simp [intOf]; omega
        · have HRr := Lib.hid ((HR8.out.below HBR.out (Nat.le_refl _)).more HBR.out.size)
          have HCP := Lib.hid (cut_put HAT.out HQr.out.pg.trim)
          go_wp2_with fail
          refine (cut_pgv HQr.out (m : Int) (taken_at HAT.out).1).mono ?_
          rintro e w12 ⟨A12, c12, l12, rfl, hv12, hb12⟩
          rw [Int.toNat_natCast] at hv12
          obtain ⟨u, hu⟩ : ∃ u, u = trimP (setP t m none) := ⟨_, rfl⟩
          rw [← hu] at hv12 HCP
          have HU := Lib.hid hu
          have HV12 := Lib.hid hv12
          have HQ12 := Lib.hid (HQr.out.below hb12)
          have HR12 := Lib.hid ((HRr.out.below hb12 (Nat.le_refl _)).more hb12.size)
          clear hv12 hb12 hu
          go_wp2_with fail
          refine (get_pgv HV12.out (m : Int)).mono ?_
          rintro e w13 ⟨A13, c13, rfl, hr13, hb13⟩
          rw [show takenP u (m : Int) = false by have := HCP.out.2; simpa using this]
          have HV13 := Lib.hid (HV12.out.below hb13)
          have HQ13 := Lib.hid (HQ12.out.below hb13)
          have HR13 := Lib.hid ((HR12.out.below hb13 (Nat.le_refl _)).more hb13.size)
          clear hr13 hb13
          go_wp2_with fail
          refine (put_pgv HV13.out (m : Int) A2 n2 c2 b HR13.out HB.out.2).mono ?_
          rintro e w14 (⟨A14, c14, hno, rfl, hb14⟩ | ⟨A14, c14, l14, _, _, _, rfl, hv14, hb14⟩)
          · exfalso
            have h1 : (b.length : Int) ≤ roomP u m := set_room (by rw [HCP.out.1]; exact HQ13.out.pg.fit)
            simp only [putP] at hno
            rw [if_pos (by rw [roomI, if_neg (by omega), Int.toNat_natCast]; exact h1)] at hno
            cases hno
          rw [Int.toNat_natCast, HCP.out.1] at hv14
          have hq := (HQ13.out.below hb14)
          have HSE := Lib.hid (same_any A14 A4 256 256 c14 c4 l14 l4 w14 hv14.sl.rd hq.sl.rd (by omega))
          rw [decide_eq_true (show l14 = l4 by rw [hv14.pg.img, hq.pg.img])] at HSE
          have HB14 := Lib.hid hq.b
          clear hv14 hb14 hq
          go_wp2_with fail
          refine HSE.out.mono ?_
          rintro e w15 ⟨rfl, hb15⟩
          have HB15 := Lib.hid (HB14.out.trans (hb15.mono HB14.out.size))
          clear hb15
          go_wp2
          go_ret
          exact ⟨rfl, HB15.out⟩

section
open Go.ChangeShapes Go.WideShapes Go.ChangeAt
open Go.ChangeMaps (open_string shut_string)
set_option linter.unusedVariables false
set_option maxRecDepth 100000 in
theorem pageKeeps_lifted (os : Os) (started : os.Started) (H : Type) (enc : TypeId × Value → H) :
    ReturnsInHanded {} Tryd.checked os 5 .any (fun w args => (Rows.pageKeepsSpec.pre enc Tryd.prog Tryd.f5 Rows.pageKeepsRow.domain false w args ∧ laidMetH Tryd.prog Rows.pageKeepsRow.laid w) ∧ sizedMet enc Tryd.prog Tryd.f5 (OpenSpec.ofChange Rows.pageKeepsSpec) false w args)
      (Rows.pageKeepsSpec.post enc Tryd.prog Tryd.f5 false true false false) := by
  refine returnsInHanded_of_change_and (C := Tryd.checked) (X := fun w _ => laidMetH Tryd.prog Rows.pageKeepsRow.laid w) (fun _ _ _ hh h => h.of_heap hh) own started (by kernel_rfl) Tryd.func5
    (ChangeSpec.witness_shaped (enc := enc) (C := Tryd.checked) (os := os) (X := fun w _ => laidMetH Tryd.prog Rows.pageKeepsRow.laid w) false (World.laidAll Tryd.prog os Rows.pageKeepsRow.laid) #[.slice none 0 0, .int .i64 0, .slice none 0 0] 8 (World.laidAll_os _ _ _)
      (World.shaped_of_ZipB (by kernel_rfl) (by kernel_rfl)) (by kernel_rfl) (by kernel_rfl) (by kernel_rfl)
      (by rw [MakeChecks.laidMetH_plain _ _ _ (by kernel_rfl)]; exact laidMet_laidAll _ (by kernel_rfl) (by kernel_rfl))) ?_
  intro W base args ds gs before hval0 hW hcnd hsz hL _
  have hval : ∀ (j : Nat) t v, Tryd.f5.params[j]? = some t → args[j]? = some v → Value.okWide Tryd.prog W .any base t v := hval0
  have hW' := hW
  obtain ⟨p, q, hA0, hV, rfl, hfz, hnd⟩ := hW
  have hA : DataW.TrodAll enc Tryd.prog W 0 (fun _ => true) true Tryd.f5.params.toList args.toList ds p := hA0
  rw [Tryd.params5] at hA hval
  obtain ⟨v0, vs0, d0, ds0, p0, q0, hargs, rfl, rfl, h0, r0⟩ := trodAll_cons hA
  obtain ⟨v1, vs1, d1, ds1, p1, q1, rfl, rfl, rfl, h1, r1⟩ := trodAll_cons r0
  obtain ⟨v2, vs2, d2, ds2, p2, q2, rfl, rfl, rfl, h2, r2⟩ := trodAll_cons r1
  obtain ⟨rfl, rfl, rfl⟩ := trodAll_nil r2
  obtain rfl : args = #[v0, v1, v2] := by cases args; simp_all
  obtain ⟨rfl, rfl⟩ := trodVars_none hV
  have k0 := h0
  have lt0 : ∀ x ∈ p0, x.block < W.heap.size := by obtain ⟨m, hm⟩ := k0; exact DataW.trod_lt m _ _ _ hm
  have k1 := h1
  have lt1 : ∀ x ∈ p1, x.block < W.heap.size := by obtain ⟨m, hm⟩ := k1; exact DataW.trod_lt m _ _ _ hm
  have k2 := h2
  have lt2 : ∀ x ∈ p2, x.block < W.heap.size := by obtain ⟨m, hm⟩ := k2; exact DataW.trod_lt m _ _ _ hm
  obtain ⟨a0, len0, cap0, rfl⟩ := okWide_slice Tryd.underlying27 (hval 0 27 v0 rfl rfl)
  obtain ⟨z0, rfl, l0, m0, o0, q0x, r0x⟩ := rd_of_calls Tryd.underlying27 Tryd.underlying31 (by kernel_rfl) ⟨rfl, by kernel_rfl, Tryd.underlying3⟩ ⟨rfl, by kernel_rfl, Tryd.underlying3⟩ ⟨rfl, by kernel_rfl, Tryd.underlying22⟩ Tryd.underlying5 (by kernel_rfl) h0
  obtain ⟨a1, rfl, rfl, rfl, w1⟩ := open_int Tryd.underlying3 (hval 1 3 v1 rfl rfl) h1
  obtain ⟨a2, len2, cap2, rfl⟩ := okWide_slice Tryd.underlying22 (hval 2 22 v2 rfl rfl)
  obtain ⟨z2, r2x, w2, e2, l2, m2⟩ := rd_of_ints Tryd.underlying22 Tryd.underlying5 (by kernel_rfl) h2
  clear hA0 hval0
  refine (pageKeeps_walk a0 cap0 z0 a1 a2 len2 cap2 z2 W (CallsIn.of o0 q0x r0x) l0 m0 (bounds_i64 w1) r2x w2 e2 l2 m2).mono fun e W' ⟨he, bel⟩ => ?_
  subst he
  exact ⟨_, rfl, _, _, _, [], _, [], hW', trodAll_mk1 (shut_bool Tryd.underlying4 _), (trodAll_cons_mk (Below.trod laidOut (by kernel_rfl) (of_decide_eq_true (by kernel_rfl)) k0 bel lt0) (trodAll_cons_mk (Below.trod laidOut (by kernel_rfl) (of_decide_eq_true (by kernel_rfl)) k1 bel lt1) (trodAll_cons_mk (Below.trod laidOut (by kernel_rfl) (of_decide_eq_true (by kernel_rfl)) k2 bel lt2) trodAll_mk0))), rfl, bel.frame _, fun h => by cases h⟩

theorem pageKeeps_over : Rows.pageKeepsRow.holds Tryd.pinned (OpenSpec.ofChange Rows.pageKeepsSpec) :=
  OpenClaim.holds_of_wide 5 Tryd.f5 rfl rfl rfl rfl rfl rfl rfl ⟨rfl, rfl, rfl, rfl, rfl⟩ rfl rfl rfl rfl rfl (by kernel_rfl) Tryd.func5 (by kernel_rfl)
    (of_decide_eq_true (by kernel_rfl)) (by unfold Func.isWrapper; first | (rw [if_pos (by decide +kernel)]; kernel_rfl) | (rw [if_neg (by decide +kernel)]; exact ⟨rfl, rfl⟩))
    (fun os started H enc _ => pageKeeps_lifted os started H enc)

theorem pageKeeps_card : Rows.PageKeepsCardSaid :=
  Claim7.holds_tied_plain_at .later [] [.data, .pinned] true _ false
    pageKeeps_over (fun _ h => by cases h) (by kernel_rfl) (fun _ h => by cases h) pageKeeps_row_tie rfl ⟨rfl, rfl⟩ (by kernel_rfl) rfl
    (fun f fn hf hfn => by
      obtain rfl : f = 5 := Option.some.inj ((show Tryd.prog.funcNamed Rows.pageKeepsRow.func = some 5 by kernel_rfl).symm.trans hf) |>.symm
      obtain rfl : fn = Tryd.f5 := (Option.some.inj (Tryd.func5.symm.trans hfn)).symm
      have hall : (Tryd.f5.params.toList.all fun t => !Tryd.prog.wantsStandIn t) = true := by kernel_rfl
      exact ⟨by kernel_rfl, fun j t ht => by
        have h1 := List.all_eq_true.1 hall t (List.mem_of_getElem? (by simpa using ht))
        show Tryd.prog.wantsStandIn t = false
        simpa using h1⟩)
    (by kernel_rfl)
end
#print axioms pageKeeps_card
end Go.Proofs.YtmgjoogfhkfooaaDoor
