/-
  HeapFirst returns true for all rows: a row is added to the first page that has room for it; the rows that are handed in are left as they were.
  No condition but the reach of the statement's form; the listed variables are tied by the card.
-/
import Derived.Test.YtdnegfjddpdmhaaDoorHpQ
import Derived.Test.YtdnegfjddpdmhaaDoorTie
import Derived.Test.YtdnegfjddpdmhaaDoorCards
import Derived.Lay
import Derived.MakeChecks
import Derived.JoinedOf
import Derived.Stop.Joined
import Derived.HandedShaped
namespace Go.Proofs.YtdnegfjddpdmhaaDoor
open Go.RowKit Go.Lib

theorem room_is {s : List Slot} {b : List Int} (h : fitsP s b = false) : roomO (some s) < (b.length : Int) := by
  simp only [fitsP, decide_eq_false_iff_not] at h
  show roomI s (ffP s) < _
  omega

set_option maxRecDepth 100000 in
set_option maxHeartbeats 6400000 in
theorem heapFirst_walk (A : Option Addr) (n c : Nat) (xs : List Rb) (A2 : Option Addr) (n2 c2 : Nat) (b : List Int) (w : World) (hx : RIn0 w A n xs) (hxb : ∀ x ∈ xs, IsBytes x.l ∧ x.n ≤ x.c ∧ x.c ≤ maxLen) (hnc : n ≤ c) (hcm : c ≤ maxLen) (hxs : ∀ x ∈ xs, x.n ≤ 140737488355328)
    (hb : Rd w w.heap.size A2 n2 (b.map (Value.int .u8))) (hbw : ∀ z ∈ b, (Lit.int .u8 z).wf = true) (hbl : b.length = n2) (hnc2 : n2 ≤ c2) (hcm2 : c2 ≤ maxLen) :
    Calls Tryd.prog 8 #[.slice A n c, .slice A2 n2 c2] w (YesB w) := by
  have H := Lib.hid (And.intro hx (And.intro hxb (And.intro hxs (And.intro (show Rd w w.heap.size A2 n2 (cells b) from hb) (And.intro (bytes_wf hbw) hbl)))))
  have hnm : n ≤ maxLen := Nat.le_trans hnc hcm
  have hn0 : (0 : Int) ≤ (n : Int) := Int.natCast_nonneg _
  have hn20 : (0 : Int) ≤ (n2 : Int) := Int.natCast_nonneg _
  clear hx hxb hxs hb hbw hbl
  go_enter Tryd.func8, Tryd.ntmps8
  go_wp2_with fail
  refine (alive_any w).mono ?_
  rintro e w1 ⟨rfl, h1⟩
  have H1 := Lib.hid h1
  clear h1
  by_cases hbig : 60 < n
  · have hbi : (60 : Int) < (n : Int) := by omega
    go_wp2_with fail
    go_ret
    exact ⟨rfl, H1.out⟩
  have hbi : ¬ ((60 : Int) < (n : Int)) := by omega
  have HW := Lib.hid (weigh_any A n c xs 12000 w1 (H.out.1.below H1.out) H.out.2.2.1 hnm (by omega))
  go_wp2_with fail
  refine HW.out.mono ?_
  rintro e w1' ⟨⟨r, rfl, _⟩, rfl⟩
  by_cases hr : 12000 < r
  · go_wp2_with fail
    go_ret
    exact ⟨rfl, H1.out⟩
  by_cases hb5 : 500 < n2
  · have hb5i : (500 : Int) < (n2 : Int) := by omega
    go_wp2_with fail
    go_ret
    exact ⟨rfl, H1.out⟩
  have hb5i : ¬ ((500 : Int) < (n2 : Int)) := by omega
  go_wp2_with fail
  refine (hs_new w w1' H1.out).mono ?_
  rintro e w2 ⟨hb, D, rfl, h2, _, _⟩
  have H2 := Lib.hid (show AdLoop w hb n (.int .i64 0) w2 from ⟨0, D, [], Nat.zero_le _, rfl, h2, Nat.le_refl _⟩)
  clear h2 HW
  go_wp2_with fail
  go_loopw [6] (fun i wr => AdLoop w hb n i wr) (fun i _ => n - (intOf i).toNat)
  case atStart => exact H2.out
  case round =>
    obtain ⟨k, D, ps, hk, rfl, hS, hpl⟩ := hrel
    have hk0 : (0 : Int) ≤ (k : Int) := Int.natCast_nonneg _
    have HR := Lib.hid (And.intro hS hpl)
    clear hS hpl
    by_cases hlt : k < n
    · have hlt1 : (k : Int) < (n : Int) := by omega
      obtain ⟨ad, x, rfl, hx, hc, _⟩ := (H.out.1.below HR.out.1.low).at_ hlt
      have hmem := List.mem_of_getElem? hx
      have HAD := Lib.hid (hs_add HR.out.1 x.A x.n x.c x.l (HR.out.1.arg (H.out.1.el x hmem)) (H.out.2.1 x hmem).1)
      unfold Rb.val at hc
      clear hx hmem
      go_wp2_with fail
      refine HAD.out.mono ?_
      rintro e w3 ⟨rfl, hS3, _⟩
      have HF := Lib.hid (show AdLoop w hb n (.int .i64 ((k : Int) + 1)) w3 from ⟨k + 1, _, _, by omega, by go_num, hS3, by have h8 := addN_len ps x.l; have h9 := HR.out.2; omega⟩)
      clear hS3
      go_wp2_with fail
      go_roundw
      case rel => exact HF.out
      case measure => simp [intOf]; omega
    · have hlt1 : ¬ ((k : Int) < (n : Int)) := by omega
      have hpl : ps.length ≤ 60 := by have := HR.out.2; omega
      have HPG := Lib.hid (hs_pagesB HR.out.1)
      go_wp2_with fail
      refine HPG.out.mono ?_
      rintro e w4 ⟨A4, c4, n4, ys, rfl, hn4, hbf, hys, hb4⟩
      have hS4 := HR.out.1.below hb4
      have HAD := Lib.hid (hs_add hS4 A2 n2 c2 b (hS4.arg H.out.2.2.2.1) H.out.2.2.2.2.1)
      have hdis : ∀ j, (wr.heap.size ≤ j ∧ j < w4.heap.size) → ¬ D j := fun j hj hd => by have := (HR.out.1.hp.foot hd).2; omega
      have H4 := Lib.hid (And.intro hS4 (And.intro hbf (And.intro hys (And.intro hn4 hdis))))
      have hn4l : n4 ≤ 60 := by rw [hn4, ← pslots_len, hys]; exact hpl
      clear hn4 hbf hys hb4 hS4 hdis HPG
      go_wp2_with fail
      refine HAD.out.mono ?_
      rintro e w5 ⟨rfl, hS5, hch5⟩
      have hbf5 := H4.out.2.1.chg hch5 fun j _ hj => H4.out.2.2.2.2 j hj
      have H5 := Lib.hid (And.intro hS5 hbf5)
      clear hS5 hbf5 hch5 HAD
      by_cases he : addE ps b = 0
      · obtain ⟨f1, f2, f3, f4, f5⟩ := add_done he
        have hgot := add_got he
        have hba := (Below.refl w5.heap.size w5).alloc (Nat.le_refl _) (.cells #[.int .i64 (addPg ps b), .int .i64 (addSl ps b)] 32)
        have hbk := Blk.new w5 32 #[.int .i64 (addPg ps b), .int .i64 (addSl ps b)]
        have HG := Lib.hid (And.intro hgot f3)
        obtain ⟨pg, hpg⟩ : ∃ pg, pg = addPg ps b := ⟨_, rfl⟩
        obtain ⟨sl, hsl⟩ : ∃ sl, sl = addSl ps b := ⟨_, rfl⟩
        obtain ⟨q, hq⟩ : ∃ q, q = fitH b ps := ⟨_, rfl⟩
        have hq61 : q ≤ 60 := by rw [hq]; exact Nat.le_trans (fitH_le b ps) hpl
        have HQ := Lib.hid (And.intro hpg (And.intro hsl hq))
        rw [he, ← hpg, ← hsl]
        rw [← hpg, ← hsl] at hba hbk
        have hpq : pg = (q : Int) := by rw [hpg, hq]; exact f3
        clear f1 f2 f3 f4 f5 hgot hpg hsl hq he
        subst hpq
        obtain ⟨w6, hw6⟩ : ∃ w6, w6 = w5.alloc (.cells #[.int .i64 (q : Int), .int .i64 sl] 32) := ⟨_, rfl⟩
        rw [← hw6] at hba hbk
        have hbl : w5.heap.size < w6.heap.size := hbk.lt
        have H6 := Lib.hid (And.intro (H5.out.1.below hba) (And.intro (H5.out.2.below hba) hbk))
        have HW6 := Lib.hid hw6
        have hq0 : (0 : Int) ≤ (q : Int) := Int.natCast_nonneg _
        have hqn : q ≤ n4 := by have h1 := HQ.out.2.2; have h2 := fitH_le b ps; have h3 := H4.out.2.2.2.1; have h4 := pslots_len ys; rw [H4.out.2.2.1] at h4; omega
        have hqni : (q : Int) ≤ (n4 : Int) := by omega
        clear hba hbk hw6
        go_wp2_with fail
        rw [← HW6.out]
        go_loopw [10] (fun i wr2 => ∃ j : Nat, j ≤ q ∧ i = .int .i64 j ∧ Below w6.heap.size w6 wr2) (fun i _ => q - (intOf i).toNat)
        case atStart => exact ⟨0, Nat.zero_le _, rfl, Below.refl _ _⟩
        case round =>
          rename_i wx
          obtain ⟨j, hj, rfl, hbj⟩ := hrel
          have hj0 : (0 : Int) ≤ (j : Int) := Int.natCast_nonneg _
          have hbkj := H6.out.2.2.below hbj hbl
          have e0 := hbkj.cell 0
          have e1 := hbkj.cell 1
          simp only [List.getElem?_toArray, List.getElem?_cons_zero, List.getElem?_cons_succ] at e0 e1
          have HBJ := Lib.hid hbj
          clear hbkj hbj
          by_cases hjq : j < q
          · have hjq1 : (j : Int) < (q : Int) := by omega
            have hjn1 : (j : Int) < (n4 : Int) := by omega
            have hjy : j < ys.length := by have := H4.out.2.2.2.1; omega
            obtain ⟨ad4, rfl, hcj, hok⟩ := (H6.out.2.1.below HBJ.out).at_ hjy
            obtain ⟨y, hye⟩ : ∃ y, y = ys[j] := ⟨_, rfl⟩
            have hys : y.s = pgAt ps j := by rw [hye, ← H4.out.2.2.1]; exact (pgAt_slots hjy).symm
            rw [← hye] at hcj hok
            unfold Pv.val at hcj
            have hrm := room_sl wr y.A 256 y.c (imgP y.s) hok.1
            rw [hok.of, hys] at hrm
            have hlow : roomO (some (pgAt ps j)) < (n2 : Int) := by
              have h1 := room_is (fitH_no (b := b) (ps := ps) (j := j) (by rw [← HQ.out.2.2]; exact hjq))
              rw [H.out.2.2.2.2.2] at h1
              exact h1
            obtain ⟨rm, hrme⟩ : ∃ rm, rm = roomO (some (pgAt ps j)) := ⟨_, rfl⟩
            rw [← hrme] at hrm hlow
            have HRM := Lib.hid hrm
            clear hye hys hok hrm hrme
            go_wp2_with fail
            refine HRM.out.mono ?_
            rintro e w9 ⟨rfl, hb9⟩
            have hb9' := HBJ.out.trans (hb9.mono HBJ.out.size)
            have HB9 := Lib.hid hb9'
            clear hb9 hb9'
            go_wp2_with fail
            go_roundw
            case rel => exact ⟨j + 1, by omega, by go_num, HB9.out⟩
            case measure => simp [intOf]; omega
          · have hjq1 : ¬ ((j : Int) < (q : Int)) := by omega
            have hS7 := H6.out.1.below HBJ.out
            have hg := hs_get hS7 (q : Int) sl
            rw [show getH (addN ps b) (q : Int) sl = some b by have h1 := HG.out.1; have h2 := HG.out.2; rw [h2, ← HQ.out.2.2, ← HQ.out.2.1] at h1; exact h1] at hg
            have HGT := Lib.hid hg
            have H7 := Lib.hid hS7
            clear hg hS7
            go_wp2_with fail
            refine HGT.out.mono ?_
            rintro e w8 ⟨A8, c8, n8, rfl, hn8, ho8, _, _, hb8⟩
            simp only [Option.isSome_some, Option.getD_some] at hn8 ho8 ⊢
            have hbk8 := (H6.out.2.2.below HBJ.out hbl).below hb8 (by have := HBJ.out.size; omega)
            have e2 := hbk8.cell 0
            simp only [List.getElem?_toArray, List.getElem?_cons_zero] at e2
            have H8 := Lib.hid (H7.out.below hb8)
            have HSB := Lib.hid (same_any A8 A2 n8 n2 c8 c2 b b w8 (Rd.of_own ho8) (H.out.2.2.2.1.below H8.out.low (Nat.le_refl _) |>.more H8.out.low.size) (by rw [hn8, H.out.2.2.2.2.2]; omega))
            have HK8 := Lib.hid hbk8
            clear hn8 ho8 hb8 hbk8 HGT
            go_wp2_with fail
            refine HSB.out.mono ?_
            rintro e w9 ⟨rfl, hb9⟩
            have hbk9 := HK8.out.below hb9 HK8.out.lt
            have e3 := hbk9.cell 0
            simp only [List.getElem?_toArray, List.getElem?_cons_zero] at e3
            have H9 := Lib.hid (H8.out.below hb9)
            clear hbk9 hb9
            simp only [decide_true]
            go_wp2_with fail
            go_ret
            exact ⟨rfl, H9.out.low⟩
      · obtain ⟨f1, f2⟩ := add_small (by omega) he
        have hb2i : (200 : Int) < (n2 : Int) := by have := H.out.2.2.2.2.2; omega
        obtain ⟨ae, hae⟩ : ∃ ae, ae = addE ps b := ⟨_, rfl⟩
        rw [← hae] at he ⊢
        have hba := (Below.refl w5.heap.size w5).alloc (Nat.le_refl _) (.cells #[.int .i64 (addPg ps b), .int .i64 (addSl ps b)] 32)
        have h6 := H5.out.1.below hba
        rw [f2] at h6
        have HPG := Lib.hid (hs_pagesB h6)
        have H6 := Lib.hid (And.intro h6 (H5.out.2.below hba))
        clear f1 f2 hae hba h6
        go_wp2_with fail
        refine HPG.out.mono ?_
        rintro e w7 ⟨A7, c7, n7, zs, rfl, hn7, hbf7, hzs, hb7⟩
        have HSL := Lib.hid (same_pages w7 hbf7 (H6.out.2.below hb7) hn7 H4.out.2.2.2.1 (by rw [hzs, H4.out.2.2.1]) (by rw [← pslots_len, hzs]; omega))
        have H7 := Lib.hid (H6.out.1.below hb7)
        clear hn7 hbf7 hzs hb7
        go_wp2_with fail
        refine HSL.out.mono ?_
        rintro e w8 ⟨rfl, hb8⟩
        have H8 := Lib.hid (H7.out.below hb8)
        clear hb8
        go_wp2_with fail
        go_ret
        exact ⟨rfl, H8.out.low⟩

section
open Go.ChangeShapes Go.WideShapes Go.ChangeAt
open Go.ChangeMaps (open_string shut_string)
set_option linter.unusedVariables false
set_option maxRecDepth 100000 in
theorem heapFirst_lifted (os : Os) (started : os.Started) (H : Type) (enc : TypeId × Value → H) :
    ReturnsInHanded {} Tryd.checked os 8 .any (fun w args => (Rows.heapFirstSpec.pre enc Tryd.prog Tryd.f8 Rows.heapFirstRow.domain false w args ∧ laidMetH Tryd.prog Rows.heapFirstRow.laid w) ∧ sizedMet enc Tryd.prog Tryd.f8 (OpenSpec.ofChange Rows.heapFirstSpec) false w args)
      (Rows.heapFirstSpec.post enc Tryd.prog Tryd.f8 false true false false) := by
  refine returnsInHanded_of_change_and (C := Tryd.checked) (X := fun w _ => laidMetH Tryd.prog Rows.heapFirstRow.laid w) (fun _ _ _ hh h => h.of_heap hh) own started (by kernel_rfl) Tryd.func8
    (ChangeSpec.witness_shaped (enc := enc) (C := Tryd.checked) (os := os) (X := fun w _ => laidMetH Tryd.prog Rows.heapFirstRow.laid w) false (World.laidAll Tryd.prog os Rows.heapFirstRow.laid) #[.slice none 0 0, .slice none 0 0] 8 (World.laidAll_os _ _ _)
      (World.shaped_of_ZipB (by kernel_rfl) (by kernel_rfl)) (by kernel_rfl) (by kernel_rfl) (by kernel_rfl)
      (by rw [MakeChecks.laidMetH_plain _ _ _ (by kernel_rfl)]; exact laidMet_laidAll _ (by kernel_rfl) (by kernel_rfl))) ?_
  intro W base args ds gs before hval0 hW hcnd hsz hL _
  have hval : ∀ (j : Nat) t v, Tryd.f8.params[j]? = some t → args[j]? = some v → Value.okWide Tryd.prog W .any base t v := hval0
  have hW' := hW
  obtain ⟨p, q, hA0, hV, rfl, hfz, hnd⟩ := hW
  have hA : DataW.TrodAll enc Tryd.prog W 0 (fun _ => true) true Tryd.f8.params.toList args.toList ds p := hA0
  rw [Tryd.params8] at hA hval
  obtain ⟨v0, vs0, d0, ds0, p0, q0, hargs, rfl, rfl, h0, r0⟩ := trodAll_cons hA
  obtain ⟨v1, vs1, d1, ds1, p1, q1, rfl, rfl, rfl, h1, r1⟩ := trodAll_cons r0
  obtain ⟨rfl, rfl, rfl⟩ := trodAll_nil r1
  obtain rfl : args = #[v0, v1] := by cases args; simp_all
  obtain ⟨rfl, rfl⟩ := trodVars_none hV
  have k0 := h0
  have lt0 : ∀ x ∈ p0, x.block < W.heap.size := by obtain ⟨m, hm⟩ := k0; exact DataW.trod_lt m _ _ _ hm
  have k1 := h1
  have lt1 : ∀ x ∈ p1, x.block < W.heap.size := by obtain ⟨m, hm⟩ := k1; exact DataW.trod_lt m _ _ _ hm
  obtain ⟨a0, len0, cap0, rfl⟩ := okWide_slice Tryd.underlying38 (hval 0 38 v0 rfl rfl)
  obtain ⟨z0, r0x, w0, l0, m0, o0⟩ := rd_of_lists Tryd.underlying38 Tryd.underlying33 (by kernel_rfl) Tryd.underlying5 (by kernel_rfl) (by kernel_rfl) h0
  have o0y : ∀ x ∈ z0, x.n ≤ 140737488355328 := fun x hx => by
    rcases o0 x hx with h | ⟨q, hq, hle⟩
    · omega
    · have h9 : q ≤ 140737488355328 := by
        have h8 := List.all_eq_true.1 hsz _ (DataW.weights_mem_each (j := 0) (t := 38) rfl rfl q hq)
        have h7 : q ≤ reachBytes := by simpa using h8
        unfold reachBytes at h7
        omega
      omega
  obtain ⟨a1, len1, cap1, rfl⟩ := okWide_slice Tryd.underlying33 (hval 1 33 v1 rfl rfl)
  obtain ⟨z1, r1x, w1, e1, l1, m1⟩ := rd_of_ints Tryd.underlying33 Tryd.underlying5 (by kernel_rfl) h1
  clear hA0 hval0
  refine (heapFirst_walk a0 len0 cap0 z0 a1 len1 cap1 z1 W r0x w0 l0 m0 o0y r1x w1 e1 l1 m1).mono fun e W' ⟨he, bel⟩ => ?_
  subst he
  exact ⟨_, rfl, _, _, _, [], _, [], hW', trodAll_mk1 (shut_bool Tryd.underlying4 _), (trodAll_cons_mk (Below.trod laidOut (by kernel_rfl) (of_decide_eq_true (by kernel_rfl)) k0 bel lt0) (trodAll_cons_mk (Below.trod laidOut (by kernel_rfl) (of_decide_eq_true (by kernel_rfl)) k1 bel lt1) trodAll_mk0)), rfl, bel.frame _, fun h => by cases h⟩

theorem heapFirst_over : Rows.heapFirstRow.holds Tryd.pinned (OpenSpec.ofChange Rows.heapFirstSpec) :=
  OpenClaim.holds_of_wide 8 Tryd.f8 rfl rfl rfl rfl rfl rfl rfl ⟨rfl, rfl, rfl, rfl, rfl⟩ rfl rfl rfl rfl rfl (by kernel_rfl) Tryd.func8 (by kernel_rfl)
    (of_decide_eq_true (by kernel_rfl)) (by unfold Func.isWrapper; first | (rw [if_pos (by decide +kernel)]; kernel_rfl) | (rw [if_neg (by decide +kernel)]; exact ⟨rfl, rfl⟩))
    (fun os started H enc _ => heapFirst_lifted os started H enc)

theorem heapFirst_card : Rows.HeapFirstCardSaid :=
  Claim7.holds_tied_plain_at .later [] [.data, .pinned] true _ false
    heapFirst_over (fun _ h => by cases h) (by kernel_rfl) (fun _ h => by cases h) heapFirst_row_tie rfl ⟨rfl, rfl⟩ (by kernel_rfl) rfl
    (fun f fn hf hfn => by
      obtain rfl : f = 8 := Option.some.inj ((show Tryd.prog.funcNamed Rows.heapFirstRow.func = some 8 by kernel_rfl).symm.trans hf) |>.symm
      obtain rfl : fn = Tryd.f8 := (Option.some.inj (Tryd.func8.symm.trans hfn)).symm
      have hall : (Tryd.f8.params.toList.all fun t => !Tryd.prog.wantsStandIn t) = true := by kernel_rfl
      exact ⟨by kernel_rfl, fun j t ht => by
        have h1 := List.all_eq_true.1 hall t (List.mem_of_getElem? (by simpa using ht))
        show Tryd.prog.wantsStandIn t = false
        simpa using h1⟩)
    (by kernel_rfl)
end
#print axioms heapFirst_card
end Go.Proofs.YtdnegfjddpdmhaaDoor
