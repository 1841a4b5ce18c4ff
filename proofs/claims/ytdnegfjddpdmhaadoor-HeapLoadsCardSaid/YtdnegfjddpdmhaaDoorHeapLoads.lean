/-
  HeapLoads returns true for all pages and all bytes: the program's Load answers a heap just where the document's does, and a row that is added to it is added alike; what is handed in is left as it was.
  No condition but the reach of the statement's form; the listed variables are tied by the card.
-/
import Derived.Test.YtdnegfjddpdmhaaDoorME
import Derived.Test.YtdnegfjddpdmhaaDoorTie
import Derived.Test.YtdnegfjddpdmhaaDoorCards
import Derived.Lay
import Derived.MakeChecks
import Derived.JoinedOf
import Derived.Stop.Joined
import Derived.HandedShaped
namespace Go.Proofs.YtdnegfjddpdmhaaDoor
open Go.RowKit Go.Lib

theorem RIn.in0 {w : World} {A : Option Addr} {n c : Nat} {xs : List Rb} (h : RIn w A n c xs) : RIn0 w A n xs := ⟨h.rd, fun x hx => (h.sl x hx).rd⟩
theorem loadH_ok {ls : List (List Int)} {ps : Pgs} (h : loadH ls = some ps) : HOk ps := by
  unfold loadH at h
  cases hd : ldP ls with
  | none => rw [hd] at h; cases h
  | some qs =>
    rw [hd] at h
    simp only at h
    split at h
    · cases h
    · rename_i h256
      split at h
      · cases h
      · rename_i hlen
        injection h with h
        subst h
        unfold ldP at hd
        split at hd
        · rename_i hall
          injection hd with hd
          refine ⟨fun s hs => ?_, by omega, ?_⟩
          · rw [← hd] at hs
            obtain ⟨l, hl, rfl⟩ := List.mem_map.1 hs
            cases ho : ofP l with
            | none => have := hall l hl; rw [ho] at this; cases this
            | some t => exact ⟨(ofP_some ho).fit, (ofP_some ho).trim⟩
          · have h1 := trimH_last qs
            rwa [trimH_full hlen] at h1
        · cases hd
theorem RhV.base {B B' hb : Nat} {D : Nat → Prop} {w : World} {ps : Pgs} (h : RhV B D w hb ps) (hB : B' ≤ B) : RhV B' D w hb ps := by
  obtain ⟨v, ys, h1, h2⟩ := h
  exact ⟨v, ys, ⟨h1.blk, own_base h1.own hB, h1.pg, h1.domh, h1.domv, fun k hk => ⟨by have := (h1.foot k hk).1; omega, (h1.foot k hk).2⟩⟩, h2⟩

theorem rl_small {w w' : World} {A A' : Option Addr} {n : Nat} {xs zs : List Rb} (hs : ∀ x ∈ xs, x.n ≤ 90000) (hl : rlists zs = rlists xs) (hz : RIn0 w A' n zs) (hx : RIn0 w' A n xs) : ∀ z ∈ zs, z.n ≤ 140000000000000 := by
  intro z hzm
  have h1 : z.l ∈ rlists xs := by rw [← hl]; exact List.mem_map_of_mem hzm
  obtain ⟨x, hxm, he⟩ := List.mem_map.1 h1
  have e1 := (hz.el z hzm).len
  have e2 := (hx.el x hxm).len
  rw [cells_len] at e1 e2
  have := hs x hxm
  rw [← e1, ← he, e2]
  omega

set_option maxRecDepth 100000 in
set_option maxHeartbeats 12800000 in
theorem heapLoads_walk (A : Option Addr) (n c : Nat) (xs : List Rb) (A2 : Option Addr) (n2 c2 : Nat) (b : List Int) (w : World) (hx : RIn0 w A n xs) (hxb : ∀ x ∈ xs, IsBytes x.l ∧ x.n ≤ x.c ∧ x.c ≤ maxLen) (hnc : n ≤ c) (hcm : c ≤ maxLen) (hxs : ∀ x ∈ xs, x.n ≤ 140737488355328)
    (hb : Rd w w.heap.size A2 n2 (b.map (Value.int .u8))) (hbw : ∀ z ∈ b, (Lit.int .u8 z).wf = true) (hbl : b.length = n2) (hnc2 : n2 ≤ c2) (hcm2 : c2 ≤ maxLen) :
    Calls Tryd.prog 4 #[.slice A n c, .slice A2 n2 c2] w (YesB w) := by
  have H := Lib.hid (And.intro hx (And.intro hxb (And.intro hxs (And.intro (show Rd w w.heap.size A2 n2 (cells b) from hb) (And.intro (bytes_wf hbw) hbl)))))
  have hnm : n ≤ maxLen := Nat.le_trans hnc hcm
  have hn0 : (0 : Int) ≤ (n : Int) := Int.natCast_nonneg _
  have hn20 : (0 : Int) ≤ (n2 : Int) := Int.natCast_nonneg _
  clear hx hxb hxs hb hbw hbl
  go_enter Tryd.func4, Tryd.ntmps4
  go_wp2_with fail
  refine (alive_any w).mono ?_
  rintro e w1 ⟨rfl, h1⟩
  have H1 := Lib.hid h1
  clear h1
  by_cases t1 : 20 < n ∧ n ≤ 256
  · have t1a : (20 : Int) < (n : Int) := by omega
    have t1b : (n : Int) ≤ 256 := by omega
    have d1a : decide ((20 : Int) < (n : Int)) = true := decide_eq_true t1a
    have d1b : decide ((n : Int) ≤ 256) = true := decide_eq_true t1b
    go_wp2_with fail
    go_ret
    exact ⟨rfl, H1.out⟩
  by_cases t2 : 300 < n
  · have t2a : (300 : Int) < (n : Int) := by omega
    have t2b : (20 : Int) < (n : Int) := by omega
    have t2c : ¬ (n : Int) ≤ 256 := by omega
    have d2a : decide ((300 : Int) < (n : Int)) = true := decide_eq_true t2a
    have d2b : decide ((20 : Int) < (n : Int)) = true := decide_eq_true t2b
    have d2c : decide ((n : Int) ≤ 256) = false := decide_eq_false t2c
    go_wp2_with fail
    go_ret
    exact ⟨rfl, H1.out⟩
  have HW := Lib.hid (weigh_any A n c xs 90000 w1 (H.out.1.below H1.out) H.out.2.2.1 hnm (by omega))
  have t3 : ¬ (300 : Int) < (n : Int) := by omega
  have d3 : decide ((300 : Int) < (n : Int)) = false := decide_eq_false t3
  have hcases : (decide ((20 : Int) < (n : Int)) = true ∧ decide ((n : Int) ≤ 256) = false ∧ (20 : Int) < (n : Int) ∧ ¬ (n : Int) ≤ 256) ∨ (decide ((20 : Int) < (n : Int)) = false ∧ ¬ (20 : Int) < (n : Int)) := by
    by_cases g : 20 < n
    · exact .inl ⟨decide_eq_true (by omega), decide_eq_false (by omega), by omega, by omega⟩
    · exact .inr ⟨decide_eq_false (by omega), by omega⟩
  have hn300 : n ≤ 300 := by omega
  clear t1 t2
  rcases hcases with ⟨d1, d2, e1, e2⟩ | ⟨d1, e1⟩
  all_goals
    go_wp2_with fail
    refine HW.out.mono ?_
    rintro e w1' ⟨⟨r, rfl, hr⟩, rfl⟩
    by_cases t4 : 90000 < r
    · have d4 : decide ((90000 : Int) < r) = true := decide_eq_true t4
      go_wp2_with fail
      go_ret
      exact ⟨rfl, H1.out⟩
    have d4 : decide ((90000 : Int) < r) = false := decide_eq_false t4
    have hr2 := hr (by omega)
    by_cases t5 : (500 : Int) < (n2 : Int)
    · have d5 : decide ((500 : Int) < (n2 : Int)) = true := decide_eq_true t5
      clear hr hr2
      go_wp2_with fail
      go_ret
      exact ⟨rfl, H1.out⟩
    have d5 : decide ((500 : Int) < (n2 : Int)) = false := decide_eq_false t5
    have hn2500 : n2 ≤ 500 := by omega
    have HCP := Lib.hid (copyLists_any w1' A n c xs (H.out.1.below H1.out) (fun x hx => ⟨(H.out.2.1 x hx).1, by have := hr2 x hx; omega⟩) (by omega))
    have HSM := Lib.hid (show ∀ x ∈ xs, x.n ≤ 90000 from fun x hx => by have := hr2 x hx; omega)
    clear hr hr2 HW
    go_wp2_with fail
    refine HCP.out.mono ?_
    rintro e w2 ⟨A3, c3, zs, rfl, hin2, hls2, hb2⟩
    have hlow2 := H1.out.trans (hb2.mono H1.out.size)
    have hld := load_any w2 w.heap.size hlow2.size A3 n c3 zs hin2 (by omega)
    rw [hls2] at hld
    have HLD := Lib.hid hld
    have H2 := Lib.hid (And.intro hin2.in0 (And.intro hls2 hlow2))
    clear hin2 hls2 hb2 hlow2 hld HCP
    go_wp2_with fail
    refine HLD.out.mono ?_
    rintro e w3 (⟨hno, rfl, hb3⟩ | ⟨ps, hb, D, hsome, rfl, hV3, hb3, hD3⟩)
    · have hlow3 := H2.out.2.2.trans (hb3.mono H2.out.2.2.size)
      have hrl := rload_any w3 A n c xs (H.out.1.below hlow3) H.out.2.1 (by omega)
      rw [hno] at hrl
      have HRL := Lib.hid hrl
      have H3 := Lib.hid (And.intro (H2.out.1.below hb3) hlow3)
      clear hno hb3 hlow3 hrl HLD
      go_wp2_with fail
      refine HRL.out.mono ?_
      rintro e w4 hcase
      obtain ⟨he4, hb4⟩ : e = .returned (.tuple #[.pointer none, .int .i64 42]) ∧ Below w3.heap.size w3 w4 := by
        rcases hcase with ⟨_, h1, h2⟩ | ⟨_, _, _, h, _⟩
        · exact ⟨h1, h2⟩
        · cases h
      subst he4
      have hlow4 := H3.out.2.trans (hb4.mono H3.out.2.size)
      have HSL := Lib.hid (sameLists_yes A3 A n c3 c zs xs w4 (H3.out.1.below hb4) (H.out.1.below hlow4) H2.out.2.1 (fun x hx => rl_small HSM.out H2.out.2.1 (H3.out.1) H.out.1 x hx) (by omega))
      have H4 := Lib.hid hlow4
      clear hb4 hlow4 HRL
      go_wp2_with fail
      refine HSL.out.mono ?_
      rintro e w5 ⟨rfl, d, hd⟩
      have H5 := Lib.hid (show Below w.heap.size w w5 from by rw [hd]; exact below_dN H4.out d)
      clear hd
      go_wp2_with fail
      go_ret
      exact ⟨rfl, H5.out⟩
    · have hok := loadH_ok hsome
      have hlow3 := H2.out.2.2.trans (hb3.mono H2.out.2.2.size)
      have hS3 : HS w D w3 hb ps := ⟨hV3, hok, hlow3⟩
      have hrl := rload_any w3 A n c xs (H.out.1.below hlow3) H.out.2.1 (by omega)
      rw [hsome] at hrl
      have HRL := Lib.hid hrl
      have H3 := Lib.hid (And.intro (H2.out.1.below hb3) (And.intro hlow3 hS3))
      clear hok hsome hb3 hV3 hD3 hlow3 hrl HLD hS3
      go_wp2_with fail
      refine HRL.out.mono ?_
      rintro e w4 hcase
      obtain ⟨rb, E, he4, hR4, hb4⟩ : ∃ rb E, e = .returned (.tuple #[.pointer (some ⟨rb, 0, none⟩), .int .i64 0]) ∧ RhV w3.heap.size E w4 rb ps ∧ Below w3.heap.size w3 w4 := by
        rcases hcase with ⟨h, _⟩ | ⟨ps4, rb, E, h, h1, h2, h3⟩
        · cases h
        · cases h; exact ⟨rb, E, h1, h2, h3⟩
      subst he4
      have hT4 : Tw w w4 hb rb D E ps ps := ⟨H3.out.2.2.below hb4, hR4.base H3.out.2.1.size, fun k hk he => by have := (H3.out.2.2.hp.foot hk).2; have := (hR4.foot he).1; omega⟩
      have HSL := Lib.hid (sameLists_yes A3 A n c3 c zs xs w4 (H3.out.1.below hb4) (H.out.1.below hT4.h.low) H2.out.2.1 (fun x hx => rl_small HSM.out H2.out.2.1 (H3.out.1) H.out.1 x hx) (by omega))
      have H4 := Lib.hid hT4
      clear hcase hR4 hb4 hT4 HRL
      go_wp2_with fail
      refine HSL.out.mono ?_
      rintro e w5 ⟨rfl, d, hd⟩
      have H5 := Lib.hid (show Tw w w5 hb rb D E ps ps from by rw [hd]; exact H4.out.below (below_dN (Below.refl _ _) d))
      have HAD := Lib.hid (hs_add H5.out.h A2 n2 c2 b (H5.out.h.arg H.out.2.2.2.1) H.out.2.2.2.2.1)
      clear hd HSL
      go_wp2_with fail
      refine HAD.out.mono ?_
      rintro e w6 ⟨rfl, hS6, hc6⟩
      have h6 := H5.out.stepD hS6 hc6
      have hb7 := (Below.refl w6.heap.size w6).alloc (Nat.le_refl _) (.cells #[.int .i64 (addPg ps b), .int .i64 (addSl ps b)] 32)
      have kb7 := Blk.new w6 32 #[.int .i64 (addPg ps b), .int .i64 (addSl ps b)]
      obtain ⟨w7, hw7⟩ : ∃ w7, w7 = w6.alloc (.cells #[.int .i64 (addPg ps b), .int .i64 (addSl ps b)] 32) := ⟨_, rfl⟩
      rw [← hw7] at hb7 kb7
      have H7 := Lib.hid (And.intro (h6.below hb7) (And.intro kb7 (show ¬ E w6.heap.size from fun he => absurd (h6.r.foot he).2 (Nat.lt_irrefl _))))
      have HW7 := Lib.hid hw7
      have HAR := Lib.hid (radd_any w7 w.heap.size rb E ps H7.out.1.r H5.out.h.ok H7.out.1.h.low.size A2 n2 c2 b (RdX.of_low (H.out.2.2.2.1.below H7.out.1.h.low (Nat.le_refl _)) H7.out.1.h.low.size fun _ hk => (H7.out.1.r.foot hk).1) H.out.2.2.2.2.1)
      clear hS6 hc6 h6 hb7 kb7 hw7 HAD
      go_wp2_with fail
      rw [← HW7.out]
      refine HAR.out.mono ?_
      rintro e w8 ⟨rfl, ht8⟩
      have h8 := H7.out.1.stepR ht8
      have kb8 := H7.out.2.1.chg ht8.2 H7.out.2.2
      have hb9 := (Below.refl w8.heap.size w8).alloc (Nat.le_refl _) (.cells #[.int .i64 (addPg ps b), .int .i64 (addSl ps b)] 32)
      obtain ⟨w9, hw9⟩ : ∃ w9, w9 = w8.alloc (.cells #[.int .i64 (addPg ps b), .int .i64 (addSl ps b)] 32) := ⟨_, rfl⟩
      have kn9 := Blk.new w8 32 #[.int .i64 (addPg ps b), .int .i64 (addSl ps b)]
      have kb9 := kb8.below hb9 kb8.lt
      have H9 := Lib.hid (show Tw w w9 hb rb _ _ _ _ from by rw [hw9]; exact h8.below hb9)
      have g0 := kb9.cell 0
      have g1 := kb9.cell 1
      have g2 := kn9.cell 0
      have g3 := kn9.cell 1
      simp only [List.getElem?_toArray, List.getElem?_cons_zero, List.getElem?_cons_succ] at g0 g1 g2 g3
      have HW9 := Lib.hid hw9
      have HPG := Lib.hid (hs_pagesB H9.out.h)
      clear ht8 h8 kb8 hb9 kb9 kn9 hw9 HAR
      go_wp2_with fail
      rw [← HW9.out]
      refine HPG.out.mono ?_
      rintro e w10 ⟨A10, c10, n10, ys, rfl, hn10, hbf, hys, hb10⟩
      have H10 := Lib.hid (And.intro (H9.out.below hb10) (And.intro hbf (And.intro hys hn10)))
      have HBY := Lib.hid (rbytes_any H10.out.1.r H10.out.1.h.ok.few)
      clear hbf hys hn10 hb10 HPG g0 g1 g2 g3
      go_wp2_with fail
      refine HBY.out.mono ?_
      rintro e w11 ⟨A11, c11, n11, us, rfl, hn11, hbf11, hus, hb11⟩
      have HSL := Lib.hid (same_pages w11 (H10.out.2.1.below hb11) hbf11 H10.out.2.2.2 hn11 (by rw [hus, H10.out.2.2.1]) (by rw [← pslots_len, H10.out.2.2.1]; have := H10.out.1.h.ok.few; omega))
      have H11 := Lib.hid (H10.out.1.below hb11)
      clear hn11 hbf11 hus hb11 HBY
      go_wp2_with fail
      refine HSL.out.mono ?_
      rintro e w12 ⟨rfl, hb12⟩
      have H12 := Lib.hid (H11.out.below hb12)
      clear hb12
      go_wp2_with fail
      go_ret
      exact ⟨rfl, H12.out.h.low⟩

section
open Go.ChangeShapes Go.WideShapes Go.ChangeAt
open Go.ChangeMaps (open_string shut_string)
set_option linter.unusedVariables false
set_option maxRecDepth 100000 in
theorem heapLoads_lifted (os : Os) (started : os.Started) (H : Type) (enc : TypeId × Value → H) :
    ReturnsInHanded {} Tryd.checked os 4 .any (fun w args => (Rows.heapLoadsSpec.pre enc Tryd.prog Tryd.f4 Rows.heapLoadsRow.domain false w args ∧ laidMetH Tryd.prog Rows.heapLoadsRow.laid w) ∧ sizedMet enc Tryd.prog Tryd.f4 (OpenSpec.ofChange Rows.heapLoadsSpec) false w args)
      (Rows.heapLoadsSpec.post enc Tryd.prog Tryd.f4 false true false false) := by
  refine returnsInHanded_of_change_and (C := Tryd.checked) (X := fun w _ => laidMetH Tryd.prog Rows.heapLoadsRow.laid w) (fun _ _ _ hh h => h.of_heap hh) own started (by kernel_rfl) Tryd.func4
    (ChangeSpec.witness_shaped (enc := enc) (C := Tryd.checked) (os := os) (X := fun w _ => laidMetH Tryd.prog Rows.heapLoadsRow.laid w) false (World.laidAll Tryd.prog os Rows.heapLoadsRow.laid) #[.slice none 0 0, .slice none 0 0] 8 (World.laidAll_os _ _ _)
      (World.shaped_of_ZipB (by kernel_rfl) (by kernel_rfl)) (by kernel_rfl) (by kernel_rfl) (by kernel_rfl)
      (by rw [MakeChecks.laidMetH_plain _ _ _ (by kernel_rfl)]; exact laidMet_laidAll _ (by kernel_rfl) (by kernel_rfl))) ?_
  intro W base args ds gs before hval0 hW hcnd hsz hL _
  have hval : ∀ (j : Nat) t v, Tryd.f4.params[j]? = some t → args[j]? = some v → Value.okWide Tryd.prog W .any base t v := hval0
  have hW' := hW
  obtain ⟨p, q, hA0, hV, rfl, hfz, hnd⟩ := hW
  have hA : DataW.TrodAll enc Tryd.prog W 0 (fun _ => true) true Tryd.f4.params.toList args.toList ds p := hA0
  rw [Tryd.params4] at hA hval
  obtain ⟨v0, vs0, d0, ds0, p0, q0, hargs, rfl, rfl, h0, r0⟩ := trodAll_cons hA
  obtain ⟨v1, vs1, d1, ds1, p1, q1, rfl, rfl, rfl, h1, r1⟩ := trodAll_cons r0
  obtain ⟨rfl, rfl, rfl⟩ := trodAll_nil r1
  obtain rfl : args = #[v0, v1] := by cases args; simp_all
  obtain ⟨rfl, rfl⟩ := trodVars_none hV
  have k0 := h0
  have lt0 : ∀ x ∈ p0, x.block < W.heap.size := by obtain ⟨m, hm⟩ := k0; exact DataW.trod_lt m _ _ _ hm
  have k1 := h1
  have lt1 : ∀ x ∈ p1, x.block < W.heap.size := by obtain ⟨m, hm⟩ := k1; exact DataW.trod_lt m _ _ _ hm
  obtain ⟨a0, len0, cap0, rfl⟩ := okWide_slice Tryd.underlying38 (hval 0 38 v0 rfl rfl)
  obtain ⟨z0, r0x, w0, l0, m0, o0⟩ := rd_of_lists Tryd.underlying38 Tryd.underlying33 (by kernel_rfl) Tryd.underlying5 (by kernel_rfl) (by kernel_rfl) h0
  have o0y : ∀ x ∈ z0, x.n ≤ 140737488355328 := fun x hx => by
    rcases o0 x hx with h | ⟨q, hq, hle⟩
    · omega
    · have h9 : q ≤ 140737488355328 := by
        have h8 := List.all_eq_true.1 hsz _ (DataW.weights_mem_each (j := 0) (t := 38) rfl rfl q hq)
        have h7 : q ≤ reachBytes := by simpa using h8
        unfold reachBytes at h7
        omega
      omega
  obtain ⟨a1, len1, cap1, rfl⟩ := okWide_slice Tryd.underlying33 (hval 1 33 v1 rfl rfl)
  obtain ⟨z1, r1x, w1, e1, l1, m1⟩ := rd_of_ints Tryd.underlying33 Tryd.underlying5 (by kernel_rfl) h1
  clear hA0 hval0
  refine (heapLoads_walk a0 len0 cap0 z0 a1 len1 cap1 z1 W r0x w0 l0 m0 o0y r1x w1 e1 l1 m1).mono fun e W' ⟨he, bel⟩ => ?_
  subst he
  exact ⟨_, rfl, _, _, _, [], _, [], hW', trodAll_mk1 (shut_bool Tryd.underlying4 _), (trodAll_cons_mk (Below.trod laidOut (by kernel_rfl) (of_decide_eq_true (by kernel_rfl)) k0 bel lt0) (trodAll_cons_mk (Below.trod laidOut (by kernel_rfl) (of_decide_eq_true (by kernel_rfl)) k1 bel lt1) trodAll_mk0)), rfl, bel.frame _, fun h => by cases h⟩

theorem heapLoads_over : Rows.heapLoadsRow.holds Tryd.pinned (OpenSpec.ofChange Rows.heapLoadsSpec) :=
  OpenClaim.holds_of_wide 4 Tryd.f4 rfl rfl rfl rfl rfl rfl rfl ⟨rfl, rfl, rfl, rfl, rfl⟩ rfl rfl rfl rfl rfl (by kernel_rfl) Tryd.func4 (by kernel_rfl)
    (of_decide_eq_true (by kernel_rfl)) (by unfold Func.isWrapper; first | (rw [if_pos (by decide +kernel)]; kernel_rfl) | (rw [if_neg (by decide +kernel)]; exact ⟨rfl, rfl⟩))
    (fun os started H enc _ => heapLoads_lifted os started H enc)

theorem heapLoads_card : Rows.HeapLoadsCardSaid :=
  Claim7.holds_tied_plain_at .later [] [.data, .pinned] true _ false
    heapLoads_over (fun _ h => by cases h) (by kernel_rfl) (fun _ h => by cases h) heapLoads_row_tie rfl ⟨rfl, rfl⟩ (by kernel_rfl) rfl
    (fun f fn hf hfn => by
      obtain rfl : f = 4 := Option.some.inj ((show Tryd.prog.funcNamed Rows.heapLoadsRow.func = some 4 by kernel_rfl).symm.trans hf) |>.symm
      obtain rfl : fn = Tryd.f4 := (Option.some.inj (Tryd.func4.symm.trans hfn)).symm
      have hall : (Tryd.f4.params.toList.all fun t => !Tryd.prog.wantsStandIn t) = true := by kernel_rfl
      exact ⟨by kernel_rfl, fun j t ht => by
        have h1 := List.all_eq_true.1 hall t (List.mem_of_getElem? (by simpa using ht))
        show Tryd.prog.wantsStandIn t = false
        simpa using h1⟩)
    (by kernel_rfl)
end
#print axioms heapLoads_card
end Go.Proofs.YtdnegfjddpdmhaaDoor
