/-
  HeapCalls returns true for all rows of calls: the program's heap and the document's answer each call alike, and have the same pages and the same places in the end; what is handed in is left as it was.
  No condition but the reach of the statement's form; the listed variables are tied by the card.
-/
import Derived.Test.YtdnegfjddpdmhaaDoorMD
import Derived.Test.YtdnegfjddpdmhaaDoorTie
import Derived.Test.YtdnegfjddpdmhaaDoorCards
import Derived.Lay
import Derived.MakeChecks
import Derived.JoinedOf
import Derived.Stop.Joined
import Derived.HandedShaped
namespace Go.Proofs.YtdnegfjddpdmhaaDoor
open Go.RowKit Go.Lib

theorem RhV.made {B : Nat} (w : World) (hB : B ≤ w.heap.size) : RhV B (fun k => k = w.heap.size) (w.alloc (.cells #[.slice none 0 0] 30)) w.heap.size [] :=
  ⟨.slice none 0 0, [], ⟨Blk.new _ _ _, World.ownsRow_nil _ _ _ _, fun y hy => by (cases hy), rfl, fun k hk => by (cases hk), fun k hk => by subst hk; exact ⟨hB, by simp⟩⟩, rfl⟩
/-- calls that have been told so far -/
def HcRel (w0 : World) (hb rb : Nat) (n : Nat) (i : Value) (wr : World) : Prop :=
  ∃ (k : Nat) (D E : Nat → Prop) (ps : Pgs), k ≤ n ∧ i = .int .i64 k ∧ Tw w0 wr hb rb D E ps ps

set_option maxRecDepth 100000 in
set_option maxHeartbeats 12800000 in
theorem heapCalls_walk (A : Option Addr) (c : Nat) (cl : List C7) (w : World) (hc : CIn7 w w.heap.size A cl) (hl : cl.length ≤ c) (hm : c ≤ maxLen) :
    Calls Tryd.prog 3 #[.slice A cl.length c] w (YesB w) := by
  have H := Lib.hid (And.intro hc (Nat.le_trans hl hm))
  clear hc hl hm
  go_enter Tryd.func3, Tryd.ntmps3
  go_wp2_with fail
  refine (alive_any w).mono ?_
  rintro e w1 ⟨rfl, h1⟩
  have H1 := Lib.hid h1
  clear h1
  go_wp2_with fail
  refine (great_any A c cl w1 w.heap.size (H.out.1.below H1.out (Nat.le_refl _)) H.out.2).mono ?_
  rintro e w1' ⟨rfl, rfl | ⟨rfl, hfew, hsm⟩⟩
  · go_wp2_with fail
    go_ret
    exact ⟨rfl, H1.out⟩
  have HSM := Lib.hid hsm
  clear hsm
  go_wp2_with fail
  refine (hs_new w w1 H1.out).mono ?_
  rintro e w2 ⟨hb, D, rfl, h2, _, _⟩
  obtain ⟨w3, hw3⟩ : ∃ w3, w3 = w2.alloc (.cells #[.slice none 0 0] 30) := ⟨_, rfl⟩
  have hb3 : Below w2.heap.size w2 w3 := by rw [hw3]; exact (Below.refl _ w2).alloc (Nat.le_refl _) _
  have hr3 := RhV.made w2 h2.low.size
  rw [← hw3] at hr3
  obtain ⟨n, hn⟩ : ∃ n, n = cl.length := ⟨_, rfl⟩
  have H3 := Lib.hid (show HcRel w hb w2.heap.size n (.int .i64 0) w3 from
    ⟨0, D, _, [], Nat.zero_le _, rfl, h2.below hb3, hr3, fun k hk he => by subst he; exact absurd (h2.hp.foot hk).2 (Nat.lt_irrefl _)⟩)
  have HW3 := Lib.hid hw3
  rw [← hn] at hfew ⊢
  have HN := Lib.hid hn
  have hn0 : (0 : Int) ≤ (n : Int) := Int.natCast_nonneg _
  clear h2 hw3 hb3 hr3 hn
  go_wp2_with fail
  rw [← HW3.out]
  obtain ⟨rb, hrb⟩ : ∃ rb, rb = w2.heap.size := ⟨_, rfl⟩
  rw [← hrb] at H3 ⊢
  clear hrb HW3
  go_loopw [5] (fun i wr => HcRel w hb rb n i wr) (fun i _ => n - (intOf i).toNat)
  case atStart => exact H3.out
  case round =>
    obtain ⟨k, D, E, ps, hk, rfl, hT⟩ := hrel
    have hk0 : (0 : Int) ≤ (k : Int) := Int.natCast_nonneg _
    have HR := Lib.hid hT
    clear hT
    by_cases hlt : k < n
    · have hlt1 : (k : Int) < (n : Int) := by omega
      have hkl : k < cl.length := by rw [← HN.out]; exact hlt
      have hcr := H.out.1.below HR.out.h.low (Nat.le_refl _)
      obtain ⟨ad, rfl, _, d0, d1, d2, d3, d4⟩ := hcr.at_ hkl
      have hmem := List.getElem_mem (l := cl) hkl
      obtain ⟨x, hx⟩ : ∃ x, x = cl[k] := ⟨_, rfl⟩
      rw [← hx] at d0 d1 d2 d3 d4 hmem
      have HX := Lib.hid (And.intro (H.out.1.num x hmem).1 (And.intro (HSM.out x hmem) (hcr.rd x hmem)))
      have HTO := Lib.hid (told_any HR.out x HX.out.2.2 HX.out.1 HX.out.2.1)
      unfold c7arg at HTO
      clear hcr hx hmem
      by_cases b1 : 20 < x.p
      · have e1 : decide (20 < x.p) = true := decide_eq_true b1
        by_cases b2 : x.p < 256
        · have e2 : decide (x.p < 256) = true := decide_eq_true b2
          go_wp2_with fail
          go_ret
          exact ⟨rfl, HR.out.h.low⟩
        · have e2 : decide (x.p < 256) = false := decide_eq_false b2
          go_wp2_with fail
          refine HTO.out.mono ?_
          rintro e w5 ⟨rfl, D5, E5, ps5, ht5⟩
          have HF := Lib.hid (show HcRel w hb rb n (.int .i64 ((k : Int) + 1)) w5 from ⟨k + 1, D5, E5, ps5, by omega, by go_num, ht5⟩)
          clear ht5 d0 d1 d2 d3 d4
          go_wp2_with fail
          go_roundw
          case rel => exact HF.out
          case measure => simp [intOf]; omega
      · have e1 : decide (20 < x.p) = false := decide_eq_false b1
        go_wp2_with fail
        refine HTO.out.mono ?_
        rintro e w5 ⟨rfl, D5, E5, ps5, ht5⟩
        have HF := Lib.hid (show HcRel w hb rb n (.int .i64 ((k : Int) + 1)) w5 from ⟨k + 1, D5, E5, ps5, by omega, by go_num, ht5⟩)
        clear ht5 d0 d1 d2 d3 d4
        go_wp2_with fail
        go_roundw
        case rel => exact HF.out
        case measure => simp [intOf]; omega
    · have hlt1 : ¬ ((k : Int) < (n : Int)) := by omega
      have HPG := Lib.hid (hs_pagesB HR.out.h)
      go_wp2_with fail
      refine HPG.out.mono ?_
      rintro e w4 ⟨A4, c4, n4, ys, rfl, hn4, hbf, hys, hb4⟩
      have H4 := Lib.hid (And.intro (HR.out.below hb4) (And.intro hbf (And.intro hys hn4)))
      have HBY := Lib.hid (rbytes_any H4.out.1.r H4.out.1.h.ok.few)
      clear hbf hys hn4 hb4 HPG
      go_wp2_with fail
      refine HBY.out.mono ?_
      rintro e w5 ⟨A5, c5, n5, zs, rfl, hn5, hbf5, hzs, hb5⟩
      have HSL := Lib.hid (same_pages w5 (H4.out.2.1.below hb5) hbf5 H4.out.2.2.2 hn5 (by rw [hzs, H4.out.2.2.1]) (by rw [← pslots_len, H4.out.2.2.1]; have := H4.out.1.h.ok.few; omega))
      have H5 := Lib.hid (H4.out.1.below hb5)
      clear hn5 hbf5 hzs hb5 HBY
      go_wp2_with fail
      refine HSL.out.mono ?_
      rintro e w6 ⟨rfl, hb6⟩
      have H6 := Lib.hid (H5.out.below hb6)
      have HAL := Lib.hid (hs_all H6.out.h)
      clear hb6 HSL
      go_wp2_with fail
      refine HAL.out.mono ?_
      rintro e w7 ⟨A7, c7, n7, rfl, hn7, ho7, hb7⟩
      have H7 := Lib.hid (And.intro (H6.out.below hb7) (And.intro hn7 ho7))
      have HRA := Lib.hid (rall_any H7.out.1.r H7.out.1.h.ok.few)
      clear hn7 ho7 hb7 HAL
      go_wp2_with fail
      refine HRA.out.mono ?_
      rintro e w8 ⟨A8, c8, n8, rfl, hn8, ho8, hb8⟩
      have ho7 := own_chg H7.out.2.2 (F := Non) (Chg.of_below hb8) (fun _ _ hf => hf)
      have HSR := Lib.hid (sameRids_at A7 A8 c7 c8 n7 n8 _ w8 H7.out.2.1 hn8 ho7 ho8 (ridC_bound H7.out.1.h.ok.pg H7.out.1.h.ok.few))
      have H8 := Lib.hid (H7.out.1.below hb8)
      clear hn8 ho8 hb8 ho7 HRA
      go_wp2_with fail
      refine HSR.out.mono ?_
      rintro e w9 ⟨rfl, hb9⟩
      have H9 := Lib.hid (H8.out.below hb9)
      clear hb9
      go_wp2_with fail
      go_ret
      exact ⟨rfl, H9.out.h.low⟩

section
open Go.ChangeShapes Go.WideShapes Go.ChangeAt
open Go.ChangeMaps (open_string shut_string)
set_option linter.unusedVariables false
set_option maxRecDepth 100000 in
theorem heapCalls_lifted (os : Os) (started : os.Started) (H : Type) (enc : TypeId × Value → H) :
    ReturnsInHanded {} Tryd.checked os 3 .any (fun w args => (Rows.heapCallsSpec.pre enc Tryd.prog Tryd.f3 Rows.heapCallsRow.domain false w args ∧ laidMetH Tryd.prog Rows.heapCallsRow.laid w) ∧ sizedMet enc Tryd.prog Tryd.f3 (OpenSpec.ofChange Rows.heapCallsSpec) false w args)
      (Rows.heapCallsSpec.post enc Tryd.prog Tryd.f3 false true false false) := by
  refine returnsInHanded_of_change_and (C := Tryd.checked) (X := fun w _ => laidMetH Tryd.prog Rows.heapCallsRow.laid w) (fun _ _ _ hh h => h.of_heap hh) own started (by kernel_rfl) Tryd.func3
    (ChangeSpec.witness_shaped (enc := enc) (C := Tryd.checked) (os := os) (X := fun w _ => laidMetH Tryd.prog Rows.heapCallsRow.laid w) false (World.laidAll Tryd.prog os Rows.heapCallsRow.laid) #[.slice none 0 0] 8 (World.laidAll_os _ _ _)
      (World.shaped_of_ZipB (by kernel_rfl) (by kernel_rfl)) (by kernel_rfl) (by kernel_rfl) (by kernel_rfl)
      (by rw [MakeChecks.laidMetH_plain _ _ _ (by kernel_rfl)]; exact laidMet_laidAll _ (by kernel_rfl) (by kernel_rfl))) ?_
  intro W base args ds gs before hval0 hW hcnd hsz hL _
  have hval : ∀ (j : Nat) t v, Tryd.f3.params[j]? = some t → args[j]? = some v → Value.okWide Tryd.prog W .any base t v := hval0
  have hW' := hW
  obtain ⟨p, q, hA0, hV, rfl, hfz, hnd⟩ := hW
  have hA : DataW.TrodAll enc Tryd.prog W 0 (fun _ => true) true Tryd.f3.params.toList args.toList ds p := hA0
  rw [Tryd.params3] at hA hval
  obtain ⟨v0, vs0, d0, ds0, p0, q0, hargs, rfl, rfl, h0, r0⟩ := trodAll_cons hA
  obtain ⟨rfl, rfl, rfl⟩ := trodAll_nil r0
  obtain rfl : args = #[v0] := by cases args; simp_all
  obtain ⟨rfl, rfl⟩ := trodVars_none hV
  have k0 := h0
  have lt0 : ∀ x ∈ p0, x.block < W.heap.size := by obtain ⟨m, hm⟩ := k0; exact DataW.trod_lt m _ _ _ hm
  obtain ⟨a0, len0, cap0, rfl⟩ := okWide_slice Tryd.underlying22 (hval 0 22 v0 rfl rfl)
  obtain ⟨z0, rfl, l0, m0, o0, q0x, r0x⟩ := rd_of_calls7 Tryd.underlying22 Tryd.underlying35 (by kernel_rfl) ⟨rfl, by kernel_rfl, Tryd.underlying3⟩ ⟨rfl, by kernel_rfl, Tryd.underlying3⟩ ⟨rfl, by kernel_rfl, Tryd.underlying32⟩ ⟨rfl, by kernel_rfl, Tryd.underlying33⟩ ⟨rfl, by kernel_rfl, Tryd.underlying3⟩ ⟨rfl, by kernel_rfl, Tryd.underlying3⟩ Tryd.underlying5 (by kernel_rfl) (by kernel_rfl) h0
  have o0y : ∀ x ∈ z0, x.Ok W ∧ x.n ≤ 140737488355328 := fun x hx => by
    refine ⟨(o0 x hx).1, ?_⟩
    rcases (o0 x hx).2 with h | ⟨q, hq, hle⟩
    · omega
    · have h9 : q ≤ 140737488355328 := by
        have h8 := List.all_eq_true.1 hsz _ (DataW.weights_mem_each (j := 0) (t := 22) rfl rfl q hq)
        have h7 : q ≤ reachBytes := by simpa using h8
        unfold reachBytes at h7
        omega
      omega
  clear hA0 hval0
  refine (heapCalls_walk a0 cap0 z0 W (CIn7.of o0y q0x r0x) l0 m0).mono fun e W' ⟨he, bel⟩ => ?_
  subst he
  exact ⟨_, rfl, _, _, _, [], _, [], hW', trodAll_mk1 (shut_bool Tryd.underlying4 _), (trodAll_cons_mk (Below.trod laidOut (by kernel_rfl) (of_decide_eq_true (by kernel_rfl)) k0 bel lt0) trodAll_mk0), rfl, bel.frame _, fun h => by cases h⟩

theorem heapCalls_over : Rows.heapCallsRow.holds Tryd.pinned (OpenSpec.ofChange Rows.heapCallsSpec) :=
  OpenClaim.holds_of_wide 3 Tryd.f3 rfl rfl rfl rfl rfl rfl rfl ⟨rfl, rfl, rfl, rfl, rfl⟩ rfl rfl rfl rfl rfl (by kernel_rfl) Tryd.func3 (by kernel_rfl)
    (of_decide_eq_true (by kernel_rfl)) (by unfold Func.isWrapper; first | (rw [if_pos (by decide +kernel)]; kernel_rfl) | (rw [if_neg (by decide +kernel)]; exact ⟨rfl, rfl⟩))
    (fun os started H enc _ => heapCalls_lifted os started H enc)

theorem heapCalls_card : Rows.HeapCallsCardSaid :=
  Claim7.holds_tied_plain_at .later [] [.data, .pinned] true _ false
    heapCalls_over (fun _ h => by cases h) (by kernel_rfl) (fun _ h => by cases h) heapCalls_row_tie rfl ⟨rfl, rfl⟩ (by kernel_rfl) rfl
    (fun f fn hf hfn => by
      obtain rfl : f = 3 := Option.some.inj ((show Tryd.prog.funcNamed Rows.heapCallsRow.func = some 3 by kernel_rfl).symm.trans hf) |>.symm
      obtain rfl : fn = Tryd.f3 := (Option.some.inj (Tryd.func3.symm.trans hfn)).symm
      have hall : (Tryd.f3.params.toList.all fun t => !Tryd.prog.wantsStandIn t) = true := by kernel_rfl
      exact ⟨by kernel_rfl, fun j t ht => by
        have h1 := List.all_eq_true.1 hall t (List.mem_of_getElem? (by simpa using ht))
        show Tryd.prog.wantsStandIn t = false
        simpa using h1⟩)
    (by kernel_rfl)
end
#print axioms heapCalls_card
end Go.Proofs.YtdnegfjddpdmhaaDoor
