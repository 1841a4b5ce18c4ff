/-
  PageRoom returns true for all rows of calls: so many bytes may be added as Room tells, and no more; the calls that are handed in are left as they were.
  No condition but the reach of the statement's form; the listed variables are tied by the card.
-/
import Derived.Test.YtmgjoogfhkfooaaDoorPgL
import Derived.Test.YtmgjoogfhkfooaaDoorTie
import Derived.Test.YtmgjoogfhkfooaaDoorCards
import Derived.Lay
import Derived.MakeChecks
import Derived.JoinedOf
import Derived.Stop.Joined
import Derived.HandedShaped
namespace Go.Proofs.YtmgjoogfhkfooaaDoor
open Go.RowKit Go.Lib

/-- how far the loop is: a page that was made by adding alone -/
def RmRel (w : World) (n : Nat) (p i : Value) (wr : World) : Prop :=
  ∃ (k : Nat) (A : Option Addr) (c : Nat) (l : List Int) (s : List Slot), k ≤ n ∧ i = .int .i64 k ∧ p = .slice A 256 c ∧ PgV w wr A c l s ∧ Full s ∧ s.length ≤ k

set_option maxRecDepth 100000 in
set_option maxHeartbeats 6400000 in
theorem pageRoom_walk (A : Option Addr) (c : Nat) (cl : List Cl) (w : World) (hc : CallsIn w w.heap.size A cl) (hl : cl.length ≤ c) (hm : c ≤ maxLen) :
    Calls Tryd.prog 6 #[.slice A cl.length c] w (YesB w) := by
  have HC := Lib.hid hc
  have HL := Lib.hid (Nat.le_trans hl hm)
  clear hc hl hm
  go_enter Tryd.func6, Tryd.ntmps6
  go_wp2_with fail
  refine (alive_any w).mono ?_
  rintro e w1 ⟨rfl, h1⟩
  have HA := Lib.hid h1
  clear h1
  go_wp2_with fail
  refine (great_any A c cl w1 w.heap.size (HC.out.below HA.out (Nat.le_refl _)) HL.out).mono ?_
  rintro e w2 ⟨rfl, rfl | ⟨rfl, hfew, hsmall⟩⟩
  · go_wp2
    go_ret
    exact ⟨rfl, HA.out⟩
  have HS := Lib.hid hsmall
  clear hsmall
  go_wp2_with fail
  refine (new_any w1).mono ?_
  rintro e w3 ⟨g, rfl, hk, hg, hb⟩
  have H3 := Lib.hid (PgV.new HA.out hk hb)
  clear hk hg hb
  go_wp2_with fail
  go_loopw [3, 4] (fun p i wr => RmRel w cl.length p i wr) (fun _ i _ => cl.length - (intOf i).toNat)
  case atStart => exact ⟨0, _, _, _, _, by omega, rfl, rfl, H3.out, (fun o ho => by cases ho), (by simp)⟩
  case round =>
    obtain ⟨k, A1, c1, l, s, hk, rfl, rfl, hv, hfull, hsl⟩ := hrel
    have HV := Lib.hid hv
    have HFU := Lib.hid hfull
    have hk0 : (0 : Int) ≤ (k : Int) := Int.natCast_nonneg _
    clear hv hfull
    by_cases hlt : k < cl.length
    · have HCW := Lib.hid (HC.out.below HV.out.b (Nat.le_refl _))
      obtain ⟨ad, rfl, _, d0, d1, d2⟩ := HCW.out.at_ hlt
      have hrd := (HCW.out.rd cl[k] (List.getElem_mem hlt)).more HV.out.b.size
      have HN := Lib.hid (HCW.out.num cl[k] (List.getElem_mem hlt))
      obtain ⟨x, hx⟩ : ∃ x, x = cl[k] := ⟨_, rfl⟩
      rw [← hx] at d0 d1 d2 hrd HN
      have HRD := Lib.hid hrd
      clear hrd hx
      go_wp2_with fail
      refine (add_pg HV.out x.A x.n x.c x.data HRD.out HN.out.1).mono ?_
      rintro e w4 (⟨v, _, rfl, _, hb4⟩ | ⟨A4, c4, l4, _, rfl, hv4, _⟩)
      · have HF := Lib.hid (show RmRel w cl.length (.slice A1 256 c1) (.int .i64 ((k : Int) + 1)) w4 from ⟨k + 1, A1, c1, l, s, by omega, by simp, rfl, HV.out.below hb4, HFU.out, by omega⟩)
        clear hb4
        go_wp2
        go_roundw
        case rel => exact HF.out
        case measure => simp [intOf]; omega
      · have HF := Lib.hid (show RmRel w cl.length (.slice A4 256 c4) (.int .i64 ((k : Int) + 1)) w4 from ⟨k + 1, A4, c4, l4, _, by omega, by simp, rfl, hv4, by rw [full_ff HFU.out, full_set HFU.out]; exact full_app HFU.out _, by rw [full_ff HFU.out, full_set HFU.out]; simp; omega⟩)
        clear hv4
        go_wp2
        go_roundw
        case rel => exact HF.out
        case measure => simp [intOf]; omega
    · have hm := pageRoom_math HFU.out HV.out.pg.fit (by omega)
      go_wp2_with fail
      refine (room_sl _ A1 256 c1 l HV.out.sl).mono ?_
      rintro e w4 ⟨rfl, hb4⟩
      rw [HV.out.of]
      have HV4 := Lib.hid (HV.out.below hb4)
      clear hb4
      rw [show roomO (some s) = roomI s (ffP s) from rfl]
      obtain ⟨n, hn⟩ : ∃ n, n = roomI s (ffP s) := ⟨_, rfl⟩
      rw [← hn] at hm ⊢
      have HN := Lib.hid hn
      obtain ⟨hm1, hm2, hm3⟩ := hm
      have HM := Lib.hid hm3
      obtain ⟨u, hu⟩ : ∃ u : Nat, (u : Int) = n + 1 := ⟨(n + 1).toNat, by omega⟩
      have hnu : n = (u : Int) - 1 := by omega
      subst hnu
      have hu201 : u ≤ 201 := by omega
      have hu0 : (0 : Int) ≤ (u : Int) := Int.natCast_nonneg _
      have hw1 : (u : Int) - 1 + 1 = (u : Int) := by omega
      have hmk := make_zeros w4 u (u : Int) rfl (by omega)
      have HU := Lib.hid hu
      clear hn hm3 hu
      have hnlt : ¬ ((u : Int) < 0) := by omega
      have hba := (Below.refl w4.heap.size w4).alloc (Nat.le_refl _) (.cells (cells (List.replicate u 0)).toArray 5)
      have HBA := Lib.hid hba
      have HADD := Lib.hid (add_pg (HV4.out.below hba) _ u u (List.replicate u 0) (rd_made w4 u) (zeros_bytes u))
      clear hba
      go_wp2_with fail
      refine HADD.out.mono ?_
      rintro e w5 (⟨v5, _, rfl, _, hb5⟩ | ⟨A5, c5, l5, hle, rfl, _, _⟩)
      rotate_left
      · exfalso
        rw [← HN.out, List.length_replicate] at hle
        omega
      have HV5 := Lib.hid (HV4.out.below (HBA.out.trans (hb5.mono HBA.out.size)))
      clear hb5 HADD
      by_cases hu1 : u = 0
      · subst hu1
        go_wp2
        go_ret
        exact ⟨rfl, HV5.out.b⟩
      · obtain ⟨q, rfl⟩ : ∃ q, u = q + 1 := ⟨u - 1, by omega⟩
        have hq1 : ((q + 1 : Nat) : Int) - 1 = (q : Int) := by omega
        rw [hq1] at HM HN ⊢
        have hq0 : (0 : Int) ≤ (q : Int) := Int.natCast_nonneg _
        have hq200 : q ≤ 200 := by omega
        have hmk2 := make_zeros w5 q (q : Int) rfl (by omega)
        have hba := (Below.refl w5.heap.size w5).alloc (Nat.le_refl _) (.cells (cells (List.replicate q 0)).toArray 5)
        have HBA5 := Lib.hid hba
        have HADD5 := Lib.hid (add_pg (HV5.out.below hba) _ q q (List.replicate q 0) (rd_made w5 q) (zeros_bytes q))
        clear hba hmk
        go_wp2_with fail
        refine HADD5.out.mono ?_
        rintro e w6 (⟨v6, hno, rfl, _, hb6⟩ | ⟨A6, c6, l6, hle, rfl, hv6, _⟩)
        · exfalso
          simp only [addP, putP] at hno
          rw [if_pos (by rw [← HN.out, List.length_replicate]; omega)] at hno
          cases hno
        have HV6 := Lib.hid hv6
        have hrm := HM.out (List.replicate q 0) (by rw [List.length_replicate])
        clear hv6 hle HADD5
        go_wp2_with fail
        refine (room_sl _ A6 256 c6 l6 HV6.out.sl).mono ?_
        rintro e w7 ⟨rfl, hb7⟩
        rw [HV6.out.of]
        have HB7 := Lib.hid (HV6.out.below hb7).b
        clear hb7
        go_wp2
        go_ret
        exact ⟨rfl, HB7.out⟩

section
open Go.ChangeShapes Go.WideShapes Go.ChangeAt
open Go.ChangeMaps (open_string shut_string)
set_option linter.unusedVariables false
set_option maxRecDepth 100000 in
theorem pageRoom_lifted (os : Os) (started : os.Started) (H : Type) (enc : TypeId × Value → H) :
    ReturnsInHanded {} Tryd.checked os 6 .any (fun w args => (Rows.pageRoomSpec.pre enc Tryd.prog Tryd.f6 Rows.pageRoomRow.domain false w args ∧ laidMetH Tryd.prog Rows.pageRoomRow.laid w) ∧ sizedMet enc Tryd.prog Tryd.f6 (OpenSpec.ofChange Rows.pageRoomSpec) false w args)
      (Rows.pageRoomSpec.post enc Tryd.prog Tryd.f6 false true false false) := by
  refine returnsInHanded_of_change_and (C := Tryd.checked) (X := fun w _ => laidMetH Tryd.prog Rows.pageRoomRow.laid w) (fun _ _ _ hh h => h.of_heap hh) own started (by kernel_rfl) Tryd.func6
    (ChangeSpec.witness_shaped (enc := enc) (C := Tryd.checked) (os := os) (X := fun w _ => laidMetH Tryd.prog Rows.pageRoomRow.laid w) false (World.laidAll Tryd.prog os Rows.pageRoomRow.laid) #[.slice none 0 0] 8 (World.laidAll_os _ _ _)
      (World.shaped_of_ZipB (by kernel_rfl) (by kernel_rfl)) (by kernel_rfl) (by kernel_rfl) (by kernel_rfl)
      (by rw [MakeChecks.laidMetH_plain _ _ _ (by kernel_rfl)]; exact laidMet_laidAll _ (by kernel_rfl) (by kernel_rfl))) ?_
  intro W base args ds gs before hval0 hW hcnd hsz hL _
  have hval : ∀ (j : Nat) t v, Tryd.f6.params[j]? = some t → args[j]? = some v → Value.okWide Tryd.prog W .any base t v := hval0
  have hW' := hW
  obtain ⟨p, q, hA0, hV, rfl, hfz, hnd⟩ := hW
  have hA : DataW.TrodAll enc Tryd.prog W 0 (fun _ => true) true Tryd.f6.params.toList args.toList ds p := hA0
  rw [Tryd.params6] at hA hval
  obtain ⟨v0, vs0, d0, ds0, p0, q0, hargs, rfl, rfl, h0, r0⟩ := trodAll_cons hA
  obtain ⟨rfl, rfl, rfl⟩ := trodAll_nil r0
  obtain rfl : args = #[v0] := by cases args; simp_all
  obtain ⟨rfl, rfl⟩ := trodVars_none hV
  have k0 := h0
  have lt0 : ∀ x ∈ p0, x.block < W.heap.size := by obtain ⟨m, hm⟩ := k0; exact DataW.trod_lt m _ _ _ hm
  obtain ⟨a0, len0, cap0, rfl⟩ := okWide_slice Tryd.underlying27 (hval 0 27 v0 rfl rfl)
  obtain ⟨z0, rfl, l0, m0, o0, q0x, r0x⟩ := rd_of_calls Tryd.underlying27 Tryd.underlying31 (by kernel_rfl) ⟨rfl, by kernel_rfl, Tryd.underlying3⟩ ⟨rfl, by kernel_rfl, Tryd.underlying3⟩ ⟨rfl, by kernel_rfl, Tryd.underlying22⟩ Tryd.underlying5 (by kernel_rfl) h0
  clear hA0 hval0
  refine (pageRoom_walk a0 cap0 z0 W (CallsIn.of o0 q0x r0x) l0 m0).mono fun e W' ⟨he, bel⟩ => ?_
  subst he
  exact ⟨_, rfl, _, _, _, [], _, [], hW', trodAll_mk1 (shut_bool Tryd.underlying4 _), (trodAll_cons_mk (Below.trod laidOut (by kernel_rfl) (of_decide_eq_true (by kernel_rfl)) k0 bel lt0) trodAll_mk0), rfl, bel.frame _, fun h => by cases h⟩

theorem pageRoom_over : Rows.pageRoomRow.holds Tryd.pinned (OpenSpec.ofChange Rows.pageRoomSpec) :=
  OpenClaim.holds_of_wide 6 Tryd.f6 rfl rfl rfl rfl rfl rfl rfl ⟨rfl, rfl, rfl, rfl, rfl⟩ rfl rfl rfl rfl rfl (by kernel_rfl) Tryd.func6 (by kernel_rfl)
    (of_decide_eq_true (by kernel_rfl)) (by unfold Func.isWrapper; first | (rw [if_pos (by decide +kernel)]; kernel_rfl) | (rw [if_neg (by decide +kernel)]; exact ⟨rfl, rfl⟩))
    (fun os started H enc _ => pageRoom_lifted os started H enc)

theorem pageRoom_card : Rows.PageRoomCardSaid :=
  Claim7.holds_tied_plain_at .later [] [.data, .pinned] true _ false
    pageRoom_over (fun _ h => by cases h) (by kernel_rfl) (fun _ h => by cases h) pageRoom_row_tie rfl ⟨rfl, rfl⟩ (by kernel_rfl) rfl
    (fun f fn hf hfn => by
      obtain rfl : f = 6 := Option.some.inj ((show Tryd.prog.funcNamed Rows.pageRoomRow.func = some 6 by kernel_rfl).symm.trans hf) |>.symm
      obtain rfl : fn = Tryd.f6 := (Option.some.inj (Tryd.func6.symm.trans hfn)).symm
      have hall : (Tryd.f6.params.toList.all fun t => !Tryd.prog.wantsStandIn t) = true := by kernel_rfl
      exact ⟨by kernel_rfl, fun j t ht => by
        have h1 := List.all_eq_true.1 hall t (List.mem_of_getElem? (by simpa using ht))
        show Tryd.prog.wantsStandIn t = false
        simpa using h1⟩)
    (by kernel_rfl)
end
#print axioms pageRoom_card
end Go.Proofs.YtmgjoogfhkfooaaDoor
