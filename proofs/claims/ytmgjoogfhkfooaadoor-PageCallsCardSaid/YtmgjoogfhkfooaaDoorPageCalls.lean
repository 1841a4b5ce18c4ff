/-
  PageCalls returns true for all rows of calls: every row of calls makes the document's pages; the calls that are handed in are left as they were.
  No condition but the reach of the statement's form; the listed variables are tied by the card.
-/
import Derived.Test.YtmgjoogfhkfooaaDoorAsks
import Derived.Test.YtmgjoogfhkfooaaDoorTie
import Derived.Test.YtmgjoogfhkfooaaDoorCards
import Derived.Lay
import Derived.MakeChecks
import Derived.JoinedOf
import Derived.Stop.Joined
import Derived.HandedShaped
namespace Go.Proofs.YtmgjoogfhkfooaaDoor
open Go.RowKit Go.Lib

/-- how far the loop is -/
def PcRel (w : World) (n : Nat) (p i : Value) (wr : World) : Prop :=
  ∃ (k : Nat) (A : Option Addr) (c : Nat) (l : List Int) (s : List Slot), k ≤ n ∧ i = .int .i64 k ∧ p = .slice A 256 c ∧ PgV w wr A c l s
/-- what a change of a page answers: a page, if it is done -/
def ChIs (w0 w' : World) (A' : Option Addr) (m c' : Nat) (ok : Bool) : Prop := ok = true → m = 256 ∧ ∃ l s, PgV w0 w' A' c' l s
section Ch
variable {w0 w : World} {A : Option Addr} {c : Nat} {l : List Int} {s : List Slot} (h : PgV w0 w A c l s)
include h
theorem put_c (k : Int) (A2 : Option Addr) (n2 c2 : Nat) (b : List Int) (h2 : Rd w w.heap.size A2 n2 (cells b)) (hb : IsBytes b) :
    Calls Tryd.prog 15 #[.slice A 256 c, .int .i64 k, .slice A2 n2 c2] w fun e w' => ∃ (ok : Bool) (A' : Option Addr) (m c' : Nat), e = .returned (.tuple #[.slice A' m c', .bool ok]) ∧ Below w.heap.size w w' ∧ ChIs w0 w' A' m c' ok := by
  refine (put_pgv h k A2 n2 c2 b h2 hb).mono ?_
  rintro e w' (⟨A5, c5, _, rfl, hb5⟩ | ⟨A5, c5, l5, _, _, _, rfl, hv5, hb5⟩)
  · exact ⟨false, A5, 0, c5, rfl, hb5, fun h => by cases h⟩
  · exact ⟨true, A5, 256, c5, rfl, hb5, fun _ => ⟨rfl, l5, _, hv5⟩⟩
theorem cut_c (k : Int) : Calls Tryd.prog 16 #[.slice A 256 c, .int .i64 k] w fun e w' => ∃ (ok : Bool) (A' : Option Addr) (m c' : Nat), e = .returned (.tuple #[.slice A' m c', .bool ok]) ∧ Below w.heap.size w w' ∧ ChIs w0 w' A' m c' ok := by
  cases ht : takenP s k with
  | true =>
    refine (cut_pgv h k ht).mono ?_
    rintro e w' ⟨A', c', l', rfl, hv, hb⟩
    exact ⟨true, A', 256, c', rfl, hb, fun _ => ⟨rfl, l', _, hv⟩⟩
  | false =>
    refine (cut_any w A 256 c l h.sl k).mono ?_
    rintro e w' ⟨v, rfl, hown, hbel⟩
    obtain ⟨A', c', rfl, _, _⟩ := own_shape hown
    refine ⟨false, A', ((cutP (ofP l) k).getD []).length, c', ?_, hbel, fun h => by cases h⟩
    rw [h.of]
    simp only [cutP, ht]
    rfl
theorem add_c (A2 : Option Addr) (n2 c2 : Nat) (b : List Int) (h2 : Rd w w.heap.size A2 n2 (cells b)) (hb : IsBytes b) :
    Calls Tryd.prog 14 #[.slice A 256 c, .slice A2 n2 c2] w fun e w' => ∃ (ok : Bool) (A' : Option Addr) (m c' : Nat) (z : Int), e = .returned (.tuple #[.slice A' m c', .int .i64 z, .bool ok]) ∧ Below w.heap.size w w' ∧ ChIs w0 w' A' m c' ok := by
  refine (add_pg h A2 n2 c2 b h2 hb).mono ?_
  rintro e w' (⟨v, _, rfl, hown, hb4⟩ | ⟨A4, c4, l4, _, rfl, hv4, hb4⟩)
  · obtain ⟨A', c', rfl, _, _⟩ := own_shape hown
    exact ⟨false, A', 0, c', 0, rfl, hb4, fun h => by cases h⟩
  · exact ⟨true, A4, 256, c4, _, rfl, hb4, fun _ => ⟨rfl, l4, _, hv4⟩⟩
end Ch

set_option maxRecDepth 100000 in
set_option maxHeartbeats 6400000 in
theorem pageCalls_walk (A : Option Addr) (c : Nat) (cl : List Cl) (w : World) (hc : CallsIn w w.heap.size A cl) (hl : cl.length ≤ c) (hm : c ≤ maxLen) :
    Calls Tryd.prog 4 #[.slice A cl.length c] w (YesB w) := by
  have HC := Lib.hid hc
  have HL := Lib.hid (Nat.le_trans hl hm)
  clear hc hl hm
  go_enter Tryd.func4, Tryd.ntmps4
  go_wp2_with fail
  refine (alive_any w).mono ?_
  rintro e w1 ⟨rfl, h1⟩
  have HA := Lib.hid h1
  clear h1
  go_wp2_with fail
  refine (great_any A c cl w1 w.heap.size (HC.out.below HA.out (Nat.le_refl _)) HL.out).mono ?_
  rintro e w2 ⟨rfl, rfl | ⟨rfl, hfew, hsmall⟩⟩
  · go_wp2
    go_ret
    exact ⟨rfl, HA.out⟩
  have HS := Lib.hid hsmall
  clear hsmall
  go_wp2_with fail
  refine (new_any w1).mono ?_
  rintro e w3 ⟨g, rfl, hk, hg, hb⟩
  have H3 := Lib.hid (PgV.new HA.out hk hb)
  clear hk hg hb
  go_wp2_with fail
  go_loopw [3, 4] (fun p i wr => PcRel w cl.length p i wr) (fun _ i _ => cl.length - (intOf i).toNat)
  case atStart => exact ⟨0, _, _, _, _, by omega, rfl, rfl, H3.out⟩
  case round =>
    obtain ⟨k, A1, c1, l, s, hk, rfl, rfl, hv⟩ := hrel
    have HV := Lib.hid hv
    have hk0 : (0 : Int) ≤ (k : Int) := Int.natCast_nonneg _
    clear hv
    by_cases hlt : k < cl.length
    · have HCW := Lib.hid (HC.out.below HV.out.b (Nat.le_refl _))
      obtain ⟨ad, rfl, _, d0, d1, d2⟩ := HCW.out.at_ hlt
      have hrd := (HCW.out.rd cl[k] (List.getElem_mem hlt)).more HV.out.b.size
      have HN := Lib.hid (And.intro (HCW.out.num cl[k] (List.getElem_mem hlt)) (HS.out cl[k] (List.getElem_mem hlt)))
      obtain ⟨x, hx⟩ : ∃ x, x = cl[k] := ⟨_, rfl⟩
      rw [← hx] at d0 d1 d2 hrd HN
      have HRD := Lib.hid hrd
      clear hrd hx
      go_wp2_with fail
      have hba := (Below.refl wr.heap.size wr).alloc (Nat.le_refl _) (.cells #[.int .i64 x.what, .int .i64 x.slot, .slice x.A x.n x.c] 31)
      have hbx := Blk.new wr 31 #[.int .i64 x.what, .int .i64 x.slot, .slice x.A x.n x.c]
      obtain ⟨wa, hwa⟩ : ∃ wa, wa = wr.alloc (.cells #[.int .i64 x.what, .int .i64 x.slot, .slice x.A x.n x.c] 31) := ⟨_, rfl⟩
      rw [← hwa] at hba hbx ⊢
      have HVA := Lib.hid (HV.out.below hba)
      have HRA := Lib.hid (HRD.out.le hba)
      have HBX := Lib.hid hbx
      clear hba hbx hwa d0 d1 d2
      refine (asks_any wa A1 256 c1 l HVA.out.sl x.slot x.A x.n x.c x.data HRA.out HN.out.1.1 HN.out.2).mono ?_
      rintro e w5 ⟨rfl, hb5⟩
      have hb6 := below_le hb5 ((Below.refl w5.heap.size w5).alloc (Nat.le_refl _) (.cells #[] 5))
      obtain ⟨w6, hw6⟩ : ∃ w6, w6 = w5.alloc (.cells #[] 5) := ⟨_, rfl⟩
      rw [← hw6] at hb6
      have hbx6 := HBX.out.below hb6 HBX.out.lt
      have hx0 : w6.cell? ⟨wr.heap.size, 0, none⟩ = some (.int .i64 x.what) := by rw [hbx6.cell]; rfl
      have hx1 : w6.cell? ⟨wr.heap.size, 1, none⟩ = some (.int .i64 x.slot) := by rw [hbx6.cell]; rfl
      have hx2 : w6.cell? ⟨wr.heap.size, 2, none⟩ = some (.slice x.A x.n x.c) := by rw [hbx6.cell]; rfl
      have HV6 := Lib.hid (HVA.out.below hb6)
      have HR6 := Lib.hid (HRA.out.le hb6)
      have HW6 := Lib.hid hw6
      clear hb5 hb6 hbx6 hw6
      obtain ⟨xw, hxw⟩ : ∃ xw, xw = x.what := ⟨_, rfl⟩
      rw [← hxw] at hx0
      clear hxw
      go_upto_region 14 with (fail)
      rw [← HW6.out]
      by_cases h0 : xw = 0
      · subst h0
        go_wp2_with fail
        refine (add_c HV6.out x.A x.n x.c x.data HR6.out HN.out.1.1).mono ?_
        rintro e w7 ⟨ok, A7, m7, c7, z7, rfl, hb7, hch⟩
        have HV8 := Lib.hid (HV6.out.below hb7)
        have HCH := Lib.hid hch
        clear hb7 hch
        cases ok with
        | false =>
          have HF := Lib.hid (show PcRel w cl.length (.slice A1 256 c1) (.int .i64 ((k : Int) + 1)) w7 from ⟨k + 1, A1, c1, l, s, by omega, by simp, rfl, HV8.out⟩)
          go_wp2
          go_roundw
          case rel => exact HF.out
          case measure => simp [intOf]; omega
        | true =>
          obtain ⟨rfl, l7, s7, hv7⟩ := HCH.out rfl
          have HF := Lib.hid (show PcRel w cl.length (.slice A7 256 c7) (.int .i64 ((k : Int) + 1)) w7 from ⟨k + 1, A7, c7, l7, s7, by omega, by simp, rfl, hv7⟩)
          clear hv7
          go_wp2
          go_roundw
          case rel => exact HF.out
          case measure => simp [intOf]; omega
      by_cases h1 : xw = 1
      · subst h1
        go_wp2_with fail
        refine (put_c HV6.out x.slot x.A x.n x.c x.data HR6.out HN.out.1.1).mono ?_
        rintro e w7 ⟨ok, A7, m7, c7, rfl, hb7, hch⟩
        have HV8 := Lib.hid (HV6.out.below hb7)
        have HCH := Lib.hid hch
        clear hb7 hch
        cases ok with
        | false =>
          have HF := Lib.hid (show PcRel w cl.length (.slice A1 256 c1) (.int .i64 ((k : Int) + 1)) w7 from ⟨k + 1, A1, c1, l, s, by omega, by simp, rfl, HV8.out⟩)
          go_wp2
          go_roundw
          case rel => exact HF.out
          case measure => simp [intOf]; omega
        | true =>
          obtain ⟨rfl, l7, s7, hv7⟩ := HCH.out rfl
          have HF := Lib.hid (show PcRel w cl.length (.slice A7 256 c7) (.int .i64 ((k : Int) + 1)) w7 from ⟨k + 1, A7, c7, l7, s7, by omega, by simp, rfl, hv7⟩)
          clear hv7
          go_wp2
          go_roundw
          case rel => exact HF.out
          case measure => simp [intOf]; omega
      by_cases h2 : xw = 2
      · subst h2
        go_wp2_with fail
        refine (cut_c HV6.out x.slot).mono ?_
        rintro e w7 ⟨ok, A7, m7, c7, rfl, hb7, hch⟩
        have HV8 := Lib.hid (HV6.out.below hb7)
        have HCH := Lib.hid hch
        clear hb7 hch
        cases ok with
        | false =>
          have HF := Lib.hid (show PcRel w cl.length (.slice A1 256 c1) (.int .i64 ((k : Int) + 1)) w7 from ⟨k + 1, A1, c1, l, s, by omega, by simp, rfl, HV8.out⟩)
          go_wp2
          go_roundw
          case rel => exact HF.out
          case measure => simp [intOf]; omega
        | true =>
          obtain ⟨rfl, l7, s7, hv7⟩ := HCH.out rfl
          have HF := Lib.hid (show PcRel w cl.length (.slice A7 256 c7) (.int .i64 ((k : Int) + 1)) w7 from ⟨k + 1, A7, c7, l7, s7, by omega, by simp, rfl, hv7⟩)
          clear hv7
          go_wp2
          go_roundw
          case rel => exact HF.out
          case measure => simp [intOf]; omega
      have e0 : (xw == 0) = false := by simp [h0]
      have e1 : (xw == 1) = false := by simp [h1]
      have e2 : (xw == 2) = false := by simp [h2]
      have HF := Lib.hid (show PcRel w cl.length (.slice A1 256 c1) (.int .i64 ((k : Int) + 1)) w6 from ⟨k + 1, A1, c1, l, s, by omega, by simp, rfl, HV6.out⟩)
      go_wp2
      go_roundw
      case rel => exact HF.out
      case measure => simp [intOf]; omega
    · go_wp2_with fail
      refine (asks_any _ A1 256 c1 l HV.out.sl 0 none 0 0 [] Rd.empty .nil (by omega)).mono ?_
      rintro e w4 ⟨rfl, hb4⟩
      have H4 := Lib.hid (HV.out.below hb4).b
      clear hb4
      go_wp2
      go_ret
      exact ⟨rfl, H4.out⟩

section
open Go.ChangeShapes Go.WideShapes Go.ChangeAt
open Go.ChangeMaps (open_string shut_string)
set_option linter.unusedVariables false
set_option maxRecDepth 100000 in
theorem pageCalls_lifted (os : Os) (started : os.Started) (H : Type) (enc : TypeId × Value → H) :
    ReturnsInHanded {} Tryd.checked os 4 .any (fun w args => (Rows.pageCallsSpec.pre enc Tryd.prog Tryd.f4 Rows.pageCallsRow.domain false w args ∧ laidMetH Tryd.prog Rows.pageCallsRow.laid w) ∧ sizedMet enc Tryd.prog Tryd.f4 (OpenSpec.ofChange Rows.pageCallsSpec) false w args)
      (Rows.pageCallsSpec.post enc Tryd.prog Tryd.f4 false true false false) := by
  refine returnsInHanded_of_change_and (C := Tryd.checked) (X := fun w _ => laidMetH Tryd.prog Rows.pageCallsRow.laid w) (fun _ _ _ hh h => h.of_heap hh) own started (by kernel_rfl) Tryd.func4
    (ChangeSpec.witness_shaped (enc := enc) (C := Tryd.checked) (os := os) (X := fun w _ => laidMetH Tryd.prog Rows.pageCallsRow.laid w) false (World.laidAll Tryd.prog os Rows.pageCallsRow.laid) #[.slice none 0 0] 8 (World.laidAll_os _ _ _)
      (World.shaped_of_ZipB (by kernel_rfl) (by kernel_rfl)) (by kernel_rfl) (by kernel_rfl) (by kernel_rfl)
      (by rw [MakeChecks.laidMetH_plain _ _ _ (by kernel_rfl)]; exact laidMet_laidAll _ (by kernel_rfl) (by kernel_rfl))) ?_
  intro W base args ds gs before hval0 hW hcnd hsz hL _
  have hval : ∀ (j : Nat) t v, Tryd.f4.params[j]? = some t → args[j]? = some v → Value.okWide Tryd.prog W .any base t v := hval0
  have hW' := hW
  obtain ⟨p, q, hA0, hV, rfl, hfz, hnd⟩ := hW
  have hA : DataW.TrodAll enc Tryd.prog W 0 (fun _ => true) true Tryd.f4.params.toList args.toList ds p := hA0
  rw [Tryd.params4] at hA hval
  obtain ⟨v0, vs0, d0, ds0, p0, q0, hargs, rfl, rfl, h0, r0⟩ := trodAll_cons hA
  obtain ⟨rfl, rfl, rfl⟩ := trodAll_nil r0
  obtain rfl : args = #[v0] := by cases args; simp_all
  obtain ⟨rfl, rfl⟩ := trodVars_none hV
  have k0 := h0
  have lt0 : ∀ x ∈ p0, x.block < W.heap.size := by obtain ⟨m, hm⟩ := k0; exact DataW.trod_lt m _ _ _ hm
  obtain ⟨a0, len0, cap0, rfl⟩ := okWide_slice Tryd.underlying27 (hval 0 27 v0 rfl rfl)
  obtain ⟨z0, rfl, l0, m0, o0, q0x, r0x⟩ := rd_of_calls Tryd.underlying27 Tryd.underlying31 (by kernel_rfl) ⟨rfl, by kernel_rfl, Tryd.underlying3⟩ ⟨rfl, by kernel_rfl, Tryd.underlying3⟩ ⟨rfl, by kernel_rfl, Tryd.underlying22⟩ Tryd.underlying5 (by kernel_rfl) h0
  clear hA0 hval0
  refine (pageCalls_walk a0 cap0 z0 W (CallsIn.of o0 q0x r0x) l0 m0).mono fun e W' ⟨he, bel⟩ => ?_
  subst he
  exact ⟨_, rfl, _, _, _, [], _, [], hW', trodAll_mk1 (shut_bool Tryd.underlying4 _), (trodAll_cons_mk (Below.trod laidOut (by kernel_rfl) (of_decide_eq_true (by kernel_rfl)) k0 bel lt0) trodAll_mk0), rfl, bel.frame _, fun h => by cases h⟩

theorem pageCalls_over : Rows.pageCallsRow.holds Tryd.pinned (OpenSpec.ofChange Rows.pageCallsSpec) :=
  OpenClaim.holds_of_wide 4 Tryd.f4 rfl rfl rfl rfl rfl rfl rfl ⟨rfl, rfl, rfl, rfl, rfl⟩ rfl rfl rfl rfl rfl (by kernel_rfl) Tryd.func4 (by kernel_rfl)
    (of_decide_eq_true (by kernel_rfl)) (by unfold Func.isWrapper; first | (rw [if_pos (by decide +kernel)]; kernel_rfl) | (rw [if_neg (by decide +kernel)]; exact ⟨rfl, rfl⟩))
    (fun os started H enc _ => pageCalls_lifted os started H enc)

theorem pageCalls_card : Rows.PageCallsCardSaid :=
  Claim7.holds_tied_plain_at .later [] [.data, .pinned] true _ false
    pageCalls_over (fun _ h => by cases h) (by kernel_rfl) (fun _ h => by cases h) pageCalls_row_tie rfl ⟨rfl, rfl⟩ (by kernel_rfl) rfl
    (fun f fn hf hfn => by
      obtain rfl : f = 4 := Option.some.inj ((show Tryd.prog.funcNamed Rows.pageCallsRow.func = some 4 by kernel_rfl).symm.trans hf) |>.symm
      obtain rfl : fn = Tryd.f4 := (Option.some.inj (Tryd.func4.symm.trans hfn)).symm
      have hall : (Tryd.f4.params.toList.all fun t => !Tryd.prog.wantsStandIn t) = true := by kernel_rfl
      exact ⟨by kernel_rfl, fun j t ht => by
        have h1 := List.all_eq_true.1 hall t (List.mem_of_getElem? (by simpa using ht))
        show Tryd.prog.wantsStandIn t = false
        simpa using h1⟩)
    (by kernel_rfl)
end
#print axioms pageCalls_card
end Go.Proofs.YtmgjoogfhkfooaaDoor
