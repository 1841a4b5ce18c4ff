/-
  PageAsks returns true for all bytes, slots and bytes: every call with any bytes answers what the document says; the bytes are left as they were.
  No condition but the reach of the statement's form; the listed variables are tied by the card.
-/
import Derived.Test.YtmgjoogfhkfooaaDoorAsks
import Derived.Test.YtmgjoogfhkfooaaDoorTie
import Derived.Test.YtmgjoogfhkfooaaDoorCards
import Derived.Lay
import Derived.MakeChecks
import Derived.JoinedOf
import Derived.Stop.Joined
import Derived.HandedShaped
namespace Go.Proofs.YtmgjoogfhkfooaaDoor
open Go.RowKit Go.Lib

set_option maxRecDepth 100000 in
set_option maxHeartbeats 6400000 in
theorem pageAsks_walk (A : Option Addr) (n c : Nat) (l : List Int) (slot : Int) (A2 : Option Addr) (n2 c2 : Nat) (b : List Int) (w : World)
    (hr : Rd w w.heap.size A n (cells l)) (hwf : ∀ z ∈ l, (Lit.int .u8 z).wf = true) (hl : l.length = n) (hn : n ≤ c) (hc : c ≤ maxLen) (hsl : -9223372036854775808 ≤ slot ∧ slot ≤ 9223372036854775807)
    (hr2 : Rd w w.heap.size A2 n2 (cells b)) (hwf2 : ∀ z ∈ b, (Lit.int .u8 z).wf = true) (hbl : b.length = n2) (hn2 : n2 ≤ c2) (hc2 : c2 ≤ maxLen) :
    Calls Tryd.prog 3 #[.slice A n c, .int .i64 slot, .slice A2 n2 c2] w (YesB w) := by
  have HP := Lib.hid (And.intro hr (And.intro (bytes_wf hwf) hl))
  have HB := Lib.hid (And.intro hr2 (bytes_wf hwf2))
  unfold maxLen at hc hc2
  have hn63 : n ≤ 9223372036854775807 := by omega
  have hn263 : n2 ≤ 9223372036854775807 := by omega
  clear hr hwf hl hn hc hsl hr2 hwf2 hbl hn2 hc2
  go_enter Tryd.func3, Tryd.ntmps3
  go_wp2_with fail
  refine (alive_any w).mono ?_
  rintro e w1 ⟨rfl, h1⟩
  have HA := Lib.hid h1
  clear h1
  by_cases hbig : 1000 < n
  · go_wp2
    go_ret
    exact ⟨rfl, HA.out⟩
  by_cases hbig2 : 1000 < n2
  · go_wp2
    go_ret
    exact ⟨rfl, HA.out⟩
  go_wp2_with fail
  refine (copyBytes_any w1 A n c l HP.out.2.2 (by omega) (HP.out.1.le HA.out)).mono ?_
  rintro e w2 ⟨v2, rfl, hown2, hb2⟩
  obtain ⟨A3, c3, rfl, hs3⟩ := Sl.of_own hown2 HP.out.2.1
  rw [HP.out.2.2] at hs3 ⊢
  have HS := Lib.hid hs3
  have H2 := Lib.hid (below_le HA.out hb2)
  clear hown2 hb2 hs3
  go_wp2_with fail
  refine (asks_any w2 A3 n c3 l HS.out slot A2 n2 c2 b (HB.out.1.le H2.out) HB.out.2 (by omega)).mono ?_
  rintro e w3 ⟨rfl, hb3⟩
  have H3 := Lib.hid (below_le H2.out hb3)
  have HSB := Lib.hid (same_any A3 A n n c3 c l l w3 (HS.out.rd.le hb3) (HP.out.1.le H3.out) (by omega))
  rw [decide_eq_true (show l = l from rfl)] at HSB
  clear hb3
  go_wp2_with fail
  refine HSB.out.mono ?_
  rintro e w4 ⟨rfl, hb4⟩
  have H4 := Lib.hid (below_le H3.out hb4)
  clear hb4
  go_wp2
  go_ret
  exact ⟨rfl, H4.out⟩

section
open Go.ChangeShapes Go.WideShapes Go.ChangeAt
open Go.ChangeMaps (open_string shut_string)
set_option linter.unusedVariables false
set_option maxRecDepth 100000 in
theorem pageAsks_lifted (os : Os) (started : os.Started) (H : Type) (enc : TypeId × Value → H) :
    ReturnsInHanded {} Tryd.checked os 3 .any (fun w args => (Rows.pageAsksSpec.pre enc Tryd.prog Tryd.f3 Rows.pageAsksRow.domain false w args ∧ laidMetH Tryd.prog Rows.pageAsksRow.laid w) ∧ sizedMet enc Tryd.prog Tryd.f3 (OpenSpec.ofChange Rows.pageAsksSpec) false w args)
      (Rows.pageAsksSpec.post enc Tryd.prog Tryd.f3 false true false false) := by
  refine returnsInHanded_of_change_and (C := Tryd.checked) (X := fun w _ => laidMetH Tryd.prog Rows.pageAsksRow.laid w) (fun _ _ _ hh h => h.of_heap hh) own started (by kernel_rfl) Tryd.func3
    (ChangeSpec.witness_shaped (enc := enc) (C := Tryd.checked) (os := os) (X := fun w _ => laidMetH Tryd.prog Rows.pageAsksRow.laid w) false (World.laidAll Tryd.prog os Rows.pageAsksRow.laid) #[.slice none 0 0, .int .i64 0, .slice none 0 0] 8 (World.laidAll_os _ _ _)
      (World.shaped_of_ZipB (by kernel_rfl) (by kernel_rfl)) (by kernel_rfl) (by kernel_rfl) (by kernel_rfl)
      (by rw [MakeChecks.laidMetH_plain _ _ _ (by kernel_rfl)]; exact laidMet_laidAll _ (by kernel_rfl) (by kernel_rfl))) ?_
  intro W base args ds gs before hval0 hW hcnd hsz hL _
  have hval : ∀ (j : Nat) t v, Tryd.f3.params[j]? = some t → args[j]? = some v → Value.okWide Tryd.prog W .any base t v := hval0
  have hW' := hW
  obtain ⟨p, q, hA0, hV, rfl, hfz, hnd⟩ := hW
  have hA : DataW.TrodAll enc Tryd.prog W 0 (fun _ => true) true Tryd.f3.params.toList args.toList ds p := hA0
  rw [Tryd.params3] at hA hval
  obtain ⟨v0, vs0, d0, ds0, p0, q0, hargs, rfl, rfl, h0, r0⟩ := trodAll_cons hA
  obtain ⟨v1, vs1, d1, ds1, p1, q1, rfl, rfl, rfl, h1, r1⟩ := trodAll_cons r0
  obtain ⟨v2, vs2, d2, ds2, p2, q2, rfl, rfl, rfl, h2, r2⟩ := trodAll_cons r1
  obtain ⟨rfl, rfl, rfl⟩ := trodAll_nil r2
  obtain rfl : args = #[v0, v1, v2] := by cases args; simp_all
  obtain ⟨rfl, rfl⟩ := trodVars_none hV
  have k0 := h0
  have lt0 : ∀ x ∈ p0, x.block < W.heap.size := by obtain ⟨m, hm⟩ := k0; exact DataW.trod_lt m _ _ _ hm
  have k1 := h1
  have lt1 : ∀ x ∈ p1, x.block < W.heap.size := by obtain ⟨m, hm⟩ := k1; exact DataW.trod_lt m _ _ _ hm
  have k2 := h2
  have lt2 : ∀ x ∈ p2, x.block < W.heap.size := by obtain ⟨m, hm⟩ := k2; exact DataW.trod_lt m _ _ _ hm
  obtain ⟨a0, len0, cap0, rfl⟩ := okWide_slice Tryd.underlying22 (hval 0 22 v0 rfl rfl)
  obtain ⟨z0, r0x, w0, e0, l0, m0⟩ := rd_of_ints Tryd.underlying22 Tryd.underlying5 (by kernel_rfl) h0
  obtain ⟨a1, rfl, rfl, rfl, w1⟩ := open_int Tryd.underlying3 (hval 1 3 v1 rfl rfl) h1
  obtain ⟨a2, len2, cap2, rfl⟩ := okWide_slice Tryd.underlying22 (hval 2 22 v2 rfl rfl)
  obtain ⟨z2, r2x, w2, e2, l2, m2⟩ := rd_of_ints Tryd.underlying22 Tryd.underlying5 (by kernel_rfl) h2
  clear hA0 hval0
  refine (pageAsks_walk a0 len0 cap0 z0 a1 a2 len2 cap2 z2 W r0x w0 e0 l0 m0 (bounds_i64 w1) r2x w2 e2 l2 m2).mono fun e W' ⟨he, bel⟩ => ?_
  subst he
  exact ⟨_, rfl, _, _, _, [], _, [], hW', trodAll_mk1 (shut_bool Tryd.underlying4 _), (trodAll_cons_mk (Below.trod laidOut (by kernel_rfl) (of_decide_eq_true (by kernel_rfl)) k0 bel lt0) (trodAll_cons_mk (Below.trod laidOut (by kernel_rfl) (of_decide_eq_true (by kernel_rfl)) k1 bel lt1) (trodAll_cons_mk (Below.trod laidOut (by kernel_rfl) (of_decide_eq_true (by kernel_rfl)) k2 bel lt2) trodAll_mk0))), rfl, bel.frame _, fun h => by cases h⟩

theorem pageAsks_over : Rows.pageAsksRow.holds Tryd.pinned (OpenSpec.ofChange Rows.pageAsksSpec) :=
  OpenClaim.holds_of_wide 3 Tryd.f3 rfl rfl rfl rfl rfl rfl rfl ⟨rfl, rfl, rfl, rfl, rfl⟩ rfl rfl rfl rfl rfl (by kernel_rfl) Tryd.func3 (by kernel_rfl)
    (of_decide_eq_true (by kernel_rfl)) (by unfold Func.isWrapper; first | (rw [if_pos (by decide +kernel)]; kernel_rfl) | (rw [if_neg (by decide +kernel)]; exact ⟨rfl, rfl⟩))
    (fun os started H enc _ => pageAsks_lifted os started H enc)

theorem pageAsks_card : Rows.PageAsksCardSaid :=
  Claim7.holds_tied_plain_at .later [] [.data, .pinned] true _ false
    pageAsks_over (fun _ h => by cases h) (by kernel_rfl) (fun _ h => by cases h) pageAsks_row_tie rfl ⟨rfl, rfl⟩ (by kernel_rfl) rfl
    (fun f fn hf hfn => by
      obtain rfl : f = 3 := Option.some.inj ((show Tryd.prog.funcNamed Rows.pageAsksRow.func = some 3 by kernel_rfl).symm.trans hf) |>.symm
      obtain rfl : fn = Tryd.f3 := (Option.some.inj (Tryd.func3.symm.trans hfn)).symm
      have hall : (Tryd.f3.params.toList.all fun t => !Tryd.prog.wantsStandIn t) = true := by kernel_rfl
      exact ⟨by kernel_rfl, fun j t ht => by
        have h1 := List.all_eq_true.1 hall t (List.mem_of_getElem? (by simpa using ht))
        show Tryd.prog.wantsStandIn t = false
        simpa using h1⟩)
    (by kernel_rfl)
end
#print axioms pageAsks_card
end Go.Proofs.YtmgjoogfhkfooaaDoor
