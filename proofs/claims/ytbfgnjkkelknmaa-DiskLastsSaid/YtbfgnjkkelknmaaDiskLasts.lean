/-
  DiskLasts returns true for every row of calls and every two numbers, and leaves them as they were: what was flushed is there behind any crash at once, and a second crash changes nothing.
  No condition but the reach of the statement's form (a slice that is read takes fewer than 2^47 bytes).
-/
import Derived.Test.YtbfgnjkkelknmaaLift
namespace Go.Proofs.Ytbfgnjkkelknmaa
open Go.RowKit Go.Lib

/-- what the first k sectors read as, one behind the other -/
def wantN (s : DS) (k : Nat) : List Int := ((List.range k).map s.read).flatten
theorem wantN_next (s : DS) (k : Nat) : wantN s (k + 1) = wantN s k ++ s.read k := by simp [wantN, List.range_succ]
theorem wantN_len {s : DS} (h : s.Ok) {k : Nat} (hk : k ≤ s.last.length) : (wantN s k).length = k * 64 := by
  induction k with
  | zero => rfl
  | succ k ih => rw [wantN_next, List.length_append, ih (by omega), h.read_len (by omega)]; omega
theorem wantN_all (s : DS) : wantN s s.last.length = (lay s.last s.wr).flatten := by
  unfold wantN
  congr 1
  apply List.ext_getElem?
  intro q
  by_cases hq : q < s.last.length
  · rw [List.getElem?_map, List.getElem?_range hq, Option.map_some, List.getElem?_eq_getElem (by rw [lay_len]; exact hq)]
    congr 1
    have := read_lay s.last s.wr hq
    rw [getD_lt (by rw [lay_len]; exact hq)] at this
    exact this
  · rw [List.getElem?_eq_none (by simp; omega), List.getElem?_eq_none (by rw [lay_len]; omega)]
theorem crash_empty (L : List (List Int)) (k t : Int) : (⟨L, []⟩ : DS).crash k t = ⟨L, []⟩ := by
  rw [crash_all (k := 0) (by unfold clampN; simp) (by simp)]; rfl

def LaRel (w0 : World) (g : Nat) (cl : List Cl) (s0 : DS) (i : Value) (wr : World) : Prop :=
  ∃ (k : Nat) (F : Nat → Prop), k ≤ cl.length ∧ i = .int .i64 k ∧ Live w0 wr g F (runW s0 (cl.take k))
def LaRel2 (w0 : World) (g : Nat) (F : Nat → Prop) (s : DS) (v i : Value) (wr : World) : Prop :=
  ∃ k : Nat, k ≤ 6 ∧ i = .int .i64 k ∧ Live w0 wr g F s ∧ wr.ownsRow w0.heap.size 5 1 v (wantN s k).length (cells (wantN s k)) ∧ (∀ q, v.ownBlock = some q → ¬ F q)

set_option maxRecDepth 100000 in
set_option maxHeartbeats 6400000 in
theorem diskLasts_walk (A : Option Addr) (c : Nat) (cl : List Cl) (keep torn : Int) (w : World) (h : CallsIn w w.heap.size A cl) (_hlc : cl.length ≤ c) (hcm : c ≤ maxLen) (_b1 : -9223372036854775808 ≤ keep ∧ keep ≤ 9223372036854775807) (_b2 : -9223372036854775808 ≤ torn ∧ torn ≤ 9223372036854775807) :
    Calls Try.prog 5 #[.slice A cl.length c, .int .i64 keep, .int .i64 torn] w (YesBelow w) := by
  obtain ⟨i0, hi, hz0, hz1, hz2⟩ := info_parts Try.info5
  have HC := Lib.hid h
  clear h
  go_enter Try.func5, Try.ntmps5
  go_wp2_with fail
  refine (alive_any w).mono ?_
  rintro e w1 ⟨rfl, h1⟩
  have HA := Lib.hid h1
  clear h1
  go_wp2_with fail
  refine (great_any A c cl w1 _ (HC.out.below HA.out (Nat.le_refl _)) (by omega)).mono ?_
  rintro e w1' ⟨rfl, hgr⟩
  rcases hgr with rfl | ⟨rfl, h200, h20⟩
  · go_wp2
    go_ret
    exact ⟨rfl, HA.out⟩
  · go_wp2_with fail
    refine (new_any w1 6 (by omega) (by omega)).mono ?_
    rintro e w2 ⟨g, rfl, hd, hb⟩
    have H2 := Lib.hid (Live.new HA.out hd hb)
    clear hd hb
    go_wp2_with fail
    go_loopw [9] (fun i wr => LaRel w g cl ⟨secs [] 6, []⟩ i wr) (fun i _ => cl.length - (intOf i).toNat)
    case atStart => exact ⟨0, _, by omega, rfl, by simpa [runW] using H2.out⟩
    case round =>
      obtain ⟨k, F, hk, rfl, hlive⟩ := hrel
      by_cases hlt : k < cl.length
      · have hci := HC.out.below hlive.b (Nat.le_refl _)
        obtain ⟨ad, rfl, _, c0, c1, c2, c3⟩ := hci.at_ hlt
        have hn := HC.out.num cl[k] (List.getElem_mem hlt)
        obtain ⟨x, hx⟩ : ∃ x, x = cl[k]'hlt := ⟨_, rfl⟩
        rw [← hx] at c0 c1 c2 c3 hn
        have hk0 : (0 : Int) ≤ (k : Int) := Int.natCast_nonneg _
        have hk1 : (k : Int) < (cl.length : Int) := by omega
        have HX := Lib.hid (And.intro hx (And.intro hlive (And.intro hn (hci.rd x (by rw [hx]; exact List.getElem_mem hlt)))))
        clear hx hlive hn hci
        by_cases hw : x.what = 1
        · have HW := Lib.hid hw
          rw [hw] at c0
          clear hw
          go_wp2_with fail
          go_still_tail 11, (by kernel_rfl)
          change wpList _ _ _ _ _ wr.drew
          have few : (runW ⟨secs [] 6, []⟩ (cl.take k)).wr.length < 1000000 := by
            have := runW_few ⟨secs [] 6, []⟩ (cl.take k)
            simp only [List.length_take, List.length_nil] at this
            omega
          have HFW := Lib.hid few
          clear few
          go_wp2_with (go_at_call 19; refine (write_any (show DiskAt wr.drew g F _ from HX.out.2.1.d) x.at' x.A x.n x.c x.data (HX.out.2.2.2.more HX.out.2.1.b.size).drew HFW.out).mono ?_; rintro e w3 ⟨rfl, hd3, hc3⟩)
          have HL : Hid (LaRel w g cl ⟨secs [] 6, []⟩ (.int .i64 ((k : Int) + 1)) w3) := by
            refine Lib.hid ⟨k + 1, Ext F wr.drew w3, by omega, by go_num, ?_⟩
            have h3 := HX.out.2.1.drew.step hd3 hc3
            have e1 : runW ⟨secs [] 6, []⟩ (cl.take (k + 1)) = ((runW ⟨secs [] 6, []⟩ (cl.take k)).tryWrite x.at' x.data).2 := by
              rw [runW_next hlt, ← HX.out.1, stepW, if_pos HW.out]
            rw [e1]; exact h3
          clear hd3 hc3
          go_wp2
          go_roundw
          case rel => exact HL.out
          case measure => simp [intOf]; omega
        · have HL : Hid (LaRel w g cl ⟨secs [] 6, []⟩ (.int .i64 ((k : Int) + 1)) wr) := by
            refine Lib.hid ⟨k + 1, F, by omega, by go_num, ?_⟩
            have e1 : runW ⟨secs [] 6, []⟩ (cl.take (k + 1)) = runW ⟨secs [] 6, []⟩ (cl.take k) := by
              rw [runW_next hlt, ← HX.out.1, stepW, if_neg hw]
            rw [e1]; exact HX.out.2.1
          go_wp2
          go_roundw
          case rel => exact HL.out
          case measure => simp [intOf]; omega
      · have hkn : k = cl.length := by omega
        subst hkn
        rw [List.take_length] at hlive
        have hok := hlive.d.ok
        have hlast : (runW ⟨secs [] 6, []⟩ cl).last.length = 6 := by rw [runW_last, secs_len]
        obtain ⟨s, hs⟩ : ∃ s, s = runW ⟨secs [] 6, []⟩ cl := ⟨_, rfl⟩
        rw [← hs] at hlive hok hlast
        have HL := Lib.hid (And.intro hlive (And.intro hok hlast))
        clear hlive hok hlast hs H2
        go_wp2_with fail
        go_loopw [10, 11] (fun v i wr => LaRel2 w g F s v i wr) (fun _ i _ => (6 - intOf i).toNat)
        case atStart =>
          refine ⟨0, by omega, rfl, HL.out.1.below ((Below.refl _ _).alloc (Nat.le_refl _) _), ?_, ?_⟩
          · exact own_base (World.ownsRow_lit wr #[] 0 (Nat.le_refl _) (by simp [maxLen]) (by simp)) HL.out.1.b.size
          · intro q hq hF
            simp only [Value.ownBlock, Option.some.injEq] at hq
            have := HL.out.1.d.foot q hF
            omega
        case round =>
          obtain ⟨k, hk, rfl, hlive, hown, hap⟩ := hrel
          by_cases hlt : k < 6
          · have hk0 : (0 : Int) ≤ (k : Int) := Int.natCast_nonneg _
            have hk1 : (k : Int) < 6 := by omega
            have hl64 := HL.out.2.1.read_len (k := k) (by rw [HL.out.2.2]; exact hlt)
            have hwl := wantN_len HL.out.2.1 (k := k) (by rw [HL.out.2.2]; omega)
            have HX := Lib.hid (And.intro hlive (And.intro hown (And.intro hap (And.intro hl64 hwl))))
            clear hlive hown hap hl64 hwl
            go_wp2_with fail
            refine (read_any HX.out.1.d k (by rw [HL.out.2.2]; exact hlt)).mono ?_
            rintro e w5 ⟨g5, rfl, hb5, hg5, hl5⟩
            have own5 := own_below HX.out.2.1 hl5 (Nat.le_refl _)
            have live5 := HX.out.1.below hl5
            have H5 := Lib.hid (And.intro hb5 (And.intro own5 live5))
            have hs5 := hl5.size
            clear hb5 hg5 hl5 own5 live5
            go_wp2_with (refine wpList_append_lies _ rfl (.tmp 65) (.tmp 66) 33 rfl w.heap.size 5 i0 _ 1 1 Try.underlying33 hi hz0 hz1 hz2 rfl (by decide) _ _ _ rfl H5.out.2.1 ⟨g5, 0, none⟩ 64 64 (cells (s.read k)) rfl ?l1 ?l2 (cells_one _) (by decide) ?l3 ?l4 ?l5 _ rfl ?_)
            case l1 => rw [cells_len, HX.out.2.2.2.1]
            case l2 => exact fun j u hu => by rw [Addr.add_mid, Nat.zero_add]; exact H5.out.1.src j u hu
            case l3 => have := HX.out.2.2.2.2; simp [maxLen]; omega
            case l4 => have := HX.out.2.2.2.2; omega
            case l5 => exact H5.out.2.2.b.size
            intro gg cap w6 own6 hgrow hat hlt6
            have HF : Hid (LaRel2 w g F s (.slice (some ⟨gg, 0, none⟩) ((wantN s k).length + 64) cap) (.int .i64 ((k : Int) + 1)) w6) := by
              have hl5' := H5.out.2.2
              have hkeep : ∀ q, F q → w6.heap[q]? = w5.heap[q]? := fun q hq => hgrow.block q (hl5'.d.foot q hq) (fun e => HX.out.2.2.1 q e.symm hq)
              refine Lib.hid ⟨k + 1, by omega, by go_num, ⟨hl5'.d.keep hkeep hgrow.size, hl5'.lo, hl5'.b.grown hgrow hl5'.b.size (fun q hq => (H5.out.2.1.lt q hq).1)⟩, ?_, ?_⟩
              · rw [wantN_next, List.length_append, HX.out.2.2.2.1, cells_append]
                exact own6
              · intro q hq hF
                simp only [Value.ownBlock, Option.some.injEq] at hq
                subst hq
                rcases hat with h | h
                · exact HX.out.2.2.1 _ h hF
                · have := hl5'.d.foot _ hF
                  omega
            clear own6 hgrow hat hlt6
            go_wp2
            go_roundw
            case rel => exact HF.out
            case measure => simp [intOf]; omega
          · have hk6 : k = 6 := by omega
            subst hk6
            obtain ⟨A', c', rfl, hnc', hcm'⟩ := own_shape hown
            have hwl := wantN_len HL.out.2.1 (k := 6) (by rw [HL.out.2.2]; omega)
            have hfl : (lay s.last s.wr).flatten = wantN s 6 := by rw [← wantN_all, HL.out.2.2]
            have hst : s.flush = ⟨lay s.last s.wr, []⟩ := rfl
            have HX := Lib.hid (And.intro hlive (And.intro hown (And.intro hap (And.intro hwl (And.intro hfl hst)))))
            clear hlive hown hap hwl hfl hst
            go_wp2_with fail
            refine (flush_any HX.out.1.d).mono ?_
            rintro e wa ⟨rfl, hda, hca⟩
            have HA2 := Lib.hid (And.intro (HX.out.1.step hda hca) (And.intro (own_chg HX.out.2.1 hca HX.out.2.2.1) (show ∀ q, (Value.slice A' (wantN s 6).length c').ownBlock = some q → ¬ Ext F wr wa q from fun q hq h => h.elim (HX.out.2.2.1 q hq) fun h => by have := (HX.out.2.1.lt q hq).2; omega)))
            clear hda hca
            go_wp2_with fail
            refine (crash_any HA2.out.1.d keep torn).mono ?_
            rw [HX.out.2.2.2.2.2, crash_empty]
            rintro e wb ⟨rfl, hdb, hcb⟩
            have HB2 := Lib.hid (And.intro (HA2.out.1.step hdb hcb) (And.intro (own_chg HA2.out.2.1 hcb HA2.out.2.2) (show ∀ q, (Value.slice A' (wantN s 6).length c').ownBlock = some q → ¬ Ext (Ext F wr wa) wa wb q from fun q hq h => h.elim (HA2.out.2.2 q hq) fun h => by have := (HA2.out.2.1.lt q hq).2; omega)))
            clear hdb hcb
            go_wp2_with fail
            refine (image_any HB2.out.1.d).mono ?_
            rw [show (DS.mk (lay s.last s.wr) []).last.flatten = wantN s 6 from HX.out.2.2.2.2.1]
            rintro e wc ⟨g6, rfl, hb6, _, hl6⟩
            have HC2 := Lib.hid (And.intro (HB2.out.1.below hl6) (And.intro (own_below HB2.out.2.1 hl6 (Nat.le_refl _)) hb6))
            have hsc := hl6.size
            clear hb6 hl6
            go_wp2_with fail
            refine (sameBytes_below _ _ _ _ _ (wantN s 6) _ _ _ (HC2.out.2.2.rd (cells_len _)) (Rd.own HC2.out.2.1) (by rw [HX.out.2.2.2.1]; omega)).mono ?_
            rintro e wd ⟨rfl, h7⟩
            have HD2 := Lib.hid (And.intro (HC2.out.1.below h7) (own_below HC2.out.2.1 h7 (Nat.le_refl _)))
            have hsd := h7.size
            clear h7
            go_wp2_with fail
            refine (crash_any HD2.out.1.d torn keep).mono ?_
            rw [crash_empty]
            rintro e we ⟨rfl, hde, hce⟩
            have HE2 := Lib.hid (And.intro (HD2.out.1.step hde hce) (own_chg HD2.out.2 hce HB2.out.2.2))
            clear hde hce
            go_wp2_with fail
            refine (image_any HE2.out.1.d).mono ?_
            rw [show (DS.mk (lay s.last s.wr) []).last.flatten = wantN s 6 from HX.out.2.2.2.2.1]
            rintro e wf ⟨g8, rfl, hb8, _, hl8⟩
            have HF2 := Lib.hid (And.intro (HE2.out.1.below hl8) (And.intro (own_below HE2.out.2 hl8 (Nat.le_refl _)) hb8))
            clear hb8 hl8
            go_wp2_with fail
            refine (sameBytes_below _ _ _ _ _ (wantN s 6) _ _ _ (HF2.out.2.2.rd (cells_len _)) (Rd.own HF2.out.2.1) (by rw [HX.out.2.2.2.1]; omega)).mono ?_
            rintro e wg ⟨rfl, h9⟩
            have HG2 := Lib.hid (HF2.out.1.below h9)
            clear h9
            go_wp2_with fail
            refine (pending_any HG2.out.d).mono ?_
            rintro e wg' ⟨rfl, rfl⟩
            go_wp2
            go_ret
            exact ⟨rfl, HG2.out.b⟩

section
open Go.ChangeShapes Go.WideShapes Go.ChangeAt
open Go.ChangeMaps (open_string shut_string)
set_option linter.unusedVariables false
set_option maxRecDepth 100000 in
theorem diskLasts_lifted (os : Os) (started : os.Started) (H : Type) (enc : TypeId × Value → H) :
    ReturnsInHanded {} Try.checked os 5 .any (Rows.diskLastsSpec.pre6 enc Try.prog Try.f5 Rows.diskLastsRow.domain false) (Rows.diskLastsSpec.post enc Try.prog Try.f5 false true false false) := by
  refine returnsInHanded_of_change_sized (C := Try.checked) own started (by kernel_rfl) Try.func5
    (ChangeSpec.witness6 (enc := enc) (C := Try.checked) false ⟨#[], #[.slice none 0 0, .int .i64 0, .int .i64 0], []⟩ 8 (by kernel_rfl) (by kernel_rfl) (by kernel_rfl) (by kernel_rfl)) ?_
  intro W base args ds gs before hval0 hW hcnd hsz _
  have hval : ∀ (j : Nat) t v, Try.f5.params[j]? = some t → args[j]? = some v → Value.okWide Try.prog W .any base t v := hval0
  have hW' := hW
  obtain ⟨p, q, hA0, hV, rfl, hfz, hnd⟩ := hW
  have hA : DataW.TrodAll enc Try.prog W 0 (fun _ => true) true Try.f5.params.toList args.toList ds p := hA0
  rw [Try.params5] at hA hval
  obtain ⟨v0, vs0, d0, ds0, p0, q0, hargs, rfl, rfl, h0, r0⟩ := trodAll_cons hA
  obtain ⟨v1, vs1, d1, ds1, p1, q1, rfl, rfl, rfl, h1, r1⟩ := trodAll_cons r0
  obtain ⟨v2, vs2, d2, ds2, p2, q2, rfl, rfl, rfl, h2, r2⟩ := trodAll_cons r1
  obtain ⟨rfl, rfl, rfl⟩ := trodAll_nil r2
  obtain rfl : args = #[v0, v1, v2] := by cases args; simp_all
  obtain ⟨rfl, rfl⟩ := trodVars_none hV
  have k0 := h0
  have lt0 : ∀ x ∈ p0, x.block < W.heap.size := by obtain ⟨m, hm⟩ := k0; exact DataW.trod_lt m _ _ _ hm
  have k1 := h1
  have lt1 : ∀ x ∈ p1, x.block < W.heap.size := by obtain ⟨m, hm⟩ := k1; exact DataW.trod_lt m _ _ _ hm
  have k2 := h2
  have lt2 : ∀ x ∈ p2, x.block < W.heap.size := by obtain ⟨m, hm⟩ := k2; exact DataW.trod_lt m _ _ _ hm
  obtain ⟨a0, len0, cap0, rfl⟩ := okWide_slice Try.underlying22 (hval 0 22 v0 rfl rfl)
  obtain ⟨z0, rfl, l0, m0, o0, q0x, r0x⟩ := rd_of_calls Try.underlying22 Try.underlying35 (by kernel_rfl) ⟨rfl, by kernel_rfl, Try.underlying3⟩ ⟨rfl, by kernel_rfl, Try.underlying3⟩ ⟨rfl, by kernel_rfl, Try.underlying3⟩ ⟨rfl, by kernel_rfl, Try.underlying33⟩ Try.underlying5 (by kernel_rfl) (by kernel_rfl) h0
  have c0x := CallsIn.of o0 q0x r0x (fun y hy => by have := List.all_eq_true.1 hsz _ (DataW.weights_mem_each (j := 0) (t := 22) rfl rfl y hy); simpa using this)
  obtain ⟨a1, rfl, rfl, rfl, w1⟩ := open_int Try.underlying3 (hval 1 3 v1 rfl rfl) h1
  obtain ⟨a2, rfl, rfl, rfl, w2⟩ := open_int Try.underlying3 (hval 2 3 v2 rfl rfl) h2
  clear hA0 hval0
  refine (diskLasts_walk a0 cap0 z0 a1 a2 W c0x l0 m0 (bounds_i64 w1) (bounds_i64 w2)).mono fun e W' ⟨he, bel⟩ => ?_
  subst he
  exact ⟨_, rfl, _, _, _, [], _, [], hW', trodAll_mk1 (shut_bool Try.underlying4 _), (trodAll_cons_mk (Below.trod laidOut (by kernel_rfl) (of_decide_eq_true (by kernel_rfl)) k0 bel lt0) (trodAll_cons_mk (Below.trod laidOut (by kernel_rfl) (of_decide_eq_true (by kernel_rfl)) k1 bel lt1) (trodAll_cons_mk (Below.trod laidOut (by kernel_rfl) (of_decide_eq_true (by kernel_rfl)) k2 bel lt2) trodAll_mk0))), rfl, bel.frame _, fun h => by cases h⟩

theorem diskLasts_over : Rows.diskLastsRow.holds Try.pinned (OpenSpec.ofChange Rows.diskLastsSpec) :=
  OpenClaim.holds_of_wide 5 Try.f5 rfl rfl rfl rfl rfl rfl rfl ⟨rfl, rfl, rfl, rfl, rfl⟩ rfl rfl rfl rfl rfl (by kernel_rfl) Try.func5 (by kernel_rfl)
    (of_decide_eq_true (by kernel_rfl)) (by unfold Func.isWrapper; first | (rw [if_pos (by decide +kernel)]; kernel_rfl) | (rw [if_neg (by decide +kernel)]; exact ⟨rfl, rfl⟩))
    (fun os started H enc _ => diskLasts_lifted os started H enc)

theorem diskLasts_holds : Rows.DiskLastsSaid := diskLasts_over
end
#print axioms diskLasts_holds
end Go.Proofs.Ytbfgnjkkelknmaa
