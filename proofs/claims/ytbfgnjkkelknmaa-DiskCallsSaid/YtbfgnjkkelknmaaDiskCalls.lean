/-
  DiskCalls returns true for every number and every row of calls, and leaves them as they were: every New, and every row of calls, answers what the document's disk answers, and leaves all sectors so.
  No condition but the reach of the statement's form (a slice that is read takes fewer than 2^47 bytes).
-/
import Derived.Test.YtbfgnjkkelknmaaTold
namespace Go.Proofs.Ytbfgnjkkelknmaa
open Go.RowKit Go.Lib

def runA (s : DS) (cl : List Cl) : DS := cl.foldl stepA s
theorem runA_next {s : DS} {cl : List Cl} {k : Nat} (h : k < cl.length) : runA s (cl.take (k + 1)) = stepA (runA s (cl.take k)) cl[k] := by
  rw [List.take_succ_eq_append_getElem h, runA, List.foldl_append]; rfl
theorem crash_wr (s : DS) (keep torn : Int) : (s.crash keep torn).wr = [] := by
  by_cases h : clampN keep s.wr.length < s.wr.length
  · rw [crash_at rfl h]
  · rw [crash_all rfl h]
theorem stepA_few (s : DS) (x : Cl) : (stepA s x).wr.length ≤ s.wr.length + 1 := by
  unfold stepA DS.tryWrite DS.flush
  repeat' split
  all_goals first
    | (simp only [crash_wr]; simp; done)
    | (simp [DS.write]; done)
    | simp
theorem runA_few (s : DS) (cl : List Cl) : (runA s cl).wr.length ≤ s.wr.length + cl.length := by
  refine snoc_ind (P := fun cl => (runA s cl).wr.length ≤ s.wr.length + cl.length) (by simp [runA]) ?_ cl
  intro l x ih
  have h1 := stepA_few (runA s l) x
  rw [show runA s (l ++ [x]) = stepA (runA s l) x by rw [runA, List.foldl_append]; rfl]
  simp only [List.length_append, List.length_singleton]
  omega

def DcRel (w0 : World) (g gr : Nat) (cl : List Cl) (s0 : DS) (i : Value) (wr : World) : Prop :=
  ∃ (k : Nat) (F G : Nat → Prop), k ≤ cl.length ∧ i = .int .i64 k ∧ Two w0 wr g gr F G (runA s0 (cl.take k)) (runA s0 (cl.take k))

set_option maxRecDepth 100000 in
set_option maxHeartbeats 6400000 in
theorem diskCalls_walk (m : Int) (A : Option Addr) (c : Nat) (cl : List Cl) (w : World) (_b1 : -9223372036854775808 ≤ m ∧ m ≤ 9223372036854775807) (h : CallsIn w w.heap.size A cl) (_hlc : cl.length ≤ c) (hcm : c ≤ maxLen) :
    Calls Try.prog 3 #[.int .i64 m, .slice A cl.length c] w (YesBelow w) := by
  have HC := Lib.hid h
  clear h
  by_cases hmid : 100 < m ∧ m ≤ 65536
  · obtain ⟨q1, q2⟩ := hmid
    go_enter Try.func3, Try.ntmps3
    go_wp2_with fail
    refine (alive_any w).mono ?_
    rintro e w1 ⟨rfl, h1⟩
    have HA := Lib.hid h1
    clear h1
    go_wp2_with fail
    refine (great_any A c cl w1 _ (HC.out.below HA.out (Nat.le_refl _)) (by omega)).mono ?_
    rintro e w1' ⟨rfl, hgr⟩
    rcases hgr with rfl | ⟨rfl, h200, h20⟩
    · go_wp2
      go_ret
      exact ⟨rfl, HA.out⟩
    · go_wp2
      go_ret
      exact ⟨rfl, HA.out⟩
  · by_cases hgood : 1 ≤ m ∧ m ≤ 100
    · obtain ⟨K, rfl⟩ : ∃ K : Nat, m = K := ⟨m.toNat, by omega⟩
      have hk1 : 1 ≤ K := by omega
      have hk2 : K ≤ 100 := by omega
      have hk3 : ¬ (100 : Int) < (K : Int) := by omega
      clear hgood hmid
      go_enter Try.func3, Try.ntmps3
      go_wp2_with fail
      refine (alive_any w).mono ?_
      rintro e w1 ⟨rfl, h1⟩
      have HA := Lib.hid h1
      clear h1
      go_wp2_with fail
      refine (great_any A c cl w1 _ (HC.out.below HA.out (Nat.le_refl _)) (by omega)).mono ?_
      rintro e w1' ⟨rfl, hgr⟩
      rcases hgr with rfl | ⟨rfl, h200, h20⟩
      · go_wp2
        go_ret
        exact ⟨rfl, HA.out⟩
      · go_wp2_with fail
        refine (new_any w1 K hk1 (by omega)).mono ?_
        rintro e w2 ⟨g, rfl, hd, hb⟩
        have H2 := Lib.hid (And.intro hd hb)
        clear hd hb
        go_wp2_with fail
        refine (refNew_any w2 K hk1 (by omega)).mono ?_
        rintro e w3 ⟨gr, rfl, hd, hb⟩
        have H3 := Lib.hid (show Two w w3 g gr (Ext Non w1 w2) (Ext Non w2 w3) ⟨secs [] K, []⟩ ⟨secs [] K, []⟩ from
          ⟨H2.out.1.below hb, hd, fun q h1 h2 => by
              have := H2.out.1.foot q h1
              rcases h2 with h2 | h2
              · exact h2.elim
              · omega,
            fun q hq => by
              have := HA.out.size
              rcases hq with hq | hq
              · exact hq.elim
              · omega,
            fun q hq => by
              have := HA.out.size
              have := H2.out.2.size
              rcases hq with hq | hq
              · exact hq.elim
              · omega,
            (HA.out.trans (H2.out.2.mono HA.out.size)).trans (hb.mono (by have := HA.out.size; have := H2.out.2.size; omega))⟩)
        clear hd hb
        go_wp2_with fail
        go_loopw [9] (fun i wr => DcRel w g gr cl ⟨secs [] K, []⟩ i wr) (fun i _ => cl.length - (intOf i).toNat)
        case atStart => exact ⟨0, _, _, by omega, rfl, by simpa [runA] using H3.out⟩
        case round =>
          obtain ⟨k, F, G, hk, rfl, ht⟩ := hrel
          obtain ⟨s, hs⟩ : ∃ s, s = runA ⟨secs [] K, []⟩ (cl.take k) := ⟨_, rfl⟩
          have few : s.wr.length ≤ 200 := by
            have := runA_few ⟨secs [] K, []⟩ (cl.take k)
            rw [← hs] at this
            simp only [List.length_take, List.length_nil] at this
            omega
          rw [← hs] at ht
          by_cases hlt : k < cl.length
          · have hci := HC.out.below ht.b (Nat.le_refl _)
            obtain ⟨ad, rfl, _, c0, c1, c2, c3⟩ := hci.at_ hlt
            have hn := HC.out.num cl[k] (List.getElem_mem hlt)
            obtain ⟨x, hx⟩ : ∃ x, x = cl[k]'hlt := ⟨_, rfl⟩
            rw [← hx] at c0 c1 c2 c3 hn
            have hk0 : (0 : Int) ≤ (k : Int) := Int.natCast_nonneg _
            have hkl : (k : Int) < (cl.length : Int) := by omega
            have HX := Lib.hid (And.intro hx (And.intro ht (And.intro (hci.rd x (by rw [hx]; exact List.getElem_mem hlt)) (And.intro hs (And.intro hn few)))))
            clear hx ht hn hci hs few
            go_wp2_with fail
            refine (told_any HX.out.2.1 x HX.out.2.2.1 (by rw [HX.out.1]; have := h20 _ (List.getElem_mem hlt); omega) (by have := HX.out.2.2.2.2.2; omega)).mono ?_
            rintro e w5 ⟨rfl, F5, G5, ht5⟩
            have HF : Hid (DcRel w g gr cl ⟨secs [] K, []⟩ (.int .i64 ((k : Int) + 1)) w5) :=
              Lib.hid ⟨k + 1, F5, G5, by omega, by go_num, by rw [runA_next hlt, ← HX.out.1, ← HX.out.2.2.2.1]; exact ht5⟩
            clear ht5 c0 c1 c2 c3
            go_wp2
            go_roundw
            case rel => exact HF.out
            case measure => simp [intOf]; omega
          · have hkn : k = cl.length := by omega
            have hkl : ¬ ((k : Int) < (cl.length : Int)) := by omega
            have HX := Lib.hid ht
            clear ht hs few
            go_wp2_with fail
            refine (same_any HX.out.d HX.out.r).mono ?_
            rintro e w6 ⟨rfl, b6⟩
            have H6 := Lib.hid (HX.out.b.trans (b6.mono HX.out.b.size))
            clear b6
            go_wp2
            go_ret
            exact ⟨rfl, H6.out⟩
    · have hbad : m < 1 ∨ 65536 < m := by omega
      have HBAD := Lib.hid hbad
      clear hgood hbad
      by_cases hneg : m < 1
      · have hn100 : ¬ 100 < m := by omega
        clear hmid
        go_enter Try.func3, Try.ntmps3
        go_wp2_with fail
        refine (alive_any w).mono ?_
        rintro e w1 ⟨rfl, h1⟩
        have HA := Lib.hid h1
        clear h1
        go_wp2_with fail
        refine (great_any A c cl w1 _ (HC.out.below HA.out (Nat.le_refl _)) (by omega)).mono ?_
        rintro e w1' ⟨rfl, hgr⟩
        rcases hgr with rfl | ⟨rfl, h200, h20⟩
        · go_wp2
          go_ret
          exact ⟨rfl, HA.out⟩
        · go_wp2_with (first
            | (go_at_call 11; refine (new_no _ m HBAD.out).mono ?_; rintro e w3 ⟨rfl, rfl⟩)
            | (go_at_call 12; refine (refNew_no _ m HBAD.out).mono ?_; rintro e w3 ⟨rfl, rfl⟩))
          go_ret
          exact ⟨rfl, HA.out⟩
      · have hn100 : 100 < m := by have := HBAD.out; omega
        have hn65 : ¬ m ≤ 65536 := by have := HBAD.out; omega
        clear hmid
        go_enter Try.func3, Try.ntmps3
        go_wp2_with fail
        refine (alive_any w).mono ?_
        rintro e w1 ⟨rfl, h1⟩
        have HA := Lib.hid h1
        clear h1
        go_wp2_with fail
        refine (great_any A c cl w1 _ (HC.out.below HA.out (Nat.le_refl _)) (by omega)).mono ?_
        rintro e w1' ⟨rfl, hgr⟩
        rcases hgr with rfl | ⟨rfl, h200, h20⟩
        · go_wp2
          go_ret
          exact ⟨rfl, HA.out⟩
        · go_wp2_with (first
            | (go_at_call 11; refine (new_no _ m HBAD.out).mono ?_; rintro e w3 ⟨rfl, rfl⟩)
            | (go_at_call 12; refine (refNew_no _ m HBAD.out).mono ?_; rintro e w3 ⟨rfl, rfl⟩))
          go_ret
          exact ⟨rfl, HA.out⟩

section
open Go.ChangeShapes Go.WideShapes Go.ChangeAt
open Go.ChangeMaps (open_string shut_string)
set_option linter.unusedVariables false
set_option maxRecDepth 100000 in
theorem diskCalls_lifted (os : Os) (started : os.Started) (H : Type) (enc : TypeId × Value → H) :
    ReturnsInHanded {} Try.checked os 3 .any (Rows.diskCallsSpec.pre6 enc Try.prog Try.f3 Rows.diskCallsRow.domain false) (Rows.diskCallsSpec.post enc Try.prog Try.f3 false true false false) := by
  refine returnsInHanded_of_change_sized (C := Try.checked) own started (by kernel_rfl) Try.func3
    (ChangeSpec.witness6 (enc := enc) (C := Try.checked) false ⟨#[], #[.int .i64 0, .slice none 0 0], []⟩ 8 (by kernel_rfl) (by kernel_rfl) (by kernel_rfl) (by kernel_rfl)) ?_
  intro W base args ds gs before hval0 hW hcnd hsz _
  have hval : ∀ (j : Nat) t v, Try.f3.params[j]? = some t → args[j]? = some v → Value.okWide Try.prog W .any base t v := hval0
  have hW' := hW
  obtain ⟨p, q, hA0, hV, rfl, hfz, hnd⟩ := hW
  have hA : DataW.TrodAll enc Try.prog W 0 (fun _ => true) true Try.f3.params.toList args.toList ds p := hA0
  rw [Try.params3] at hA hval
  obtain ⟨v0, vs0, d0, ds0, p0, q0, hargs, rfl, rfl, h0, r0⟩ := trodAll_cons hA
  obtain ⟨v1, vs1, d1, ds1, p1, q1, rfl, rfl, rfl, h1, r1⟩ := trodAll_cons r0
  obtain ⟨rfl, rfl, rfl⟩ := trodAll_nil r1
  obtain rfl : args = #[v0, v1] := by cases args; simp_all
  obtain ⟨rfl, rfl⟩ := trodVars_none hV
  have k0 := h0
  have lt0 : ∀ x ∈ p0, x.block < W.heap.size := by obtain ⟨m, hm⟩ := k0; exact DataW.trod_lt m _ _ _ hm
  have k1 := h1
  have lt1 : ∀ x ∈ p1, x.block < W.heap.size := by obtain ⟨m, hm⟩ := k1; exact DataW.trod_lt m _ _ _ hm
  obtain ⟨a0, rfl, rfl, rfl, w0⟩ := open_int Try.underlying3 (hval 0 3 v0 rfl rfl) h0
  obtain ⟨a1, len1, cap1, rfl⟩ := okWide_slice Try.underlying22 (hval 1 22 v1 rfl rfl)
  obtain ⟨z1, rfl, l1, m1, o1, q1x, r1x⟩ := rd_of_calls Try.underlying22 Try.underlying35 (by kernel_rfl) ⟨rfl, by kernel_rfl, Try.underlying3⟩ ⟨rfl, by kernel_rfl, Try.underlying3⟩ ⟨rfl, by kernel_rfl, Try.underlying3⟩ ⟨rfl, by kernel_rfl, Try.underlying33⟩ Try.underlying5 (by kernel_rfl) (by kernel_rfl) h1
  have c1x := CallsIn.of o1 q1x r1x (fun y hy => by have := List.all_eq_true.1 hsz _ (DataW.weights_mem_each (j := 1) (t := 22) rfl rfl y hy); simpa using this)
  clear hA0 hval0
  refine (diskCalls_walk a0 a1 cap1 z1 W (bounds_i64 w0) c1x l1 m1).mono fun e W' ⟨he, bel⟩ => ?_
  subst he
  exact ⟨_, rfl, _, _, _, [], _, [], hW', trodAll_mk1 (shut_bool Try.underlying4 _), (trodAll_cons_mk (Below.trod laidOut (by kernel_rfl) (of_decide_eq_true (by kernel_rfl)) k0 bel lt0) (trodAll_cons_mk (Below.trod laidOut (by kernel_rfl) (of_decide_eq_true (by kernel_rfl)) k1 bel lt1) trodAll_mk0)), rfl, bel.frame _, fun h => by cases h⟩

theorem diskCalls_over : Rows.diskCallsRow.holds Try.pinned (OpenSpec.ofChange Rows.diskCallsSpec) :=
  OpenClaim.holds_of_wide 3 Try.f3 rfl rfl rfl rfl rfl rfl rfl ⟨rfl, rfl, rfl, rfl, rfl⟩ rfl rfl rfl rfl rfl (by kernel_rfl) Try.func3 (by kernel_rfl)
    (of_decide_eq_true (by kernel_rfl)) (by unfold Func.isWrapper; first | (rw [if_pos (by decide +kernel)]; kernel_rfl) | (rw [if_neg (by decide +kernel)]; exact ⟨rfl, rfl⟩))
    (fun os started H enc _ => diskCalls_lifted os started H enc)

theorem diskCalls_holds : Rows.DiskCallsSaid := diskCalls_over
end
#print axioms diskCalls_holds
end Go.Proofs.Ytbfgnjkkelknmaa
