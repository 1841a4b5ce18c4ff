/-
  DiskTorn returns true for every two lists of bytes and every number, and leaves them as they were: behind a crash that tears the one write the sector's first bytes are the write's, the others as they were.
  No condition.
-/
import Derived.Test.YtbfgnjkkelknmaaLift
namespace Go.Proofs.Ytbfgnjkkelknmaa
open Go.RowKit Go.Lib

theorem torn_state (old data : List Int) (torn : Int) (h0 : old.length = 64) : (((⟨secs old 2, []⟩ : DS).write 0 data).crash 0 torn) = ⟨(secs old 2).set 0 (tear old data (clampN torn 64)), []⟩ := by
  rw [crash_at (k := 0) (by unfold clampN; omega) (by simp [DS.write])]
  have h3 : 0 < (secs old 2).length := by rw [secs_len]; omega
  have e1 : lay (DS.write ⟨secs old 2, []⟩ 0 data).last ((DS.write ⟨secs old 2, []⟩ 0 data).wr.take 0) = secs old 2 := rfl
  have e2 : (DS.write ⟨secs old 2, []⟩ 0 data).wr[0]'(by simp [DS.write]) = (0, data) := rfl
  rw [e1, e2, getD_lt h3]
  have e3 : (secs old 2)[0] = old := by
    simp only [secs, List.getElem_map, List.getElem_range, Nat.mul_zero, List.drop_zero, pad]
    rw [List.take_of_length_le (by omega), h0]; simp
  rw [e3]
theorem torn_read (old data : List Int) (torn : Int) (h0 : old.length = 64) : (((⟨secs old 2, []⟩ : DS).write 0 data).crash 0 torn).read 0 = tear old data (clampN torn 64) := by
  rw [torn_state old data torn h0]
  have h3 : 0 < (secs old 2).length := by rw [secs_len]; omega
  unfold DS.read
  simp only [lastWr, List.foldl_nil, Option.getD_none]
  rw [getD_lt (by rw [List.length_set]; exact h3), List.getElem_set_self]
theorem tear_get {old data : List Int} {t k : Nat} (h1 : data.length = 64) (ht : t ≤ 64) : (tear old data t)[k]? = if k < t then data[k]? else old[k]? := by
  unfold tear
  by_cases h : k < t
  · rw [if_pos h, List.getElem?_append_left (by simp; omega), List.getElem?_take_of_lt h]
  · rw [if_neg h, List.getElem?_append_right (by simp; omega), List.getElem?_drop]
    congr 1; simp; omega

def ToRel (i : Value) : Prop := ∃ k : Nat, k ≤ 64 ∧ i = .int .i64 k

set_option maxRecDepth 100000 in
set_option maxHeartbeats 3200000 in
theorem diskTorn_walk (A : Option Addr) (n c : Nat) (old : List Int) (A' : Option Addr) (n' c' : Nat) (data : List Int) (torn : Int) (w : World)
    (hr : Rd w w.heap.size A n (cells old)) (_h1 : ∀ z ∈ old, (Lit.int .u8 z).wf = true) (hl : old.length = n) (hnc : n ≤ c) (hcm : c ≤ maxLen)
    (hr' : Rd w w.heap.size A' n' (cells data)) (_h2 : ∀ z ∈ data, (Lit.int .u8 z).wf = true) (hl' : data.length = n') (_hnc' : n' ≤ c') (_hcm' : c' ≤ maxLen)
    (_hb : -9223372036854775808 ≤ torn ∧ torn ≤ 9223372036854775807) :
    Calls Try.prog 7 #[.slice A n c, .slice A' n' c', .int .i64 torn] w (YesBelow w) := by
  by_cases e0 : n = 64
  · subst e0
    by_cases e1 : n' = 64
    · subst e1
      have HB := Lib.hid (And.intro hr (And.intro hr' (And.intro hl (And.intro hl' (And.intro hnc hcm)))))
      clear hr hr' hl hl' hnc hcm
      go_enter Try.func7, Try.ntmps7
      go_wp2_with fail
      refine (alive_any w).mono ?_
      rintro e w1 ⟨rfl, h1⟩
      have HA := Lib.hid h1
      clear h1
      go_wp2_with fail
      refine (load_any A 64 c old w1 ((HB.out.1.below HA.out (Nat.le_refl _)).more HA.out.size) HB.out.2.2.2.2.1 HB.out.2.2.2.2.2 2 (by omega) (by omega)).mono ?_
      rintro e w2 ⟨g, rfl, hd, hb⟩
      have H2 := Lib.hid (And.intro hd (HA.out.trans (hb.mono HA.out.size)))
      have s12 := hb.size
      clear hd hb
      go_wp2_with fail
      refine (write_yes H2.out.1 0 (by rw [secs_len]; omega) A' c' data ((HB.out.2.1.below H2.out.2 (Nat.le_refl _)).more H2.out.2.size) (by simp)).mono ?_
      rintro e w3 ⟨rfl, hd3, hc3⟩
      have q0 : ∀ k, Ext Non w1 w2 k → w.heap.size ≤ k := fun k h => h.elim (fun h => h.elim) fun h => by have := HA.out.size; omega
      have b3 := H2.out.2.trans (hc3.below q0 H2.out.2.size)
      have q3 : ∀ k, Ext (Ext Non w1 w2) w2 w3 k → w.heap.size ≤ k := fun k h => h.elim (q0 k) fun h => by have := H2.out.2.size; omega
      have H3 := Lib.hid (And.intro hd3 (And.intro b3 q3))
      clear hd3 hc3 b3 q3 q0
      go_wp2_with fail
      refine (crash_any H3.out.1 0 torn).mono ?_
      rintro e w4 ⟨rfl, hd4, hc4⟩
      have b4 := H3.out.2.1.trans (hc4.below H3.out.2.2 H3.out.2.1.size)
      have H4 := Lib.hid (And.intro hd4 b4)
      clear hd4 hc4 b4
      go_wp2_with fail
      refine (read_any H4.out.1 0 (by rw [torn_state old data torn HB.out.2.2.1, List.length_set, secs_len]; omega)).mono ?_
      rw [torn_read old data torn HB.out.2.2.1]
      rintro e w5 ⟨g5, rfl, hb5, hg5, hl5⟩
      have b5 := H4.out.2.trans (hl5.mono H4.out.2.size)
      have hR0 := HB.out.1.below b5 (Nat.le_refl _)
      have hR1 := HB.out.2.1.below b5 (Nat.le_refl _)
      have H5 := Lib.hid (And.intro hb5 (And.intro b5 (And.intro hR0 hR1)))
      clear hb5 hg5 hl5 b5 hR0 hR1
      go_wp2_with fail
      go_loop [10] (fun i => ToRel i) (fun i => 64 - (intOf i).toNat)
      case atStart => exact ⟨0, by omega, rfl⟩
      case round =>
        obtain ⟨k, hk, rfl⟩ := hrel
        by_cases hlt : k < 64
        · obtain ⟨ad, u, rfl, _, hu, cu⟩ := H5.out.2.2.1.at_ (k := k) (by omega)
          obtain ⟨ad', u', rfl, _, hu', cu'⟩ := H5.out.2.2.2.at_ (k := k) (by omega)
          obtain ⟨x, hx⟩ : ∃ x, old[k]? = some x := ⟨_, List.getElem?_eq_getElem (by rw [HB.out.2.2.1]; omega)⟩
          obtain ⟨x', hx'⟩ : ∃ x, data[k]? = some x := ⟨_, List.getElem?_eq_getElem (by rw [HB.out.2.2.2.1]; omega)⟩
          have hux : (cells old)[k]? = some (.int .u8 x) := by rw [cells, List.getElem?_map, hx]; rfl
          have hux' : (cells data)[k]? = some (.int .u8 x') := by rw [cells, List.getElem?_map, hx']; rfl
          rw [hux] at hu
          rw [hux'] at hu'
          obtain rfl := Option.some.inj hu
          obtain rfl := Option.some.inj hu'
          have hk0 : (0 : Int) ≤ (k : Int) := Int.natCast_nonneg _
          have hk1 : (k : Int) < 64 := by omega
          have ht := tear_get (old := old) (k := k) HB.out.2.2.2.1 (clamp_le torn 64)
          by_cases htk : (k : Int) < torn
          · have hc : k < clampN torn 64 := by unfold clampN; omega
            rw [if_pos hc, hx'] at ht
            have cb : w5.cell? ⟨g5, k, none⟩ = some (.int .u8 x') := H5.out.1.src k _ (by rw [cells, List.getElem?_map, ht]; rfl)
            clear hu hu' ht hx hx' hux hux' hc
            go_wp2
            go_round
            case rel => exact ⟨k + 1, by omega, by go_num⟩
            case measure => simp [intOf]; omega
          · have hc : ¬ k < clampN torn 64 := by unfold clampN; omega
            rw [if_neg hc, hx] at ht
            have cb : w5.cell? ⟨g5, k, none⟩ = some (.int .u8 x) := H5.out.1.src k _ (by rw [cells, List.getElem?_map, ht]; rfl)
            clear hu hu' ht hx hx' hux hux' hc
            go_wp2
            go_round
            case rel => exact ⟨k + 1, by omega, by go_num⟩
            case measure => simp [intOf]; omega
        · go_wp2
          go_ret
          exact ⟨rfl, H5.out.2.1⟩
    · have e2 : ¬ ((n' : Int) = 64) := by omega
      clear hr hr'
      go_enter Try.func7, Try.ntmps7
      go_wp2_with (go_at_call 9; refine (alive_any _).mono ?_; rintro e w1 ⟨rfl, h1⟩)
      go_ret
      exact ⟨rfl, h1⟩
  · have e2 : ¬ ((n : Int) = 64) := by omega
    clear hr hr'
    go_enter Try.func7, Try.ntmps7
    go_wp2_with (go_at_call 9; refine (alive_any _).mono ?_; rintro e w1 ⟨rfl, h1⟩)
    go_ret
    exact ⟨rfl, h1⟩

section
open Go.ChangeShapes Go.WideShapes Go.ChangeAt
open Go.ChangeMaps (open_string shut_string)
set_option linter.unusedVariables false
set_option maxRecDepth 100000 in
theorem diskTorn_lifted (os : Os) (started : os.Started) (H : Type) (enc : TypeId × Value → H) :
    ReturnsInHanded {} Try.checked os 7 .any (Rows.diskTornSpec.pre6 enc Try.prog Try.f7 Rows.diskTornRow.domain false) (Rows.diskTornSpec.post enc Try.prog Try.f7 false true false false) := by
  refine returnsInHanded_of_change (C := Try.checked) own started (by kernel_rfl) Try.func7
    (ChangeSpec.witness6 (enc := enc) (C := Try.checked) false ⟨#[], #[.slice none 0 0, .slice none 0 0, .int .i64 0], []⟩ 8 (by kernel_rfl) (by kernel_rfl) (by kernel_rfl) (by kernel_rfl)) ?_
  intro W base args ds gs before hval0 hW hcnd _
  have hval : ∀ (j : Nat) t v, Try.f7.params[j]? = some t → args[j]? = some v → Value.okWide Try.prog W .any base t v := hval0
  have hW' := hW
  obtain ⟨p, q, hA0, hV, rfl, hfz, hnd⟩ := hW
  have hA : DataW.TrodAll enc Try.prog W 0 (fun _ => true) true Try.f7.params.toList args.toList ds p := hA0
  rw [Try.params7] at hA hval
  obtain ⟨v0, vs0, d0, ds0, p0, q0, hargs, rfl, rfl, h0, r0⟩ := trodAll_cons hA
  obtain ⟨v1, vs1, d1, ds1, p1, q1, rfl, rfl, rfl, h1, r1⟩ := trodAll_cons r0
  obtain ⟨v2, vs2, d2, ds2, p2, q2, rfl, rfl, rfl, h2, r2⟩ := trodAll_cons r1
  obtain ⟨rfl, rfl, rfl⟩ := trodAll_nil r2
  obtain rfl : args = #[v0, v1, v2] := by cases args; simp_all
  obtain ⟨rfl, rfl⟩ := trodVars_none hV
  have k0 := h0
  have lt0 : ∀ x ∈ p0, x.block < W.heap.size := by obtain ⟨m, hm⟩ := k0; exact DataW.trod_lt m _ _ _ hm
  have k1 := h1
  have lt1 : ∀ x ∈ p1, x.block < W.heap.size := by obtain ⟨m, hm⟩ := k1; exact DataW.trod_lt m _ _ _ hm
  have k2 := h2
  have lt2 : ∀ x ∈ p2, x.block < W.heap.size := by obtain ⟨m, hm⟩ := k2; exact DataW.trod_lt m _ _ _ hm
  obtain ⟨a0, len0, cap0, rfl⟩ := okWide_slice Try.underlying33 (hval 0 33 v0 rfl rfl)
  obtain ⟨z0, r0x, w0, e0, l0, m0⟩ := rd_of_ints Try.underlying33 Try.underlying5 (by kernel_rfl) h0
  obtain ⟨a1, len1, cap1, rfl⟩ := okWide_slice Try.underlying33 (hval 1 33 v1 rfl rfl)
  obtain ⟨z1, r1x, w1, e1, l1, m1⟩ := rd_of_ints Try.underlying33 Try.underlying5 (by kernel_rfl) h1
  obtain ⟨a2, rfl, rfl, rfl, w2⟩ := open_int Try.underlying3 (hval 2 3 v2 rfl rfl) h2
  clear hA0 hval0
  refine (diskTorn_walk a0 len0 cap0 z0 a1 len1 cap1 z1 a2 W r0x w0 e0 l0 m0 r1x w1 e1 l1 m1 (bounds_i64 w2)).mono fun e W' ⟨he, bel⟩ => ?_
  subst he
  exact ⟨_, rfl, _, _, _, [], _, [], hW', trodAll_mk1 (shut_bool Try.underlying4 _), (trodAll_cons_mk (Below.trod laidOut (by kernel_rfl) (of_decide_eq_true (by kernel_rfl)) k0 bel lt0) (trodAll_cons_mk (Below.trod laidOut (by kernel_rfl) (of_decide_eq_true (by kernel_rfl)) k1 bel lt1) (trodAll_cons_mk (Below.trod laidOut (by kernel_rfl) (of_decide_eq_true (by kernel_rfl)) k2 bel lt2) trodAll_mk0))), rfl, bel.frame _, fun h => by cases h⟩

theorem diskTorn_over : Rows.diskTornRow.holds Try.pinned (OpenSpec.ofChange Rows.diskTornSpec) :=
  OpenClaim.holds_of_wide 7 Try.f7 rfl rfl rfl rfl rfl rfl rfl ⟨rfl, rfl, rfl, rfl, rfl⟩ rfl rfl rfl rfl rfl (by kernel_rfl) Try.func7 (by kernel_rfl)
    (of_decide_eq_true (by kernel_rfl)) (by unfold Func.isWrapper; first | (rw [if_pos (by decide +kernel)]; kernel_rfl) | (rw [if_neg (by decide +kernel)]; exact ⟨rfl, rfl⟩))
    (fun os started H enc _ => diskTorn_lifted os started H enc)

theorem diskTorn_holds : Rows.DiskTornSaid := diskTorn_over
end
#print axioms diskTorn_holds
end Go.Proofs.Ytbfgnjkkelknmaa
