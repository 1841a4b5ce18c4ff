/-
  LockFair over the contract.
-/
import Derived.Test.YthbbheegkhlniaaM24
import Derived.Test.YthbbheegkhlniaaM05
import Derived.Test.YthbbheegkhlniaaM23
import Derived.Test.YthbbheegkhlniaaM02
namespace Go.Proofs.Ythbbheegkhlniaa
open Go.RowKit Go.Lib

theorem neqTh_same (x : Th) (w : World) : (binOp .neq 29 (.agg #[.int .i64 x.k, .string x.t, .string x.y]) (.agg #[.int .i64 x.k, .string x.t, .string x.y])).run Try.prog w = .ok (.bool false) w := by
  have u3 := Try.underlying3
  have a3 := Try.isAgg3
  have z3 := Try.sizeOf3
  have u9 := Try.underlying9
  have a9 := Try.isAgg9
  have z9 := Try.sizeOf9
  have hS : Try.prog.underlying 29 = some (.struct (Try.prog.fieldsOf 29)) := by kernel_rfl
  have hp : Try.prog.stoodInHeld 29 = false := by kernel_rfl
  rw [run_neq_struct, show (10000 : Nat) = 9999 + 1 from rfl, run_equalIn_agg w 9999 29 _ _ hS hp]
  simp only [Program.fieldsOf, Try.underlying29]
  go_simp
theorem modeL_zero {H : List Od} {x : Int} (h : ∀ k ∈ H, k.x ≠ x) (t : Th) : modeL H x t = 0 := by
  unfold modeL
  cases hf : H.find? (isOf t x) with
  | none => rfl
  | some o => exact absurd (isOf_iff.1 (List.find?_some hf)).2 (h o (List.mem_of_find?_eq_some hf))
theorem th_ext {x y : Th} (h1 : x.k = y.k) (h2 : x.t.toList = y.t.toList) (h3 : x.y.toList = y.y.toList) : x = y := by
  have e2 := str_beq x.t y.t
  have e3 := str_beq x.y y.y
  rw [h2] at e2
  rw [h3] at e3
  have f2 : x.t = y.t := of_decide_eq_true (by rw [← e2]; simp)
  have f3 : x.y = y.y := of_decide_eq_true (by rw [← e3]; simp)
  obtain ⟨k, t, z⟩ := x
  obtain ⟨k', t', z'⟩ := y
  simp only at h1 f2 f3
  rw [h1, f2, f3]
theorem neqTh_not (x y : Th) (hne : ¬ x = y) (w : World) : (binOp .neq 29 (.agg #[.int .i64 x.k, .string x.t, .string x.y]) (.agg #[.int .i64 y.k, .string y.t, .string y.y])).run Try.prog w = .ok (.bool true) w := by
  have u3 := Try.underlying3
  have a3 := Try.isAgg3
  have z3 := Try.sizeOf3
  have u9 := Try.underlying9
  have a9 := Try.isAgg9
  have z9 := Try.sizeOf9
  have hS : Try.prog.underlying 29 = some (.struct (Try.prog.fieldsOf 29)) := by kernel_rfl
  have hp : Try.prog.stoodInHeld 29 = false := by kernel_rfl
  rw [run_neq_struct, show (10000 : Nat) = 9999 + 1 from rfl, run_equalIn_agg w 9999 29 _ _ hS hp]
  simp only [Program.fieldsOf, Try.underlying29]
  have hs1 := str_beq x.t y.t
  have hs2 := str_beq x.y y.y
  obtain ⟨k, t, z⟩ := x
  obtain ⟨k', t', z'⟩ := y
  simp only at hs1 hs2 ⊢
  go_simp
  by_cases h1 : k = k' <;> by_cases h2 : t = t' <;> by_cases h3 : z = z' <;> simp_all
set_option maxRecDepth 100000 in
set_option maxHeartbeats 25600000 in
theorem lfair_walk {T : LkP} (I : ImplL T) (t1 : Th) (m1 : Int) (t2 : Th) (m2 : Int) (A : Option Addr) (c : Nat) (cl : List Cl) (w : World) (ht1 : t1.In) (hm1 : NumI m1) (ht2 : t2.In) (hm2 : NumI m2) (hc : RowG clC 6 w w.heap.size A cl) (hin : ∀ x ∈ cl, x.In) (hl : cl.length ≤ c) (hm : c ≤ maxLen) :
    Says Try.prog 5 #[wantV t1 m1, wantV t2 m2, .slice A cl.length c] w (.bool true) := by
  obtain ⟨wa, hwa⟩ : ∃ wa, wa = w.alloc (.cells #[.int .i64 t1.k, .string t1.t, .string t1.y, .int .i64 m1] 31) := ⟨_, rfl⟩
  obtain ⟨w0, hw0⟩ : ∃ w0, w0 = wa.alloc (.cells #[.int .i64 t2.k, .string t2.t, .string t2.y, .int .i64 m2] 31) := ⟨_, rfl⟩
  have hsa : wa.heap.size = w.heap.size + 1 := by rw [hwa]; simp
  have hba : Below w.heap.size w wa := by rw [hwa]; exact (Below.refl _ w).alloc (Nat.le_refl _) _
  have hb0 : Below w.heap.size w w0 := by rw [hw0]; exact hba.alloc (by omega) _
  obtain ⟨b1, hb1⟩ : ∃ b, b = w.heap.size := ⟨_, rfl⟩
  obtain ⟨b2, hb2⟩ : ∃ b, b = w.heap.size + 1 := ⟨_, rfl⟩
  have k1 : Blk w0 b1 31 #[.int .i64 t1.k, .string t1.t, .string t1.y, .int .i64 m1] := by
    have h9 : Blk wa b1 31 #[.int .i64 t1.k, .string t1.t, .string t1.y, .int .i64 m1] := by rw [hwa, hb1]; exact Blk.new w _ _
    rw [hw0]
    exact h9.alloc _
  have k2 : Blk w0 b2 31 #[.int .i64 t2.k, .string t2.t, .string t2.y, .int .i64 m2] := by rw [hw0, hb2, ← hsa]; exact Blk.new wa _ _
  have H := Lib.hid (And.intro ((hc.below hb0 (Nat.le_refl _)).more hb0.size) (And.intro hin (Nat.le_trans hl hm)))
  have HW := Lib.hid (And.intro (And.intro hwa hw0) (And.intro k1 (And.intro k2 hb0)))
  have HAL := Lib.hid fun (w : World) => alive11_any I w
  have HP := Lib.hid (And.intro (And.intro ht1 hm1) (And.intro ht2 hm2))
  clear hc hin hl hm hwa hw0 hsa hba hb0 k1 k2 ht1 hm1 ht2 hm2
  go_enter Try.func5, Try.ntmps5
  go_upto_region 1 with fail
  rw [← HW.out.1.1, ← HW.out.1.2]
  rw [← hb2, ← hb1]
  clear hb1 hb2
  go_wp2_with fail
  refine (HAL.out w0).mono ?_
  rintro e w1 ⟨rfl, hb1⟩
  have H1 := Lib.hid hb1
  clear hb1
  have f0 : w1.cell? ⟨b1, 0, none⟩ = some (.int .i64 t1.k) := ((H1.out).cell (p := ⟨b1, 0, none⟩) HW.out.2.1.lt).trans (HW.out.2.1.cell 0)
  have f1 : w1.cell? ⟨b1, 1, none⟩ = some (.string t1.t) := ((H1.out).cell (p := ⟨b1, 1, none⟩) HW.out.2.1.lt).trans (HW.out.2.1.cell 1)
  have f2 : w1.cell? ⟨b1, 2, none⟩ = some (.string t1.y) := ((H1.out).cell (p := ⟨b1, 2, none⟩) HW.out.2.1.lt).trans (HW.out.2.1.cell 2)
  have f3 : w1.cell? ⟨b1, 3, none⟩ = some (.int .i64 m1) := ((H1.out).cell (p := ⟨b1, 3, none⟩) HW.out.2.1.lt).trans (HW.out.2.1.cell 3)
  have s0 : w1.cell? ⟨b2, 0, none⟩ = some (.int .i64 t2.k) := ((H1.out).cell (p := ⟨b2, 0, none⟩) HW.out.2.2.1.lt).trans (HW.out.2.2.1.cell 0)
  have s1 : w1.cell? ⟨b2, 1, none⟩ = some (.string t2.t) := ((H1.out).cell (p := ⟨b2, 1, none⟩) HW.out.2.2.1.lt).trans (HW.out.2.2.1.cell 1)
  have s2 : w1.cell? ⟨b2, 2, none⟩ = some (.string t2.y) := ((H1.out).cell (p := ⟨b2, 2, none⟩) HW.out.2.2.1.lt).trans (HW.out.2.2.1.cell 2)
  have s3 : w1.cell? ⟨b2, 3, none⟩ = some (.int .i64 m2) := ((H1.out).cell (p := ⟨b2, 3, none⟩) HW.out.2.2.1.lt).trans (HW.out.2.2.1.cell 3)
  go_wp2_with fail
  refine (great11_any A c cl w1 w0.heap.size (H.out.1.below H1.out (Nat.le_refl _))).mono ?_
  rintro e w1' ⟨rfl, rfl | ⟨rfl, hfew⟩⟩
  · go_wp2_with fail
    go_ret
    exact ⟨by first | rfl | simp, HW.out.2.2.2.trans (H1.out.mono HW.out.2.2.2.size)⟩
  obtain ⟨n, hn⟩ : ∃ n, n = cl.length := ⟨_, rfl⟩
  have hn120 : n ≤ 120 := by rw [hn]; exact hfew
  have hn0 : (0 : Int) ≤ (n : Int) := Int.natCast_nonneg _
  rw [← hn]
  have HN := Lib.hid hn
  clear hn hfew
  cases hcf : cfB m1 m2 with
  | false =>
    have HCF := Lib.hid hcf
    clear hcf
    go_wp2_with (go_at_call 15; refine (rconf_any m1 m2 _).mono ?_; rw [HCF.out]; rintro e w3 ⟨rfl, hb3⟩; have H3 := Lib.hid (H1.out.trans (hb3.mono H1.out.size)); clear hb3)
    go_ret
    exact ⟨by first | rfl | simp, HW.out.2.2.2.trans (H3.out.mono HW.out.2.2.2.size)⟩
  | true =>
    have HCF := Lib.hid hcf
    clear hcf
    by_cases heq : t1 = t2
    · subst heq
      have hne := neqTh_same t1
      have HNE := Lib.hid hne
      clear hne
      go_wp2_with (go_at_call 15; refine (rconf_any m1 m2 _).mono ?_; rw [HCF.out]; rintro e w3 ⟨rfl, hb3⟩; have H3 := Lib.hid (H1.out.trans (hb3.mono H1.out.size)); clear hb3 f0 f1 f2 f3 s0 s1 s2 s3; have f0 : w3.cell? ⟨b1, 0, none⟩ = some (.int .i64 t1.k) := ((H3.out).cell (p := ⟨b1, 0, none⟩) HW.out.2.1.lt).trans (HW.out.2.1.cell 0); have f1 : w3.cell? ⟨b1, 1, none⟩ = some (.string t1.t) := ((H3.out).cell (p := ⟨b1, 1, none⟩) HW.out.2.1.lt).trans (HW.out.2.1.cell 1); have f2 : w3.cell? ⟨b1, 2, none⟩ = some (.string t1.y) := ((H3.out).cell (p := ⟨b1, 2, none⟩) HW.out.2.1.lt).trans (HW.out.2.1.cell 2); have f3 : w3.cell? ⟨b1, 3, none⟩ = some (.int .i64 m1) := ((H3.out).cell (p := ⟨b1, 3, none⟩) HW.out.2.1.lt).trans (HW.out.2.1.cell 3); have s0 : w3.cell? ⟨b2, 0, none⟩ = some (.int .i64 t1.k) := ((H3.out).cell (p := ⟨b2, 0, none⟩) HW.out.2.2.1.lt).trans (HW.out.2.2.1.cell 0); have s1 : w3.cell? ⟨b2, 1, none⟩ = some (.string t1.t) := ((H3.out).cell (p := ⟨b2, 1, none⟩) HW.out.2.2.1.lt).trans (HW.out.2.2.1.cell 1); have s2 : w3.cell? ⟨b2, 2, none⟩ = some (.string t1.y) := ((H3.out).cell (p := ⟨b2, 2, none⟩) HW.out.2.2.1.lt).trans (HW.out.2.2.1.cell 2); have s3 : w3.cell? ⟨b2, 3, none⟩ = some (.int .i64 m2) := ((H3.out).cell (p := ⟨b2, 3, none⟩) HW.out.2.2.1.lt).trans (HW.out.2.2.1.cell 3); have hne := HNE.out w3)
      refine (I.new w3 w0.heap.size H3.out.size).mono ?_
      rintro e w4 ⟨tb, D, rfl, ht4, _, hb4⟩
      have H4 := Lib.hid (show Te T w0 w4 tb ⟨[], []⟩ from ⟨D, ht4, H3.out.trans (hb4.mono H3.out.size)⟩)
      clear ht4 hb4 hne f0 f1 f2 f3 s0 s1 s2 s3
      go_wp2_with fail
      go_loopw [8] (fun i wr => ∃ k : Nat, k ≤ n ∧ i = .int .i64 k ∧ Te T w0 wr tb (runL cl k) ∧ ∀ j (h : j < cl.length), j < k → cl[j].x ≠ 1001 ∧ cl[j].x ≠ 1002) (fun i _ => n - (intOf i).toNat)
      case atStart => exact ⟨0, by omega, rfl, by rw [run_zero]; exact H4.out, fun j _ hj => absurd hj (by omega)⟩
      case round =>
        obtain ⟨k, hk, rfl, hT, hno⟩ := hrel
        have HT := Lib.hid hT
        have hk0 : (0 : Int) ≤ (k : Int) := Int.natCast_nonneg _
        clear hT
        by_cases hlt : k < n
        · have hlt1 : (k : Int) < (n : Int) := by omega
          have hkl : k < cl.length := by rw [← HN.out]; exact hlt
          obtain ⟨ad, rfl, _, d0, d1, d2, d3, d4, d5⟩ := cl_at (H.out.1.below HT.out.low (Nat.le_refl _)) hkl
          have hxi := H.out.2.1 cl[k] (List.getElem_mem hkl)
          obtain ⟨x, hx⟩ : ∃ x, x = cl[k] := ⟨_, rfl⟩
          rw [← hx] at d0 d1 d2 d3 d4 d5 hxi
          have hsz := run_sz cl k (by rw [← HN.out]; exact hk)
          have HX := Lib.hid (And.intro hx (And.intro hxi (And.intro (show szL (runL cl k) ≤ 1000 by omega) (And.intro hkl hno))))
          clear hx hxi hsz hno
          by_cases g1 : x.x = 1001
          · have g1q : (x.x == 1001) = true := by simp [g1]
            go_wp2_with fail
            go_ret
            exact ⟨by first | rfl | simp, HW.out.2.2.2.trans (HT.out.low.mono HW.out.2.2.2.size)⟩
          · have g1q : (x.x == 1001) = false := by simp [g1]
            by_cases g2 : x.x = 1002
            · have g2q : (x.x == 1002) = true := by simp [g2]
              go_wp2_with fail
              go_ret
              exact ⟨by first | rfl | simp, HW.out.2.2.2.trans (HT.out.low.mono HW.out.2.2.2.size)⟩
            · have g2q : (x.x == 1002) = false := by simp [g2]
              go_wp2_with (go_at_call 13; refine (do_any I HT.out HX.out.2.2.1 x HX.out.2.1).mono ?_; rintro e w5 ⟨rfl, h5⟩; have H5 := Lib.hid h5; clear h5)
              go_roundw
              case rel => exact ⟨k + 1, by omega, by go_num, by rw [run_succ HX.out.2.2.2.1, ← HX.out.1]; exact H5.out, fun j hj hjk => by
                rcases Nat.lt_or_ge j k with h1 | h1
                · exact HX.out.2.2.2.2 j hj h1
                · obtain rfl : j = k := by omega
                  rw [← HX.out.1]; exact ⟨g1, g2⟩⟩
              case measure => simp [intOf]; omega
        · have hlt1 : ¬ (k : Int) < (n : Int) := by omega
          have hkn : k = cl.length := by rw [← HN.out]; omega
          subst hkn
          have hdead : ∀ y, Lives (runL cl cl.length) y → ∃ c ∈ cl, c.x = y := fun y hy => run_lives cl _ (Nat.le_refl _) hy
          have hd1 : ¬ Lives (runL cl cl.length) 1001 := fun h9 => by
            obtain ⟨c, hc, e⟩ := hdead _ h9
            obtain ⟨j, hj, rfl⟩ := List.mem_iff_getElem.1 hc
            exact (hno j hj hj).1 e
          have hd2 : ¬ Lives (runL cl cl.length) 1002 := fun h9 => by
            obtain ⟨c, hc, e⟩ := hdead _ h9
            obtain ⟨j, hj, rfl⟩ := List.mem_iff_getElem.1 hc
            exact (hno j hj hj).2 e
          have hsz := run_sz cl cl.length (Nat.le_refl _)
          obtain ⟨l, hl⟩ : ∃ l, l = runL cl cl.length := ⟨_, rfl⟩
          rw [← hl] at hdead hd1 hd2 hsz HT
          have hnn := HN.out
          have HL := Lib.hid (And.intro (show szL l ≤ 120 by omega) (And.intro hdead (And.intro hd1 (And.intro hd2 hno))))
          clear hdead hd1 hd2 hsz hl hno hnn
          have f0 : wr.cell? ⟨b1, 0, none⟩ = some (.int .i64 t1.k) := ((HT.out.low).cell (p := ⟨b1, 0, none⟩) HW.out.2.1.lt).trans (HW.out.2.1.cell 0)
          have f1 : wr.cell? ⟨b1, 1, none⟩ = some (.string t1.t) := ((HT.out.low).cell (p := ⟨b1, 1, none⟩) HW.out.2.1.lt).trans (HW.out.2.1.cell 1)
          have f2 : wr.cell? ⟨b1, 2, none⟩ = some (.string t1.y) := ((HT.out.low).cell (p := ⟨b1, 2, none⟩) HW.out.2.1.lt).trans (HW.out.2.1.cell 2)
          have f3 : wr.cell? ⟨b1, 3, none⟩ = some (.int .i64 m1) := ((HT.out.low).cell (p := ⟨b1, 3, none⟩) HW.out.2.1.lt).trans (HW.out.2.1.cell 3)
          have s0 : wr.cell? ⟨b2, 0, none⟩ = some (.int .i64 t1.k) := ((HT.out.low).cell (p := ⟨b2, 0, none⟩) HW.out.2.2.1.lt).trans (HW.out.2.2.1.cell 0)
          have s1 : wr.cell? ⟨b2, 1, none⟩ = some (.string t1.t) := ((HT.out.low).cell (p := ⟨b2, 1, none⟩) HW.out.2.2.1.lt).trans (HW.out.2.2.1.cell 1)
          have s2 : wr.cell? ⟨b2, 2, none⟩ = some (.string t1.y) := ((HT.out.low).cell (p := ⟨b2, 2, none⟩) HW.out.2.2.1.lt).trans (HW.out.2.2.1.cell 2)
          have s3 : wr.cell? ⟨b2, 3, none⟩ = some (.int .i64 m2) := ((HT.out.low).cell (p := ⟨b2, 3, none⟩) HW.out.2.2.1.lt).trans (HW.out.2.2.1.cell 3)
          obtain ⟨a, ha⟩ : ∃ a, a = (askL l 1001 t1 m1).2.1 := ⟨_, rfl⟩
          obtain ⟨e1, he1⟩ : ∃ e1, e1 = (askL l 1001 t1 m1).2.2 := ⟨_, rfl⟩
          have HA := Lib.hid (And.intro ha he1)
          clear ha he1
          go_upto_region 13 with (go_at_call 20; refine (HT.out.ask I 1001 t1 m1 (by have := HL.out.1; omega) (by unfold NumI; decide) HP.out.1.1 HP.out.1.2).mono ?_; rw [← HA.out.1, ← HA.out.2]; rintro e w6 ⟨rfl, h6⟩; have H6 := Lib.hid h6; clear h6)
          clear f0 f1 f2 f3 s0 s1 s2 s3
          have f0 : w6.cell? ⟨b1, 0, none⟩ = some (.int .i64 t1.k) := ((H6.out.low).cell (p := ⟨b1, 0, none⟩) HW.out.2.1.lt).trans (HW.out.2.1.cell 0)
          have f1 : w6.cell? ⟨b1, 1, none⟩ = some (.string t1.t) := ((H6.out.low).cell (p := ⟨b1, 1, none⟩) HW.out.2.1.lt).trans (HW.out.2.1.cell 1)
          have f2 : w6.cell? ⟨b1, 2, none⟩ = some (.string t1.y) := ((H6.out.low).cell (p := ⟨b1, 2, none⟩) HW.out.2.1.lt).trans (HW.out.2.1.cell 2)
          have f3 : w6.cell? ⟨b1, 3, none⟩ = some (.int .i64 m1) := ((H6.out.low).cell (p := ⟨b1, 3, none⟩) HW.out.2.1.lt).trans (HW.out.2.1.cell 3)
          have s0 : w6.cell? ⟨b2, 0, none⟩ = some (.int .i64 t1.k) := ((H6.out.low).cell (p := ⟨b2, 0, none⟩) HW.out.2.2.1.lt).trans (HW.out.2.2.1.cell 0)
          have s1 : w6.cell? ⟨b2, 1, none⟩ = some (.string t1.t) := ((H6.out.low).cell (p := ⟨b2, 1, none⟩) HW.out.2.2.1.lt).trans (HW.out.2.2.1.cell 1)
          have s2 : w6.cell? ⟨b2, 2, none⟩ = some (.string t1.y) := ((H6.out.low).cell (p := ⟨b2, 2, none⟩) HW.out.2.2.1.lt).trans (HW.out.2.2.1.cell 2)
          have s3 : w6.cell? ⟨b2, 3, none⟩ = some (.int .i64 m2) := ((H6.out.low).cell (p := ⟨b2, 3, none⟩) HW.out.2.2.1.lt).trans (HW.out.2.2.1.cell 3)
          obtain ⟨l1, hl1⟩ : ∃ l1, l1 = (askL l 1001 t1 m1).1 := ⟨_, rfl⟩
          rw [← hl1] at H6
          obtain ⟨b, hbb⟩ : ∃ b, b = (askL l1 1002 t1 m2).2.1 := ⟨_, rfl⟩
          obtain ⟨e2, he2⟩ : ∃ e2, e2 = (askL l1 1002 t1 m2).2.2 := ⟨_, rfl⟩
          have hs1 := ask_sz l 1001 t1 m1
          rw [← hl1] at hs1
          have HB := Lib.hid (And.intro hbb (And.intro he2 (And.intro hl1 hs1)))
          clear hbb he2 hl1 hs1
          go_upto_region 14 with (go_at_call 20; refine (H6.out.ask I 1002 t1 m2 (by have := HL.out.1; have := HB.out.2.2.2; omega) (by unfold NumI; decide) HP.out.1.1 HP.out.2.2).mono ?_; rw [← HB.out.1, ← HB.out.2.1]; rintro e w7 ⟨rfl, h7⟩; have H7 := Lib.hid h7; clear h7)
          clear f0 f1 f2 f3 s0 s1 s2 s3
          by_cases z1 : e1 = 0
          · by_cases z2 : e2 = 0
            · have hf := fair_asks (HT.out.ok I) (show (1001 : Int) ≠ 1002 by decide) HCF.out HL.out.2.2.1 HL.out.2.2.2.1 (t := t1) (by rw [← HA.out.2]; exact z1) (by rw [← HB.out.2.2.1, ← HB.out.2.1]; exact z2)
              rw [← HB.out.2.2.1, ← HB.out.1, ← HA.out.1] at hf
              have hb0 := hf.1
              subst hb0
              subst z1
              subst z2
              cases a with
              | true =>
                clear hf
                go_wp2_with fail
                go_ret
                exact ⟨by first | rfl | simp, HW.out.2.2.2.trans (H7.out.low.mono HW.out.2.2.2.size)⟩
              | false =>
                have hfair := hf.2 rfl
                obtain ⟨l2, hl2⟩ : ∃ l2, l2 = (askL l1 1002 t1 m2).1 := ⟨_, rfl⟩
                have hs2 := ask_sz l1 1002 t1 m2
                have hok1 := H6.out.ok I
                have hlive : ∀ y, Lives l2 y → (y = 1001 ∨ y = 1002) ∨ ∃ c ∈ cl, c.x = y := fun y hy => by
                  rw [hl2] at hy
                  rcases ask_lives hok1 hy with hy | hy
                  · rw [HB.out.2.2.1] at hy
                    rcases ask_lives (HT.out.ok I) hy with hy | hy
                    · exact .inr (HL.out.2.1 y hy)
                    · exact .inl (.inl hy)
                  · exact .inl (.inr hy)
                rw [← hl2] at hfair hs2 H7
                have HF := Lib.hid (And.intro hfair (And.intro (show szL l2 ≤ 1000 by have := HL.out.1; have := HB.out.2.2.2; omega) hlive))
                clear hf hfair hs2 hl2 hok1 hlive
                go_wp2_with fail
                go_loopw [13] (fun i wx => ∃ (k : Nat) (l' : Lk), k ≤ n ∧ i = .int .i64 k ∧ Te T w0 wx tb l' ∧ szL l' ≤ 1000 ∧ Fair ⟨t1, 1001, m1⟩ ⟨t1, 1002, m2⟩ l'.H l'.W ∧ (∀ y, Lives l' y → (y = 1001 ∨ y = 1002) ∨ ∃ c ∈ cl, c.x = y) ∧ ∀ j (h : j < cl.length), j < k → ¬ Lives l' cl[j].x) (fun i _ => n - (intOf i).toNat)
                case atStart => exact ⟨0, l2, by omega, rfl, H7.out, HF.out.2.1, HF.out.1, HF.out.2.2, fun j _ hj => absurd hj (by omega)⟩
                case round =>
                  obtain ⟨k, l', hk, rfl, hT, hs, hfr, hlv, hgn⟩ := hrel
                  have HT9 := Lib.hid hT
                  have hk0 : (0 : Int) ≤ (k : Int) := Int.natCast_nonneg _
                  have hok9 := hT.ok I
                  clear hT
                  by_cases hlt9 : k < n
                  · have hlt91 : (k : Int) < (n : Int) := by omega
                    have hkl : k < cl.length := by rw [← HN.out]; exact hlt9
                    obtain ⟨ad, hAd, _, _, d1, _⟩ := cl_at (H.out.1.below HT9.out.low (Nat.le_refl _)) hkl
                    subst hAd
                    have hxn : NumI cl[k].x := (H.out.2.1 _ (List.getElem_mem hkl)).2.1
                    have hxne := HL.out.2.2.2.2 k hkl hkl
                    obtain ⟨z, hz⟩ : ∃ z, z = cl[k].x := ⟨_, rfl⟩
                    rw [← hz] at d1 hxn hxne
                    have hfr2 := Fair.release (o1 := ⟨t1, 1001, m1⟩) (o2 := ⟨t1, 1002, m2⟩) rfl (show (1001 : Int) ≠ 1002 by decide) HCF.out hok9 hfr (x := z) hxne.1 hxne.2
                    have hno2 : modeL (releaseL l' z).1.H 1002 t1 = 0 := modeL_zero hfr2.no t1
                    have HZ := Lib.hid (And.intro hxn (And.intro hs (And.intro hfr2 (And.intro (Nat.le_trans (release_sz l' z) hs) (And.intro (show ∀ y, Lives (releaseL l' z).1 y → (y = 1001 ∨ y = 1002) ∨ ∃ c ∈ cl, c.x = y from fun y hy => hlv y (release_lives hok9 hy).1) (And.intro hno2 (show ∀ j (h : j < cl.length), j < k + 1 → ¬ Lives (releaseL l' z).1 cl[j].x from fun j hj hjk h9 => by
                      have h1 := release_lives hok9 h9
                      rcases Nat.lt_or_ge j k with h2 | h2
                      · exact hgn j hj h2 h1.1
                      · obtain rfl : j = k := by omega
                        exact h1.2 hz.symm)))))))
                    clear hxn hs hfr hfr2 hno2 hlv hgn hz hxne hok9
                    go_upto_region 24 with (go_at_call 17; refine (HT9.out.release I z HZ.out.2.1 HZ.out.1).mono ?_; rintro e w10 ⟨v, rfl, _, h10⟩; have H10 := Lib.hid h10; clear h10)
                    clear d1
                    have f0 : w10.cell? ⟨b1, 0, none⟩ = some (.int .i64 t1.k) := ((H10.out.low).cell (p := ⟨b1, 0, none⟩) HW.out.2.1.lt).trans (HW.out.2.1.cell 0)
                    have f1 : w10.cell? ⟨b1, 1, none⟩ = some (.string t1.t) := ((H10.out.low).cell (p := ⟨b1, 1, none⟩) HW.out.2.1.lt).trans (HW.out.2.1.cell 1)
                    have f2 : w10.cell? ⟨b1, 2, none⟩ = some (.string t1.y) := ((H10.out.low).cell (p := ⟨b1, 2, none⟩) HW.out.2.1.lt).trans (HW.out.2.1.cell 2)
                    have f3 : w10.cell? ⟨b1, 3, none⟩ = some (.int .i64 m1) := ((H10.out.low).cell (p := ⟨b1, 3, none⟩) HW.out.2.1.lt).trans (HW.out.2.1.cell 3)
                    have s0 : w10.cell? ⟨b2, 0, none⟩ = some (.int .i64 t1.k) := ((H10.out.low).cell (p := ⟨b2, 0, none⟩) HW.out.2.2.1.lt).trans (HW.out.2.2.1.cell 0)
                    have s1 : w10.cell? ⟨b2, 1, none⟩ = some (.string t1.t) := ((H10.out.low).cell (p := ⟨b2, 1, none⟩) HW.out.2.2.1.lt).trans (HW.out.2.2.1.cell 1)
                    have s2 : w10.cell? ⟨b2, 2, none⟩ = some (.string t1.y) := ((H10.out.low).cell (p := ⟨b2, 2, none⟩) HW.out.2.2.1.lt).trans (HW.out.2.2.1.cell 2)
                    have s3 : w10.cell? ⟨b2, 3, none⟩ = some (.int .i64 m2) := ((H10.out.low).cell (p := ⟨b2, 3, none⟩) HW.out.2.2.1.lt).trans (HW.out.2.2.1.cell 3)
                    go_wp2_with (go_at_call 21; refine (H10.out.mode I 1002 t1 HZ.out.2.2.2.1 (by unfold NumI; decide) HP.out.1.1).mono ?_; rw [HZ.out.2.2.2.2.2.1]; rintro e w11 ⟨rfl, h11⟩; have H11 := Lib.hid h11; clear h11)
                    go_roundw
                    case rel => exact ⟨k + 1, _, by omega, by go_num, H11.out, HZ.out.2.2.2.1, HZ.out.2.2.1, HZ.out.2.2.2.2.1, HZ.out.2.2.2.2.2.2⟩
                    case measure => simp [intOf]; omega
                  · have hlt91 : ¬ (k : Int) < (n : Int) := by omega
                    have hkn9 : k = cl.length := by rw [← HN.out]; omega
                    have hlast := hfr.last hok9 fun y hy => by
                      rcases hlv y hy with h9 | ⟨c, hc, e⟩
                      · exact h9
                      · obtain ⟨j, hj, rfl⟩ := List.mem_iff_getElem.1 hc
                        exact absurd (e ▸ hy) (hgn j hj (by rw [hkn9]; exact hj))
                    have hmode : modeL l'.H 1001 t1 = m1 := modeL_some hok9.h.apart hlast
                    have hm0 : ¬ m1 = 0 := fun e => by have h9 := cf_l HCF.out; rw [e] at h9; exact absurd h9 (by decide)
                    have hmq : (m1 != 0) = true := by simp [hm0]
                    have HM := Lib.hid (And.intro hmode hs)
                    clear hs hfr hlv hgn hlast hmode hok9
                    have f0 : wr.cell? ⟨b1, 0, none⟩ = some (.int .i64 t1.k) := ((HT9.out.low).cell (p := ⟨b1, 0, none⟩) HW.out.2.1.lt).trans (HW.out.2.1.cell 0)
                    have f1 : wr.cell? ⟨b1, 1, none⟩ = some (.string t1.t) := ((HT9.out.low).cell (p := ⟨b1, 1, none⟩) HW.out.2.1.lt).trans (HW.out.2.1.cell 1)
                    have f2 : wr.cell? ⟨b1, 2, none⟩ = some (.string t1.y) := ((HT9.out.low).cell (p := ⟨b1, 2, none⟩) HW.out.2.1.lt).trans (HW.out.2.1.cell 2)
                    have f3 : wr.cell? ⟨b1, 3, none⟩ = some (.int .i64 m1) := ((HT9.out.low).cell (p := ⟨b1, 3, none⟩) HW.out.2.1.lt).trans (HW.out.2.1.cell 3)
                    have s0 : wr.cell? ⟨b2, 0, none⟩ = some (.int .i64 t1.k) := ((HT9.out.low).cell (p := ⟨b2, 0, none⟩) HW.out.2.2.1.lt).trans (HW.out.2.2.1.cell 0)
                    have s1 : wr.cell? ⟨b2, 1, none⟩ = some (.string t1.t) := ((HT9.out.low).cell (p := ⟨b2, 1, none⟩) HW.out.2.2.1.lt).trans (HW.out.2.2.1.cell 1)
                    have s2 : wr.cell? ⟨b2, 2, none⟩ = some (.string t1.y) := ((HT9.out.low).cell (p := ⟨b2, 2, none⟩) HW.out.2.2.1.lt).trans (HW.out.2.2.1.cell 2)
                    have s3 : wr.cell? ⟨b2, 3, none⟩ = some (.int .i64 m2) := ((HT9.out.low).cell (p := ⟨b2, 3, none⟩) HW.out.2.2.1.lt).trans (HW.out.2.2.1.cell 3)
                    go_wp2_with (go_at_call 21; refine (HT9.out.mode I 1001 t1 HM.out.2 (by unfold NumI; decide) HP.out.1.1).mono ?_; rw [HM.out.1]; rintro e w11 ⟨rfl, h11⟩; have H11 := Lib.hid h11; clear h11)
                    go_ret
                    exact ⟨by first | rfl | simp, HW.out.2.2.2.trans (H11.out.low.mono HW.out.2.2.2.size)⟩
            · have z2q : (e2 != 0) = true := by simp [z2]
              have z1q : (e1 != 0) = false := by simp [z1]
              go_wp2_with fail
              go_ret
              exact ⟨by first | rfl | simp, HW.out.2.2.2.trans (H7.out.low.mono HW.out.2.2.2.size)⟩
          · have z1q : (e1 != 0) = true := by simp [z1]
            go_wp2_with fail
            go_ret
            exact ⟨by first | rfl | simp, HW.out.2.2.2.trans (H7.out.low.mono HW.out.2.2.2.size)⟩
    · have hne := neqTh_not t1 t2 heq
      have HNE := Lib.hid hne
      clear hne
      go_wp2_with (go_at_call 15; refine (rconf_any m1 m2 _).mono ?_; rw [HCF.out]; rintro e w3 ⟨rfl, hb3⟩; have H3 := Lib.hid (H1.out.trans (hb3.mono H1.out.size)); clear hb3 f0 f1 f2 f3 s0 s1 s2 s3; have f0 : w3.cell? ⟨b1, 0, none⟩ = some (.int .i64 t1.k) := ((H3.out).cell (p := ⟨b1, 0, none⟩) HW.out.2.1.lt).trans (HW.out.2.1.cell 0); have f1 : w3.cell? ⟨b1, 1, none⟩ = some (.string t1.t) := ((H3.out).cell (p := ⟨b1, 1, none⟩) HW.out.2.1.lt).trans (HW.out.2.1.cell 1); have f2 : w3.cell? ⟨b1, 2, none⟩ = some (.string t1.y) := ((H3.out).cell (p := ⟨b1, 2, none⟩) HW.out.2.1.lt).trans (HW.out.2.1.cell 2); have f3 : w3.cell? ⟨b1, 3, none⟩ = some (.int .i64 m1) := ((H3.out).cell (p := ⟨b1, 3, none⟩) HW.out.2.1.lt).trans (HW.out.2.1.cell 3); have s0 : w3.cell? ⟨b2, 0, none⟩ = some (.int .i64 t2.k) := ((H3.out).cell (p := ⟨b2, 0, none⟩) HW.out.2.2.1.lt).trans (HW.out.2.2.1.cell 0); have s1 : w3.cell? ⟨b2, 1, none⟩ = some (.string t2.t) := ((H3.out).cell (p := ⟨b2, 1, none⟩) HW.out.2.2.1.lt).trans (HW.out.2.2.1.cell 1); have s2 : w3.cell? ⟨b2, 2, none⟩ = some (.string t2.y) := ((H3.out).cell (p := ⟨b2, 2, none⟩) HW.out.2.2.1.lt).trans (HW.out.2.2.1.cell 2); have s3 : w3.cell? ⟨b2, 3, none⟩ = some (.int .i64 m2) := ((H3.out).cell (p := ⟨b2, 3, none⟩) HW.out.2.2.1.lt).trans (HW.out.2.2.1.cell 3); have hne := HNE.out w3)
      all_goals first
        | (exfalso; exact heq (th_ext (by assumption) (by assumption) (by assumption)))
        | (go_ret; exact ⟨by first | rfl | simp, HW.out.2.2.2.trans (H3.out.mono HW.out.2.2.2.size)⟩)
end Go.Proofs.Ythbbheegkhlniaa

/-
  LockApart's two locks of the program beside one another; do.
-/
namespace Go.Proofs.Ythbbheegkhlniaa
open Go.RowKit Go.Lib

/-- two locks of the program, apart -/
def Tp (T : LkP) (w0 w : World) (ta : Nat) (la : Lk) (tb : Nat) (lb : Lk) : Prop := ∃ Da Db, T w0.heap.size Da w ta la ∧ T w0.heap.size Db w tb lb ∧ (∀ k, Da k → ¬ Db k) ∧ Below w0.heap.size w0 w
theorem Tp.swap {T : LkP} {w0 w : World} {ta tb : Nat} {la lb : Lk} (h : Tp T w0 w ta la tb lb) : Tp T w0 w tb lb ta la := by
  obtain ⟨Da, Db, h1, h2, h3, h4⟩ := h
  exact ⟨Db, Da, h2, h1, fun k hk hk' => h3 k hk' hk, h4⟩
theorem Tp.low {T : LkP} {w0 w : World} {ta tb : Nat} {la lb : Lk} (h : Tp T w0 w ta la tb lb) : Below w0.heap.size w0 w := by
  obtain ⟨_, _, _, _, _, h⟩ := h
  exact h
section
variable {T : LkP} (I : ImplL T) {w0 w w' : World} {ta tb : Nat} {la lb l' : Lk}
include I
theorem Tp.okA (h : Tp T w0 w ta la tb lb) : LkOk la := by
  obtain ⟨Da, Db, h1, h2, h3, h4⟩ := h
  exact I.ok h1
theorem Tp.below (h : Tp T w0 w ta la tb lb) (hb : Below w.heap.size w w') : Tp T w0 w' ta la tb lb := by
  obtain ⟨Da, Db, h1, h2, h3, h4⟩ := h
  exact ⟨Da, Db, I.below h1 hb, I.below h2 hb, h3, h4.trans (hb.mono h4.size)⟩
theorem Tp.step {D Db : Nat → Prop} (h1 : T w0.heap.size D w ta la) (h2 : T w0.heap.size Db w tb lb) (h3 : ∀ k, D k → ¬ Db k) (h4 : Below w0.heap.size w0 w) (ht : T w0.heap.size (Ext D w w') w' ta l') (hc : Chg D w w') : Tp T w0 w' ta l' tb lb := by
  refine ⟨_, Db, ht, I.chg h2 hc (fun k hk hk' => h3 k hk' hk), fun k hk hkb => ?_, h4.trans (hc.below (fun _ hk => (I.foot h1 hk).1) h4.size)⟩
  have hf := (I.foot h2 hkb).2
  rcases hk with hk | hk
  · exact h3 k hk hkb
  · omega
theorem Tp.ask (h : Tp T w0 w ta la tb lb) (x : Int) (t : Th) (m : Int) (hs : szL la ≤ 1000) (hx : NumI x) (ht : t.In) (hm : NumI m) : Calls Try.prog 20 #[ptrL ta, .int .i64 x, wantV t m] w fun r w' => r = .returned (.tuple #[.bool (askL la x t m).2.1, .int .i64 (askL la x t m).2.2]) ∧ Tp T w0 w' ta (askL la x t m).1 tb lb := by
  obtain ⟨Da, Db, h1, h2, h3, h4⟩ := h
  exact (I.ask x t m h1 hs h4.size hx ht hm).mono fun r w' ⟨e1, e2, e3⟩ => ⟨e1, Tp.step I h1 h2 h3 h4 e2 e3⟩
theorem Tp.cancel (h : Tp T w0 w ta la tb lb) (x : Int) (hs : szL la ≤ 1000) (hx : NumI x) : Calls Try.prog 26 #[ptrL ta, .int .i64 x] w fun r w' => ∃ v, r = .returned v ∧ IntsRet w (cancelL la x).2 w' v ∧ Tp T w0 w' ta (cancelL la x).1 tb lb := by
  obtain ⟨Da, Db, h1, h2, h3, h4⟩ := h
  exact (I.cancel x h1 hs h4.size hx).mono fun r w' ⟨v, e1, e2, e3, e4⟩ => ⟨v, e1, e2, Tp.step I h1 h2 h3 h4 e3 e4⟩
theorem Tp.release (h : Tp T w0 w ta la tb lb) (x : Int) (hs : szL la ≤ 1000) (hx : NumI x) : Calls Try.prog 17 #[ptrL ta, .int .i64 x] w fun r w' => ∃ v, r = .returned v ∧ IntsRet w (releaseL la x).2 w' v ∧ Tp T w0 w' ta (releaseL la x).1 tb lb := by
  obtain ⟨Da, Db, h1, h2, h3, h4⟩ := h
  exact (I.release x h1 hs h4.size hx).mono fun r w' ⟨v, e1, e2, e3, e4⟩ => ⟨v, e1, e2, Tp.step I h1 h2 h3 h4 e3 e4⟩
theorem Tp.state (h : Tp T w0 w ta la tb lb) (t : Th) (hs : szL la ≤ 1000) (ht : t.In) : Calls Try.prog 14 #[ptrL ta, thV t] w fun r w' => ∃ A n c, r = .returned (.slice A n c) ∧ n = (stateL la t).length ∧ w'.ownsRow w.heap.size 37 3 (.slice A n c) n ((stateL la t).flatMap heldC) ∧ Below w.heap.size w w' := by
  obtain ⟨Da, Db, h1, h2, h3, h4⟩ := h
  exact I.state t h1 hs ht
/-- the second locks are made -/
theorem Tp.mk (h : Te T w0 w ta la) : Calls Try.prog 12 #[] w fun e w' => ∃ tb, e = .returned (ptrL tb) ∧ Tp T w0 w' ta la tb ⟨[], []⟩ := by
  obtain ⟨Da, h⟩ := h
  refine (I.new w w0.heap.size h.low.size).mono fun e w' ⟨tb, Db, e1, e2, e3, e4⟩ => ⟨tb, e1, Da, Db, I.below h.t e4, e2, fun k hk hkb => ?_, h.low.trans (e4.mono h.low.size)⟩
  have := (I.foot h.t hk).2
  have := e3 k hkb
  omega
end
set_option maxRecDepth 100000 in
set_option maxHeartbeats 12800000 in
theorem do_any2 {T : LkP} (I : ImplL T) {w0 w : World} {tb : Nat} {l : Lk} {t2 : Nat} {l2 : Lk} (h : Tp T w0 w tb l t2 l2) (hs : szL l ≤ 1000) (c : Cl) (hc : c.In) :
    Calls Try.prog 13 #[ptrL tb, clV c] w fun r w' => r = .returned (.tuple #[]) ∧ Tp T w0 w' tb (doL l c) t2 l2 := by
  obtain ⟨cw, x, th, m⟩ := c
  obtain ⟨w1, hw1⟩ : ∃ w1, w1 = w.alloc (.cells #[.int .i64 cw, .int .i64 x, .int .i64 th.k, .string th.t, .string th.y, .int .i64 m] 33) := ⟨_, rfl⟩
  have hb1 : Below w.heap.size w w1 := by rw [hw1]; exact (Below.refl _ w).alloc (Nat.le_refl _) _
  have hblk : Blk w1 w.heap.size 33 #[.int .i64 cw, .int .i64 x, .int .i64 th.k, .string th.t, .string th.y, .int .i64 m] := by rw [hw1]; exact Blk.new w _ _
  have h1 := h.below I hb1
  obtain ⟨b, hb⟩ : ∃ b, b = w.heap.size := ⟨_, rfl⟩
  rw [← hb] at hblk
  have c0 : w1.cell? ⟨b, 0, none⟩ = some (.int .i64 cw) := hblk.cell 0
  have c1 : w1.cell? ⟨b, 1, none⟩ = some (.int .i64 x) := hblk.cell 1
  have c2 : w1.cell? ⟨b, 2, none⟩ = some (.int .i64 th.k) := hblk.cell 2
  have c3 : w1.cell? ⟨b, 3, none⟩ = some (.string th.t) := hblk.cell 3
  have c4 : w1.cell? ⟨b, 4, none⟩ = some (.string th.y) := hblk.cell 4
  have c5 : w1.cell? ⟨b, 5, none⟩ = some (.int .i64 m) := hblk.cell 5
  have c3' : w1.cell? ⟨b, 2 + 1, none⟩ = some (.string th.t) := c3
  have c4' : w1.cell? ⟨b, 2 + 2, none⟩ = some (.string th.y) := c4
  have c5' : w1.cell? ⟨b, 2 + 3, none⟩ = some (.int .i64 m) := c5
  have H := Lib.hid (And.intro h1 hs)
  have HI := Lib.hid hc
  have HW := Lib.hid (And.intro hb hw1)
  clear h hs hc h1 hb1 hblk hw1
  by_cases e0 : cw = 0
  · subst e0
    have HF := Lib.hid (show doL l ⟨0, x, th, m⟩ = (askL l x th m).1 from rfl)
    go_enter Try.func13, Try.ntmps13
    go_upto_region 1 with fail
    rw [← hb, ← HW.out.2]; clear hb
    go_wp2_with (go_at_call 20; refine (H.out.1.ask I x th m H.out.2 HI.out.2.1 HI.out.2.2.1 HI.out.2.2.2).mono ?_; rintro e w2 ⟨rfl, h2⟩; have H2 := Lib.hid h2; clear h2)
    first
      | refine bodyPost_end (results_none rfl _ _ _) rfl ?_
      | refine bodyPost_ret (results_none rfl _ _ _) rfl ?_
    exact ⟨rfl, by rw [HF.out]; exact H2.out⟩
  · by_cases e1 : cw = 1
    · subst e1
      have HF := Lib.hid (show doL l ⟨1, x, th, m⟩ = (cancelL l x).1 from rfl)
      go_enter Try.func13, Try.ntmps13
      go_upto_region 1 with fail
      rw [← hb, ← HW.out.2]; clear hb
      go_wp2_with (go_at_call 26; refine (H.out.1.cancel I x H.out.2 HI.out.2.1).mono ?_; rintro e w2 ⟨v, rfl, _, h2⟩; have H2 := Lib.hid h2; clear h2)
      first
        | refine bodyPost_end (results_none rfl _ _ _) rfl ?_
        | refine bodyPost_ret (results_none rfl _ _ _) rfl ?_
      exact ⟨rfl, by rw [HF.out]; exact H2.out⟩
    · by_cases e2 : cw = 2
      · subst e2
        have HF := Lib.hid (show doL l ⟨2, x, th, m⟩ = (releaseL l x).1 from rfl)
        go_enter Try.func13, Try.ntmps13
        go_upto_region 1 with fail
        rw [← hb, ← HW.out.2]; clear hb
        go_wp2_with (go_at_call 17; refine (H.out.1.release I x H.out.2 HI.out.2.1).mono ?_; rintro e w2 ⟨v, rfl, _, h2⟩; have H2 := Lib.hid h2; clear h2)
        first
          | refine bodyPost_end (results_none rfl _ _ _) rfl ?_
          | refine bodyPost_ret (results_none rfl _ _ _) rfl ?_
        exact ⟨rfl, by rw [HF.out]; exact H2.out⟩
      · have HF := Lib.hid (show doL l ⟨cw, x, th, m⟩ = l by unfold doL; simp only; rw [if_neg e0, if_neg e1, if_neg e2])
        have q0 : (cw == 0) = false := by simp [e0]
        have q1 : (cw == 1) = false := by simp [e1]
        have q2 : (cw == 2) = false := by simp [e2]
        go_enter Try.func13, Try.ntmps13
        go_upto_region 1 with fail
        rw [← hb, ← HW.out.2]; clear hb
        go_wp2_with fail
        first
          | refine bodyPost_end (results_none rfl _ _ _) rfl ?_
          | refine bodyPost_ret (results_none rfl _ _ _) rfl ?_
        exact ⟨rfl, by rw [HF.out]; exact H.out.1⟩
end Go.Proofs.Ythbbheegkhlniaa

/-
  LockApart: what the two locks have to do with one another.
-/
namespace Go.Proofs.Ythbbheegkhlniaa
open Go.RowKit Go.Lib

/-- two locks of the program, apart, and a call beside them -/
def Tq (T : LkP) (w0 w : World) (ta : Nat) (la : Lk) (tb : Nat) (lb : Lk) (b : Nat) (cs : Array Value) : Prop := ∃ Da Db, T w0.heap.size Da w ta la ∧ T w0.heap.size Db w tb lb ∧ (∀ k, Da k → ¬ Db k) ∧ Below w0.heap.size w0 w ∧ ¬ Da b ∧ ¬ Db b ∧ Blk w b 33 cs
theorem Tq.swap {T : LkP} {w0 w : World} {ta tb b : Nat} {la lb : Lk} {cs : Array Value} (h : Tq T w0 w ta la tb lb b cs) : Tq T w0 w tb lb ta la b cs := by
  obtain ⟨Da, Db, h1, h2, h3, h4, h5, h6, h7⟩ := h
  exact ⟨Db, Da, h2, h1, fun k hk hk' => h3 k hk' hk, h4, h6, h5, h7⟩
theorem Tq.p {T : LkP} {w0 w : World} {ta tb b : Nat} {la lb : Lk} {cs : Array Value} (h : Tq T w0 w ta la tb lb b cs) : Tp T w0 w ta la tb lb := by
  obtain ⟨Da, Db, h1, h2, h3, h4, h5, h6, h7⟩ := h
  exact ⟨Da, Db, h1, h2, h3, h4⟩
theorem Tq.blk {T : LkP} {w0 w : World} {ta tb b : Nat} {la lb : Lk} {cs : Array Value} (h : Tq T w0 w ta la tb lb b cs) : Blk w b 33 cs := by
  obtain ⟨Da, Db, h1, h2, h3, h4, h5, h6, h7⟩ := h
  exact h7
theorem Tq.low {T : LkP} {w0 w : World} {ta tb b : Nat} {la lb : Lk} {cs : Array Value} (h : Tq T w0 w ta la tb lb b cs) : Below w0.heap.size w0 w := h.p.low
section
variable {T : LkP} (I : ImplL T) {w0 w w' : World} {ta tb b : Nat} {la lb l' : Lk} {cs : Array Value}
include I
theorem Tp.own (h : Tp T w0 w ta la tb lb) (hb : Below w.heap.size w w') (hk : Blk w' b 33 cs) (hn : w.heap.size ≤ b) : Tq T w0 w' ta la tb lb b cs := by
  obtain ⟨Da, Db, h1, h2, h3, h4⟩ := h
  exact ⟨Da, Db, I.below h1 hb, I.below h2 hb, h3, h4.trans (hb.mono h4.size), fun hd => by have := (I.foot h1 hd).2; omega, fun hd => by have := (I.foot h2 hd).2; omega, hk⟩
theorem Tq.below (h : Tq T w0 w ta la tb lb b cs) (hb : Below w.heap.size w w') : Tq T w0 w' ta la tb lb b cs := by
  obtain ⟨Da, Db, h1, h2, h3, h4, h5, h6, h7⟩ := h
  exact ⟨Da, Db, I.below h1 hb, I.below h2 hb, h3, h4.trans (hb.mono h4.size), h5, h6, (hb.block b h7.lt).trans h7⟩
theorem Tq.step {D Db : Nat → Prop} (h1 : T w0.heap.size D w ta la) (h2 : T w0.heap.size Db w tb lb) (h3 : ∀ k, D k → ¬ Db k) (h4 : Below w0.heap.size w0 w) (h5 : ¬ D b) (h6 : ¬ Db b) (h7 : Blk w b 33 cs) (ht : T w0.heap.size (Ext D w w') w' ta l') (hc : Chg D w w') : Tq T w0 w' ta l' tb lb b cs := by
  refine ⟨_, Db, ht, I.chg h2 hc (fun k hk hk' => h3 k hk' hk), fun k hk hkb => ?_, h4.trans (hc.below (fun _ hk => (I.foot h1 hk).1) h4.size), fun hd => ?_, h6, h7.chg hc h5⟩
  · have hf := (I.foot h2 hkb).2
    rcases hk with hk | hk
    · exact h3 k hk hkb
    · omega
  · rcases hd with hd | hd
    · exact h5 hd
    · have := h7.lt; omega
theorem Tq.ask (h : Tq T w0 w ta la tb lb b cs) (x : Int) (t : Th) (m : Int) (hs : szL la ≤ 1000) (hx : NumI x) (ht : t.In) (hm : NumI m) : Calls Try.prog 20 #[ptrL ta, .int .i64 x, wantV t m] w fun r w' => r = .returned (.tuple #[.bool (askL la x t m).2.1, .int .i64 (askL la x t m).2.2]) ∧ Tq T w0 w' ta (askL la x t m).1 tb lb b cs := by
  obtain ⟨Da, Db, h1, h2, h3, h4, h5, h6, h7⟩ := h
  exact (I.ask x t m h1 hs h4.size hx ht hm).mono fun r w' ⟨e1, e2, e3⟩ => ⟨e1, Tq.step I h1 h2 h3 h4 h5 h6 h7 e2 e3⟩
theorem Tq.cancel (h : Tq T w0 w ta la tb lb b cs) (x : Int) (hs : szL la ≤ 1000) (hx : NumI x) : Calls Try.prog 26 #[ptrL ta, .int .i64 x] w fun r w' => ∃ v, r = .returned v ∧ IntsRet w (cancelL la x).2 w' v ∧ Tq T w0 w' ta (cancelL la x).1 tb lb b cs := by
  obtain ⟨Da, Db, h1, h2, h3, h4, h5, h6, h7⟩ := h
  exact (I.cancel x h1 hs h4.size hx).mono fun r w' ⟨v, e1, e2, e3, e4⟩ => ⟨v, e1, e2, Tq.step I h1 h2 h3 h4 h5 h6 h7 e3 e4⟩
theorem Tq.release (h : Tq T w0 w ta la tb lb b cs) (x : Int) (hs : szL la ≤ 1000) (hx : NumI x) : Calls Try.prog 17 #[ptrL ta, .int .i64 x] w fun r w' => ∃ v, r = .returned v ∧ IntsRet w (releaseL la x).2 w' v ∧ Tq T w0 w' ta (releaseL la x).1 tb lb b cs := by
  obtain ⟨Da, Db, h1, h2, h3, h4, h5, h6, h7⟩ := h
  exact (I.release x h1 hs h4.size hx).mono fun r w' ⟨v, e1, e2, e3, e4⟩ => ⟨v, e1, e2, Tq.step I h1 h2 h3 h4 h5 h6 h7 e3 e4⟩
theorem Tp.state2 (h : Tp T w0 w ta la tb lb) (hb : Below w.heap.size w w') (t : Th) (hs : szL la ≤ 1000) (ht : t.In) : Calls Try.prog 14 #[ptrL ta, thV t] w' fun r w'' => ∃ A n c, r = .returned (.slice A n c) ∧ n = (stateL la t).length ∧ w''.ownsRow w'.heap.size 37 3 (.slice A n c) n ((stateL la t).flatMap heldC) ∧ Below w'.heap.size w' w'' :=
  (h.below I hb).state I t hs ht
end
set_option maxRecDepth 100000 in
set_option maxHeartbeats 12800000 in
theorem do_any3 {T : LkP} (I : ImplL T) {w0 w : World} {tb : Nat} {l : Lk} {t2 : Nat} {l2 : Lk} {bq : Nat} {csq : Array Value} (h : Tq T w0 w tb l t2 l2 bq csq) (hs : szL l ≤ 1000) (c : Cl) (hc : c.In) :
    Calls Try.prog 13 #[ptrL tb, clV c] w fun r w' => r = .returned (.tuple #[]) ∧ Tq T w0 w' tb (doL l c) t2 l2 bq csq := by
  obtain ⟨cw, x, th, m⟩ := c
  obtain ⟨w1, hw1⟩ : ∃ w1, w1 = w.alloc (.cells #[.int .i64 cw, .int .i64 x, .int .i64 th.k, .string th.t, .string th.y, .int .i64 m] 33) := ⟨_, rfl⟩
  have hb1 : Below w.heap.size w w1 := by rw [hw1]; exact (Below.refl _ w).alloc (Nat.le_refl _) _
  have hblk : Blk w1 w.heap.size 33 #[.int .i64 cw, .int .i64 x, .int .i64 th.k, .string th.t, .string th.y, .int .i64 m] := by rw [hw1]; exact Blk.new w _ _
  have h1 := h.below I hb1
  obtain ⟨b, hb⟩ : ∃ b, b = w.heap.size := ⟨_, rfl⟩
  rw [← hb] at hblk
  have c0 : w1.cell? ⟨b, 0, none⟩ = some (.int .i64 cw) := hblk.cell 0
  have c1 : w1.cell? ⟨b, 1, none⟩ = some (.int .i64 x) := hblk.cell 1
  have c2 : w1.cell? ⟨b, 2, none⟩ = some (.int .i64 th.k) := hblk.cell 2
  have c3 : w1.cell? ⟨b, 3, none⟩ = some (.string th.t) := hblk.cell 3
  have c4 : w1.cell? ⟨b, 4, none⟩ = some (.string th.y) := hblk.cell 4
  have c5 : w1.cell? ⟨b, 5, none⟩ = some (.int .i64 m) := hblk.cell 5
  have c3' : w1.cell? ⟨b, 2 + 1, none⟩ = some (.string th.t) := c3
  have c4' : w1.cell? ⟨b, 2 + 2, none⟩ = some (.string th.y) := c4
  have c5' : w1.cell? ⟨b, 2 + 3, none⟩ = some (.int .i64 m) := c5
  have H := Lib.hid (And.intro h1 hs)
  have HI := Lib.hid hc
  have HW := Lib.hid (And.intro hb hw1)
  clear h hs hc h1 hb1 hblk hw1
  by_cases e0 : cw = 0
  · subst e0
    have HF := Lib.hid (show doL l ⟨0, x, th, m⟩ = (askL l x th m).1 from rfl)
    go_enter Try.func13, Try.ntmps13
    go_upto_region 1 with fail
    rw [← hb, ← HW.out.2]; clear hb
    go_wp2_with (go_at_call 20; refine (H.out.1.ask I x th m H.out.2 HI.out.2.1 HI.out.2.2.1 HI.out.2.2.2).mono ?_; rintro e w2 ⟨rfl, h2⟩; have H2 := Lib.hid h2; clear h2)
    first
      | refine bodyPost_end (results_none rfl _ _ _) rfl ?_
      | refine bodyPost_ret (results_none rfl _ _ _) rfl ?_
    exact ⟨rfl, by rw [HF.out]; exact H2.out⟩
  · by_cases e1 : cw = 1
    · subst e1
      have HF := Lib.hid (show doL l ⟨1, x, th, m⟩ = (cancelL l x).1 from rfl)
      go_enter Try.func13, Try.ntmps13
      go_upto_region 1 with fail
      rw [← hb, ← HW.out.2]; clear hb
      go_wp2_with (go_at_call 26; refine (H.out.1.cancel I x H.out.2 HI.out.2.1).mono ?_; rintro e w2 ⟨v, rfl, _, h2⟩; have H2 := Lib.hid h2; clear h2)
      first
        | refine bodyPost_end (results_none rfl _ _ _) rfl ?_
        | refine bodyPost_ret (results_none rfl _ _ _) rfl ?_
      exact ⟨rfl, by rw [HF.out]; exact H2.out⟩
    · by_cases e2 : cw = 2
      · subst e2
        have HF := Lib.hid (show doL l ⟨2, x, th, m⟩ = (releaseL l x).1 from rfl)
        go_enter Try.func13, Try.ntmps13
        go_upto_region 1 with fail
        rw [← hb, ← HW.out.2]; clear hb
        go_wp2_with (go_at_call 17; refine (H.out.1.release I x H.out.2 HI.out.2.1).mono ?_; rintro e w2 ⟨v, rfl, _, h2⟩; have H2 := Lib.hid h2; clear h2)
        first
          | refine bodyPost_end (results_none rfl _ _ _) rfl ?_
          | refine bodyPost_ret (results_none rfl _ _ _) rfl ?_
        exact ⟨rfl, by rw [HF.out]; exact H2.out⟩
      · have HF := Lib.hid (show doL l ⟨cw, x, th, m⟩ = l by unfold doL; simp only; rw [if_neg e0, if_neg e1, if_neg e2])
        have q0 : (cw == 0) = false := by simp [e0]
        have q1 : (cw == 1) = false := by simp [e1]
        have q2 : (cw == 2) = false := by simp [e2]
        go_enter Try.func13, Try.ntmps13
        go_upto_region 1 with fail
        rw [← hb, ← HW.out.2]; clear hb
        go_wp2_with fail
        first
          | refine bodyPost_end (results_none rfl _ _ _) rfl ?_
          | refine bodyPost_ret (results_none rfl _ _ _) rfl ?_
        exact ⟨rfl, by rw [HF.out]; exact H.out.1⟩
def zz9 : ByteArray := ⟨#[122, 122, 57]⟩
def pA (t : Th) : Bool := decide (t.t ≠ zz9)
def qA (x : Int) : Bool := decide (x < 100000)
/-- the second holds what the first does, and others' things -/
structure PairL (la lb : Lk) : Prop where
  oa : LkOk la
  ob : LkOk lb
  sep : SepL pA qA lb
  e : la = lb.on pA
theorem PairL.nil : PairL ⟨[], []⟩ ⟨[], []⟩ := ⟨LkOk.nil, LkOk.nil, ⟨fun o ho => (by cases ho), fun o ho => (by cases ho)⟩, rfl⟩
theorem SepL.do {P : Th → Bool} {Q : Int → Bool} {l : Lk} (h : SepL P Q l) (hok : LkOk l) {c : Cl} (hc : P c.th = Q c.x) : SepL P Q (doL l c) := by
  unfold doL
  split
  · exact h.ask hok hc
  · split
    · exact h.cancel hok _
    · split
      · exact h.release hok _
      · exact h
theorem PairL.other {la lb : Lk} (h : PairL la lb) {c : Cl} (h1 : pA c.th = false) (h2 : qA c.x = false) : PairL la (doL lb c) := by
  refine ⟨h.oa, do_ok h.ob c, h.sep.do h.ob (h1.trans h2.symm), ?_⟩
  rw [h.e]
  unfold doL
  split
  · exact (ask_off _ h1).symm
  · split
    · exact (cancel_off h.sep h2).symm
    · split
      · exact (release_off h.sep h2).symm
      · rfl
theorem PairL.asks {la lb : Lk} (h : PairL la lb) {x : Int} {t : Th} (m : Int) (h1 : pA t = true) (h2 : qA x = true) : askL la x t m = ((askL lb x t m).1.on pA, (askL lb x t m).2) := by
  rw [h.e]
  exact ask_on m h1 (waitL_on h.sep.2 h2)
theorem PairL.do {la lb : Lk} (h : PairL la lb) {c : Cl} (h1 : pA c.th = true) (h2 : qA c.x = true) : PairL (doL la c) (doL lb c) := by
  refine ⟨do_ok h.oa c, do_ok h.ob c, h.sep.do h.ob (h1.trans h2.symm), ?_⟩
  have ha := h.asks c.m h1 h2
  have hc := cancel_on h.sep h2
  have hr := release_on h.sep h2
  rw [← h.e] at hc hr
  unfold doL
  split
  · rw [ha]
  · split
    · rw [hc]
    · split
      · rw [hr]
      · exact h.e
theorem PairL.ask {la lb : Lk} (h : PairL la lb) {x : Int} {t : Th} (m : Int) (h1 : pA t = true) (h2 : qA x = true) : PairL (askL la x t m).1 (askL lb x t m).1 := h.do (c := ⟨0, x, t, m⟩) h1 h2
theorem PairL.state {la lb : Lk} (h : PairL la lb) {t : Th} (h1 : pA t = true) : stateL lb t = stateL la t := by
  rw [h.e]
  exact (state_on h1).symm
/-- such numbers as the others' -/
theorem and_bounds (x : Int) : 0 ≤ bits .and .i64 x 1023 ∧ bits .and .i64 x 1023 ≤ 1023 := by
  have h : (BitVec.ofInt 64 x &&& BitVec.ofInt 64 1023).toNat ≤ 1023 := by
    rw [BitVec.toNat_and]
    exact Nat.and_le_right
  have e : bits .and .i64 x 1023 = IntKind.wrap .i64 ((BitVec.ofInt 64 x &&& BitVec.ofInt 64 1023).toNat : Int) := rfl
  rw [e]
  generalize (BitVec.ofInt 64 x &&& BitVec.ofInt 64 1023).toNat = n at h
  have e2 : IntKind.wrap .i64 (n : Int) = (n : Int) := by rw [IntKind.wrap_i64]; omega
  rw [e2]
  omega
end Go.Proofs.Ythbbheegkhlniaa
