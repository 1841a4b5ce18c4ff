/-
  SameHeld: rows of holders that are alike.
-/
import Derived.Test.YthbbheegkhlniaaM23
namespace Go.Proofs.Ythbbheegkhlniaa
open Go.RowKit Go.Lib

theorem held_at {w : World} {B : Nat} {A : Option Addr} {l : List (Int × Int × Bool)} (h : RowG heldC 3 w B A l) {i : Nat} (hi : i < l.length) : ∃ ad, A = some ad ∧ ad.block < B ∧ w.cell? (ad.add (i * 3)) = some (.int .i64 l[i].1) ∧ w.cell? ⟨(ad.add (i * 3)).block, (ad.add (i * 3)).off + 1, none⟩ = some (.int .i64 l[i].2.1) ∧ w.cell? ⟨(ad.add (i * 3)).block, (ad.add (i * 3)).off + 2, none⟩ = some (.bool l[i].2.2) := by
  obtain ⟨ad, rfl, hlt⟩ := h.lo (by omega)
  have get : ∀ j u, (heldC l[i])[j]? = some u → w.cell? (ad.add (i * 3 + j)) = some u := fun j u hu => by
    obtain ⟨ad', e, hc⟩ := h.cell i hi j u hu
    obtain rfl := Option.some.inj e
    exact hc
  have addr_field : ∀ (a : Addr) (j : Nat), 0 < j → (⟨a.block, a.off + j, none⟩ : Addr) = a.add j := fun a j hj => by unfold Addr.add; rw [if_neg (by omega)]
  refine ⟨ad, rfl, hlt, get 0 _ rfl, ?_, ?_⟩
  · rw [addr_field _ _ (by omega), addr_add]; exact get 1 _ rfl
  · rw [addr_field _ _ (by omega), addr_add]; exact get 2 _ rfl
theorem neqHeld (a b : Int) (c : Bool) (w : World) : (binOp .neq 37 (.agg #[.int .i64 a, .int .i64 b, .bool c]) (.agg #[.int .i64 a, .int .i64 b, .bool c])).run Try.prog w = .ok (.bool false) w := by
  have u3 := Try.underlying3
  have a3 := Try.isAgg3
  have z3 := Try.sizeOf3
  have u9 := Try.underlying4
  have a9 := Try.isAgg4
  have z9 := Try.sizeOf4
  have hS : Try.prog.underlying 37 = some (.struct (Try.prog.fieldsOf 37)) := by kernel_rfl
  have hp : Try.prog.stoodInHeld 37 = false := by kernel_rfl
  rw [run_neq_struct, show (10000 : Nat) = 9999 + 1 from rfl, run_equalIn_agg w 9999 37 _ _ hS hp]
  simp only [Program.fieldsOf, Try.underlying37]
  go_simp
theorem own_held {w : World} {base : Nat} {A : Option Addr} {n c : Nat} {l : List (Int × Int × Bool)} (h : w.ownsRow base 37 3 (.slice A n c) n (l.flatMap heldC)) (hn : n = l.length) : RowG heldC 3 w w.heap.size A l := RowG.of_rows (fun _ => rfl) h hn
set_option maxRecDepth 100000 in
set_option maxHeartbeats 3200000 in
theorem sameH_yes {w : World} {A A' : Option Addr} {n n' c c' B B' : Nat} {l : List (Int × Int × Bool)} (hn : n = l.length) (hn' : n' = l.length) (h1 : RowG heldC 3 w B A l) (h2 : RowG heldC 3 w B' A' l) (hl : l.length ≤ 1000000) :
    Calls Try.prog 23 #[.slice A n c, .slice A' n' c'] w fun e w' => e = .returned (.bool true) ∧ Below w.heap.size w w' := by
  obtain rfl : n' = n := by rw [hn, hn']
  have H := Lib.hid (And.intro h1 (And.intro h2 hn))
  have hnl : n' ≤ 1000000 := by omega
  have hn0 : (0 : Int) ≤ (n' : Int) := Int.natCast_nonneg _
  clear h1 h2 hn hn'
  go_enter Try.func23, Try.ntmps23
  go_wp2_with fail
  go_loopw [5] (fun i wr => ∃ k d : Nat, k ≤ n' ∧ i = .int .i64 k ∧ wr = w.drewN d) (fun i _ => n' - (intOf i).toNat)
  case atStart => exact ⟨0, 0, by omega, rfl, rfl⟩
  case round =>
    obtain ⟨k, d, hk, rfl, hw⟩ := hrel
    have HW := Lib.hid hw
    have hk0 : (0 : Int) ≤ (k : Int) := Int.natCast_nonneg _
    by_cases hlt : k < n'
    · have hk1 : (k : Int) < (n' : Int) := by omega
      have hkl : k < l.length := by rw [← H.out.2.2]; exact hlt
      obtain ⟨ad, rfl, _, a0, a1, a2⟩ := held_at H.out.1 hkl
      obtain ⟨ad', rfl, _, b0, b1, b2⟩ := held_at H.out.2.1 hkl
      have hcw : ∀ a, wr.cell? a = w.cell? a := fun a => by rw [hw]; rfl
      have c0 := (hcw _).trans a0
      have c1 := (hcw _).trans a1
      have c2 := (hcw _).trans a2
      have d0 := (hcw _).trans b0
      have d1 := (hcw _).trans b1
      have d2 := (hcw _).trans b2
      obtain ⟨x, hx⟩ : ∃ x, x = l[k] := ⟨_, rfl⟩
      rw [← hx] at c0 c1 c2 d0 d1 d2
      obtain ⟨x0, x1, x2⟩ := x
      simp only at c0 c1 c2 d0 d1 d2
      have hne := neqHeld x0 x1 x2
      clear hw a0 a1 a2 b0 b1 b2 hcw hx
      go_wp2_with fail
      go_quiet (fail)
      go_wp2_with fail
      go_roundw
      case rel => exact ⟨k + 1, _, by omega, by go_num, by rw [HW.out]; exact World.drewN_drewN _ _ _⟩
      case measure => simp [intOf]; omega
    · have hkn : ¬ ((k : Int) < (n' : Int)) := by omega
      have hb : Below w.heap.size w wr := by rw [hw]; exact below_dN (Below.refl _ _) _
      have HB := Lib.hid hb
      clear hw hb
      go_wp2_with fail
      go_ret
      exact ⟨rfl, HB.out⟩
end Go.Proofs.Ythbbheegkhlniaa

/-
  LockMore over the contract.
-/
namespace Go.Proofs.Ythbbheegkhlniaa
open Go.RowKit Go.Lib

section
variable {T : LkP} (I : ImplL T) {w0 w : World} {tb : Nat} {l : Lk}
include I
theorem Te.state_b (h : Te T w0 w tb l) (t : Th) (hs : szL l ≤ 1000) (ht : t.In) : Calls Try.prog 14 #[ptrL tb, thV t] w fun r w' => ∃ A n c, r = .returned (.slice A n c) ∧ n = (stateL l t).length ∧ w'.ownsRow w.heap.size 37 3 (.slice A n c) n ((stateL l t).flatMap heldC) ∧ Below w.heap.size w w' := by
  obtain ⟨D, h⟩ := h
  exact I.state t h.t hs ht
end
set_option maxRecDepth 100000 in
set_option maxHeartbeats 12800000 in
theorem lmore_walk {T : LkP} (I : ImplL T) (A : Option Addr) (c : Nat) (cl : List Cl) (x : Int) (t : Th) (m : Int) (w : World) (hc : RowG clC 6 w w.heap.size A cl) (hin : ∀ x ∈ cl, x.In) (hl : cl.length ≤ c) (hm : c ≤ maxLen) (hx : NumI x) (ht : t.In) (hmm : NumI m) :
    Says Try.prog 7 #[.slice A cl.length c, .int .i64 x, wantV t m] w (.bool true) := by
  obtain ⟨w0, hw0⟩ : ∃ w0, w0 = w.alloc (.cells #[.int .i64 t.k, .string t.t, .string t.y, .int .i64 m] 31) := ⟨_, rfl⟩
  have hb0 : Below w.heap.size w w0 := by rw [hw0]; exact (Below.refl _ w).alloc (Nat.le_refl _) _
  have hblk : Blk w0 w.heap.size 31 #[.int .i64 t.k, .string t.t, .string t.y, .int .i64 m] := by rw [hw0]; exact Blk.new w _ _
  obtain ⟨b, hb⟩ : ∃ b, b = w.heap.size := ⟨_, rfl⟩
  rw [← hb] at hblk
  have H := Lib.hid (And.intro ((hc.below hb0 (Nat.le_refl _)).more hb0.size) (And.intro hin (Nat.le_trans hl hm)))
  have HW := Lib.hid (And.intro hb (And.intro hw0 (And.intro hblk hb0)))
  have HAL := Lib.hid fun (w : World) => alive11_any I w
  have HP := Lib.hid (And.intro hx (And.intro ht hmm))
  clear hc hin hl hm hw0 hblk hb0 hx ht hmm
  go_enter Try.func7, Try.ntmps7
  go_upto_region 1 with fail
  rw [← hb, ← HW.out.2.1]; clear hb
  go_wp2_with fail
  refine (HAL.out w0).mono ?_
  rintro e w1 ⟨rfl, hb1⟩
  have H1 := Lib.hid hb1
  clear hb1
  go_wp2_with fail
  refine (great11_any A c cl w1 w0.heap.size (H.out.1.below H1.out (Nat.le_refl _))).mono ?_
  rintro e w1' ⟨rfl, rfl | ⟨rfl, hfew⟩⟩
  · go_wp2_with fail
    go_ret
    exact ⟨rfl, HW.out.2.2.2.trans (H1.out.mono HW.out.2.2.2.size)⟩
  go_wp2_with fail
  refine (I.new w1' w0.heap.size H1.out.size).mono ?_
  rintro e w2 ⟨tb, D, rfl, ht2, _, hb2⟩
  have H2 := Lib.hid (show Te T w0 w2 tb ⟨[], []⟩ from ⟨D, ht2, H1.out.trans (hb2.mono H1.out.size)⟩)
  clear ht2 hb2
  obtain ⟨n, hn⟩ : ∃ n, n = cl.length := ⟨_, rfl⟩
  have hn120 : n ≤ 120 := by rw [hn]; exact hfew
  have hn0 : (0 : Int) ≤ (n : Int) := Int.natCast_nonneg _
  rw [← hn]
  have HN := Lib.hid hn
  clear hn hfew
  go_wp2_with fail
  go_loopw [8] (fun i wr => ∃ k : Nat, k ≤ n ∧ i = .int .i64 k ∧ Te T w0 wr tb (runL cl k)) (fun i _ => n - (intOf i).toNat)
  case atStart => exact ⟨0, by omega, rfl, by rw [run_zero]; exact H2.out⟩
  case round =>
    obtain ⟨k, hk, rfl, hT⟩ := hrel
    have HT := Lib.hid hT
    have hk0 : (0 : Int) ≤ (k : Int) := Int.natCast_nonneg _
    clear hT
    by_cases hlt : k < n
    · have hlt1 : (k : Int) < (n : Int) := by omega
      have hkl : k < cl.length := by rw [← HN.out]; exact hlt
      obtain ⟨ad, rfl, _, d0, d1, d2, d3, d4, d5⟩ := cl_at (H.out.1.below HT.out.low (Nat.le_refl _)) hkl
      have hxi := H.out.2.1 cl[k] (List.getElem_mem hkl)
      obtain ⟨c1, hx⟩ : ∃ c1, c1 = cl[k] := ⟨_, rfl⟩
      rw [← hx] at d0 d1 d2 d3 d4 d5 hxi
      have hsz := run_sz cl k (by rw [← HN.out]; exact hk)
      have HX := Lib.hid (And.intro hx (And.intro hxi (And.intro (show szL (runL cl k) ≤ 1000 by omega) hkl)))
      clear hx hxi hsz
      go_wp2_with (go_at_call 13; refine (do_any I HT.out HX.out.2.2.1 c1 HX.out.2.1).mono ?_; rintro e w3 ⟨rfl, h3⟩; have H3 := Lib.hid h3; clear h3)
      go_roundw
      case rel => exact ⟨k + 1, by omega, by go_num, by rw [run_succ HX.out.2.2.2, ← HX.out.1]; exact H3.out⟩
      case measure => simp [intOf]; omega
    · have hlt1 : ¬ (k : Int) < (n : Int) := by omega
      have hkn : k = cl.length := by rw [← HN.out]; omega
      have HE := Lib.hid (show Te T w0 wr tb (runL cl cl.length) by rw [← hkn]; exact HT.out)
      clear hkn HT
      have hsz : szL (runL cl cl.length) ≤ 1000 := by have := run_sz cl cl.length (Nat.le_refl _); have := HN.out; omega
      obtain ⟨l, hL⟩ : ∃ l, l = runL cl cl.length := ⟨_, rfl⟩
      rw [← hL] at HE hsz
      have HS := Lib.hid hsz
      clear hL hsz
      obtain ⟨q, hq⟩ : ∃ q, q = modeL l.H x t := ⟨_, rfl⟩
      have HQ := Lib.hid hq
      clear hq
      have b0 : wr.cell? ⟨b, 0, none⟩ = some (.int .i64 t.k) := ((HE.out.low).cell (p := ⟨b, 0, none⟩) HW.out.2.2.1.lt).trans (HW.out.2.2.1.cell 0)
      have b1 : wr.cell? ⟨b, 1, none⟩ = some (.string t.t) := ((HE.out.low).cell (p := ⟨b, 1, none⟩) HW.out.2.2.1.lt).trans (HW.out.2.2.1.cell 1)
      have b2 : wr.cell? ⟨b, 2, none⟩ = some (.string t.y) := ((HE.out.low).cell (p := ⟨b, 2, none⟩) HW.out.2.2.1.lt).trans (HW.out.2.2.1.cell 2)
      have b3 : wr.cell? ⟨b, 3, none⟩ = some (.int .i64 m) := ((HE.out.low).cell (p := ⟨b, 3, none⟩) HW.out.2.2.1.lt).trans (HW.out.2.2.1.cell 3)
      go_upto_region 11 with (go_at_call 21; refine (HE.out.mode I x t HS.out HP.out.1 HP.out.2.1).mono ?_; rw [← HQ.out]; rintro e w3 ⟨rfl, h3⟩; have H3 := Lib.hid h3; clear h3)
      clear b0 b1 b2 b3
      have b0 : w3.cell? ⟨b, 0, none⟩ = some (.int .i64 t.k) := ((H3.out.low).cell (p := ⟨b, 0, none⟩) HW.out.2.2.1.lt).trans (HW.out.2.2.1.cell 0)
      have b1 : w3.cell? ⟨b, 1, none⟩ = some (.string t.t) := ((H3.out.low).cell (p := ⟨b, 1, none⟩) HW.out.2.2.1.lt).trans (HW.out.2.2.1.cell 1)
      have b2 : w3.cell? ⟨b, 2, none⟩ = some (.string t.y) := ((H3.out.low).cell (p := ⟨b, 2, none⟩) HW.out.2.2.1.lt).trans (HW.out.2.2.1.cell 2)
      have b3 : w3.cell? ⟨b, 3, none⟩ = some (.int .i64 m) := ((H3.out.low).cell (p := ⟨b, 3, none⟩) HW.out.2.2.1.lt).trans (HW.out.2.2.1.cell 3)
      cases hw : waitL l.W x with
      | some o =>
        have HWT := Lib.hid (show waitR l x = .tuple #[wantV o.th o.m, .bool true] by unfold waitR; rw [hw])
        clear hw
        go_upto_region 12 with (go_at_call 18; refine (H3.out.waiting I x HS.out HP.out.1).mono ?_; rw [HWT.out]; rintro e w4 ⟨rfl, h4⟩; have H4 := Lib.hid h4; clear h4)
        generalize hwa : World.alloc w4 _ = wa
        have hba : Below w4.heap.size w4 wa := by rw [← hwa]; exact (Below.refl _ w4).alloc (Nat.le_refl _) _
        have HE5 := Lib.hid (H4.out.below I hba)
        clear hwa hba b0 b1 b2 b3
        by_cases hq0 : q = 0
        · have e0 : (q == 0) = true := by simp [hq0]
          go_wp2_with fail
          go_ret
          exact ⟨by first | rfl | simp, HW.out.2.2.2.trans (HE5.out.low.mono HW.out.2.2.2.size)⟩
        · have e0 : (q == 0) = false := by simp [hq0]
          go_wp2_with fail
          go_ret
          exact ⟨by first | rfl | simp, HW.out.2.2.2.trans (HE5.out.low.mono HW.out.2.2.2.size)⟩
      | none =>
        have HWT := Lib.hid (And.intro (show waitR l x = .tuple #[wantV ⟨0, eS, eS⟩ 0, .bool false] by unfold waitR; rw [hw]) hw)
        clear hw
        go_upto_region 12 with (go_at_call 18; refine (H3.out.waiting I x HS.out HP.out.1).mono ?_; rw [HWT.out.1]; rintro e w4 ⟨rfl, h4⟩; have H4 := Lib.hid h4; clear h4)
        generalize hwa : World.alloc w4 _ = wa
        have hba : Below w4.heap.size w4 wa := by rw [← hwa]; exact (Below.refl _ w4).alloc (Nat.le_refl _) _
        have HE5 := Lib.hid (H4.out.below I hba)
        clear hwa hba b0 b1 b2 b3
        have b0 : wa.cell? ⟨b, 0, none⟩ = some (.int .i64 t.k) := ((HE5.out.low).cell (p := ⟨b, 0, none⟩) HW.out.2.2.1.lt).trans (HW.out.2.2.1.cell 0)
        have b1 : wa.cell? ⟨b, 1, none⟩ = some (.string t.t) := ((HE5.out.low).cell (p := ⟨b, 1, none⟩) HW.out.2.2.1.lt).trans (HW.out.2.2.1.cell 1)
        have b2 : wa.cell? ⟨b, 2, none⟩ = some (.string t.y) := ((HE5.out.low).cell (p := ⟨b, 2, none⟩) HW.out.2.2.1.lt).trans (HW.out.2.2.1.cell 2)
        have b3 : wa.cell? ⟨b, 3, none⟩ = some (.int .i64 m) := ((HE5.out.low).cell (p := ⟨b, 3, none⟩) HW.out.2.2.1.lt).trans (HW.out.2.2.1.cell 3)
        by_cases hq0 : q = 0
        · have e0 : (q == 0) = true := by simp [hq0]
          go_wp2_with fail
          go_ret
          exact ⟨by first | rfl | simp, HW.out.2.2.2.trans (HE5.out.low.mono HW.out.2.2.2.size)⟩
        · have e0 : (q == 0) = false := by simp [hq0]
          cases hcv : cvB q m with
          | false =>
            have HCV := Lib.hid hcv
            clear hcv
            go_wp2_with (go_at_call 22; refine (rcov_any q m _).mono ?_; rw [HCV.out]; rintro e w5 ⟨rfl, hb⟩; have h5 := HE5.out.below I hb; clear HE5 hb; have HE5 := Lib.hid h5; clear h5)
            go_ret
            exact ⟨by first | rfl | simp, HW.out.2.2.2.trans (HE5.out.low.mono HW.out.2.2.2.size)⟩
          | true =>
            have hask := ask_more (HE5.out.ok I) (x := x) (t := t) (m := m) (by rw [← HQ.out]; exact hq0) HWT.out.2 (by rw [← HQ.out]; exact hcv)
            have HCV := Lib.hid hcv
            have HAS := Lib.hid hask
            clear hcv hask
            go_upto_region 14 with (go_at_call 22; refine (rcov_any q m _).mono ?_; rw [HCV.out]; rintro e w5 ⟨rfl, hb⟩; have h5 := HE5.out.below I hb; clear HE5 hb; have HE5 := Lib.hid h5; clear h5)
            clear b0 b1 b2 b3
            have b0 : w5.cell? ⟨b, 0, none⟩ = some (.int .i64 t.k) := ((HE5.out.low).cell (p := ⟨b, 0, none⟩) HW.out.2.2.1.lt).trans (HW.out.2.2.1.cell 0)
            have b1 : w5.cell? ⟨b, 1, none⟩ = some (.string t.t) := ((HE5.out.low).cell (p := ⟨b, 1, none⟩) HW.out.2.2.1.lt).trans (HW.out.2.2.1.cell 1)
            have b2 : w5.cell? ⟨b, 2, none⟩ = some (.string t.y) := ((HE5.out.low).cell (p := ⟨b, 2, none⟩) HW.out.2.2.1.lt).trans (HW.out.2.2.1.cell 2)
            have b3 : w5.cell? ⟨b, 3, none⟩ = some (.int .i64 m) := ((HE5.out.low).cell (p := ⟨b, 3, none⟩) HW.out.2.2.1.lt).trans (HW.out.2.2.1.cell 3)
            go_upto_region 15 with (go_at_call 14; refine (HE5.out.state_b I t HS.out HP.out.2.1).mono ?_; rintro e w6 ⟨A6, n6, c6, rfl, hn6, ho6, hb6⟩; have H6 := Lib.hid (And.intro hn6 (And.intro ho6 hb6)); clear hn6 ho6 hb6)
            clear b0 b1 b2 b3
            have HL6 := Lib.hid (HE5.out.below I H6.out.2.2)
            have b0 : w6.cell? ⟨b, 0, none⟩ = some (.int .i64 t.k) := ((HL6.out.low).cell (p := ⟨b, 0, none⟩) HW.out.2.2.1.lt).trans (HW.out.2.2.1.cell 0)
            have b1 : w6.cell? ⟨b, 1, none⟩ = some (.string t.t) := ((HL6.out.low).cell (p := ⟨b, 1, none⟩) HW.out.2.2.1.lt).trans (HW.out.2.2.1.cell 1)
            have b2 : w6.cell? ⟨b, 2, none⟩ = some (.string t.y) := ((HL6.out.low).cell (p := ⟨b, 2, none⟩) HW.out.2.2.1.lt).trans (HW.out.2.2.1.cell 2)
            have b3 : w6.cell? ⟨b, 3, none⟩ = some (.int .i64 m) := ((HL6.out.low).cell (p := ⟨b, 3, none⟩) HW.out.2.2.1.lt).trans (HW.out.2.2.1.cell 3)
            go_upto_region 16 with (go_at_call 20; refine (HE5.out.ask2 I H6.out.2.2 x t m HS.out HP.out.1 HP.out.2.1 HP.out.2.2).mono ?_; rw [HAS.out]; rintro e w7 ⟨rfl, h7, hk7⟩; have H7 := Lib.hid (And.intro h7 (own_keep H6.out.2.1 fun k hk => hk7 k (H6.out.2.1.lt k hk).1 (H6.out.2.1.lt k hk).2)); clear h7 hk7)
            clear b0 b1 b2 b3
            have HE7 := Lib.hid H7.out.1
            have b0 : w7.cell? ⟨b, 0, none⟩ = some (.int .i64 t.k) := ((HE7.out.low).cell (p := ⟨b, 0, none⟩) HW.out.2.2.1.lt).trans (HW.out.2.2.1.cell 0)
            have b1 : w7.cell? ⟨b, 1, none⟩ = some (.string t.t) := ((HE7.out.low).cell (p := ⟨b, 1, none⟩) HW.out.2.2.1.lt).trans (HW.out.2.2.1.cell 1)
            have b2 : w7.cell? ⟨b, 2, none⟩ = some (.string t.y) := ((HE7.out.low).cell (p := ⟨b, 2, none⟩) HW.out.2.2.1.lt).trans (HW.out.2.2.1.cell 2)
            have b3 : w7.cell? ⟨b, 3, none⟩ = some (.int .i64 m) := ((HE7.out.low).cell (p := ⟨b, 3, none⟩) HW.out.2.2.1.lt).trans (HW.out.2.2.1.cell 3)
            have hlen : (stateL l t).length ≤ 1000000 := by have h1 := HS.out; unfold szL at h1; unfold stateL; have h2 := List.length_filter_le (fun o : Od => decide (o.th = t)) l.H; have h3 := List.length_filter_le (fun o : Od => decide (o.th = t)) l.W; simp only [List.length_append, List.length_map]; omega
            have HLEN := Lib.hid hlen
            clear hlen
            go_wp2_with (first
              | (go_at_call 14; refine (HE7.out.state_b I t HS.out HP.out.2.1).mono ?_; rintro e w8 ⟨A8, n8, c8, rfl, hn8, ho8, hb8⟩; clear b0 b1 b2 b3; have HE8 := Lib.hid (HE7.out.below I hb8); have HR := Lib.hid (And.intro H6.out.1 (And.intro hn8 (And.intro (((own_held H7.out.2 H6.out.1).below hb8 (Nat.le_refl _)).more hb8.size) (own_held ho8 hn8)))); clear hn8 ho8 hb8)
              | (go_at_call 23; refine (sameH_yes HR.out.1 HR.out.2.1 HR.out.2.2.1 HR.out.2.2.2 HLEN.out).mono ?_; rintro e w9 ⟨rfl, hb9⟩; have h9 := HE8.out.below I hb9; clear HE8 hb9; have HE8 := Lib.hid h9; clear h9; have b0 : w9.cell? ⟨b, 0, none⟩ = some (.int .i64 t.k) := ((HE8.out.low).cell (p := ⟨b, 0, none⟩) HW.out.2.2.1.lt).trans (HW.out.2.2.1.cell 0); have b1 : w9.cell? ⟨b, 1, none⟩ = some (.string t.t) := ((HE8.out.low).cell (p := ⟨b, 1, none⟩) HW.out.2.2.1.lt).trans (HW.out.2.2.1.cell 1); have b2 : w9.cell? ⟨b, 2, none⟩ = some (.string t.y) := ((HE8.out.low).cell (p := ⟨b, 2, none⟩) HW.out.2.2.1.lt).trans (HW.out.2.2.1.cell 2))
              | (go_at_call 21; refine (HE8.out.mode I x t HS.out HP.out.1 HP.out.2.1).mono ?_; rw [← HQ.out]; rintro e w10 ⟨rfl, h10⟩; clear HE8; have HE8 := Lib.hid h10; clear h10))
            go_ret
            exact ⟨by first | rfl | simp, HW.out.2.2.2.trans (HE8.out.low.mono HW.out.2.2.2.size)⟩
end Go.Proofs.Ythbbheegkhlniaa

/-
  LockRing over the contract.
-/
namespace Go.Proofs.Ythbbheegkhlniaa
open Go.RowKit Go.Lib

/-- the program's locks somewhere, apart from block g -/
def TeA (T : LkP) (w0 w : World) (tb : Nat) (l : Lk) (g : Option Nat) : Prop := ∃ D, Tl T w0 w tb D l ∧ ∀ k, g = some k → ¬ D k ∧ k < w.heap.size
theorem TeA.te {T : LkP} {w0 w : World} {tb : Nat} {l : Lk} {g : Option Nat} (h : TeA T w0 w tb l g) : Te T w0 w tb l := by
  obtain ⟨D, h, _⟩ := h
  exact ⟨D, h⟩
section
variable {T : LkP} (I : ImplL T) {w0 w : World} {tb : Nat} {l : Lk}
include I
theorem Te.blockers2 (h : Te T w0 w tb l) (x : Int) (hs : szL l ≤ 1000) (hx : NumI x) : Calls Try.prog 16 #[ptrL tb, .int .i64 x] w fun r w' => ∃ A n c, r = .returned (.slice A n c) ∧ n = (blockL l x).length ∧ w'.ownsRow w.heap.size 3 1 (.slice A n c) n (intsV (blockL l x)) ∧ TeA T w0 w' tb l (Value.slice A n c).ownBlock := by
  obtain ⟨D, h⟩ := h
  refine (I.blockers x h.t hs hx).mono fun r w' ⟨v, h1, ⟨A, n, c, h2, h3, h4⟩, h5⟩ => ?_
  subst h2
  refine ⟨A, n, c, h1, h3, h4, D, h.below I h5, fun k hk => ?_⟩
  have h6 := h4.lt k hk
  exact ⟨fun hd => by have := (I.foot h.t hd).2; omega, h6.2⟩
theorem TeA.release {g : Option Nat} (h : TeA T w0 w tb l g) (x : Int) (hs : szL l ≤ 1000) (hx : NumI x) : Calls Try.prog 17 #[ptrL tb, .int .i64 x] w fun r w' => ∃ v, r = .returned v ∧ TeA T w0 w' tb (releaseL l x).1 g ∧ ∀ k, g = some k → w'.heap[k]? = w.heap[k]? := by
  obtain ⟨D, h, hg⟩ := h
  refine (I.release x h.t hs h.low.size hx).mono fun r w' ⟨v, h1, _, h3, h4⟩ => ⟨v, h1, ⟨_, h.step I h3 h4, fun k hk => ⟨fun hd => ?_, ?_⟩⟩, fun k hk => h4.block k (hg k hk).2 (hg k hk).1⟩
  · rcases hd with hd | hd
    · exact (hg k hk).1 hd
    · have := (hg k hk).2; omega
  · have := (hg k hk).2
    have := h4.size
    omega
end
theorem blockL_len (l : Lk) (x : Int) : (blockL l x).length ≤ szL l := by
  unfold blockL putN szL
  split
  · simp
  · rename_i o _
    have h1 := fold_len (fun a b : Int => decide (a < b)) (fun k : Od => k.x) ((l.W.takeWhile fun a => decide (a.x ≠ x)).filter (ahead o)) ((l.H.filter (inWay o)).foldl (fun l h => putL (fun a b => decide (a < b)) l h.x) [])
    have h2 := fold_len (fun a b : Int => decide (a < b)) (fun k : Od => k.x) (l.H.filter (inWay o)) []
    have h3 := List.length_filter_le (inWay o) l.H
    have h4 := List.length_filter_le (ahead o) (l.W.takeWhile fun a => decide (a.x ≠ x))
    have h5 := (List.takeWhile_sublist (fun a : Od => decide (a.x ≠ x)) (l := l.W)).length_le
    simp only [List.length_nil] at h2
    omega
/-- locks whose transactions are those of the calls -/
structure Rk (cl : List Cl) (l : Lk) : Prop where
  sz : szL l ≤ 1000
  live : ∀ y, Lives l y → y ∈ cl.map fun c => c.x
theorem Rk.release {cl : List Cl} {l : Lk} (h : Rk cl l) (hok : LkOk l) (x : Int) : Rk cl (releaseL l x).1 := ⟨Nat.le_trans (release_sz _ _) h.sz, fun y hy => h.live y (release_lives hok hy).1⟩
theorem Rk.num {cl : List Cl} {l : Lk} (h : Rk cl l) (hin : ∀ c ∈ cl, c.In) {x y : Int} (hy : y ∈ blockL l x) : NumI y := by
  have h1 := h.live y (blockL_other hy).2
  obtain ⟨c, hc, rfl⟩ := List.mem_map.1 h1
  exact (hin c hc).2.1
/-- within a round: quiet so far (then nothing has changed), or somebody has gone -/
structure Qu (cl : List Cl) (l0 l : Lk) (q : Bool) (i : Nat) : Prop where
  rk : Rk cl l
  yes : q = true → l = l0 ∧ ∀ j (h : j < cl.length), j < i → ∀ y ∈ blockL l0 cl[j].x, ¬ cl[j].x < y
  no : q = false → cntL l (cl.map fun c => c.x) + 1 ≤ cntL l0 (cl.map fun c => c.x)
structure Qb (cl : List Cl) (l0 li l : Lk) (q : Bool) (i : Nat) (t : Int) (k : Nat) : Prop extends Qu cl l0 l q i where
  li0 : q = true → li = l0
  row : ∀ b (h : b < (blockL li t).length), b < k → q = true → ¬ t < (blockL li t)[b]
theorem Qb.go {cl : List Cl} {l0 li l : Lk} {q : Bool} {i k : Nat} {t : Int} (h : Qb cl l0 li l q i t k) (hok : LkOk l) (hk : k < (blockL li t).length) : Qb cl l0 li (releaseL l (blockL li t)[k]).1 false i t (k + 1) := by
  refine ⟨⟨h.rk.release hok _, fun h9 => (by cases h9), fun _ => ?_⟩, fun h9 => (by cases h9), fun b hb hbk h9 => (by cases h9)⟩
  cases q with
  | false =>
    have h1 := h.no rfl
    have h2 := cnt_le (l := l) (l' := (releaseL l (blockL li t)[k]).1) (fun y hy => (release_lives hok hy).1) (cl.map fun c => c.x)
    omega
  | true =>
    obtain ⟨e1, _⟩ := h.yes rfl
    have e2 := h.li0 rfl
    have e3 : li = l := by rw [e2, e1]
    have hy : (blockL li t)[k] ∈ blockL li t := List.getElem_mem hk
    have hlv : Lives l (blockL li t)[k] := by
      have h5 : Lives li (blockL li t)[k] := (blockL_other hy).2
      generalize (blockL li t)[k] = z at h5 ⊢
      rw [← e3]
      exact h5
    have h2 := cnt_lt (l := l) (l' := (releaseL l (blockL li t)[k]).1) (fun y hy => (release_lives hok hy).1) hlv (fun h9 => (release_lives hok h9).2 rfl) (h.rk.live _ hlv)
    rw [← e1]
    omega
theorem Qb.stay {cl : List Cl} {l0 li l : Lk} {q : Bool} {i k : Nat} {t : Int} (h : Qb cl l0 li l q i t k) (hk : k < (blockL li t).length) (hn : ¬ t < (blockL li t)[k]) : Qb cl l0 li l q i t (k + 1) :=
  ⟨h.toQu, h.li0, fun b hb hbk hq => by
    rcases Nat.lt_or_ge b k with h1 | h1
    · exact h.row b hb h1 hq
    · obtain rfl : b = k := by omega
      exact hn⟩
theorem Qb.next {cl : List Cl} {l0 li l : Lk} {q : Bool} {i : Nat} {t : Int} (h : Qb cl l0 li l q i t (blockL li t).length) (hi : i < cl.length) (ht : t = cl[i].x) : Qu cl l0 l q (i + 1) := by
  refine ⟨h.rk, fun hq => ⟨(h.yes hq).1, fun j hj hji y hy => ?_⟩, h.no⟩
  rcases Nat.lt_or_ge j i with h1 | h1
  · exact (h.yes hq).2 j hj h1 y hy
  · obtain rfl : j = i := by omega
    rw [← h.li0 hq, ← ht] at hy
    obtain ⟨b, hb, rfl⟩ := List.mem_iff_getElem.1 hy
    rw [← ht]
    exact h.row b hb hb hq
theorem IntsRet.keep {w w1 w2 : World} {xs : List Int} {v : Value} (h : IntsRet w xs w1 v) (hk : ∀ k, v.ownBlock = some k → w2.heap[k]? = w1.heap[k]?) : IntsRet w xs w2 v := by
  obtain ⟨A, n, c, rfl, hn, ho⟩ := h
  exact ⟨A, n, c, rfl, hn, own_keep ho hk⟩
set_option maxRecDepth 100000 in
set_option maxHeartbeats 12800000 in
theorem lring_walk {T : LkP} (I : ImplL T) (A : Option Addr) (c : Nat) (cl : List Cl) (w : World) (hc : RowG clC 6 w w.heap.size A cl) (hin : ∀ x ∈ cl, x.In) (hl : cl.length ≤ c) (hm : c ≤ maxLen) :
    Says Try.prog 6 #[.slice A cl.length c] w (.bool true) := by
  have H := Lib.hid (And.intro hc (And.intro hin (Nat.le_trans hl hm)))
  have HAL := Lib.hid fun (w : World) => alive11_any I w
  clear hc hin hl hm
  go_enter Try.func6, Try.ntmps6
  go_wp2_with fail
  refine (HAL.out w).mono ?_
  rintro e w1 ⟨rfl, hb1⟩
  have H1 := Lib.hid hb1
  clear hb1
  go_wp2_with fail
  refine (great11_any A c cl w1 w.heap.size (H.out.1.below H1.out (Nat.le_refl _))).mono ?_
  rintro e w1' ⟨rfl, rfl | ⟨rfl, hfew⟩⟩
  · go_wp2_with fail
    go_ret
    exact ⟨rfl, H1.out⟩
  go_wp2_with fail
  refine (I.new w1' w.heap.size H1.out.size).mono ?_
  rintro e w2 ⟨tb, D, rfl, ht2, _, hb2⟩
  have H2 := Lib.hid (show Te T w w2 tb ⟨[], []⟩ from ⟨D, ht2, H1.out.trans (hb2.mono H1.out.size)⟩)
  clear ht2 hb2
  obtain ⟨n, hn⟩ : ∃ n, n = cl.length := ⟨_, rfl⟩
  have hn120 : n ≤ 120 := by rw [hn]; exact hfew
  have hn0 : (0 : Int) ≤ (n : Int) := Int.natCast_nonneg _
  rw [← hn]
  have HN := Lib.hid hn
  clear hn hfew
  go_wp2_with fail
  go_loopw [4] (fun i wr => ∃ k : Nat, k ≤ n ∧ i = .int .i64 k ∧ Te T w wr tb (runL cl k)) (fun i _ => n - (intOf i).toNat)
  case atStart => exact ⟨0, by omega, rfl, by rw [run_zero]; exact H2.out⟩
  case round =>
    obtain ⟨k, hk, rfl, hT⟩ := hrel
    have HT := Lib.hid hT
    have hk0 : (0 : Int) ≤ (k : Int) := Int.natCast_nonneg _
    clear hT
    by_cases hlt : k < n
    · have hlt1 : (k : Int) < (n : Int) := by omega
      have hkl : k < cl.length := by rw [← HN.out]; exact hlt
      obtain ⟨ad, rfl, _, d0, d1, d2, d3, d4, d5⟩ := cl_at (H.out.1.below HT.out.low (Nat.le_refl _)) hkl
      have hxi := H.out.2.1 cl[k] (List.getElem_mem hkl)
      obtain ⟨x, hx⟩ : ∃ x, x = cl[k] := ⟨_, rfl⟩
      rw [← hx] at d0 d1 d2 d3 d4 d5 hxi
      have hsz := run_sz cl k (by rw [← HN.out]; exact hk)
      have HX := Lib.hid (And.intro hx (And.intro hxi (And.intro (show szL (runL cl k) ≤ 1000 by omega) hkl)))
      clear hx hxi hsz
      go_wp2_with (go_at_call 13; refine (do_any I HT.out HX.out.2.2.1 x HX.out.2.1).mono ?_; rintro e w3 ⟨rfl, h3⟩; have H3 := Lib.hid h3; clear h3)
      go_roundw
      case rel => exact ⟨k + 1, by omega, by go_num, by rw [run_succ HX.out.2.2.2, ← HX.out.1]; exact H3.out⟩
      case measure => simp [intOf]; omega
    · have hlt1 : ¬ (k : Int) < (n : Int) := by omega
      have hkn : k = cl.length := by rw [← HN.out]; omega
      have HE := Lib.hid (show Te T w wr tb (runL cl cl.length) by rw [← hkn]; exact HT.out)
      clear hkn HT
      have HR0 := Lib.hid (show Rk cl (runL cl cl.length) from ⟨by have := run_sz cl cl.length (Nat.le_refl _); have := HN.out; omega, fun y hy => by obtain ⟨c, hc, e⟩ := run_lives cl _ (Nat.le_refl _) hy; exact List.mem_map.2 ⟨c, hc, e⟩⟩)
      go_wp2_with fail
      go_loopw [5] (fun rv wr => ∃ (r : Nat) (l : Lk), r ≤ n ∧ rv = .int .i64 r ∧ Te T w wr tb l ∧ Rk cl l ∧ cntL l (cl.map fun c => c.x) + r ≤ n) (fun rv _ => n + 1 - (intOf rv).toNat)
      case atStart => exact ⟨0, _, by omega, rfl, HE.out, HR0.out, by have := cnt_len (runL cl cl.length) (cl.map fun c => c.x); simp only [List.length_map] at this; have := HN.out; omega⟩
      case round =>
        obtain ⟨r, l0, hr, rfl, hT, hRk, hcnt⟩ := hrel
        have HT0 := Lib.hid hT
        have HC0 := Lib.hid (And.intro hRk hcnt)
        have HK0 := Lib.hid (hT.ok I)
        have hr0 : (0 : Int) ≤ (r : Int) := Int.natCast_nonneg _
        have hr1 : (r : Int) ≤ (n : Int) := by omega
        clear hT hRk hcnt
        go_wp2_with fail
        go_loopw [6, 7] (fun qv iv wr => ∃ (i : Nat) (q : Bool) (l : Lk), i ≤ n ∧ iv = .int .i64 i ∧ qv = .bool q ∧ Te T w wr tb l ∧ Qu cl l0 l q i) (fun _ iv _ => n - (intOf iv).toNat)
        case atStart => exact ⟨0, true, l0, by omega, rfl, rfl, HT0.out, HC0.out.1, fun _ => ⟨rfl, fun j _ hj => absurd hj (by omega)⟩, fun h9 => (by cases h9)⟩
        case round =>
          obtain ⟨i, q, l, hi, rfl, rfl, hT, hQ⟩ := hrel
          have HT := Lib.hid hT
          have hi0 : (0 : Int) ≤ (i : Int) := Int.natCast_nonneg _
          clear hT
          by_cases hlt : i < n
          · have hlt1 : (i : Int) < (n : Int) := by omega
            have hkl : i < cl.length := by rw [← HN.out]; exact hlt
            obtain ⟨ad, hAd, _, _, d1, _⟩ := cl_at (H.out.1.below HT.out.low (Nat.le_refl _)) hkl
            subst hAd
            have hxi := H.out.2.1 cl[i] (List.getElem_mem hkl)
            obtain ⟨t, ht⟩ : ∃ t, t = cl[i].x := ⟨_, rfl⟩
            have hxt : NumI t := by rw [ht]; exact hxi.2.1
            rw [← ht] at d1
            have HX := Lib.hid (And.intro hxt (And.intro ht (And.intro hQ hkl)))
            clear hxi hxt ht hQ
            go_upto_region 20 with (go_at_call 16; refine (HT.out.blockers2 I t HX.out.2.2.1.rk.sz HX.out.1).mono ?_; rintro e w4 ⟨A4, n4, c4, rfl, hn4, ho4, h4⟩; have H4 := Lib.hid (And.intro hn4 (And.intro ho4 h4)); clear hn4 ho4 h4)
            have hn4b : n4 ≤ 1000 := by rw [H4.out.1]; exact Nat.le_trans (blockL_len l t) HX.out.2.2.1.rk.sz
            go_loopw [6, 10] (fun qv bv wx => ∃ (k : Nat) (q : Bool) (l' : Lk), k ≤ n4 ∧ bv = .int .i64 k ∧ qv = .bool q ∧ TeA T w wx tb l' (Value.slice A4 n4 c4).ownBlock ∧ IntsRet wr (blockL l t) wx (.slice A4 n4 c4) ∧ Qb cl l0 l l' q i t k) (fun _ bv _ => n4 - (intOf bv).toNat)
            case atStart => exact ⟨0, q, l, by omega, rfl, rfl, H4.out.2.2, ⟨_, _, _, rfl, H4.out.1, H4.out.2.1⟩, HX.out.2.2.1, fun hq => (HX.out.2.2.1.yes hq).1, fun b hb hbk => absurd hbk (by omega)⟩
            case round =>
              obtain ⟨k, q, l', hk, rfl, rfl, hT, hI, hQ⟩ := hrel
              have hk0 : (0 : Int) ≤ (k : Int) := Int.natCast_nonneg _
              have HT4 := Lib.hid (And.intro hT hI)
              obtain ⟨A5, n5, c5, e5, hn5, hrow⟩ := hI.g
              cases e5
              clear hT hI
              by_cases hlt4 : k < n4
              · have hlt5 : (k : Int) < (n4 : Int) := by omega
                have hkl4 : k < (blockL l t).length := by rw [← H4.out.1]; exact hlt4
                obtain ⟨ad4, hA4, _, e0⟩ := int_at hrow hkl4
                subst hA4
                obtain ⟨y, hy⟩ : ∃ y, y = (blockL l t)[k] := ⟨_, rfl⟩
                rw [← hy] at e0
                by_cases hgo : t < y
                · have hgd : decide (t < y) = true := decide_eq_true hgo
                  have hg := hQ.go (HT4.out.1.te.ok I) hkl4
                  rw [← hy] at hg
                  have hny : NumI y := by rw [hy]; exact HX.out.2.2.1.rk.num H.out.2.1 (List.getElem_mem hkl4)
                  have HG := Lib.hid (And.intro hg (And.intro hny hQ.rk.sz))
                  clear hg hny hQ hrow hn5 hy
                  go_wp2_with (go_at_call 17; refine (HT4.out.1.release I y HG.out.2.2 HG.out.2.1).mono ?_; rintro e w6 ⟨v, rfl, h6, hk6⟩; have H6 := Lib.hid (And.intro h6 (HT4.out.2.keep hk6)); clear h6 hk6)
                  go_roundw
                  case rel => exact ⟨k + 1, false, _, by omega, by go_num, rfl, H6.out.1, H6.out.2, HG.out.1⟩
                  case measure => simp [intOf]; omega
                · have hgd : decide (t < y) = false := decide_eq_false hgo
                  have hg := hQ.stay hkl4 (by rw [← hy]; exact hgo)
                  have HG := Lib.hid hg
                  clear hg hQ hrow hn5 hy
                  go_wp2_with fail
                  go_roundw
                  case rel => exact ⟨k + 1, q, l', by omega, by go_num, rfl, HT4.out.1, HT4.out.2, HG.out⟩
                  case measure => simp [intOf]; omega
              · have hlt5 : ¬ (k : Int) < (n4 : Int) := by omega
                have hkn : k = (blockL l t).length := by rw [← H4.out.1]; omega
                rw [hkn] at hQ
                have HG := Lib.hid (hQ.next HX.out.2.2.2 HX.out.2.1)
                clear hQ hrow hn5 hkn
                go_wp2_with fail
                go_roundw
                case rel => exact ⟨i + 1, q, l', by omega, by go_num, rfl, HT4.out.1.te, HG.out⟩
                case measure => simp [intOf]; omega
          · have hlt1 : ¬ (i : Int) < (n : Int) := by omega
            have hin9 : i = cl.length := by rw [← HN.out]; omega
            cases q with
            | false =>
              have h9 := hQ.no rfl
              have HQ9 := Lib.hid (And.intro hQ.rk h9)
              clear hQ h9 hin9
              go_wp2_with fail
              go_roundw
              case rel => exact ⟨r + 1, l, by have := HC0.out.2; have := HQ9.out.2; omega, by go_num, HT.out, HQ9.out.1, by have := HC0.out.2; have := HQ9.out.2; omega⟩
              case measure => simp [intOf]; omega
            | true =>
              obtain ⟨e9, hq9⟩ := hQ.yes rfl
              subst e9
              have HQ9 := Lib.hid (And.intro hQ.rk (show ∀ t ∈ cl.map (fun c => c.x), ∀ y ∈ blockL l t, ¬ t < y from fun t ht => by
                obtain ⟨c, hc, rfl⟩ := List.mem_map.1 ht
                obtain ⟨j, hj, rfl⟩ := List.mem_iff_getElem.1 hc
                exact hq9 j hj (by rw [hin9]; exact hj)))
              clear hQ hq9 hin9
              go_wp2_with fail
              go_loopw [11] (fun iv wr => ∃ i : Nat, i ≤ n ∧ iv = .int .i64 i ∧ Te T w wr tb l) (fun iv _ => n - (intOf iv).toNat)
              case atStart => exact ⟨0, by omega, rfl, HT.out⟩
              case round =>
                obtain ⟨i, hi, rfl, hT⟩ := hrel
                clear HT
                have HT := Lib.hid hT
                have hi0 : (0 : Int) ≤ (i : Int) := Int.natCast_nonneg _
                clear hT
                by_cases hlt : i < n
                · have hlt1 : (i : Int) < (n : Int) := by omega
                  have hkl : i < cl.length := by rw [← HN.out]; exact hlt
                  obtain ⟨ad, hAd, _, _, d1, _⟩ := cl_at (H.out.1.below HT.out.low (Nat.le_refl _)) hkl
                  subst hAd
                  have hxi := H.out.2.1 cl[i] (List.getElem_mem hkl)
                  obtain ⟨t, ht⟩ : ∃ t, t = cl[i].x := ⟨_, rfl⟩
                  have hxt : NumI t := by rw [ht]; exact hxi.2.1
                  rw [← ht] at d1
                  have HX := Lib.hid (And.intro hxt (And.intro ht hkl))
                  clear hxi hxt ht
                  go_wp2_with fail
                  go_loopw [12, 13] (fun lv kv wx => ∃ (k d : Nat) (lz : Bool), k ≤ n ∧ kv = .int .i64 k ∧ lv = .bool lz ∧ wx = wr.drewN d ∧ (lz = true → ∀ j (h : j < cl.length), j < k → t ≤ cl[j].x)) (fun _ kv _ => n - (intOf kv).toNat)
                  case atStart => exact ⟨0, 0, true, by omega, rfl, rfl, rfl, fun _ j _ hj => absurd hj (by omega)⟩
                  case round =>
                    obtain ⟨k, d, lz, hk, rfl, rfl, hw, hall⟩ := hrel
                    have hk0 : (0 : Int) ≤ (k : Int) := Int.natCast_nonneg _
                    have HW2 := Lib.hid hw
                    have HT6 := Lib.hid (show Te T w wr tb l by rw [hw]; exact HT.out.below I ⟨rfl, rfl, rfl, Nat.le_refl _, fun _ _ => rfl⟩)
                    clear hw
                    by_cases hlt6 : k < n
                    · have hlt7 : (k : Int) < (n : Int) := by omega
                      have hkl6 : k < cl.length := by rw [← HN.out]; exact hlt6
                      obtain ⟨ad6, hA6, _, _, f1, _⟩ := cl_at (H.out.1.below HT6.out.low (Nat.le_refl _)) hkl6
                      obtain rfl := Option.some.inj hA6
                      obtain ⟨ad7, hA7, _, _, g1, _⟩ := cl_at (H.out.1.below HT6.out.low (Nat.le_refl _)) HX.out.2.2
                      obtain rfl := Option.some.inj hA7
                      rw [← HX.out.2.1] at g1
                      obtain ⟨z, hz⟩ : ∃ z, z = cl[k].x := ⟨_, rfl⟩
                      rw [← hz] at f1
                      have HZ := Lib.hid (And.intro hz hall)
                      clear hz hall hA6 hA7
                      cases lz with
                      | false =>
                        go_upto_region 33 with fail
                        go_quiet (fail)
                        go_wp2_with fail
                        go_roundw
                        case rel => exact ⟨k + 1, _, false, by omega, by go_num, rfl, by rw [HW2.out]; exact World.drewN_drewN _ _ _, fun h9 => (by cases h9)⟩
                        case measure => simp [intOf]; omega
                      | true =>
                        by_cases hge : t ≤ z
                        · have hgd : decide (t ≤ z) = true := decide_eq_true hge
                          go_upto_region 33 with fail
                          go_quiet (fail)
                          go_wp2_with fail
                          go_roundw
                          case rel => exact ⟨k + 1, _, true, by omega, by go_num, rfl, by rw [HW2.out]; exact World.drewN_drewN _ _ _, fun _ j hj hjk => by
                            rcases Nat.lt_or_ge j k with h1 | h1
                            · exact HZ.out.2 rfl j hj h1
                            · obtain rfl : j = k := by omega
                              rw [← HZ.out.1]; exact hge⟩
                          case measure => simp [intOf]; omega
                        · have hgd : decide (t ≤ z) = false := decide_eq_false hge
                          go_upto_region 33 with fail
                          go_quiet (fail)
                          go_wp2_with fail
                          go_roundw
                          case rel => exact ⟨k + 1, _, false, by omega, by go_num, rfl, by rw [HW2.out]; exact World.drewN_drewN _ _ _, fun h9 => (by cases h9)⟩
                          case measure => simp [intOf]; omega
                    · have hlt7 : ¬ (k : Int) < (n : Int) := by omega
                      obtain ⟨ad7, hA7, _, _, g1, _⟩ := cl_at (H.out.1.below HT6.out.low (Nat.le_refl _)) HX.out.2.2
                      obtain rfl := Option.some.inj hA7
                      rw [← HX.out.2.1] at g1
                      have hkn : k = cl.length := by rw [← HN.out]; omega
                      obtain ⟨th, m, bz, hv⟩ : ∃ th m bz, waitR l t = .tuple #[wantV th m, .bool bz] := by
                        unfold waitR
                        split
                        · exact ⟨_, _, _, rfl⟩
                        · exact ⟨⟨0, eS, eS⟩, 0, false, rfl⟩
                      cases lz with
                      | false =>
                        have HV := Lib.hid (And.intro hv trivial)
                        clear hv hall hkn hA7
                        go_upto_region 35 with (go_at_call 18; refine (HT6.out.waiting I t HC0.out.1.sz HX.out.1).mono ?_; rw [HV.out.1]; rintro e w7 ⟨rfl, h7⟩; have H7 := Lib.hid h7; clear h7)
                        generalize hwa : World.alloc w7 _ = wa
                        have hba : Below w7.heap.size w7 wa := by rw [← hwa]; exact (Below.refl _ w7).alloc (Nat.le_refl _) _
                        have H8 := Lib.hid (H7.out.below I hba)
                        clear hwa hba
                        go_wp2_with fail
                        go_roundw
                        case rel => exact ⟨i + 1, by omega, by go_num, H8.out⟩
                        case measure => simp [intOf]; omega
                      | true =>
                        have hnone := HK0.out.rest HC0.out.1.live (fun t ht y hy => Int.not_lt.2 (HQ9.out.2 t ht y hy)) (t := t) (by rw [HX.out.2.1]; exact List.mem_map.2 ⟨_, List.getElem_mem HX.out.2.2, rfl⟩) (fun y hy => by
                          obtain ⟨c, hc, rfl⟩ := List.mem_map.1 hy
                          obtain ⟨j, hj, rfl⟩ := List.mem_iff_getElem.1 hc
                          exact hall rfl j hj (by rw [hkn]; exact hj))
                        have HV := Lib.hid (And.intro (show waitR l t = .tuple #[wantV ⟨0, eS, eS⟩ 0, .bool false] by unfold waitR; rw [hnone]) trivial)
                        clear hv hall hkn hA7 hnone
                        go_upto_region 35 with (go_at_call 18; refine (HT6.out.waiting I t HC0.out.1.sz HX.out.1).mono ?_; rw [HV.out.1]; rintro e w7 ⟨rfl, h7⟩; have H7 := Lib.hid h7; clear h7)
                        generalize hwa : World.alloc w7 _ = wa
                        have hba : Below w7.heap.size w7 wa := by rw [← hwa]; exact (Below.refl _ w7).alloc (Nat.le_refl _) _
                        have H8 := Lib.hid (H7.out.below I hba)
                        clear hwa hba
                        go_wp2_with fail
                        go_roundw
                        case rel => exact ⟨i + 1, by omega, by go_num, H8.out⟩
                        case measure => simp [intOf]; omega
                · have hlt1 : ¬ (i : Int) < (n : Int) := by omega
                  go_wp2_with fail
                  go_ret
                  exact ⟨rfl, HT.out.low⟩
end Go.Proofs.Ythbbheegkhlniaa

/-
  LockSafe over the contract.
-/
namespace Go.Proofs.Ythbbheegkhlniaa
open Go.RowKit Go.Lib

theorem state_apart {l : Lk} (h : LkOk l) (t : Th) : (stateL l t).Pairwise fun p q => p.2.2 = false → q.2.2 = false → p.1 ≠ q.1 ∧ cfB p.2.1 q.2.1 = false := by
  unfold stateL
  refine List.pairwise_append.2 ⟨?_, ?_, fun p _ q hq _ h2 => ?_⟩
  · rw [List.pairwise_map]
    have h1 := h.h.apart.sublist (List.filter_sublist (p := fun o : Od => decide (o.th = t)))
    refine List.Pairwise.imp_of_mem ?_ h1
    intro a b ha hb hr _ _
    have e1 := of_decide_eq_true (List.mem_filter.1 ha).2
    have e2 := of_decide_eq_true (List.mem_filter.1 hb).2
    exact hr (e1.trans e2.symm)
  · rw [List.pairwise_map]
    exact List.pairwise_of_forall fun a b h1 => (by cases h1)
  · obtain ⟨o, _, rfl⟩ := List.mem_map.1 hq
    cases h2
theorem state_wait {l : Lk} {t : Th} {p : Int × Int × Bool} (hp : p ∈ stateL l t) (hw : p.2.2 = true) : ∃ o ∈ l.W, o.x = p.1 := by
  unfold stateL at hp
  rcases List.mem_append.1 hp with hp | hp
  · obtain ⟨o, _, rfl⟩ := List.mem_map.1 hp
    cases hw
  · obtain ⟨o, ho, rfl⟩ := List.mem_map.1 hp
    exact ⟨o, (List.mem_filter.1 ho).1, rfl⟩
theorem state_two {l : Lk} (h : LkOk l) {t : Th} {a b : Nat} (ha : a < (stateL l t).length) (hb : b < a) (h1 : ((stateL l t)[a]).2.2 = false) (h2 : ((stateL l t)[b]'(by omega)).2.2 = false) : ((stateL l t)[a]).1 ≠ ((stateL l t)[b]'(by omega)).1 ∧ cfB ((stateL l t)[a]).2.1 ((stateL l t)[b]'(by omega)).2.1 = false := by
  have h3 := List.pairwise_iff_getElem.1 (state_apart h t) b a (by omega) ha hb h2 h1
  exact ⟨fun e => h3.1 e.symm, by rw [cf_sym]; exact h3.2⟩
theorem state_len (l : Lk) (t : Th) : (stateL l t).length ≤ szL l := by
  unfold szL stateL
  have h2 := List.length_filter_le (fun o : Od => decide (o.th = t)) l.H
  have h3 := List.length_filter_le (fun o : Od => decide (o.th = t)) l.W
  simp only [List.length_append, List.length_map]
  omega
theorem Te.blockers_b {T : LkP} (I : ImplL T) {w0 w : World} {tb : Nat} {l : Lk} (h : Te T w0 w tb l) (x : Int) (hs : szL l ≤ 1000) (hx : NumI x) : Calls Try.prog 16 #[ptrL tb, .int .i64 x] w fun r w' => ∃ v, r = .returned v ∧ IntsRet w (blockL l x) w' v ∧ Below w.heap.size w w' := by
  obtain ⟨D, h⟩ := h
  exact I.blockers x h.t hs hx
/-- the locks, and a list of holders that is read -/
structure Sf (T : LkP) (w0 w : World) (tb : Nat) (l : Lk) (A : Option Addr) (ss : List (Int × Int × Bool)) : Prop where
  t : Te T w0 w tb l
  r : RowG heldC 3 w w.heap.size A ss
theorem Sf.below {T : LkP} (I : ImplL T) {w0 w w' : World} {tb : Nat} {l : Lk} {A : Option Addr} {ss : List (Int × Int × Bool)} (h : Sf T w0 w tb l A ss) (hb : Below w.heap.size w w') : Sf T w0 w' tb l A ss := ⟨h.t.below I hb, (h.r.below hb (Nat.le_refl _)).more hb.size⟩
set_option maxRecDepth 100000 in
set_option maxHeartbeats 12800000 in
theorem lsafe_walk {T : LkP} (I : ImplL T) (A : Option Addr) (c : Nat) (cl : List Cl) (w : World) (hc : RowG clC 6 w w.heap.size A cl) (hin : ∀ x ∈ cl, x.In) (hl : cl.length ≤ c) (hm : c ≤ maxLen) :
    Says Try.prog 3 #[.slice A cl.length c] w (.bool true) := by
  have hmix : Try.prog.follows .mixedOrders = true := by kernel_rfl
  have H := Lib.hid (And.intro hc (And.intro hin (Nat.le_trans hl hm)))
  have HAL := Lib.hid fun (w : World) => alive11_any I w
  clear hc hin hl hm
  go_enter Try.func3, Try.ntmps3
  go_wp2_with fail
  refine (HAL.out w).mono ?_
  rintro e w1 ⟨rfl, hb1⟩
  have H1 := Lib.hid hb1
  clear hb1
  go_wp2_with fail
  refine (great11_any A c cl w1 w.heap.size (H.out.1.below H1.out (Nat.le_refl _))).mono ?_
  rintro e w1' ⟨rfl, rfl | ⟨rfl, hfew⟩⟩
  · go_wp2_with fail
    go_ret
    exact ⟨rfl, H1.out⟩
  go_wp2_with fail
  refine (I.new w1' w.heap.size H1.out.size).mono ?_
  rintro e w2 ⟨tb, D, rfl, ht2, _, hb2⟩
  have H2 := Lib.hid (show Te T w w2 tb ⟨[], []⟩ from ⟨D, ht2, H1.out.trans (hb2.mono H1.out.size)⟩)
  clear ht2 hb2
  obtain ⟨n, hn⟩ : ∃ n, n = cl.length := ⟨_, rfl⟩
  have hn120 : n ≤ 120 := by rw [hn]; exact hfew
  have hn0 : (0 : Int) ≤ (n : Int) := Int.natCast_nonneg _
  rw [← hn]
  have HN := Lib.hid hn
  clear hn hfew
  go_wp2_with fail
  go_loopw [4] (fun i wr => ∃ k : Nat, k ≤ n ∧ i = .int .i64 k ∧ Te T w wr tb (runL cl k)) (fun i _ => n - (intOf i).toNat)
  case atStart => exact ⟨0, by omega, rfl, by rw [run_zero]; exact H2.out⟩
  case round =>
    obtain ⟨k, hk, rfl, hT⟩ := hrel
    have HT := Lib.hid hT
    have hk0 : (0 : Int) ≤ (k : Int) := Int.natCast_nonneg _
    clear hT
    by_cases hlt : k < n
    · have hlt1 : (k : Int) < (n : Int) := by omega
      have hkl : k < cl.length := by rw [← HN.out]; exact hlt
      obtain ⟨ad, rfl, _, d0, d1, d2, d3, d4, d5⟩ := cl_at (H.out.1.below HT.out.low (Nat.le_refl _)) hkl
      have hxi := H.out.2.1 cl[k] (List.getElem_mem hkl)
      obtain ⟨x, hx⟩ : ∃ x, x = cl[k] := ⟨_, rfl⟩
      rw [← hx] at d0 d1 d2 d3 d4 d5 hxi
      have hsz := run_sz cl k (by rw [← HN.out]; exact hk)
      have hsz2 := run_sz cl (k + 1) (by rw [← HN.out]; omega)
      have hlv : ∀ y, Lives (runL cl (k + 1)) y → NumI y := fun y hy => by
        obtain ⟨c, hc, rfl⟩ := run_lives cl (k + 1) (by rw [← HN.out]; omega) hy
        exact (H.out.2.1 c hc).2.1
      have hrun := run_succ hkl
      rw [← hx] at hrun
      obtain ⟨l, hl⟩ : ∃ l, l = runL cl (k + 1) := ⟨_, rfl⟩
      rw [← hl] at hrun hsz2 hlv
      have HXE := Lib.hid hx
      have HX := Lib.hid (And.intro hxi (And.intro (show szL (runL cl k) ≤ 1000 by omega) (And.intro hrun (And.intro (show szL l ≤ 1000 by omega) (And.intro hlv hl)))))
      clear hx hxi hsz hsz2 hlv hrun hl
      go_upto_region 10 with (go_at_call 13; refine (do_any I HT.out HX.out.2.1 x HX.out.1).mono ?_; rw [← HX.out.2.2.1]; rintro e w3 ⟨rfl, h3⟩; have H3 := Lib.hid h3; clear h3)
      clear d0 d1 d2 d3 d4 d5
      obtain ⟨ad3, hA3, _, d0, d1, d2, d3, d4, d5⟩ := cl_at (H.out.1.below H3.out.low (Nat.le_refl _)) hkl
      obtain rfl := Option.some.inj hA3
      rw [← HXE.out] at d2 d3 d4
      have d3' : w3.cell? ⟨(ad.add (k * 6)).block, (ad.add (k * 6)).off + 2 + 1, none⟩ = some (.string x.th.t) := d3
      have d4' : w3.cell? ⟨(ad.add (k * 6)).block, (ad.add (k * 6)).off + 2 + 2, none⟩ = some (.string x.th.y) := d4
      go_upto_region 11 with (go_at_call 14; refine (H3.out.state_b I x.th HX.out.2.2.2.1 HX.out.1.2.2.1).mono ?_; rintro e w4 ⟨A4, n4, c4, rfl, hn4, ho4, hb4⟩; have H4 := Lib.hid (And.intro hn4 (Sf.mk (H3.out.below I hb4) (own_held ho4 hn4))); clear hn4 ho4 hb4)
      clear d0 d1 d2 d3 d4 d5 d3' d4' hA3
      obtain ⟨ss, hss⟩ : ∃ ss, ss = stateL l x.th := ⟨_, rfl⟩
      have hlen := state_len l x.th
      rw [← hss] at hlen H4
      have hn4b : n4 ≤ 1000 := by have := H4.out.1; have := HX.out.2.2.2.1; omega
      have HSS := Lib.hid hss
      clear hss hlen
      go_wp2_with fail
      go_loopw [6] (fun av wx => ∃ a : Nat, a ≤ n4 ∧ av = .int .i64 a ∧ Sf T w wx tb l A4 ss) (fun av _ => n4 - (intOf av).toNat)
      case atStart => exact ⟨0, by omega, rfl, H4.out.2⟩
      case round =>
        obtain ⟨a, ha, rfl, hS⟩ := hrel
        have HS := Lib.hid hS
        have ha0 : (0 : Int) ≤ (a : Int) := Int.natCast_nonneg _
        clear hS
        by_cases halt : a < n4
        · have halt1 : (a : Int) < (n4 : Int) := by omega
          have hal : a < ss.length := by rw [← H4.out.1]; exact halt
          go_wp2_with fail
          go_loopw [7] (fun bv wx => ∃ b : Nat, b ≤ a ∧ bv = .int .i64 b ∧ Sf T w wx tb l A4 ss) (fun bv _ => a - (intOf bv).toNat)
          case atStart => exact ⟨0, by omega, rfl, HS.out⟩
          case round =>
            obtain ⟨b, hb, rfl, hS⟩ := hrel
            clear HS
            have HS := Lib.hid hS
            have hb0 : (0 : Int) ≤ (b : Int) := Int.natCast_nonneg _
            clear hS
            obtain ⟨ads, hAs, _, a0, a1, a2⟩ := held_at HS.out.r hal
            by_cases hblt : b < a
            · have hblt1 : (b : Int) < (a : Int) := by omega
              have hblt2 : (b : Int) < (n4 : Int) := by omega
              have hbl : b < ss.length := by omega
              obtain ⟨ads2, hAs2, _, b0, b1, b2⟩ := held_at HS.out.r hbl
              rw [hAs] at hAs2
              obtain rfl := Option.some.inj hAs2
              subst hAs
              have two : ss[a].2.2 = false → ss[b].2.2 = false → ss[a].1 ≠ ss[b].1 ∧ cfB ss[a].2.1 ss[b].2.1 = false := by
                have hok := HS.out.t.ok I
                have hs := HSS.out
                subst hs
                exact fun h1 h2 => state_two hok hal hblt h1 h2
              obtain ⟨p, hp⟩ : ∃ p, p = ss[a] := ⟨_, rfl⟩
              obtain ⟨q, hq⟩ : ∃ q, q = ss[b] := ⟨_, rfl⟩
              rw [← hp, ← hq] at two
              rw [← hp] at a0 a1 a2
              rw [← hq] at b0 b1 b2
              obtain ⟨p0, p1, p2⟩ := p
              obtain ⟨q0, q1, q2⟩ := q
              simp only at a0 a1 a2 b0 b1 b2 two
              have A0 := BelowBy.cell a0
              have A1 := BelowBy.cell a1
              have A2 := BelowBy.cell a2
              have B0 := BelowBy.cell b0
              have B1 := BelowBy.cell b1
              have B2 := BelowBy.cell b2
              clear a0 a1 a2 b0 b1 b2 hp hq
              cases p2 with
              | true =>
                clear two
                go_upto_region 17 with fail
                refine wp_region_below hmix (by kernel_rfl) ?_
                repeat (first | go_big_quiet_step (fail) | quiet_step (fail))
                refine wpQuiet_nil ?_
                intro wz hw'
                obtain ⟨pw, hw''⟩ := hw'
                obtain ⟨w5, hw5⟩ : ∃ w5, w5 = pw.w' := ⟨_, rfl⟩
                have H5 := Lib.hid (show Sf T w w5 tb l (some ads) ss by rw [hw5]; exact HS.out.below I pw.h)
                rw [← hw5] at hw''
                subst hw''
                clear A0 A1 A2 B0 B1 B2 hw5
                go_wp2_with fail
                go_roundw
                case rel => exact ⟨b + 1, by omega, by go_num, H5.out⟩
                case measure => simp [intOf]; omega
              | false =>
                cases q2 with
                | true =>
                  clear two
                  go_upto_region 17 with fail
                  refine wp_region_below hmix (by kernel_rfl) ?_
                  repeat (first | go_big_quiet_step (fail) | quiet_step (fail))
                  refine wpQuiet_nil ?_
                  intro wz hw'
                  obtain ⟨pw, hw''⟩ := hw'
                  obtain ⟨w5, hw5⟩ : ∃ w5, w5 = pw.w' := ⟨_, rfl⟩
                  have H5 := Lib.hid (show Sf T w w5 tb l (some ads) ss by rw [hw5]; exact HS.out.below I pw.h)
                  rw [← hw5] at hw''
                  subst hw''
                  clear A0 A1 A2 B0 B1 B2 hw5
                  go_wp2_with fail
                  go_roundw
                  case rel => exact ⟨b + 1, by omega, by go_num, H5.out⟩
                  case measure => simp [intOf]; omega
                | false =>
                  have h2 := two rfl rfl
                  have hne : (p0 == q0) = false := by simp [h2.1]
                  have HXY := Lib.hid h2
                  clear two h2
                  go_upto_region 17 with fail
                  refine wp_region_below hmix (by kernel_rfl) ?_
                  repeat (first | go_big_quiet_step (first | (go_at_call 15; exact calls_below ((rconf_any _ _ _).to (congrArg Value.bool HXY.out.2)))) | quiet_step (first | (go_at_call 15; exact calls_below ((rconf_any _ _ _).to (congrArg Value.bool HXY.out.2)))))
                  refine wpQuiet_nil ?_
                  intro wz hw'
                  obtain ⟨pw, hw''⟩ := hw'
                  obtain ⟨w5, hw5⟩ : ∃ w5, w5 = pw.w' := ⟨_, rfl⟩
                  have H5 := Lib.hid (show Sf T w w5 tb l (some ads) ss by rw [hw5]; exact HS.out.below I pw.h)
                  rw [← hw5] at hw''
                  subst hw''
                  clear A0 A1 A2 B0 B1 B2 hw5
                  go_wp2_with fail
                  go_roundw
                  case rel => exact ⟨b + 1, by omega, by go_num, H5.out⟩
                  case measure => simp [intOf]; omega
            · have hblt1 : ¬ (b : Int) < (a : Int) := by omega
              subst hAs
              obtain ⟨p, hp⟩ : ∃ p, p = ss[a] := ⟨_, rfl⟩
              rw [← hp] at a0 a1 a2
              obtain ⟨p0, p1, p2⟩ := p
              simp only at a0 a1 a2
              have HPA := Lib.hid (show ss[a].1 = p0 by rw [← hp])
              have hpm : (p0, p1, p2) ∈ stateL l x.th := by rw [← HSS.out, hp]; exact List.getElem_mem hal
              clear hp
              cases p2 with
              | false =>
                clear hpm
                go_wp2_with fail
                go_roundw
                case rel => exact ⟨a + 1, by omega, by go_num, HS.out⟩
                case measure => simp [intOf]; omega
              | true =>
                obtain ⟨o, ho, hox⟩ := state_wait hpm rfl
                have hlive : NumI p0 := HX.out.2.2.2.2.1 p0 (.inr ⟨o, ho, hox⟩)
                have hnb : blockL l p0 ≠ [] := by rw [← show o.x = p0 from hox]; exact (HS.out.t.ok I).blocked ho
                have hno : ∀ y ∈ blockL l p0, ¬ y = p0 := fun y hy => (blockL_other hy).1
                have HB := Lib.hid (And.intro hlive (And.intro hnb hno))
                clear hpm hlive hnb hno ho hox
                go_upto_region 21 with (go_at_call 16; refine (Te.blockers_b I HS.out.t p0 HX.out.2.2.2.1 HB.out.1).mono ?_; rintro e w8 ⟨v8, rfl, hi8, hb8⟩; obtain ⟨A8, n8, c8, rfl, hn8, hr8⟩ := hi8.g; have H8 := Lib.hid (And.intro hn8 (And.intro hr8 (HS.out.below I hb8))); clear hi8 hn8 hr8 hb8)
                clear a0 a1 a2
                have hn80 : (0 : Int) ≤ (n8 : Int) := Int.natCast_nonneg _
                have hn8p : 0 < n8 := by rw [H8.out.1]; exact List.length_pos_iff.2 HB.out.2.1
                have hn8z : ((n8 : Int) == 0) = false := by rw [beq_eq_false_iff_ne]; omega
                have hn8b : n8 ≤ 1000 := by rw [H8.out.1]; exact Nat.le_trans (blockL_len l p0) HX.out.2.2.2.1
                go_wp2_with fail
                go_loopw [9] (fun bv wx => ∃ b d : Nat, b ≤ n8 ∧ bv = .int .i64 b ∧ wx = w8.drewN d) (fun bv _ => n8 - (intOf bv).toNat)
                case atStart => exact ⟨0, 0, by omega, rfl, rfl⟩
                case round =>
                  obtain ⟨b, d, hb, rfl, hw⟩ := hrel
                  have HW2 := Lib.hid hw
                  have hb0 : (0 : Int) ≤ (b : Int) := Int.natCast_nonneg _
                  by_cases hb8 : b < n8
                  · have hb81 : (b : Int) < (n8 : Int) := by omega
                    have hbl8 : b < (blockL l p0).length := by rw [← H8.out.1]; exact hb8
                    obtain ⟨adb, rfl, _, e0⟩ := int_at H8.out.2.1 hbl8
                    obtain ⟨ads2, hAs2, _, a0, _, _⟩ := held_at H8.out.2.2.r hal
                    obtain rfl := Option.some.inj hAs2
                    have f0 : wr.cell? (adb.add b) = some (.int .i64 (blockL l p0)[b]) := by rw [hw]; exact e0
                    have f1 : wr.cell? (ads.add (a * 3)) = some (.int .i64 ss[a].1) := by rw [hw]; exact a0
                    have hne := HB.out.2.2 (blockL l p0)[b] (List.getElem_mem hbl8)
                    obtain ⟨y, hy⟩ : ∃ y, y = (blockL l p0)[b] := ⟨_, rfl⟩
                    rw [← hy] at f0 hne
                    have hpa : ss[a].1 = p0 := HPA.out
                    rw [hpa] at f1
                    have hq0 : (y == p0) = false := by simp [hne]
                    clear hw e0 a0 hAs2 hy hpa hne
                    go_upto_region 26 with fail
                    go_quiet (fail)
                    go_wp2_with fail
                    go_roundw
                    case rel => exact ⟨b + 1, _, by omega, by go_num, by rw [HW2.out]; exact World.drewN_drewN _ _ _⟩
                    case measure => simp [intOf]; omega
                  · have hb81 : ¬ (b : Int) < (n8 : Int) := by omega
                    have HS9 := Lib.hid (show Sf T w wr tb l (some ads) ss by rw [hw]; exact H8.out.2.2.below I ⟨rfl, rfl, rfl, Nat.le_refl _, fun _ _ => rfl⟩)
                    clear hw
                    go_wp2_with fail
                    go_roundw
                    case rel => exact ⟨a + 1, by omega, by go_num, HS9.out⟩
                    case measure => simp [intOf]; omega
        · have halt1 : ¬ (a : Int) < (n4 : Int) := by omega
          have HE := Lib.hid (show Te T w wr tb (runL cl (k + 1)) by rw [← HX.out.2.2.2.2.2]; exact HS.out.t)
          go_wp2_with fail
          go_roundw
          case rel => exact ⟨k + 1, by omega, by go_num, HE.out⟩
          case measure => simp [intOf]; omega
    · have hlt1 : ¬ (k : Int) < (n : Int) := by omega
      go_wp2_with fail
      go_ret
      exact ⟨rfl, HT.out.low⟩
end Go.Proofs.Ythbbheegkhlniaa
