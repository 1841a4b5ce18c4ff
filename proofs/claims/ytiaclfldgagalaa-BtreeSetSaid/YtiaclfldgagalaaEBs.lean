/-
  BtreeShape over a contract of the program's tree.
-/
import Derived.Test.YtiaclfldgagalaaEShp
namespace Go.Proofs.Ytiaclfldgagalaa
open Go.RowKit Go.Lib

/-- inserts and deletes so far: one tree's entries -/
def ShIn (T : TrP) (w0 : World) (tb : Nat) (k : Nat) (wr : World) : Prop :=
  ∃ (D : Nat → Prop) (l : List En), Tn T w0 wr tb D l ∧ Sm l k
theorem shp_few {ps : List Tp} {d : Nat} {es : List En} {sz : Nat} (h : Shp ps d true none none 0 es sz) (hl : es.length ≤ 600) : d ≤ 40 := by
  obtain ⟨_, _, r3⟩ := shp_root h
  cases d with
  | zero => omega
  | succ d' =>
    have h1 := r3 d' rfl
    rcases Nat.lt_or_ge d' 6 with h2 | h2
    · omega
    · have h3 : 3 ^ 6 ≤ 3 ^ d' := Nat.pow_le_pow_right (by omega) h2
      omega
theorem kids_take {ps : List Tp} {i : Nat} (h : i < ps.length) : ((ps.take (i + 1)).map fun x => x.kids.length).sum = ((ps.take i).map fun x => x.kids.length).sum + ps[i].kids.length := by
  rw [List.take_add_one, List.getElem?_eq_getElem h, List.map_append, List.sum_append]
  simp
theorem kids_le {ps : List Tp} {i : Nat} : ((ps.take i).map fun x => x.kids.length).sum ≤ (ps.map fun x => x.kids.length).sum := by
  have h : (ps.map fun x => x.kids.length).sum = ((ps.take i).map fun x => x.kids.length).sum + ((ps.drop i).map fun x => x.kids.length).sum := by
    rw [← List.sum_append, ← List.map_append, List.take_append_drop]
  omega
set_option maxRecDepth 100000 in
set_option maxHeartbeats 1600000 in
theorem sameG_yes {w : World} {A A' : Option Addr} {n n' c c' : Nat} {l : List En} (hn : n = l.length) (hn' : n' = l.length) (h1 : RowG En.vs 3 w w.heap.size A l) (h2 : RowG En.vs 3 w w.heap.size A' l) (hl : l.length ≤ 1000000) :
    Calls Try.prog 15 #[.slice A n c, .slice A' n' c'] w fun e w' => e = .returned (.bool true) ∧ Below w.heap.size w w' := by
  obtain rfl : n' = n := by rw [hn, hn']
  have H := Lib.hid (And.intro h1 (And.intro h2 hn))
  have hnl : n' ≤ 1000000 := by omega
  clear h1 h2 hn hn'
  go_enter Try.func15, Try.ntmps15
  go_wp2_with fail
  go_loopw [5] (fun i wr => ∃ k d : Nat, k ≤ n' ∧ i = .int .i64 k ∧ wr = w.drewN d) (fun i _ => n' - (intOf i).toNat)
  case atStart => exact ⟨0, 0, by omega, rfl, rfl⟩
  case round =>
    obtain ⟨k, d, hk, rfl, hw⟩ := hrel
    have HW := Lib.hid hw
    have hk0 : (0 : Int) ≤ (k : Int) := Int.natCast_nonneg _
    by_cases hlt : k < n'
    · have hk1 : (k : Int) < (n' : Int) := by omega
      have hkl : k < l.length := by rw [← H.out.2.2]; exact hlt
      obtain ⟨g, rfl, _, a0, a1, a2⟩ := H.out.1.en hkl
      obtain ⟨g', rfl, _, b0, b1, b2⟩ := H.out.2.1.en hkl
      have hcw : ∀ a, wr.cell? a = w.cell? a := fun a => by rw [hw]; rfl
      have c0 := (hcw _).trans a0
      have c1 := (hcw _).trans a1
      have c2 := (hcw _).trans a2
      have d0 := (hcw _).trans b0
      have d1 := (hcw _).trans b1
      have d2 := (hcw _).trans b2
      obtain ⟨x, hx⟩ : ∃ x, x = l[k] := ⟨_, rfl⟩
      rw [← hx] at c0 c1 c2 d0 d1 d2
      have e1 : (x.s.toList == x.s.toList) = true := by rw [str_beq]; simp
      clear hw a0 a1 a2 b0 b1 b2 hcw hx
      go_wp2_with fail
      go_quiet (fail)
      go_wp2_with fail
      go_roundw
      case rel => exact ⟨k + 1, _, by omega, by go_num, by rw [HW.out]; exact World.drewN_drewN _ _ _⟩
      case measure => simp [intOf]; omega
    · have hkn : ¬ ((k : Int) < (n' : Int)) := by omega
      have hb : Below w.heap.size w wr := by rw [hw]; exact below_dN (Below.refl _ _) _
      have HB := Lib.hid hb
      clear hw hb
      go_wp2_with fail
      go_ret
      exact ⟨rfl, HB.out⟩
set_option maxRecDepth 100000 in
set_option maxHeartbeats 12800000 in
theorem bshape_walk {T : TrP} (I : Impl 1000 T) (A : Option Addr) (c : Nat) (cl : List C8) (w : World) (hc : RowG c8cell 6 w w.heap.size A cl) (hin : ∀ x ∈ cl, x.In) (hl : cl.length ≤ c) (hm : c ≤ maxLen) :
    Calls Try.prog 4 #[.slice A cl.length c] w (YesB w) := by
  have H := Lib.hid (And.intro hc (And.intro hin (Nat.le_trans hl hm)))
  clear hc hin hl hm
  go_enter Try.func4, Try.ntmps4
  go_wp2_with fail
  refine (alive8_any I (Nat.le_refl _) w).mono ?_
  rintro e w1 ⟨rfl, h1⟩
  have H1 := Lib.hid h1
  clear h1
  go_wp2_with fail
  refine (great8_any A c cl w1 w.heap.size (H.out.1.below H1.out (Nat.le_refl _)) H.out.2.1).mono ?_
  rintro e w1' ⟨rfl, rfl | ⟨rfl, hfew, hsm⟩⟩
  · go_wp2_with fail
    go_ret
    exact ⟨rfl, H1.out⟩
  have HSM := Lib.hid hsm
  clear hsm
  go_wp2_with fail
  refine (I.new w1' w.heap.size H1.out.size).mono ?_
  rintro e w2 ⟨tb, D, rfl, ht2, hD2, hb2⟩
  obtain ⟨n, hn⟩ : ∃ n, n = cl.length := ⟨_, rfl⟩
  have H3 := Lib.hid (show ShIn T w tb 0 w2 from ⟨D, [], ⟨ht2, H1.out.trans (hb2.mono H1.out.size)⟩, Sm.nil 0⟩)
  rw [← hn] at hfew ⊢
  have HN := Lib.hid hn
  have hn0 : (0 : Int) ≤ (n : Int) := Int.natCast_nonneg _
  clear ht2 hD2 hb2 hn
  go_wp2_with fail
  go_loopw [4] (fun i wr => ∃ k : Nat, k ≤ n ∧ i = .int .i64 k ∧ ShIn T w tb (2 * k) wr) (fun i _ => n - (intOf i).toNat)
  case atStart => exact ⟨0, Nat.zero_le _, rfl, H3.out⟩
  case round =>
    obtain ⟨k, hk, rfl, D, l, hT, hS⟩ := hrel
    have hk0 : (0 : Int) ≤ (k : Int) := Int.natCast_nonneg _
    have HR := Lib.hid (And.intro hT hS)
    clear hT hS
    by_cases hlt : k < n
    · have hlt1 : (k : Int) < (n : Int) := by omega
      have hkl : k < cl.length := by rw [← HN.out]; exact hlt
      obtain ⟨ad, rfl, _, d0, d1, d2, d3, d4, d5⟩ := (H.out.1.below HR.out.1.low (Nat.le_refl _)).c8 hkl
      have hmem := List.getElem_mem (l := cl) hkl
      obtain ⟨x, hx⟩ : ∃ x, x = cl[k] := ⟨_, rfl⟩
      rw [← hx] at d0 d1 d2 d3 d4 d5 hmem
      have HM := Lib.hid (HSM.out x hmem)
      have HNX := Lib.hid (H.out.2.1 x hmem).2.2
      have HXE := Lib.hid hx
      clear hx hmem
      go_upto_if 27 with fail
      go_cut [] (fun wx => ShIn T w tb (2 * k + 1) wx)
      case first =>
        by_cases hw0 : x.what = 0
        · have hq : (x.what == 0) = true := by simp [hw0]
          have hqd : decide (x.what = 0) = true := decide_eq_true hw0
          have HIN := Lib.hid (I.ins x.e HR.out.1.t (HR.out.2.small (by omega)).few HR.out.1.low.size (by have := HM.out.1; omega) HNX.out)
          unfold En.val at HIN
          clear hw0
          go_wp2_with fail
          refine HIN.out.mono ?_
          rintro e w5 ⟨rfl, ht5, hc5⟩
          have HF := Lib.hid (show ShIn T w tb (2 * k + 1) w5 from ⟨_, _, HR.out.1.step I ht5 hc5, HR.out.2.ins (by have := HM.out.1; omega)⟩)
          clear ht5 hc5
          go_wp2_with fail
          go_meet
          case rel => exact HF.out
        · have hq : (x.what == 0) = false := by simp [hw0]
          have hqd : decide (x.what = 0) = false := decide_eq_false hw0
          have HF := Lib.hid (show ShIn T w tb (2 * k + 1) wr from ⟨D, l, HR.out.1, HR.out.2.more (by omega)⟩)
          go_wp2_with fail
          go_meet
          case rel => exact HF.out
      case rest =>
        obtain ⟨D2, l2, hT2, hS2⟩ := hcut
        have HR2 := Lib.hid (And.intro hT2 hS2)
        have HAD := Lib.hid (H.out.1.below hT2.low (Nat.le_refl _))
        clear hT2 hS2 d0 d1 d2 d3 d4 d5
        obtain ⟨ad', had', _, d0, d1, d2, d3, d4, d5⟩ := HAD.out.c8 (i := k) (by rw [← HN.out]; exact hlt)
        obtain rfl : ad = ad' := Option.some.inj had'
        rw [← HXE.out] at d0 d1 d2 d3 d4 d5
        clear had'
        go_upto_if 40 with fail
        go_cut [] (fun wx => ShIn T w tb (2 * k + 2) wx)
        case first =>
          by_cases hw0 : x.what = 1
          · have hq : (x.what == 1) = true := by simp [hw0]
            have hqd : decide (x.what = 1) = true := decide_eq_true hw0
            have HIN := Lib.hid (I.del x.e HR2.out.1.t (HR2.out.2.small (by omega)) HR2.out.1.low.size (by have := HM.out.1; omega))
            unfold En.val at HIN
            clear hw0
            go_wp2_with fail
            refine HIN.out.mono ?_
            rintro e w5 ⟨rfl, ht5, hc5⟩
            have HF := Lib.hid (show ShIn T w tb (2 * k + 2) w5 from ⟨_, _, HR2.out.1.step I ht5 hc5, HR2.out.2.del _⟩)
            clear ht5 hc5
            go_wp2_with fail
            go_meet
            case rel => exact HF.out
          · have hq : (x.what == 1) = false := by simp [hw0]
            have hqd : decide (x.what = 1) = false := decide_eq_false hw0
            have HF := Lib.hid (show ShIn T w tb (2 * k + 2) wc from ⟨D2, l2, HR2.out.1, HR2.out.2.more (by omega)⟩)
            go_wp2_with fail
            go_meet
            case rel => exact HF.out
        case rest =>
          obtain ⟨D3, l3, hT3, hS3⟩ := hcut
          have HR3 := Lib.hid (And.intro hT3 hS3)
          clear hT3 hS3 d0 d1 d2 d3 d4 d5
          obtain ⟨w3, hw3⟩ : ∃ w3, w3 = wc := ⟨_, rfl⟩
          subst hw3
          have hnn : (n : Int) ≤ 300 := by omega
          go_upto_region 13 with fail
          go_cut [57] (fun v wx => (∃ b, v = .bool b) ∧ wx = w3)
          case first =>
            by_cases hb7 : bits .and .i64 (k : Int) 7 = 0
            · have hq : (bits .and .i64 (k : Int) 7 != 0) = false := by simp [hb7]
              go_wp2_with fail
              go_meet
              case rel => exact ⟨⟨_, rfl⟩, rfl⟩
            · have hq : (bits .and .i64 (k : Int) 7 != 0) = true := by simp [hb7]
              go_wp2_with fail
              go_meet
              case rel => exact ⟨⟨_, rfl⟩, rfl⟩
          case rest =>
            obtain ⟨⟨b, rfl⟩, hwx⟩ := hcut
            have hwx' := hwx.symm
            clear hwx
            subst hwx'
            cases b with
            | true =>
              have HF := Lib.hid (show ShIn T w tb (2 * (k + 1)) w3 from ⟨D3, l3, HR3.out.1, HR3.out.2⟩)
              go_wp2_with fail
              go_roundw
              case rel => exact ⟨k + 1, by omega, by go_num, HF.out⟩
              case measure => simp [intOf]; omega
            | false =>
              have hl3 : l3.length ≤ 600 := by have := HR3.out.2.few; omega
              have HSL := Lib.hid (HR3.out.2.small (by omega))
              have HPG := Lib.hid (I.pages HR3.out.1.t HSL.out)
              go_wp2_with fail
              refine HPG.out.mono ?_
              rintro e w5 ⟨A5, n5, c5, ps, rfl, hn5, hin5, hok5, hb5⟩
              obtain ⟨d, hshp⟩ := hok5.shp
              obtain ⟨r1, _, _⟩ := shp_root hshp
              have hn5b : n5 ≤ 601 := by omega
              have HSH := Lib.hid (show Calls Try.prog 21 #[.slice A5 n5 c5, .int .i64 0, .int .i64 0, .slice none 0 0, .slice none 0 0] w5 (ShRet l3 (((0 : Nat) : Int) + d) w5) by
                rw [hn5]
                exact shape_any ps hok5.key (by omega) d true none none 0 l3 ps.length w5 A5 c5 0 none none 0 0 0 0 hshp (by omega) ⟨fun _ => rfl, fun _ => rfl⟩ (by have := shp_few hshp hl3; omega) hin5 (BdIn.none' _) (BdIn.none' _))
              have H5 := Lib.hid (And.intro (HR3.out.1.below I hb5) (And.intro hin5 (And.intro hn5 hok5.kids)))
              obtain ⟨dp, hdp⟩ : ∃ dp : Int, dp = ((0 : Nat) : Int) + d := ⟨_, rfl⟩
              rw [← hdp] at HSH
              clear hin5 hok5 hb5 hn5 hshp r1 hdp HPG
              go_wp2_with fail
              refine HSH.out.mono ?_
              rintro e w6 ⟨A6, n6, c6, rfl, hn6, hrow6, hb6⟩
              have H6 := Lib.hid (And.intro (H5.out.1.below I hb6) (And.intro (H5.out.2.1.below hb6) (And.intro hn6 hrow6)))
              have HAL := Lib.hid (I.all H6.out.1.t HSL.out)
              clear hn6 hrow6 hb6 HSH
              go_wp2_with fail
              refine HAL.out.mono ?_
              rintro e w7 ⟨A7, c7, n7, rfl, hn7, ho7, hb7⟩
              have H7 := Lib.hid (And.intro (H6.out.1.below I hb7) (H6.out.2.1.below hb7))
              have HSM2 := Lib.hid (sameG_yes (c := c6) (c' := c7) H6.out.2.2.1 hn7 ((H6.out.2.2.2.below hb7 (Nat.le_refl _)).more hb7.size) (RowG.of_own ho7 hn7) (by omega))
              clear hn7 ho7 hb7 HAL
              go_wp2_with fail
              refine HSM2.out.mono ?_
              rintro e w8 ⟨rfl, hb8⟩
              have H8 := Lib.hid (And.intro (H7.out.1.below I hb8) (H7.out.2.below hb8))
              clear hb8 HSM2
              have hn50 : (0 : Int) ≤ (n5 : Int) := Int.natCast_nonneg _
              go_wp2_with fail
              go_loop [9, 10] (fun kv iv => ∃ j s : Nat, j ≤ n5 ∧ iv = .int .i64 j ∧ kv = .int .i64 s ∧ s = ((ps.take j).map fun x => x.kids.length).sum) (fun _ iv => n5 - (intOf iv).toNat)
              case atStart => exact ⟨0, 0, Nat.zero_le _, rfl, rfl, by simp⟩
              case round =>
                obtain ⟨j, s, hj, rfl, rfl, hs⟩ := hrel
                have hj0 : (0 : Int) ≤ (j : Int) := Int.natCast_nonneg _
                have hs0 : (0 : Int) ≤ (s : Int) := Int.natCast_nonneg _
                have HSS := Lib.hid hs
                by_cases hjn : j < n5
                · have hjn1 : (j : Int) < (n5 : Int) := by omega
                  have hjl : j < ps.length := by rw [← H5.out.2.2.1]; exact hjn
                  obtain ⟨ap, rfl, _, _, _, p2⟩ := H8.out.2.at_ hjl
                  obtain ⟨z, hz⟩ : ∃ z, z = ps[j].kids.length := ⟨_, rfl⟩
                  rw [← hz] at p2
                  have hnx : ((ps.take (j + 1)).map fun x => x.kids.length).sum = s + z := by rw [kids_take hjl, ← hs, hz]
                  have hle := kids_le (ps := ps) (i := j + 1)
                  have hkd := H5.out.2.2.2
                  have hn5e := H5.out.2.2.1
                  have hsz : s + z ≤ 601 := by omega
                  have HNX := Lib.hid hnx
                  clear hnx hle hkd hn5e hz hs
                  go_wp2_with fail
                  go_round
                  case rel => exact ⟨j + 1, s + z, by omega, by go_num, by go_num, HNX.out.symm⟩
                  case measure => simp [intOf]; omega
                · have hjn1 : ¬ (j : Int) < (n5 : Int) := by omega
                  have hse : s + 1 = n5 := by
                    have h1 := H5.out.2.2.2
                    have h2 := H5.out.2.2.1
                    rw [List.take_of_length_le (by omega)] at hs
                    omega
                  have hq : ((s : Int) != (n5 : Int) - 1) = false := by simp; omega
                  have HF := Lib.hid (show ShIn T w tb (2 * (k + 1)) w8 from ⟨D3, l3, H8.out.1, HR3.out.2⟩)
                  clear hse hs
                  go_wp2_with fail
                  go_roundw
                  case rel => exact ⟨k + 1, by omega, by go_num, HF.out⟩
                  case measure => simp [intOf]; omega
    · have hlt1 : ¬ ((k : Int) < (n : Int)) := by omega
      go_wp2_with fail
      go_ret
      exact ⟨rfl, HR.out.1.low⟩
end Go.Proofs.Ytiaclfldgagalaa
