/-
  ValueBack returns true for all rows and numbers: what was encoded, or shown, is read again; without their end a row's bytes are none's; the row that is handed in is left as it was.
  No condition but the reach of the statement's form; the listed variables are tied by the card.
-/
import Derived.Test.YtkdcnkadngbccaaDoorVLaid
import Derived.Test.YtkdcnkadngbccaaDoorDec5
import Derived.Test.YtkdcnkadngbccaaDoorTie
import Derived.Test.YtkdcnkadngbccaaDoorCards
import Derived.Lay
import Derived.MakeChecks
import Derived.JoinedOf
import Derived.Stop.Joined
import Derived.HandedShaped
namespace Go.Proofs.YtkdcnkadngbccaaDoor
open Go.RowKit Go.Lib

def BkRel (n : Nat) (w : World) (i : Value) (wr : World) : Prop := ∃ k : Nat, k ≤ n ∧ i = .int .i64 k ∧ Below w.heap.size w wr

set_option maxRecDepth 100000 in
set_option maxHeartbeats 12800000 in
theorem valueBack_walk (A : Option Addr) (c : Nat) (xs : List Va) (k : Int) (w : World)
    (hr : RowIn w w.heap.size A xs) (hi : ∀ x ∈ xs, x.In) (hl : xs.length ≤ c) (hm : c ≤ maxLen) (hk : -9223372036854775808 ≤ k ∧ k ≤ 9223372036854775807) (hv : Vs w) :
    Calls Tryd.prog 5 #[.slice A xs.length c, .int .i64 k] w (YesB w) := by
  have HX := Lib.hid (And.intro hr hv)
  have HI := Lib.hid hi
  have HL := Lib.hid (Nat.le_trans hl hm)
  have HKB := Lib.hid hk
  clear hr hl hm hi hv hk
  go_enter Tryd.func5, Tryd.ntmps5
  go_wp2_with fail
  refine (alive_any w).mono ?_
  rintro e w1 ⟨rfl, h1⟩
  have HA := Lib.hid h1
  clear h1
  have HW := Lib.hid ((HX.out.1.below HA.out (Nat.le_refl _)).more HA.out.size)
  go_wp2_with fail
  refine (long_any A c xs w1 _ HW.out HL.out).mono ?_
  rintro e w2 ⟨rfl, rfl | ⟨rfl, hn⟩⟩
  · go_wp2_with fail
    go_wp2
    go_ret
    exact ⟨rfl, HA.out⟩
  have HN := Lib.hid hn
  clear hn
  have HOK := Lib.hid (show ∀ x ∈ xs, VaOk x from fun x hx => ⟨(HI.out x hx).1, (HI.out x hx).2.1, by have := HN.out.2 x hx; omega⟩)
  go_wp2_with fail
  refine (encode_any A c xs w1 HW.out HL.out HOK.out).mono ?_
  rintro e w3 ⟨hb3, ⟨hrr, rfl⟩ | ⟨hrr, v3, rfl, hown3⟩⟩
  · have HA3 := Lib.hid (HA.out.trans (hb3.mono HA.out.size))
    have HW3 := Lib.hid ((HW.out.below hb3 (Nat.le_refl _)).more hb3.size)
    have HP := Lib.hid hrr
    clear hb3 hrr
    go_wp2_with fail
    refine (rightRow_any A c xs w3 HW3.out HL.out).mono ?_
    rw [HP.out]
    rintro e w4 ⟨rfl, hb4⟩
    have HA4 := Lib.hid (HA3.out.trans (hb4.mono HA3.out.size))
    clear hb4
    go_wp2
    go_ret
    exact ⟨rfl, HA4.out⟩
  obtain ⟨A3, c3, rfl, hc3, hm3⟩ := own_shape hown3
  have hru : xs.length ≤ 8 ∧ ∀ x ∈ xs, rightVa x = true := by
    have h := hrr
    unfold rightR at h
    simpa using h
  have hok2 : ∀ x ∈ xs, rightVa x = true ∧ IntIn x.n := fun x hx => ⟨hru.2 x hx, (HI.out x hx).2.1⟩
  have hle : (encR xs).length ≤ 100000 := by
    have h1 := encVs_len HOK.out
    have h2 := encI_len (n := (xs.length : Int)) (by omega) (by omega)
    unfold encR
    rw [List.length_append]
    omega
  have hby := back_yes hrr (fun x hx => (HI.out x hx).2.1)
  have hcut := fun n (hn : n < (encR xs).length) => cut_none hru.1 hok2 hn (encR_bytes xs)
  have hbb := encR_bytes xs
  obtain ⟨l, hl⟩ : ∃ l, l = encR xs := ⟨_, rfl⟩
  rw [← hl] at hown3 hle hby hcut hbb hc3 ⊢
  have HA3 := Lib.hid (HA.out.trans (hb3.mono HA.out.size))
  have HW3 := Lib.hid (And.intro ((HW.out.below hb3 (Nat.le_refl _)).more hb3.size) (Rd.of_own hown3))
  have HE := Lib.hid (And.intro hby (And.intro hcut (And.intro hbb (And.intro hru (And.intro hc3 hm3)))))
  clear hb3 hrr hown3 hok2 hby hcut hbb hl hru hc3 hm3
  go_wp2_with fail
  refine (decode_any A3 c3 l w3 HW3.out.2 HE.out.2.2.1 (by omega)).mono ?_
  rintro e w4 ⟨hb4, ⟨_, A4, c4, rfl, hrow4, _⟩ | ⟨hno, _⟩⟩
  case inr => rw [HE.out.1.2] at hno; cases hno
  rw [HE.out.1.1] at hrow4 ⊢
  have HA4 := Lib.hid (HA3.out.trans (hb4.mono HA3.out.size))
  have HW4 := Lib.hid (And.intro ((HW3.out.1.below hb4 (Nat.le_refl _)).more hb4.size) (And.intro ((HW3.out.2.below hb4 (Nat.le_refl _)).more hb4.size) hrow4))
  clear hb4 hrow4
  go_wp2_with fail
  refine (sameRow_any A4 A c4 c xs xs w4 _ _ HW4.out.2.2 HW4.out.1 HL.out).mono ?_
  rw [decide_eq_true rfl]
  rintro e w5 ⟨rfl, d, hw5⟩
  have hb45 : Below w4.heap.size w4 w5 := by rw [hw5]; exact ⟨rfl, rfl, rfl, Nat.le_refl _, fun _ _ => rfl⟩
  have HA5 := Lib.hid (HA4.out.trans (hb45.mono HA4.out.size))
  have HW5 := Lib.hid (HW4.out.2.1.below hb45 (Nat.le_refl _) |>.more hb45.size)
  clear hw5 hb45
  by_cases hin : 0 ≤ k ∧ k < (l.length : Int)
  · obtain ⟨hk0, hk1⟩ := hin
    obtain ⟨n, rfl⟩ : ∃ n : Nat, k = (n : Int) := ⟨k.toNat, by omega⟩
    have hnl : n < l.length := by omega
    have hnc : (n : Int) ≤ (c3 : Int) := by have := HE.out.2.2.2.2.1; omega
    have hlt : (l.take n).length = n := by rw [List.length_take]; omega
    have hrd := HW5.out.cuth (k := n) (by omega)
    have hct : (cells l).take n = cells (l.take n) := by simp [cells, List.map_take]
    rw [hct] at hrd
    have hdec := HE.out.2.1 n hnl
    have hbt := HE.out.2.2.1.take n
    obtain ⟨m, hm⟩ : ∃ m, m = l.take n := ⟨_, rfl⟩
    rw [← hm] at hlt hrd hdec hbt
    have hcall := decode_any A3 c3 m w5 (by rw [hlt]; exact hrd) hbt (by omega)
    rw [hlt] at hcall
    have HC := Lib.hid (And.intro hcall hdec)
    clear hlt hrd hct hdec hbt hm hcall
    go_wp2_with fail
    refine HC.out.1.mono ?_
    rintro e w6 ⟨hb6, ⟨hyes, _⟩ | ⟨_, rfl⟩⟩
    · rw [HC.out.2] at hyes; cases hyes
    have HA6 := Lib.hid (HA5.out.trans (hb6.mono HA5.out.size))
    clear hb6
    go_wp2_with fail
    go_loopw [9] (fun i wr => BkRel xs.length w i wr) (fun i _ => xs.length - (Lib.intOf i).toNat)
    case atStart => exact ⟨0, by omega, rfl, HA6.out⟩
    case round =>
      obtain ⟨j, hj, rfl, hb⟩ := hrel
      have hj0 : (0 : Int) ≤ (j : Int) := Int.natCast_nonneg _
      have hxl : xs.length ≤ 100 := HN.out.1
      by_cases hjl : j < xs.length
      · have hjl1 : (j : Int) < (xs.length : Int) := by omega
        obtain ⟨ad, rfl, hadlt, c0, c1, c2⟩ := (HX.out.1.below hb (Nat.le_refl _)).at_ hjl
        obtain ⟨x, hx⟩ : ∃ x, x = xs[j] := ⟨_, rfl⟩
        rw [← hx] at c0 c1 c2
        have hxm : x ∈ xs := by rw [hx]; exact List.getElem_mem _
        have hxi := HI.out x hxm
        have hxr := HE.out.2.2.2.1.2 x hxm
        have hxs := show_len x hxi (HN.out.2 x hxm)
        have HB := Lib.hid hb
        have HC := Lib.hid (And.intro c0 (And.intro c1 c2))
        have HXX := Lib.hid (And.intro hxi (And.intro hxr hxs))
        have HV := Lib.hid (HX.out.2.below hb)
        have hszw := hb.size
        clear hb hx hxm hxi hxr hxs
        go_wp2_with fail
        refine (show_va x wr HXX.out.1.2.1.1 HXX.out.1.2.1.2 HV.out).mono ?_
        rintro e w7 ⟨rfl, hb7⟩
        have HB7 := Lib.hid hb7
        clear hb7 c0 c1 c2
        have hrd := read_any (showVa x) w7 (by have := HXX.out.2.2; omega) (HV.out.below HB7.out)
        rw [read_show x HXX.out.1 HXX.out.2.1, meant_show x HXX.out.1 HXX.out.2.1] at hrd
        have HRD := Lib.hid hrd
        clear hrd
        obtain ⟨sx, hsx⟩ : ∃ sx, sx = showVa x := ⟨_, rfl⟩
        rw [← hsx] at HRD ⊢
        clear hsx
        go_wp2_with fail
        refine HRD.out.mono ?_
        rintro e w8 ⟨hb8, rfl⟩
        rw [if_pos rfl]
        have hb78 := HB7.out.trans (hb8.mono HB7.out.size)
        obtain ⟨w9, hw9⟩ : ∃ w9, w9 = w8.alloc (.cells #[.int .i64 x.k, .int .i64 x.n, .string x.s] 23) := ⟨_, rfl⟩
        have hb9 : Below wr.heap.size wr w9 := by rw [hw9]; exact hb78.alloc hb78.size _
        have B9 : Blk w9 w8.heap.size 23 #[.int .i64 x.k, .int .i64 x.n, .string x.s] := by rw [hw9]; exact Blk.new _ _ _
        obtain ⟨e0, e1, e2, _⟩ := B9.c3
        have f0 := (hb9.cell (World.block_lt_of_cell? _ _ HC.out.1)).trans HC.out.1
        have f1 := (hb9.cell (World.block_lt_of_cell? _ _ HC.out.2.1)).trans HC.out.2.1
        have f2 := (hb9.cell (World.block_lt_of_cell? _ _ HC.out.2.2)).trans HC.out.2.2
        have HW9 := Lib.hid hw9
        have HN9 := Lib.hid (show ∀ m, BkRel xs.length w (.int .i64 ((j : Int) + 1)) (w9.drewN m) from fun m => ⟨j + 1, by omega, by go_num, (HB.out.trans (hb9.mono hszw)).trans ⟨rfl, rfl, rfl, Nat.le_refl _, fun _ _ => rfl⟩⟩)
        have heq := neqVal
        clear hb8 hb78 hw9 hb9 B9
        go_wp2_with fail
        rw [← HW9.out]
        go_quiet (fail)
        go_wp2
        go_roundw
        case rel => exact HN9.out _
        case measure => simp [Lib.intOf]; omega
      · have hjl1 : ¬ (j : Int) < (xs.length : Int) := by omega
        have HB := Lib.hid hb
        clear hb
        go_wp2
        go_ret
        exact ⟨rfl, HB.out⟩
  · by_cases hk0 : 0 ≤ k
    · have hk1 : ¬ k < (l.length : Int) := fun h => hin ⟨hk0, h⟩
      clear hin
      go_wp2_with fail
      go_loopw [9] (fun i wr => BkRel xs.length w i wr) (fun i _ => xs.length - (Lib.intOf i).toNat)
      case atStart => exact ⟨0, by omega, rfl, HA5.out⟩
      case round =>
        obtain ⟨j, hj, rfl, hb⟩ := hrel
        have hj0 : (0 : Int) ≤ (j : Int) := Int.natCast_nonneg _
        have hxl : xs.length ≤ 100 := HN.out.1
        by_cases hjl : j < xs.length
        · have hjl1 : (j : Int) < (xs.length : Int) := by omega
          obtain ⟨ad, rfl, hadlt, c0, c1, c2⟩ := (HX.out.1.below hb (Nat.le_refl _)).at_ hjl
          obtain ⟨x, hx⟩ : ∃ x, x = xs[j] := ⟨_, rfl⟩
          rw [← hx] at c0 c1 c2
          have hxm : x ∈ xs := by rw [hx]; exact List.getElem_mem _
          have hxi := HI.out x hxm
          have hxr := HE.out.2.2.2.1.2 x hxm
          have hxs := show_len x hxi (HN.out.2 x hxm)
          have HB := Lib.hid hb
          have HC := Lib.hid (And.intro c0 (And.intro c1 c2))
          have HXX := Lib.hid (And.intro hxi (And.intro hxr hxs))
          have HV := Lib.hid (HX.out.2.below hb)
          have hszw := hb.size
          clear hb hx hxm hxi hxr hxs
          go_wp2_with fail
          refine (show_va x wr HXX.out.1.2.1.1 HXX.out.1.2.1.2 HV.out).mono ?_
          rintro e w7 ⟨rfl, hb7⟩
          have HB7 := Lib.hid hb7
          clear hb7 c0 c1 c2
          have hrd := read_any (showVa x) w7 (by have := HXX.out.2.2; omega) (HV.out.below HB7.out)
          rw [read_show x HXX.out.1 HXX.out.2.1, meant_show x HXX.out.1 HXX.out.2.1] at hrd
          have HRD := Lib.hid hrd
          clear hrd
          obtain ⟨sx, hsx⟩ : ∃ sx, sx = showVa x := ⟨_, rfl⟩
          rw [← hsx] at HRD ⊢
          clear hsx
          go_wp2_with fail
          refine HRD.out.mono ?_
          rintro e w8 ⟨hb8, rfl⟩
          rw [if_pos rfl]
          have hb78 := HB7.out.trans (hb8.mono HB7.out.size)
          obtain ⟨w9, hw9⟩ : ∃ w9, w9 = w8.alloc (.cells #[.int .i64 x.k, .int .i64 x.n, .string x.s] 23) := ⟨_, rfl⟩
          have hb9 : Below wr.heap.size wr w9 := by rw [hw9]; exact hb78.alloc hb78.size _
          have B9 : Blk w9 w8.heap.size 23 #[.int .i64 x.k, .int .i64 x.n, .string x.s] := by rw [hw9]; exact Blk.new _ _ _
          obtain ⟨e0, e1, e2, _⟩ := B9.c3
          have f0 := (hb9.cell (World.block_lt_of_cell? _ _ HC.out.1)).trans HC.out.1
          have f1 := (hb9.cell (World.block_lt_of_cell? _ _ HC.out.2.1)).trans HC.out.2.1
          have f2 := (hb9.cell (World.block_lt_of_cell? _ _ HC.out.2.2)).trans HC.out.2.2
          have HW9 := Lib.hid hw9
          have HN9 := Lib.hid (show ∀ m, BkRel xs.length w (.int .i64 ((j : Int) + 1)) (w9.drewN m) from fun m => ⟨j + 1, by omega, by go_num, (HB.out.trans (hb9.mono hszw)).trans ⟨rfl, rfl, rfl, Nat.le_refl _, fun _ _ => rfl⟩⟩)
          have heq := neqVal
          clear hb8 hb78 hw9 hb9 B9
          go_wp2_with fail
          rw [← HW9.out]
          go_quiet (fail)
          go_wp2
          go_roundw
          case rel => exact HN9.out _
          case measure => simp [Lib.intOf]; omega
        · have hjl1 : ¬ (j : Int) < (xs.length : Int) := by omega
          have HB := Lib.hid hb
          clear hb
          go_wp2
          go_ret
          exact ⟨rfl, HB.out⟩
    · clear hin
      go_wp2_with fail
      go_loopw [9] (fun i wr => BkRel xs.length w i wr) (fun i _ => xs.length - (Lib.intOf i).toNat)
      case atStart => exact ⟨0, by omega, rfl, HA5.out⟩
      case round =>
        obtain ⟨j, hj, rfl, hb⟩ := hrel
        have hj0 : (0 : Int) ≤ (j : Int) := Int.natCast_nonneg _
        have hxl : xs.length ≤ 100 := HN.out.1
        by_cases hjl : j < xs.length
        · have hjl1 : (j : Int) < (xs.length : Int) := by omega
          obtain ⟨ad, rfl, hadlt, c0, c1, c2⟩ := (HX.out.1.below hb (Nat.le_refl _)).at_ hjl
          obtain ⟨x, hx⟩ : ∃ x, x = xs[j] := ⟨_, rfl⟩
          rw [← hx] at c0 c1 c2
          have hxm : x ∈ xs := by rw [hx]; exact List.getElem_mem _
          have hxi := HI.out x hxm
          have hxr := HE.out.2.2.2.1.2 x hxm
          have hxs := show_len x hxi (HN.out.2 x hxm)
          have HB := Lib.hid hb
          have HC := Lib.hid (And.intro c0 (And.intro c1 c2))
          have HXX := Lib.hid (And.intro hxi (And.intro hxr hxs))
          have HV := Lib.hid (HX.out.2.below hb)
          have hszw := hb.size
          clear hb hx hxm hxi hxr hxs
          go_wp2_with fail
          refine (show_va x wr HXX.out.1.2.1.1 HXX.out.1.2.1.2 HV.out).mono ?_
          rintro e w7 ⟨rfl, hb7⟩
          have HB7 := Lib.hid hb7
          clear hb7 c0 c1 c2
          have hrd := read_any (showVa x) w7 (by have := HXX.out.2.2; omega) (HV.out.below HB7.out)
          rw [read_show x HXX.out.1 HXX.out.2.1, meant_show x HXX.out.1 HXX.out.2.1] at hrd
          have HRD := Lib.hid hrd
          clear hrd
          obtain ⟨sx, hsx⟩ : ∃ sx, sx = showVa x := ⟨_, rfl⟩
          rw [← hsx] at HRD ⊢
          clear hsx
          go_wp2_with fail
          refine HRD.out.mono ?_
          rintro e w8 ⟨hb8, rfl⟩
          rw [if_pos rfl]
          have hb78 := HB7.out.trans (hb8.mono HB7.out.size)
          obtain ⟨w9, hw9⟩ : ∃ w9, w9 = w8.alloc (.cells #[.int .i64 x.k, .int .i64 x.n, .string x.s] 23) := ⟨_, rfl⟩
          have hb9 : Below wr.heap.size wr w9 := by rw [hw9]; exact hb78.alloc hb78.size _
          have B9 : Blk w9 w8.heap.size 23 #[.int .i64 x.k, .int .i64 x.n, .string x.s] := by rw [hw9]; exact Blk.new _ _ _
          obtain ⟨e0, e1, e2, _⟩ := B9.c3
          have f0 := (hb9.cell (World.block_lt_of_cell? _ _ HC.out.1)).trans HC.out.1
          have f1 := (hb9.cell (World.block_lt_of_cell? _ _ HC.out.2.1)).trans HC.out.2.1
          have f2 := (hb9.cell (World.block_lt_of_cell? _ _ HC.out.2.2)).trans HC.out.2.2
          have HW9 := Lib.hid hw9
          have HN9 := Lib.hid (show ∀ m, BkRel xs.length w (.int .i64 ((j : Int) + 1)) (w9.drewN m) from fun m => ⟨j + 1, by omega, by go_num, (HB.out.trans (hb9.mono hszw)).trans ⟨rfl, rfl, rfl, Nat.le_refl _, fun _ _ => rfl⟩⟩)
          have heq := neqVal
          clear hb8 hb78 hw9 hb9 B9
          go_wp2_with fail
          rw [← HW9.out]
          go_quiet (fail)
          go_wp2
          go_roundw
          case rel => exact HN9.out _
          case measure => simp [Lib.intOf]; omega
        · have hjl1 : ¬ (j : Int) < (xs.length : Int) := by omega
          have HB := Lib.hid hb
          clear hb
          go_wp2
          go_ret
          exact ⟨rfl, HB.out⟩

section
open Go.ChangeShapes Go.WideShapes Go.ChangeAt
open Go.ChangeMaps (open_string shut_string)
set_option linter.unusedVariables false
set_option maxRecDepth 100000 in
theorem valueBack_lifted (os : Os) (started : os.Started) (H : Type) (enc : TypeId × Value → H) :
    ReturnsInHanded {} Tryd.checked os 5 .any (fun w args => (Rows.valueBackSpec.pre enc Tryd.prog Tryd.f5 Rows.valueBackRow.domain false w args ∧ laidMetH Tryd.prog Rows.valueBackRow.laid w) ∧ sizedMet enc Tryd.prog Tryd.f5 (OpenSpec.ofChange Rows.valueBackSpec) false w args)
      (Rows.valueBackSpec.post enc Tryd.prog Tryd.f5 false true false false) := by
  refine returnsInHanded_of_change_and (C := Tryd.checked) (X := fun w _ => laidMetH Tryd.prog Rows.valueBackRow.laid w) (fun _ _ _ hh h => h.of_heap hh) own started (by kernel_rfl) Tryd.func5
    (ChangeSpec.witness_shaped (enc := enc) (C := Tryd.checked) (os := os) (X := fun w _ => laidMetH Tryd.prog Rows.valueBackRow.laid w) false (World.laidAll Tryd.prog os Rows.valueBackRow.laid) #[.slice none 0 0, .int .i64 0] 8 (World.laidAll_os _ _ _)
      (World.shaped_of_ZipB (by kernel_rfl) (by kernel_rfl)) (by kernel_rfl) (by kernel_rfl) (by kernel_rfl)
      (by rw [MakeChecks.laidMetH_plain _ _ _ (by kernel_rfl)]; exact laidMet_laidAll _ (by kernel_rfl) (by kernel_rfl))) ?_
  intro W base args ds gs before hval0 hW hcnd hsz hL _
  have hval : ∀ (j : Nat) t v, Tryd.f5.params[j]? = some t → args[j]? = some v → Value.okWide Tryd.prog W .any base t v := hval0
  have hW' := hW
  obtain ⟨p, q, hA0, hV, rfl, hfz, hnd⟩ := hW
  have hA : DataW.TrodAll enc Tryd.prog W 0 (fun _ => true) true Tryd.f5.params.toList args.toList ds p := hA0
  rw [Tryd.params5] at hA hval
  obtain ⟨v0, vs0, d0, ds0, p0, q0, hargs, rfl, rfl, h0, r0⟩ := trodAll_cons hA
  obtain ⟨v1, vs1, d1, ds1, p1, q1, rfl, rfl, rfl, h1, r1⟩ := trodAll_cons r0
  obtain ⟨rfl, rfl, rfl⟩ := trodAll_nil r1
  obtain rfl : args = #[v0, v1] := by cases args; simp_all
  obtain ⟨rfl, rfl⟩ := trodVars_none hV
  have k0 := h0
  have lt0 : ∀ x ∈ p0, x.block < W.heap.size := by obtain ⟨m, hm⟩ := k0; exact DataW.trod_lt m _ _ _ hm
  have k1 := h1
  have lt1 : ∀ x ∈ p1, x.block < W.heap.size := by obtain ⟨m, hm⟩ := k1; exact DataW.trod_lt m _ _ _ hm
  obtain ⟨a0, len0, cap0, rfl⟩ := okWide_slice Tryd.underlying39 (hval 0 39 v0 rfl rfl)
  obtain ⟨z0, rfl, l0, m0, i0x, r0x⟩ := rd_of_rows Tryd.underlying39 Tryd.underlying23 (by kernel_rfl) ⟨rfl, by kernel_rfl, Tryd.underlying3⟩ ⟨rfl, by kernel_rfl, Tryd.underlying3⟩ ⟨rfl, by kernel_rfl, Tryd.underlying9⟩ h0
  obtain ⟨a1, rfl, rfl, rfl, w1⟩ := open_int Tryd.underlying3 (hval 1 3 v1 rfl rfl) h1
  clear hA0 hval0
  refine (valueBack_walk a0 cap0 z0 a1 W r0x i0x l0 m0 (bounds_i64 w1) (vs_of_laid hL)).mono fun e W' ⟨he, bel⟩ => ?_
  subst he
  exact ⟨_, rfl, _, _, _, [], _, [], hW', trodAll_mk1 (shut_bool Tryd.underlying4 _), (trodAll_cons_mk (Below.trod laidOut (by kernel_rfl) (of_decide_eq_true (by kernel_rfl)) k0 bel lt0) (trodAll_cons_mk (Below.trod laidOut (by kernel_rfl) (of_decide_eq_true (by kernel_rfl)) k1 bel lt1) trodAll_mk0)), rfl, bel.frame _, fun h => by cases h⟩

theorem valueBack_over : Rows.valueBackRow.holds Tryd.pinned (OpenSpec.ofChange Rows.valueBackSpec) :=
  OpenClaim.holds_of_wide 5 Tryd.f5 rfl rfl rfl rfl rfl rfl rfl ⟨rfl, rfl, rfl, rfl, rfl⟩ rfl rfl rfl rfl rfl (by kernel_rfl) Tryd.func5 (by kernel_rfl)
    (of_decide_eq_true (by kernel_rfl)) (by unfold Func.isWrapper; first | (rw [if_pos (by decide +kernel)]; kernel_rfl) | (rw [if_neg (by decide +kernel)]; exact ⟨rfl, rfl⟩))
    (fun os started H enc _ => valueBack_lifted os started H enc)

theorem valueBack_card : Rows.ValueBackCardSaid :=
  Claim7.holds_tied_plain_at .later [] [.data, .data, .data, .sentinel, .sentinel] true _ true
    valueBack_over (fun _ h => by cases h) (by kernel_rfl) (fun _ h => by cases h) valueBack_row_tie rfl ⟨rfl, rfl⟩ (by kernel_rfl) rfl
    (fun f fn hf hfn => by
      obtain rfl : f = 5 := Option.some.inj ((show Tryd.prog.funcNamed Rows.valueBackRow.func = some 5 by kernel_rfl).symm.trans hf) |>.symm
      obtain rfl : fn = Tryd.f5 := (Option.some.inj (Tryd.func5.symm.trans hfn)).symm
      have hall : (Tryd.f5.params.toList.all fun t => !Tryd.prog.wantsStandIn t) = true := by kernel_rfl
      exact ⟨by kernel_rfl, fun j t ht => by
        have h1 := List.all_eq_true.1 hall t (List.mem_of_getElem? (by simpa using ht))
        show Tryd.prog.wantsStandIn t = false
        simpa using h1⟩)
    (by kernel_rfl)
end
#print axioms valueBack_card
end Go.Proofs.YtkdcnkadngbccaaDoor
