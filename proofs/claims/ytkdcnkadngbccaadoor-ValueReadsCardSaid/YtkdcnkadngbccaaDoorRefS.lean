/-
  The document's own Show: of a number, of a value.
-/
import Derived.Test.YtkdcnkadngbccaaDoorCmpV
import Derived.Test.YtkdcnkadngbccaaDoorNumM
namespace Go.Proofs.YtkdcnkadngbccaaDoor
open Go.RowKit Go.Lib

def digL (u : Nat) : List Int := (decDigits u).map fun b => (b.toNat : Int)
theorem digL_small {u : Nat} (h : u < 10) : digL u = [48 + (u : Int)] := by
  unfold digL
  rw [decDigits, dif_pos h]
  simp only [List.map_cons, List.map_nil, digit_byte u h]
  rfl
theorem digL_big {u : Nat} (h : ¬ u < 10) : digL u = digL (u / 10) ++ [48 + ((u % 10 : Nat) : Int)] := by
  unfold digL
  rw [decDigits, dif_neg h, List.map_append]
  simp only [List.map_cons, List.map_nil, digit_byte (u % 10) (by omega)]
  rfl
def revD (u : Nat) : List Int := (digL u).reverse
theorem revD_small {u : Nat} (h : u < 10) : revD u = [48 + (u : Int)] := by unfold revD; rw [digL_small h]; rfl
theorem revD_big {u : Nat} (h : ¬ u < 10) : revD u = (48 + ((u % 10 : Nat) : Int)) :: revD (u / 10) := by unfold revD; rw [digL_big h, List.reverse_append]; rfl
theorem revD_len (u : Nat) : (revD u).length = nDigits u := by unfold revD digL; rw [List.length_reverse, List.length_map, decDigits_length]
theorem bytes_strI (n : Int) : bytes (strI n) = (if n < 0 then [45] else []) ++ digL n.natAbs := by
  unfold bytes
  rw [show (strI n).data.toList = Lib.itoa n from rfl]
  unfold Lib.itoa digL
  split
  · rfl
  · rw [show n.toNat = n.natAbs by omega]; simp

/-- what holds at the head of the loop that takes a number's digits -/
def DgRel (w : World) (u0 : Nat) (n v : Value) (wr : World) : Prop :=
  ∃ (u : Nat) (z : Int) (done : List Int), z = -(u : Int) ∧ u ≤ 9223372036854775808 ∧ n = .int .i64 z ∧ done ++ revD u = revD u0 ∧ wr.ownsRow w.heap.size 5 1 v done.length (cells done) ∧ Below w.heap.size w wr
/-- what holds at the head of the loop that turns them -/
def TnRel (w2 : World) (l : List Int) (v i : Value) (wr : World) : Prop :=
  ∃ (j : Nat) (z : Int), j ≤ l.length ∧ z = (l.length : Int) - 1 - (j : Int) ∧ i = .int .i64 z ∧ wr.ownsRow w2.heap.size 5 1 v (l.reverse.take j).length (cells (l.reverse.take j)) ∧ Below w2.heap.size w2 wr

theorem own_grow1 {w wr w1 : World} {base : Nat} {v v' : Value} {done : List Int} {x : Int} {n : Nat} (hown : wr.ownsRow base 5 1 v done.length (cells done)) (hb : base ≤ wr.heap.size) (h : Below base w wr) (o : Obj) (hn : n = done.length + 1)
    (hown1 : w1.ownsRow base 5 1 v' n (cells done ++ [.int .u8 x])) (hgr : (wr.alloc o).grownBy w1 v.ownBlock) : w1.ownsRow base 5 1 v' (done ++ [x]).length (cells (done ++ [x])) ∧ Below base w w1 := by
  refine ⟨?_, (h.alloc hb o).trans (below_own (hown.alloc o) hgr (by simp; omega))⟩
  have e1 : (done ++ [x]).length = n := by rw [hn]; simp
  have e2 : cells (done ++ [x]) = cells done ++ [.int .u8 x] := by simp [cells]
  rw [e1, e2]; exact hown1

set_option maxRecDepth 100000 in
set_option maxHeartbeats 3200000 in
theorem useShow_any (v : Int) (w : World) (h0 : -9223372036854775808 ≤ v) (h1 : v ≤ 9223372036854775807) :
    Calls Tryd.prog 40 #[.int .i64 v] w fun e w' => e = .returned (.string (strI v)) ∧ Below w.heap.size w w' := by
  obtain ⟨i0, hi, hz0, hz1, hz2⟩ := info_parts Tryd.info5
  have hlen : (revD v.natAbs).length ≤ 21 := by
    rw [revD_len]
    have h2 := itoa_length_le v h0 h1
    have h3 : (Lib.itoa v).length = (if v < 0 then 1 else 0) + nDigits v.natAbs := by
      unfold Lib.itoa
      split
      · simp [decDigits_length]; omega
      · rw [show v.toNat = v.natAbs by omega, decDigits_length]; simp
    omega
  have HL := Lib.hid hlen
  clear hlen
  by_cases hp : 0 < v
  · have hn1 : IntKind.i64.wrap (-v) = -v := IntWalk.i64_in _ (by omega)
    go_enter Tryd.func40, Tryd.ntmps40
    go_wp2_with fail
    go_loopw [3, 4] (fun n d wr => DgRel w v.natAbs n d wr) (fun n _ _ => (Lib.intOf n).natAbs)
    case atStart => exact ⟨v.natAbs, _, [], rfl, by omega, by congr 1; omega, rfl, by simpa [cells] using World.ownsRow_lit (base := w.heap.size) (size := 1) (e := 5) w #[] 0 (Nat.le_refl _) (by simp [maxLen]) (by simp), (Below.refl _ _).alloc (Nat.le_refl _) _⟩
    case round =>
      obtain ⟨u, z, done, hz, hu, rfl, hdn, hown, hb⟩ := hrel
      have hsz := hb.size
      have hdl : done.length ≤ 21 := by have h := HL.out; rw [← hdn, List.length_append] at h; omega
      obtain ⟨m, hm⟩ : ∃ m : Int, m = ((u % 10 : Nat) : Int) := ⟨_, rfl⟩
      obtain ⟨q, hq⟩ : ∃ q : Int, q = ((u / 10 : Nat) : Int) := ⟨_, rfl⟩
      have hr1 : z.tmod 10 = -m := by rw [hz, Int.neg_tmod, hm, Int.tmod_eq_emod_of_nonneg (Int.natCast_nonneg u)]; omega
      have hr2 : IntKind.i64.wrap (-m) = -m := IntWalk.i64_in _ (by omega)
      have hr3 : IntKind.i64.wrap (48 - -m) = 48 + m := by rw [show (48 : Int) - -m = 48 + m by omega]; exact IntWalk.i64_in _ (by omega)
      have hr4 : IntKind.u8.wrap (48 + m) = 48 + m := IntWalk.u8_in _ (by omega)
      have hr7 : Go.RowKit.wrap64 (48 + m) = 48 + m := by unfold Go.RowKit.wrap64; omega
      have hr8 : (48 + m) % 256 = 48 + m := by omega
      have hr5 : z.tdiv 10 = -q := by rw [hz, Int.neg_tdiv, hq, Int.tdiv_eq_ediv_of_nonneg (Int.natCast_nonneg u)]; omega
      have hr6 : IntKind.i64.wrap (-q) = -q := IntWalk.i64_in _ (by omega)
      have HZ := Lib.hid (And.intro hz (And.intro hm hq))
      have HQ := Lib.hid (And.intro hown (And.intro hb (And.intro hdn hdl)))
      clear hz hm hq hown hb hdn hdl
      go_wp2_with (at_builtin; go_loud (refine wpList_append_own _ rfl (.tmp 13) (.tmp 18) 41 rfl w.heap.size 5 i0 (.int .u8 0) 1 1 Tryd.underlying41 hi hz0 hz1 hz2 rfl (by decide) _ _ _ rfl (HQ.out.1.alloc _) ⟨wr.heap.size, 0, none⟩ 1 1 [.int .u8 (48 + m)] rfl rfl (cell_one_new _ _ _) ?pa2 ?pa3 ?pa4 ?pa5 ?_))
      case pa2 => first | rfl | (intro u hu; simp at hu; subst hu; rfl)
      case pa3 => have := HQ.out.2.2.2; simp [maxLen] at *; omega
      case pa4 => have := HQ.out.2.2.2; simp only [Nat.mul_one]; omega
      case pa5 => first | omega | (simp; omega) | (have := HG.out.2.size; simp; omega)
      intro v1 w1 hown1 hgr1 _
      have HG := Lib.hid (own_grow1 HQ.out.1 hsz HQ.out.2.1 _ rfl hown1 hgr1)
      clear hown1 hgr1
      by_cases h10 : u < 10
      · have hq0 : q = 0 := by have := HZ.out.2.2; omega
        have hall : done ++ [48 + m] = revD v.natAbs := by rw [← HQ.out.2.2.1, revD_small h10, HZ.out.2.1, Nat.mod_eq_of_lt h10]
        have HA := Lib.hid hall
        subst hq0
        clear hall
        have hvn : ¬ v < 0 := by omega
        rw [HA.out] at HG
        have HO := Lib.hid HG.out.1
        go_wp2_with fail
        obtain ⟨dA, dC, rfl, _, _⟩ := own_shape HO.out
        have hrd := Rd.of_own HO.out
        have HRD := Lib.hid hrd
        have hL : IntKind.i64.wrap ((((revD v.natAbs).length : Nat) : Int) - 1) = (((revD v.natAbs).length : Nat) : Int) - 1 := IntWalk.i64_in _ (by have := (show (revD v.natAbs).length ≤ 22 by have := HL.out; omega); omega)
        have hln : ∀ (ba : Option Addr) (n c : Nat) (w : World), (Builtin.len_ #[41] 3 #[.slice ba n c]).run Tryd.prog w = .ok (goInt n) w := by intros; exact run_len_slice (h := rfl) ..
        have HDL := Lib.hid (show (revD v.natAbs).length ≤ 22 by have := HL.out; omega)
        have HB0 := Lib.hid HG.out.2
        clear hrd
        obtain ⟨dl, hdl⟩ : ∃ dl, dl = revD v.natAbs := ⟨_, rfl⟩
        rw [← hdl] at HRD HDL hL ⊢
        have HFIN := Lib.hid (show bytes (strI v) = dl.reverse by rw [hdl]; rw [bytes_strI, if_neg (by omega)]; unfold revD; rw [List.reverse_reverse]; rfl)
        clear hdl
        go_wp2_with fail
        try (rw [hln]; go_wp2_with fail)
        go_loopw [5, 6] (fun o i wr => TnRel w1 dl o i wr) (fun _ i _ => (Lib.intOf i + 1).toNat)
        case atStart => exact ⟨0, (dl.length : Int) - 1, by omega, by omega, rfl, by simpa [cells] using World.ownsRow_lit (base := w1.heap.size) (size := 1) (e := 5) w1 #[] 0 (Nat.le_refl _) (by simp [maxLen]) (by simp), (Below.refl _ _).alloc (Nat.le_refl _) _⟩
        case round =>
          obtain ⟨j, z, hj, hz, rfl, hown2, hb2⟩ := hrel
          by_cases hjl : j < dl.length
          · have hzp : 0 ≤ z := by omega
            have hzl : z < (dl.length : Int) := by omega
            have hzn : z.toNat < dl.length := by omega
            obtain ⟨ad, x, rfl, hadb, hx, hcx⟩ := (HRD.out.below hb2 (Nat.le_refl _)).at_ hzn
            obtain ⟨c, hc⟩ : ∃ c, c = dl[z.toNat]'hzn := ⟨_, rfl⟩
            obtain rfl : x = .int .u8 c := by
              rw [cells, List.getElem?_map, List.getElem?_eq_getElem hzn] at hx
              rw [hc]; exact (Option.some.inj hx).symm
            have hwz : IntKind.i64.wrap (z - 1) = z - 1 := IntWalk.i64_in _ (by have := HDL.out; omega)
            have hnext : dl.reverse.take (j + 1) = dl.reverse.take j ++ [c] := by
              rw [List.take_succ_eq_append_getElem (by rw [List.length_reverse]; exact hjl), List.getElem_reverse]
              congr 2
              rw [hc]
              congr 1
              omega
            have hlj : (dl.reverse.take j).length ≤ 30 := by rw [List.length_take, List.length_reverse]; have := HDL.out; omega
            have HN2 := Lib.hid (And.intro hnext (And.intro hlj (And.intro hown2 hb2)))
            have hsz2 := hb2.size
            have HZZ := Lib.hid hz
            clear hz
            clear hx hc hnext hlj hown2 hb2 hadb
            go_wp2_with (at_builtin; go_loud (refine wpList_append_own _ rfl (.tmp 37) (.tmp 42) 41 rfl w1.heap.size 5 i0 (.int .u8 0) 1 1 Tryd.underlying41 hi hz0 hz1 hz2 rfl (by decide) _ _ _ rfl (HN2.out.2.2.1.alloc _) ⟨wr.heap.size, 0, none⟩ 1 1 [.int .u8 c] rfl rfl (cell_one_new _ _ _) ?pp2 ?pp3 ?pp4 ?pp5 ?_))
            case pp2 => first | rfl | (intro u hu; simp at hu; subst hu; rfl)
            case pp3 => have := HN2.out.2.1; simp [maxLen] at *; omega
            case pp4 => have := HN2.out.2.1; simp only [Nat.mul_one]; omega
            case pp5 => first | omega | (simp; omega) | (have := HG.out.2.size; simp; omega)
            intro v3 w5 hown5 hgr5 _
            have HG := Lib.hid (own_grow1 HN2.out.2.2.1 hsz2 HN2.out.2.2.2 _ (by rw [List.length_take, List.length_reverse]; omega) hown5 hgr5)
            have HR := Lib.hid (show TnRel w1 dl v3 (.int .i64 (z - 1)) w5 from ⟨j + 1, z - 1, by omega, by have := HZZ.out; omega, rfl, by rw [HN2.out.1]; exact HG.out.1, HG.out.2⟩)
            clear hown5 hgr5 hcx
            go_wp2
            go_roundw
            case rel => exact HR.out
            case measure => simp [Lib.intOf]; omega
          · have hzp : ¬ 0 ≤ z := by omega
            rw [List.take_of_length_le (by rw [List.length_reverse]; omega)] at hown2
            obtain ⟨A2, c2, rfl, _, _⟩ := own_shape hown2
            have hst := run_strw (P := Tryd.prog) wr 41 9 5 A2 _ c2 _ dl.reverse Tryd.underlying41 Tryd.underlying5 Tryd.underlying9 (Rd.of_own hown2)
            have HZZ := Lib.hid hz
            clear hz
            have hfs : mkStr dl.reverse = strI v := by rw [← HFIN.out, mkStr_bytes]
            rw [hfs, List.length_reverse] at hst
            have HB2 := Lib.hid (HB0.out.trans (hb2.mono HB0.out.size))
            clear hown2 hb2 hfs
            go_wp2
            go_ret
            exact ⟨rfl, HB2.out⟩
      · have hq0 : ¬ q = 0 := by have := HZ.out.2.2; omega
        have hqd : (-q == 0) = false := by simp; omega
        have hqd2 : decide (-q = 0) = false := by simp; omega
        have HR := Lib.hid (show DgRel w v.natAbs (.int .i64 (-q)) v1 w1 from ⟨u / 10, -q, done ++ [48 + m], by rw [HZ.out.2.2], by omega, rfl, by rw [← HQ.out.2.2.1, revD_big h10, HZ.out.2.1]; simp, HG.out.1, HG.out.2⟩)
        have HM := Lib.hid (show (-q).natAbs < z.natAbs by have h1 := HZ.out.1; have h2 := HZ.out.2.2; omega)
        go_wp2
        go_roundw
        case rel => exact HR.out
        case measure => simpa [Lib.intOf] using HM.out
  · go_enter Tryd.func40, Tryd.ntmps40
    go_wp2_with fail
    go_loopw [3, 4] (fun n d wr => DgRel w v.natAbs n d wr) (fun n _ _ => (Lib.intOf n).natAbs)
    case atStart => exact ⟨v.natAbs, _, [], rfl, by omega, by congr 1; omega, rfl, by simpa [cells] using World.ownsRow_lit (base := w.heap.size) (size := 1) (e := 5) w #[] 0 (Nat.le_refl _) (by simp [maxLen]) (by simp), (Below.refl _ _).alloc (Nat.le_refl _) _⟩
    case round =>
      obtain ⟨u, z, done, hz, hu, rfl, hdn, hown, hb⟩ := hrel
      have hsz := hb.size
      have hdl : done.length ≤ 21 := by have h := HL.out; rw [← hdn, List.length_append] at h; omega
      obtain ⟨m, hm⟩ : ∃ m : Int, m = ((u % 10 : Nat) : Int) := ⟨_, rfl⟩
      obtain ⟨q, hq⟩ : ∃ q : Int, q = ((u / 10 : Nat) : Int) := ⟨_, rfl⟩
      have hr1 : z.tmod 10 = -m := by rw [hz, Int.neg_tmod, hm, Int.tmod_eq_emod_of_nonneg (Int.natCast_nonneg u)]; omega
      have hr2 : IntKind.i64.wrap (-m) = -m := IntWalk.i64_in _ (by omega)
      have hr3 : IntKind.i64.wrap (48 - -m) = 48 + m := by rw [show (48 : Int) - -m = 48 + m by omega]; exact IntWalk.i64_in _ (by omega)
      have hr4 : IntKind.u8.wrap (48 + m) = 48 + m := IntWalk.u8_in _ (by omega)
      have hr7 : Go.RowKit.wrap64 (48 + m) = 48 + m := by unfold Go.RowKit.wrap64; omega
      have hr8 : (48 + m) % 256 = 48 + m := by omega
      have hr5 : z.tdiv 10 = -q := by rw [hz, Int.neg_tdiv, hq, Int.tdiv_eq_ediv_of_nonneg (Int.natCast_nonneg u)]; omega
      have hr6 : IntKind.i64.wrap (-q) = -q := IntWalk.i64_in _ (by omega)
      have HZ := Lib.hid (And.intro hz (And.intro hm hq))
      have HQ := Lib.hid (And.intro hown (And.intro hb (And.intro hdn hdl)))
      clear hz hm hq hown hb hdn hdl
      go_wp2_with (at_builtin; go_loud (refine wpList_append_own _ rfl (.tmp 13) (.tmp 18) 41 rfl w.heap.size 5 i0 (.int .u8 0) 1 1 Tryd.underlying41 hi hz0 hz1 hz2 rfl (by decide) _ _ _ rfl (HQ.out.1.alloc _) ⟨wr.heap.size, 0, none⟩ 1 1 [.int .u8 (48 + m)] rfl rfl (cell_one_new _ _ _) ?qa2 ?qa3 ?qa4 ?qa5 ?_))
      case qa2 => first | rfl | (intro u hu; simp at hu; subst hu; rfl)
      case qa3 => have := HQ.out.2.2.2; simp [maxLen] at *; omega
      case qa4 => have := HQ.out.2.2.2; simp only [Nat.mul_one]; omega
      case qa5 => first | omega | (simp; omega) | (have := HG.out.2.size; simp; omega)
      intro v1 w1 hown1 hgr1 _
      have HG := Lib.hid (own_grow1 HQ.out.1 hsz HQ.out.2.1 _ rfl hown1 hgr1)
      clear hown1 hgr1
      by_cases h10 : u < 10
      · have hq0 : q = 0 := by have := HZ.out.2.2; omega
        have hall : done ++ [48 + m] = revD v.natAbs := by rw [← HQ.out.2.2.1, revD_small h10, HZ.out.2.1, Nat.mod_eq_of_lt h10]
        have HA := Lib.hid hall
        subst hq0
        clear hall
        by_cases hvn : v < 0
        · rw [HA.out] at HG
          go_wp2_with (at_builtin; go_loud (refine wpList_append_own _ rfl (.tmp 26) (.tmp 27) 41 rfl w.heap.size 5 i0 (.int .u8 0) 1 1 Tryd.underlying41 hi hz0 hz1 hz2 rfl (by decide) _ _ _ rfl (HG.out.1.alloc _) ⟨w1.heap.size, 0, none⟩ 1 1 [.int .u8 45] rfl rfl (cell_one_new _ _ _) ?qm2 ?qm3 ?qm4 ?qm5 ?_))
          case qm2 => first | rfl | (intro u hu; simp at hu; subst hu; rfl)
          case qm3 => have := HL.out; simp [maxLen] at *; omega
          case qm4 => have := HL.out; simp only [Nat.mul_one]; omega
          case qm5 => first | omega | (simp; omega) | (have := HG.out.2.size; simp; omega)
          intro v2 w2 hown2 hgr2 _
          have HG2 := Lib.hid (own_grow1 HG.out.1 HG.out.2.size HG.out.2 _ rfl hown2 hgr2)
          clear hown2 hgr2
          have HO := Lib.hid HG2.out.1
          obtain ⟨dA, dC, rfl, _, _⟩ := own_shape HO.out
          have hrd := Rd.of_own HO.out
          have HRD := Lib.hid hrd
          have hL : IntKind.i64.wrap (((((revD v.natAbs ++ [45])).length : Nat) : Int) - 1) = ((((revD v.natAbs ++ [45])).length : Nat) : Int) - 1 := IntWalk.i64_in _ (by have := (show (revD v.natAbs ++ [45]).length ≤ 22 by have := HL.out; simp; omega); omega)
          have hln : ∀ (ba : Option Addr) (n c : Nat) (w : World), (Builtin.len_ #[41] 3 #[.slice ba n c]).run Tryd.prog w = .ok (goInt n) w := by intros; exact run_len_slice (h := rfl) ..
          have HDL := Lib.hid (show (revD v.natAbs ++ [45]).length ≤ 22 by have := HL.out; simp; omega)
          have HB0 := Lib.hid HG2.out.2
          clear hrd
          obtain ⟨dl, hdl⟩ : ∃ dl, dl = (revD v.natAbs ++ [45]) := ⟨_, rfl⟩
          rw [← hdl] at HRD HDL hL ⊢
          have HFIN := Lib.hid (show bytes (strI v) = dl.reverse by rw [hdl]; rw [bytes_strI, if_pos hvn, List.reverse_append]; unfold revD; rw [List.reverse_reverse]; rfl)
          clear hdl
          go_wp2_with fail
          try (rw [hln]; go_wp2_with fail)
          go_loopw [5, 6] (fun o i wr => TnRel w2 dl o i wr) (fun _ i _ => (Lib.intOf i + 1).toNat)
          case atStart => exact ⟨0, (dl.length : Int) - 1, by omega, by omega, rfl, by simpa [cells] using World.ownsRow_lit (base := w2.heap.size) (size := 1) (e := 5) w2 #[] 0 (Nat.le_refl _) (by simp [maxLen]) (by simp), (Below.refl _ _).alloc (Nat.le_refl _) _⟩
          case round =>
            obtain ⟨j, z, hj, hz, rfl, hown2, hb2⟩ := hrel
            by_cases hjl : j < dl.length
            · have hzp : 0 ≤ z := by omega
              have hzl : z < (dl.length : Int) := by omega
              have hzn : z.toNat < dl.length := by omega
              obtain ⟨ad, x, rfl, hadb, hx, hcx⟩ := (HRD.out.below hb2 (Nat.le_refl _)).at_ hzn
              obtain ⟨c, hc⟩ : ∃ c, c = dl[z.toNat]'hzn := ⟨_, rfl⟩
              obtain rfl : x = .int .u8 c := by
                rw [cells, List.getElem?_map, List.getElem?_eq_getElem hzn] at hx
                rw [hc]; exact (Option.some.inj hx).symm
              have hwz : IntKind.i64.wrap (z - 1) = z - 1 := IntWalk.i64_in _ (by have := HDL.out; omega)
              have hnext : dl.reverse.take (j + 1) = dl.reverse.take j ++ [c] := by
                rw [List.take_succ_eq_append_getElem (by rw [List.length_reverse]; exact hjl), List.getElem_reverse]
                congr 2
                rw [hc]
                congr 1
                omega
              have hlj : (dl.reverse.take j).length ≤ 30 := by rw [List.length_take, List.length_reverse]; have := HDL.out; omega
              have HN2 := Lib.hid (And.intro hnext (And.intro hlj (And.intro hown2 hb2)))
              have hsz2 := hb2.size
              have HZZ := Lib.hid hz
              clear hz
              clear hx hc hnext hlj hown2 hb2 hadb
              go_wp2_with (at_builtin; go_loud (refine wpList_append_own _ rfl (.tmp 37) (.tmp 42) 41 rfl w2.heap.size 5 i0 (.int .u8 0) 1 1 Tryd.underlying41 hi hz0 hz1 hz2 rfl (by decide) _ _ _ rfl (HN2.out.2.2.1.alloc _) ⟨wr.heap.size, 0, none⟩ 1 1 [.int .u8 c] rfl rfl (cell_one_new _ _ _) ?qn2 ?qn3 ?qn4 ?qn5 ?_))
              case qn2 => first | rfl | (intro u hu; simp at hu; subst hu; rfl)
              case qn3 => have := HN2.out.2.1; simp [maxLen] at *; omega
              case qn4 => have := HN2.out.2.1; simp only [Nat.mul_one]; omega
              case qn5 => first | omega | (simp; omega) | (have := HG.out.2.size; simp; omega)
              intro v3 w5 hown5 hgr5 _
              have HG := Lib.hid (own_grow1 HN2.out.2.2.1 hsz2 HN2.out.2.2.2 _ (by rw [List.length_take, List.length_reverse]; omega) hown5 hgr5)
              have HR := Lib.hid (show TnRel w2 dl v3 (.int .i64 (z - 1)) w5 from ⟨j + 1, z - 1, by omega, by have := HZZ.out; omega, rfl, by rw [HN2.out.1]; exact HG.out.1, HG.out.2⟩)
              clear hown5 hgr5 hcx
              go_wp2
              go_roundw
              case rel => exact HR.out
              case measure => simp [Lib.intOf]; omega
            · have hzp : ¬ 0 ≤ z := by omega
              rw [List.take_of_length_le (by rw [List.length_reverse]; omega)] at hown2
              obtain ⟨A2, c2, rfl, _, _⟩ := own_shape hown2
              have hst := run_strw (P := Tryd.prog) wr 41 9 5 A2 _ c2 _ dl.reverse Tryd.underlying41 Tryd.underlying5 Tryd.underlying9 (Rd.of_own hown2)
              have HZZ := Lib.hid hz
              clear hz
              have hfs : mkStr dl.reverse = strI v := by rw [← HFIN.out, mkStr_bytes]
              rw [hfs, List.length_reverse] at hst
              have HB2 := Lib.hid (HB0.out.trans (hb2.mono HB0.out.size))
              clear hown2 hb2 hfs
              go_wp2
              go_ret
              exact ⟨rfl, HB2.out⟩
        · rw [HA.out] at HG
          have HO := Lib.hid HG.out.1
          go_wp2_with fail
          obtain ⟨dA, dC, rfl, _, _⟩ := own_shape HO.out
          have hrd := Rd.of_own HO.out
          have HRD := Lib.hid hrd
          have hL : IntKind.i64.wrap ((((revD v.natAbs).length : Nat) : Int) - 1) = (((revD v.natAbs).length : Nat) : Int) - 1 := IntWalk.i64_in _ (by have := (show (revD v.natAbs).length ≤ 22 by have := HL.out; omega); omega)
          have hln : ∀ (ba : Option Addr) (n c : Nat) (w : World), (Builtin.len_ #[41] 3 #[.slice ba n c]).run Tryd.prog w = .ok (goInt n) w := by intros; exact run_len_slice (h := rfl) ..
          have HDL := Lib.hid (show (revD v.natAbs).length ≤ 22 by have := HL.out; omega)
          have HB0 := Lib.hid HG.out.2
          clear hrd
          obtain ⟨dl, hdl⟩ : ∃ dl, dl = revD v.natAbs := ⟨_, rfl⟩
          rw [← hdl] at HRD HDL hL ⊢
          have HFIN := Lib.hid (show bytes (strI v) = dl.reverse by rw [hdl]; rw [bytes_strI, if_neg (by omega)]; unfold revD; rw [List.reverse_reverse]; rfl)
          clear hdl
          go_wp2_with fail
          try (rw [hln]; go_wp2_with fail)
          go_loopw [5, 6] (fun o i wr => TnRel w1 dl o i wr) (fun _ i _ => (Lib.intOf i + 1).toNat)
          case atStart => exact ⟨0, (dl.length : Int) - 1, by omega, by omega, rfl, by simpa [cells] using World.ownsRow_lit (base := w1.heap.size) (size := 1) (e := 5) w1 #[] 0 (Nat.le_refl _) (by simp [maxLen]) (by simp), (Below.refl _ _).alloc (Nat.le_refl _) _⟩
          case round =>
            obtain ⟨j, z, hj, hz, rfl, hown2, hb2⟩ := hrel
            by_cases hjl : j < dl.length
            · have hzp : 0 ≤ z := by omega
              have hzl : z < (dl.length : Int) := by omega
              have hzn : z.toNat < dl.length := by omega
              obtain ⟨ad, x, rfl, hadb, hx, hcx⟩ := (HRD.out.below hb2 (Nat.le_refl _)).at_ hzn
              obtain ⟨c, hc⟩ : ∃ c, c = dl[z.toNat]'hzn := ⟨_, rfl⟩
              obtain rfl : x = .int .u8 c := by
                rw [cells, List.getElem?_map, List.getElem?_eq_getElem hzn] at hx
                rw [hc]; exact (Option.some.inj hx).symm
              have hwz : IntKind.i64.wrap (z - 1) = z - 1 := IntWalk.i64_in _ (by have := HDL.out; omega)
              have hnext : dl.reverse.take (j + 1) = dl.reverse.take j ++ [c] := by
                rw [List.take_succ_eq_append_getElem (by rw [List.length_reverse]; exact hjl), List.getElem_reverse]
                congr 2
                rw [hc]
                congr 1
                omega
              have hlj : (dl.reverse.take j).length ≤ 30 := by rw [List.length_take, List.length_reverse]; have := HDL.out; omega
              have HN2 := Lib.hid (And.intro hnext (And.intro hlj (And.intro hown2 hb2)))
              have hsz2 := hb2.size
              have HZZ := Lib.hid hz
              clear hz
              clear hx hc hnext hlj hown2 hb2 hadb
              go_wp2_with (at_builtin; go_loud (refine wpList_append_own _ rfl (.tmp 37) (.tmp 42) 41 rfl w1.heap.size 5 i0 (.int .u8 0) 1 1 Tryd.underlying41 hi hz0 hz1 hz2 rfl (by decide) _ _ _ rfl (HN2.out.2.2.1.alloc _) ⟨wr.heap.size, 0, none⟩ 1 1 [.int .u8 c] rfl rfl (cell_one_new _ _ _) ?qz2 ?qz3 ?qz4 ?qz5 ?_))
              case qz2 => first | rfl | (intro u hu; simp at hu; subst hu; rfl)
              case qz3 => have := HN2.out.2.1; simp [maxLen] at *; omega
              case qz4 => have := HN2.out.2.1; simp only [Nat.mul_one]; omega
              case qz5 => first | omega | (simp; omega) | (have := HG.out.2.size; simp; omega)
              intro v3 w5 hown5 hgr5 _
              have HG := Lib.hid (own_grow1 HN2.out.2.2.1 hsz2 HN2.out.2.2.2 _ (by rw [List.length_take, List.length_reverse]; omega) hown5 hgr5)
              have HR := Lib.hid (show TnRel w1 dl v3 (.int .i64 (z - 1)) w5 from ⟨j + 1, z - 1, by omega, by have := HZZ.out; omega, rfl, by rw [HN2.out.1]; exact HG.out.1, HG.out.2⟩)
              clear hown5 hgr5 hcx
              go_wp2
              go_roundw
              case rel => exact HR.out
              case measure => simp [Lib.intOf]; omega
            · have hzp : ¬ 0 ≤ z := by omega
              rw [List.take_of_length_le (by rw [List.length_reverse]; omega)] at hown2
              obtain ⟨A2, c2, rfl, _, _⟩ := own_shape hown2
              have hst := run_strw (P := Tryd.prog) wr 41 9 5 A2 _ c2 _ dl.reverse Tryd.underlying41 Tryd.underlying5 Tryd.underlying9 (Rd.of_own hown2)
              have HZZ := Lib.hid hz
              clear hz
              have hfs : mkStr dl.reverse = strI v := by rw [← HFIN.out, mkStr_bytes]
              rw [hfs, List.length_reverse] at hst
              have HB2 := Lib.hid (HB0.out.trans (hb2.mono HB0.out.size))
              clear hown2 hb2 hfs
              go_wp2
              go_ret
              exact ⟨rfl, HB2.out⟩
      · have hq0 : ¬ q = 0 := by have := HZ.out.2.2; omega
        have hqd : (-q == 0) = false := by simp; omega
        have hqd2 : decide (-q = 0) = false := by simp; omega
        have HR := Lib.hid (show DgRel w v.natAbs (.int .i64 (-q)) v1 w1 from ⟨u / 10, -q, done ++ [48 + m], by rw [HZ.out.2.2], by omega, rfl, by rw [← HQ.out.2.2.1, revD_big h10, HZ.out.2.1]; simp, HG.out.1, HG.out.2⟩)
        have HM := Lib.hid (show (-q).natAbs < z.natAbs by have h1 := HZ.out.1; have h2 := HZ.out.2.2; omega)
        go_wp2
        go_roundw
        case rel => exact HR.out
        case measure => simpa [Lib.intOf] using HM.out
end Go.Proofs.YtkdcnkadngbccaaDoor
