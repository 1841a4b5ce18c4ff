/-
  The program's order of entries, and looking for one in a row: order, slices.BinarySearchFunc; find, way, leaf.
-/
import Derived.Test.YtiaclfldgagalaaM03
import Derived.Test.YtiaclfldgagalaaM02
import Derived.Laws.Externs
import Derived.StillTailTactics
import Derived.Shelf.Abstract
namespace Go.Proofs.Ytiaclfldgagalaa
open Go.RowKit Go.Lib

theorem Try.run_cmps (a b : ByteArray) (w : World) : (callFunc 75 #[.string a, .string b]).run Try.prog w = .ok (.value (.int .i64 (cmpS a b))) w := by
  rw [run_callFunc_extern Try.func75 (by kernel_rfl) (by kernel_rfl) (by kernel_rfl) (e := Extern.BytealgCompare.compare) (by kernel_rfl), run_compareString a b w]
  rfl
theorem scompare_any (a b : ByteArray) (w : World) : Calls Try.prog 64 #[.string a, .string b] w fun e w' => e = .returned (.int .i64 (cmpS a b)) ∧ w = w' := by
  have h := Try.run_cmps a b w
  go_enter Try.func64, Try.ntmps64
  go_wp2_with (first | (simp only [h]) | go_in)
  go_ret
  exact ⟨rfl, rfl⟩
theorem nan_any (a : Int) (w : World) : Calls Try.prog 73 #[.int .i64 a] w fun e w' => e = .returned (.bool false) ∧ w = w' := by
  have h : (a != a) = false := by simp
  go_enter Try.func73, Try.ntmps73
  go_wp2
  go_ret
  exact ⟨rfl, rfl⟩
theorem icompare_any (a b : Int) (w : World) : Calls Try.prog 65 #[.int .i64 a, .int .i64 b] w fun e w' => e = .returned (.int .i64 (cmpI a b)) ∧ w = w' := by
  by_cases h1 : a < b
  · go_enter Try.func65, Try.ntmps65
    go_wp2_with (go_at_call 73; refine (nan_any _ _).mono ?_; rintro e w' ⟨rfl, rfl⟩)
    go_ret
    exact ⟨ret_int (by simp [cmpI, h1]), rfl⟩
  · by_cases h2 : b < a
    · go_enter Try.func65, Try.ntmps65
      go_wp2_with (go_at_call 73; refine (nan_any _ _).mono ?_; rintro e w' ⟨rfl, rfl⟩)
      go_ret
      exact ⟨ret_int (by simp [cmpI, h1, h2]), rfl⟩
    · go_enter Try.func65, Try.ntmps65
      go_wp2_with (go_at_call 73; refine (nan_any _ _).mono ?_; rintro e w' ⟨rfl, rfl⟩)
      go_ret
      exact ⟨ret_int (by unfold cmpI; rw [if_neg (by omega), if_neg (by omega)]), rfl⟩

/-- the first of three that isn't nought -/
def or3 (a b c : Int) : Int := if a ≠ 0 then a else if b ≠ 0 then b else c
set_option maxRecDepth 100000 in
set_option maxHeartbeats 3200000 in
theorem or_any {w : World} {g c : Nat} {x y z : Int} (h0 : w.cell? ⟨g, 0, none⟩ = some (.int .i64 x)) (h1 : w.cell? ⟨g, 1, none⟩ = some (.int .i64 y)) (h2 : w.cell? ⟨g, 2, none⟩ = some (.int .i64 z)) :
    Calls Try.prog 63 #[.slice (some ⟨g, 0, none⟩) 3 c] w fun e w' => e = .returned (.int .i64 (or3 x y z)) ∧ w = w' := by
  have H := Lib.hid (And.intro h0 (And.intro h1 h2))
  clear h0 h1 h2
  go_enter Try.func63, Try.ntmps63
  go_wp2_with fail
  go_loop [8] (fun i => ∃ k : Nat, k ≤ 3 ∧ i = .int .i64 k ∧ (0 < k → x = 0) ∧ (1 < k → y = 0) ∧ (2 < k → z = 0)) (fun i => 3 - (intOf i).toNat)
  case atStart => exact ⟨0, by omega, rfl, fun h => by omega, fun h => by omega, fun h => by omega⟩
  case round =>
    obtain ⟨k, hk, rfl, q0, q1, q2⟩ := hrel
    have HQ := Lib.hid (And.intro q0 (And.intro q1 q2))
    clear q0 q1 q2
    by_cases hk3 : k = 3
    · subst hk3
      have HF := Lib.hid (show or3 x y z = 0 by
        unfold or3
        rw [if_neg (by rw [HQ.out.1 (by omega)]; simp), if_neg (by rw [HQ.out.2.1 (by omega)]; simp), HQ.out.2.2 (by omega)])
      go_wp2_with fail
      go_ret
      exact ⟨ret_int HF.out.symm, rfl⟩
    · have hsome : ∃ v, w.cell? ⟨g, k, none⟩ = some (.int .i64 v) ∧ (v ≠ 0 → or3 x y z = v) ∧ (v = 0 → (0 < k + 1 → x = 0) ∧ (1 < k + 1 → y = 0) ∧ (2 < k + 1 → z = 0)) := by
        match k, hk3, hk, HQ.out with
        | 0, _, _, q => exact ⟨x, H.out.1, fun h => by unfold or3; rw [if_pos h], fun h => ⟨fun _ => h, fun h => by omega, fun h => by omega⟩⟩
        | 1, _, _, q => exact ⟨y, H.out.2.1, fun h => by unfold or3; rw [if_neg (by rw [q.1 (by omega)]; simp), if_pos h], fun h => ⟨fun _ => q.1 (by omega), fun _ => h, fun h => by omega⟩⟩
        | 2, _, _, q => exact ⟨z, H.out.2.2, fun h => by unfold or3; rw [if_neg (by rw [q.1 (by omega)]; simp), if_neg (by rw [q.2.1 (by omega)]; simp)], fun h => ⟨fun _ => q.1 (by omega), fun _ => q.2.1 (by omega), fun _ => h⟩⟩
        | k + 3, h3, hk, _ => omega
      obtain ⟨v, hv, hne, he⟩ := hsome
      have HV := Lib.hid (And.intro hne he)
      clear hne he
      have hlt : (k : Int) < 3 := by omega
      have hk0 : (0 : Int) ≤ (k : Int) := by omega
      have hkn : k < 3 := by omega
      clear hk3
      by_cases hv0 : v = 0
      · subst hv0
        have HE := Lib.hid (HV.out.2 rfl)
        go_wp2_with fail
        go_round
        case rel => exact ⟨k + 1, by omega, by go_num, HE.out⟩
        case measure => simp [intOf]; omega
      · have hb : (v != 0) = true := by simp [hv0]
        have HF := Lib.hid (HV.out.1 hv0)
        clear hv0
        go_wp2_with fail
        go_ret
        exact ⟨ret_int HF.out.symm, rfl⟩
theorem or3_ord (a b : En) : or3 (cmpS a.s b.s) (cmpI a.p b.p) (cmpI a.k b.k) = ordE a b := rfl

set_option maxRecDepth 100000 in
set_option maxHeartbeats 3200000 in
theorem order_any (a b : En) (w : World) : Calls Try.prog 54 #[a.val, b.val] w fun e w' => e = .returned (.int .i64 (ordE a b)) ∧ Below w.heap.size w w' := by
  rw [← or3_ord]
  unfold En.val
  obtain ⟨s, p, k⟩ := a
  obtain ⟨s', p', k'⟩ := b
  obtain ⟨w1, hw1⟩ : ∃ w1, w1 = (w.alloc (.cells #[.string s, .int .i64 p, .int .i64 k] 35)).alloc (.cells #[.string s', .int .i64 p', .int .i64 k'] 35) := ⟨_, rfl⟩
  have hb1 : Below w.heap.size w w1 := by rw [hw1]; exact ((Below.refl _ w).alloc (Nat.le_refl _) _).alloc (by simp) _
  have k1 : Blk w1 w.heap.size 35 #[.string s, .int .i64 p, .int .i64 k] := by rw [hw1]; exact (Blk.new _ _ _).alloc _
  have k2 : Blk w1 (w.heap.size + 1) 35 #[.string s', .int .i64 p', .int .i64 k'] := by
    rw [hw1]
    have := Blk.new (w.alloc (.cells #[.string s, .int .i64 p, .int .i64 k] 35)) 35 #[.string s', .int .i64 p', .int .i64 k']
    rwa [World.size_alloc] at this
  have c0 := k1.cell 0
  have c1 := k1.cell 1
  have c2 := k1.cell 2
  have d0 := k2.cell 0
  have d1 := k2.cell 1
  have d2 := k2.cell 2
  simp only [List.getElem?_toArray, List.getElem?_cons_zero, List.getElem?_cons_succ] at c0 c1 c2 d0 d1 d2
  have HB1 := Lib.hid hb1
  have HW1 := Lib.hid hw1
  clear hb1 hw1 k1 k2
  go_enter Try.func54, Try.ntmps54
  go_wp2_with fail
  rw [← HW1.out]
  go_still_tail 19, (by kernel_rfl)
  still_call ((scompare_any _ _ _).mono fun e w' h => ⟨h.1, h.2.symm⟩)
  repeat still_step
  still_call ((icompare_any _ _ _).mono fun e w' h => ⟨h.1, h.2.symm⟩)
  repeat still_step
  still_call ((icompare_any _ _ _).mono fun e w' h => ⟨h.1, h.2.symm⟩)
  repeat still_step
  refine wpStill_nil ?_
  change wpList _ _ _ _ _ w1.drew
  have HX := Lib.hid (show Below w.heap.size w (w1.drew.alloc (.cells #[.int .i64 (cmpS s s'), .int .i64 (cmpI p p'), .int .i64 (cmpI k k')] 3)) from HB1.out.drew.alloc HB1.out.size _)
  go_wp2_with fail
  refine (or_any (x := cmpS s s') (y := cmpI p p') (z := cmpI k k') (by exact ((Blk.new w1.drew _ _).cell 0).trans rfl) (by exact ((Blk.new w1.drew _ _).cell 1).trans rfl) (by exact ((Blk.new w1.drew _ _).cell 2).trans rfl)).mono ?_
  rintro e w' ⟨rfl, rfl⟩
  go_wp2
  go_ret
  exact ⟨rfl, HX.out⟩

/-! ### find -/
/-- where an entry stands among a page's keys, or would -/
theorem plN_mono {l : List En} (hs : Srt l) (e : En) {i j : Nat} (hij : i ≤ j) (hj : j < l.length) (h : ordE l[j] e < 0) : ordE (l[i]'(by omega)) e < 0 := by
  rcases Nat.lt_or_ge i j with h1 | h1
  · have := List.pairwise_iff_getElem.1 hs i j (by omega) hj h1
    exact good_ordE.strict _ _ _ this (by omega)
  · obtain rfl : i = j := by omega
    exact h
def BsRel (l : List En) (e : En) (w1 : World) (i j : Value) (wr : World) : Prop :=
  ∃ a b : Nat, a ≤ b ∧ b ≤ l.length ∧ i = .int .i64 a ∧ j = .int .i64 b ∧ Below w1.heap.size w1 wr ∧ (∀ q (h : q < l.length), q < a → ordE l[q] e < 0) ∧ (∀ q (h : q < l.length), b ≤ q → 0 ≤ ordE l[q] e)
set_option maxRecDepth 100000 in
set_option maxHeartbeats 6400000 in
theorem bsearch_any {w : World} {B n c : Nat} {A : Option Addr} {l : List En} (hown : w.ownsRow B 35 3 (.slice A n c) n (ecs l)) (hn : n = l.length) (hs : Srt l) (hn1 : n ≤ 1000000) (e : En) :
    Calls Try.prog 53 #[.slice A n c, e.val, .func (.func 54) #[] #[]] w fun r w' => r = .returned (.tuple #[.int .i64 (plN e l), .bool (plB l e)]) ∧ Below w.heap.size w w' := by
  have hmx : Try.prog.follows .mixedOrders = true := by kernel_rfl
  obtain ⟨w1, hw1⟩ : ∃ w1, w1 = w.alloc (.cells #[.string e.s, .int .i64 e.p, .int .i64 e.k] 35) := ⟨_, rfl⟩
  have hb1 : Below w.heap.size w w1 := by rw [hw1]; exact (Below.refl _ w).alloc (Nat.le_refl _) _
  have s1 : w1.heap.size = w.heap.size + 1 := by rw [hw1]; simp
  have k1 : Blk w1 w.heap.size 35 #[.string e.s, .int .i64 e.p, .int .i64 e.k] := by rw [hw1]; exact Blk.new _ _ _
  have ho1 := own_chg hown (Chg.of_below (F := Non) hb1) fun _ _ h => h
  have H := Lib.hid (And.intro ho1 (And.intro k1 (And.intro hb1 hs)))
  have HN := Lib.hid hn
  have HW1 := Lib.hid hw1
  have HS1 := Lib.hid s1
  have hno : IntKind.i64.wrap 0 = 0 := rfl
  clear hown hb1 k1 ho1 hw1 hs hn s1 hno
  unfold En.val
  go_enter Try.func53, Try.ntmps53
  go_wp2_with fail
  rw [← HW1.out]
  go_loopw [9, 10] (fun i j wr => BsRel l e w1 i j wr) (fun i j _ => (intOf j).toNat - (intOf i).toNat)
  case atStart => exact ⟨0, n, Nat.zero_le _, by rw [HN.out]; exact Nat.le_refl _, rfl, rfl, Below.refl _ _, fun q _ h => by omega, fun q h h' => absurd h' (by rw [← HN.out] at h; omega)⟩
  case round =>
    obtain ⟨a, b, hab, hbl, rfl, rfl, hb, hlo, hhi⟩ := hrel
    have HN2 := Lib.hid (show l.length = n from HN.out.symm)
    have hbn : b ≤ n := by rw [HN.out]; exact hbl
    have HR := Lib.hid (And.intro hb (And.intro hlo hhi))
    have HBL := Lib.hid hbl
    clear hb hlo hhi hbl
    by_cases hlt : a < b
    · have hlti : (a : Int) < (b : Int) := by omega
      have ha0 : (0 : Int) ≤ (a : Int) := by omega
      have hb0 : (0 : Int) ≤ (b : Int) := by omega
      have hb1 : (b : Int) ≤ 1000000 := by omega
      go_wp2_with fail
      obtain ⟨m, hm⟩ : ∃ m : Nat, m = (a + b) / 2 := ⟨_, rfl⟩
      have hmi : ((a : Int) + (b : Int)) / 2 = (m : Int) := by omega
      rw [hmi]
      have hml : m < l.length := by rw [HN2.out]; omega
      have hmn : (m : Int) < (n : Int) := by omega
      have hm0 : (0 : Int) ≤ (m : Int) := by omega
      have hma : a ≤ m := by omega
      have hmb : m < b := by omega
      have hm6 : m ≤ 1000000 := by omega
      obtain ⟨g, rfl⟩ := own_form' H.out.1 (by omega)
      obtain ⟨x, hx⟩ : ∃ x, x = l[m] := ⟨_, rfl⟩
      have hor := own_chg H.out.1 (Chg.of_below (F := Non) HR.out.1) fun _ _ h => h
      have hlm : m * 3 + 2 < n * 3 := by omega
      obtain ⟨e0, e1, e2⟩ := ecs_at hml
      rw [← hx] at e0 e1 e2
      have kr := H.out.2.1.below HR.out.1 (by rw [HS1.out]; omega)
      have k0 := kr.cell 0
      have k1 := kr.cell 1
      have k2 := kr.cell 2
      simp only [List.getElem?_toArray, List.getElem?_cons_zero, List.getElem?_cons_succ] at k0 k1 k2
      have b0 := BelowBy.cell ((hor.cellAt _ (by omega)).trans e0)
      have b1 := BelowBy.cell ((hor.cellAt _ (by omega)).trans e1)
      have b2 := BelowBy.cell ((hor.cellAt _ (by omega)).trans e2)
      have d0 := BelowBy.cell k0
      have d1 := BelowBy.cell k1
      have d2 := BelowBy.cell k2
      have HM := Lib.hid (And.intro hm hx)
      have HOR := Lib.hid (fun (w : World) => order_any x e w)
      unfold En.val at HOR
      clear hor hlm e0 e1 e2 kr k0 k1 k2 hm hx hmi hb1
      refine wp_region_below hmx (by kernel_rfl) ?_
      repeat (quiet_step (first | (go_at_call 54; exact calls_below (HOR.out _))))
      refine wpQuiet_nil ?_
      intro _ hw'
      obtain ⟨pq, hw''⟩ := hw'
      subst hw''
      have HB3 := Lib.hid (HR.out.1.trans (pq.h.mono HR.out.1.size))
      obtain ⟨w5, hw5⟩ : ∃ w5, w5 = pq.w' := ⟨_, rfl⟩
      rw [← hw5] at HB3 ⊢
      clear hw5 b0 b1 b2 d0 d1 d2
      obtain ⟨o, ho⟩ : ∃ o, o = ordE x e := ⟨_, rfl⟩
      rw [← ho]
      have HO := Lib.hid ho
      clear ho
      by_cases ho0 : o < 0
      · have HF := Lib.hid (show BsRel l e w1 (.int .i64 ((m : Int) + 1)) (.int .i64 (b : Int)) w5 from ⟨m + 1, b, by omega, HBL.out, by go_num, rfl, HB3.out, fun q hq hqm => by
          refine plN_mono H.out.2.2.2 e (i := q) (j := m) (by omega) hml ?_
          rw [← HM.out.2, ← HO.out]; exact ho0, HR.out.2.2⟩)
        go_wp2_with fail
        go_roundw
        case rel => exact HF.out
        case measure => simp [intOf]; omega
      · have HF := Lib.hid (show BsRel l e w1 (.int .i64 (a : Int)) (.int .i64 (m : Int)) w5 from ⟨a, m, by omega, by have := HBL.out; omega, rfl, rfl, HB3.out, HR.out.2.1, fun q hq hmq => by
          rcases Int.lt_or_le (ordE l[q] e) 0 with hlt2 | hge
          · have := plN_mono H.out.2.2.2 e (i := m) (j := q) hmq hq hlt2
            rw [← HM.out.2, ← HO.out] at this
            exact absurd this ho0
          · exact hge⟩)
        go_wp2_with fail
        go_roundw
        case rel => exact HF.out
        case measure => simp [intOf]; omega
    · obtain rfl : b = a := by omega
      have hpl : plN e l = b := plN_is HBL.out HR.out.2.1 (fun h => by have := HR.out.2.2 b h (Nat.le_refl _); omega)
      have HP := Lib.hid hpl
      have hlti : ¬ (b : Int) < (b : Int) := by omega
      clear hpl
      by_cases hbl : b < n
      · have hbl' : b < l.length := by rw [HN2.out]; exact hbl
        have hbi : (b : Int) < (n : Int) := by omega
        have hdi : decide ((b : Int) < (n : Int)) = true := decide_eq_true hbi
        have hb0 : (0 : Int) ≤ (b : Int) := by omega
        have hm6 : b ≤ 1000000 := by omega
        obtain ⟨g, rfl⟩ := own_form' H.out.1 (by omega)
        obtain ⟨x, hx⟩ : ∃ x, x = l[b] := ⟨_, rfl⟩
        have hor := own_chg H.out.1 (Chg.of_below (F := Non) HR.out.1) fun _ _ h => h
        have hlm : b * 3 + 2 < n * 3 := by omega
        obtain ⟨e0, e1, e2⟩ := ecs_at hbl'
        rw [← hx] at e0 e1 e2
        have kr := H.out.2.1.below HR.out.1 (by rw [HS1.out]; omega)
        have k0 := kr.cell 0
        have k1 := kr.cell 1
        have k2 := kr.cell 2
        simp only [List.getElem?_toArray, List.getElem?_cons_zero, List.getElem?_cons_succ] at k0 k1 k2
        have b0 := BelowBy.cell ((hor.cellAt _ (by omega)).trans e0)
        have b1 := BelowBy.cell ((hor.cellAt _ (by omega)).trans e1)
        have b2 := BelowBy.cell ((hor.cellAt _ (by omega)).trans e2)
        have d0 := BelowBy.cell k0
        have d1 := BelowBy.cell k1
        have d2 := BelowBy.cell k2
        have HPB := Lib.hid (show plB l e = (ordE x e == 0) by
          unfold plB
          rw [HP.out, List.getElem?_eq_getElem hbl', ← hx]
          by_cases h0 : ordE x e = 0 <;> simp [h0])
        have HOR := Lib.hid (fun (w : World) => order_any x e w)
        unfold En.val at HOR
        clear hor hlm e0 e1 e2 kr k0 k1 k2 hx
        go_wp2_with fail
        refine wp_region_below hmx (by kernel_rfl) ?_
        repeat (first | go_big_quiet_step (first | (go_at_call 54; exact calls_below (HOR.out _))) | quiet_step (first | (go_at_call 54; exact calls_below (HOR.out _))))
        refine wpQuiet_nil ?_
        intro _ hw'
        obtain ⟨pq, hw''⟩ := hw'
        subst hw''
        have HB3 := Lib.hid (HR.out.1.trans (pq.h.mono HR.out.1.size))
        go_wp2_with fail
        go_ret2
        exact ⟨by rw [HP.out, HPB.out]; rfl, H.out.2.2.1.trans (HB3.out.mono H.out.2.2.1.size)⟩
      · have hdi : decide ((b : Int) < (n : Int)) = false := decide_eq_false (by omega)
        have hbi : ¬ (b : Int) < (n : Int) := by omega
        have HPB := Lib.hid (show plB l e = false by
          unfold plB
          rw [HP.out, List.getElem?_eq_none (by rw [HN2.out]; omega)])
        go_wp2_with fail
        refine wp_region_below hmx (by kernel_rfl) ?_
        repeat (first | go_big_quiet_step (fail) | quiet_step (fail))
        refine wpQuiet_nil ?_
        intro _ hw'
        obtain ⟨pq, hw''⟩ := hw'
        subst hw''
        have HB3 := Lib.hid (HR.out.1.trans (pq.h.mono HR.out.1.size))
        go_wp2_with fail
        go_ret2
        exact ⟨by rw [HP.out, HPB.out]; rfl, H.out.2.2.1.trans (HB3.out.mono H.out.2.2.1.size)⟩
end Go.Proofs.Ytiaclfldgagalaa

/-
  Trees of pages: plain mathematics: what a change makes of them.
-/
namespace Go.Proofs.Ytiaclfldgagalaa
open Go.RowKit Go.Lib

/-- an entry (true), or a key between pages (false) -/
abbrev Mk := En × Bool
def ltM (a b : Mk) : Prop := ordE a.1 b.1 < 0 ∨ (a.1 = b.1 ∧ a.2 = false ∧ b.2 = true)
theorem ordE_self (a : En) : ordE a a = 0 := good_ordE.self a
theorem ltM_trans {a b c : Mk} (h : ltM a b) (k : ltM b c) : ltM a c := by
  rcases h with h | ⟨h1, h2, h3⟩ <;> rcases k with k | ⟨k1, k2, k3⟩
  · exact .inl (good_ordE.strict _ _ _ h (by omega))
  · exact .inl (by rw [← k1]; exact h)
  · exact .inl (by rw [h1]; exact k)
  · rw [h3] at k2; cases k2
theorem ltM_ee {a b : En} : ltM (a, true) (b, true) ↔ ordE a b < 0 := ⟨fun h => h.elim id (fun h => (by cases h.2.1)), fun h => .inl h⟩
theorem ltM_es {a b : En} : ltM (a, true) (b, false) ↔ ordE a b < 0 := ⟨fun h => h.elim id (fun h => (by cases h.2.1)), fun h => .inl h⟩
theorem ltM_ss {a b : En} : ltM (a, false) (b, false) ↔ ordE a b < 0 := ⟨fun h => h.elim id (fun h => (by cases h.2.2)), fun h => .inl h⟩
theorem ltM_se {a b : En} : ltM (a, false) (b, true) ↔ ordE a b ≤ 0 := by
  constructor
  · rintro (h | ⟨h, _, _⟩)
    · exact Int.le_of_lt h
    · simp only at h; rw [h]; exact Int.le_of_eq (ordE_self b)
  · intro h
    rcases Int.lt_or_eq_of_le h with h | h
    · exact .inl h
    · exact .inr ⟨(good_ordE.zero _ _).1 h, rfl, rfl⟩
/-- of a mark above (below) an entry, so is its text -/
theorem ltM_up {a : Mk} {e : En} (h : ltM (e, true) a) : ordE e a.1 < 0 := h.elim id fun h => by cases h.2.1
theorem ltM_dn {a : Mk} {e : En} (h : ltM a (e, true)) : ordE a.1 e ≤ 0 := h.elim (fun h => Int.le_of_lt h) fun h => by rw [h.1]; exact Int.le_of_eq (ordE_self _)

def entsF (F : List Mk) : List En := F.filterMap fun x => if x.2 then some x.1 else none
theorem entsF_append (F G : List Mk) : entsF (F ++ G) = entsF F ++ entsF G := List.filterMap_append ..
theorem entsF_nil : entsF [] = [] := rfl
theorem entsF_sep (k : En) (F : List Mk) : entsF ((k, false) :: F) = entsF F := by simp [entsF]
theorem entsF_ent (k : En) (F : List Mk) : entsF ((k, true) :: F) = k :: entsF F := by simp [entsF]
theorem mem_entsF {F : List Mk} {e : En} : e ∈ entsF F ↔ (e, true) ∈ F := by
  simp only [entsF, List.mem_filterMap]
  constructor
  · rintro ⟨⟨a, b⟩, h, h2⟩
    cases b
    · simp at h2
    · simp at h2; rw [← h2]; exact h
  · intro h
    exact ⟨_, h, by simp⟩
theorem entsF_map (ks : List En) : entsF (ks.map fun k => (k, true)) = ks := by
  induction ks with
  | nil => rfl
  | cons a l ih => rw [List.map_cons, entsF_ent, ih]
theorem entsF_srt {F : List Mk} (h : F.Pairwise ltM) : Srt (entsF F) := by
  unfold Srt entsF
  rw [List.pairwise_filterMap]
  refine h.imp ?_
  rintro ⟨a, x⟩ ⟨b, y⟩ hab u hu v hv
  cases x <;> cases y <;> simp at hu hv
  subst hu; subst hv
  exact ltM_ee.1 hab

/-! ### the keys and the pages between them, one behind the other -/
def weave : List En → List (List Mk) → List Mk
  | k :: ks, t :: ts => t ++ (k, false) :: weave ks ts
  | _, ts => ts.flatten
def wl : List En → List (List Mk) → List Mk
  | k :: ks, t :: ts => t ++ (k, false) :: wl ks ts
  | _, _ => []
def wr : List En → List (List Mk) → List Mk
  | k :: ks, t :: ts => (k, false) :: (t ++ wr ks ts)
  | _, _ => []
theorem weave_wr : ∀ (ks : List En) (t : List Mk) (ts : List (List Mk)), ks.length = ts.length → weave ks (t :: ts) = t ++ wr ks ts
  | [], t, [], _ => by simp [weave, wr]
  | k :: ks, t, t' :: ts, h => by
    rw [weave, weave_wr ks t' ts (by simpa using h), wr]
theorem weave_wl : ∀ (k1 : List En) (t1 : List (List Mk)) (k2 : List En) (t2 : List (List Mk)), k1.length = t1.length → weave (k1 ++ k2) (t1 ++ t2) = wl k1 t1 ++ weave k2 t2
  | [], [], k2, t2, _ => by simp [wl]
  | k :: k1, t :: t1, k2, t2, h => by
    rw [List.cons_append, List.cons_append, weave, weave_wl k1 t1 k2 t2 (by simpa using h), wl]
    simp
theorem weave_at {k1 k2 : List En} {t1 t2 : List (List Mk)} (t : List Mk) (h1 : k1.length = t1.length) (h2 : k2.length = t2.length) : weave (k1 ++ k2) (t1 ++ t :: t2) = wl k1 t1 ++ (t ++ wr k2 t2) := by
  rw [weave_wl _ _ _ _ h1, weave_wr _ _ _ h2]
theorem wl_snoc : ∀ (ks : List En) (ts : List (List Mk)) (k : En) (t : List Mk), ks.length = ts.length → wl (ks ++ [k]) (ts ++ [t]) = wl ks ts ++ (t ++ [(k, false)])
  | [], [], k, t, _ => by simp [wl]
  | k' :: ks, t' :: ts, k, t, h => by
    rw [List.cons_append, List.cons_append, wl, wl_snoc ks ts k t (by simpa using h), wl]
    simp

/-! ### a tree -/
def Tr : Nat → Type
  | 0 => List En
  | d + 1 => List En × List (Tr d)
def keysT : {d : Nat} → Tr d → List En
  | 0, ks => ks
  | _ + 1, x => x.1
def flat : {d : Nat} → Tr d → List Mk
  | 0, ks => List.map (fun k => (k, true)) (show List En from ks)
  | _ + 1, x => weave x.1 (x.2.map flat)
def ents {d : Nat} (t : Tr d) : List En := entsF (flat t)
def Cnt : {d : Nat} → Tr d → Prop
  | 0, _ => True
  | _ + 1, x => x.2.length = x.1.length + 1 ∧ ∀ t ∈ x.2, 2 ≤ (keysT t).length ∧ (keysT t).length ≤ 4 ∧ Cnt t

/-- begins and ends with an entry -/
def Ends (F : List Mk) : Prop := (∃ z r, F = (z, true) :: r) ∧ ∃ r z, F = r ++ [(z, true)]
theorem Ends.append {F G : List Mk} (hF : Ends F) (H : List Mk) (hG : Ends G) : Ends (F ++ (H ++ G)) := by
  obtain ⟨⟨z, r, rfl⟩, _⟩ := hF
  obtain ⟨_, r', z', rfl⟩ := hG
  exact ⟨⟨z, _, rfl⟩, ⟨(z, true) :: r ++ (H ++ r'), z', by simp⟩⟩
theorem ends_flat0 {ks : List En} (h : ks ≠ []) : Ends (flat (d := 0) ks) := by
  refine ⟨?_, ?_⟩
  · cases ks with
    | nil => exact absurd rfl h
    | cons a l => exact ⟨a, _, rfl⟩
  · refine ⟨(ks.dropLast).map fun k => (k, true), ks.getLast h, ?_⟩
    show ks.map _ = _
    conv => lhs; rw [← List.dropLast_concat_getLast h]
    rw [List.map_append]; rfl
theorem ends_weave : ∀ (ks : List En) (t : List Mk) (ts : List (List Mk)), ks.length = ts.length → Ends t → (∀ u ∈ ts, Ends u) → Ends (weave ks (t :: ts))
  | [], t, [], _, h, _ => by simpa [weave] using h
  | k :: ks, t, t' :: ts, hl, h, hs => by
    rw [weave]
    have := ends_weave ks t' ts (by simpa using hl) (hs t' (by simp)) (fun u hu => hs u (by simp [hu]))
    exact h.append [(k, false)] this
theorem ends_flat : ∀ {d : Nat} (t : Tr d), Cnt t → 1 ≤ (keysT t).length → Ends (flat t)
  | 0, ks, _, h => ends_flat0 (by intro e; rw [e] at h; simp [keysT] at h)
  | d + 1, x, hc, _ => by
    obtain ⟨hl, hk⟩ := hc
    obtain ⟨ks, ts⟩ := x
    match ts, hl with
    | t :: ts, hl =>
      refine ends_weave ks _ _ (by simpa using hl.symm) (ends_flat t (hk t (by simp)).2.2 (by have := (hk t (by simp)).1; omega)) ?_
      intro u hu
      obtain ⟨t', ht', rfl⟩ := List.mem_map.1 hu
      have := hk t' (by simp [ht'])
      exact ends_flat t' this.2.2 (by omega)

/-! ### one part of a row of marks is put in place of another one -/
theorem ctx {L M M' R : List Mk} (h : (L ++ (M ++ R)).Pairwise ltM) (hM : M'.Pairwise ltM) (he : Ends M') (hin : ∀ x, (x, true) ∈ M' → (∀ l ∈ L, ltM l (x, true)) ∧ ∀ r ∈ R, ltM (x, true) r) : (L ++ (M' ++ R)).Pairwise ltM := by
  have low : ∀ m ∈ M', ∀ l ∈ L, ltM l m := by
    intro m hm l hl
    obtain ⟨⟨z, r, e⟩, _⟩ := he
    have h0 := (hin z (by rw [e]; simp)).1 l hl
    rw [e] at hm hM
    rcases List.mem_cons.1 hm with rfl | hm
    · exact h0
    · exact ltM_trans h0 ((List.pairwise_cons.1 hM).1 m hm)
  have high : ∀ m ∈ M', ∀ r ∈ R, ltM m r := by
    intro m hm r hr
    obtain ⟨_, q, z, e⟩ := he
    have h0 := (hin z (by rw [e]; simp)).2 r hr
    rw [e] at hm hM
    rcases List.mem_append.1 hm with hm | hm
    · exact ltM_trans ((List.pairwise_append.1 hM).2.2 m hm _ (by simp)) h0
    · rw [List.mem_singleton.1 hm]; exact h0
  obtain ⟨hL, hMR, hLMR⟩ := List.pairwise_append.1 h
  obtain ⟨_, hR, _⟩ := List.pairwise_append.1 hMR
  refine List.pairwise_append.2 ⟨hL, List.pairwise_append.2 ⟨hM, hR, high⟩, fun l hl x hx => ?_⟩
  rcases List.mem_append.1 hx with hx | hx
  · exact low x hx l hl
  · exact hLMR l hl x (by simp [hx])

/-! ### entries in the midst of others -/
section
variable {E1 X E2 : List En} {e : En}
theorem plN_mid (h1 : ∀ x ∈ E1, ordE x e < 0) (h2 : ∀ x ∈ E2, 0 < ordE x e) : plN e (E1 ++ (X ++ E2)) = E1.length + plN e X := by
  induction E1 with
  | nil =>
    simp only [List.nil_append, List.length_nil, Nat.zero_add]
    induction X with
    | nil =>
      cases E2 with
      | nil => rfl
      | cons a r => have := h2 a (by simp); simp only [List.nil_append, plN]; rw [if_neg (by omega)]
    | cons a r ih =>
      rw [List.cons_append, plN, plN, ih]
  | cons a r ih =>
    rw [List.cons_append, plN, if_pos (h1 a (by simp)), ih fun x hx => h1 x (by simp [hx])]
    simp; omega
theorem plB_mid (h1 : ∀ x ∈ E1, ordE x e < 0) (h2 : ∀ x ∈ E2, 0 < ordE x e) : plB (E1 ++ (X ++ E2)) e = plB X e := by
  unfold plB
  rw [plN_mid h1 h2, List.getElem?_append_right (by omega), Nat.add_sub_cancel_left]
  have hle := plN_le e X
  rcases Nat.lt_or_ge (plN e X) X.length with h | h
  · rw [List.getElem?_append_left h]
  · have : plN e X = X.length := by omega
    rw [this, List.getElem?_append_right (Nat.le_refl _), Nat.sub_self, List.getElem?_eq_none (Nat.le_refl X.length)]
    cases E2 with
    | nil => rfl
    | cons a r => have := h2 a (by simp); simp; omega
theorem insL_mid (h1 : ∀ x ∈ E1, ordE x e < 0) (h2 : ∀ x ∈ E2, 0 < ordE x e) : insL (E1 ++ (X ++ E2)) e = E1 ++ (insL X e ++ E2) := by
  unfold insL
  rw [plB_mid h1 h2, plN_mid h1 h2]
  have hle := plN_le e X
  split
  · rfl
  · rw [List.take_append, List.take_of_length_le (by omega), Nat.add_sub_cancel_left, List.drop_append, List.drop_eq_nil_of_le (by omega), Nat.add_sub_cancel_left,
      List.take_append_of_le_length hle, List.drop_append_of_le_length hle]
    simp
theorem delL_mid (h1 : ∀ x ∈ E1, ordE x e < 0) (h2 : ∀ x ∈ E2, 0 < ordE x e) : delL (E1 ++ (X ++ E2)) e = E1 ++ (delL X e ++ E2) := by
  unfold delL
  rw [plB_mid h1 h2, plN_mid h1 h2]
  split
  · rename_i hb
    have hlt := plB_lt hb
    rw [List.take_append, List.take_of_length_le (by omega), Nat.add_sub_cancel_left, List.drop_append, List.drop_eq_nil_of_le (by omega), show E1.length + plN e X + 1 - E1.length = plN e X + 1 by omega,
      List.take_append_of_le_length (by omega), List.drop_append_of_le_length (by omega)]
    simp
  · rfl
end
end Go.Proofs.Ytiaclfldgagalaa

/-
  Trees of pages: a page parted, two joined, a page's bounds mended; a change: plain mathematics.
-/
namespace Go.Proofs.Ytiaclfldgagalaa
open Go.RowKit Go.Lib

def e0 : En := ⟨⟨#[]⟩, 0, 0⟩
def splitT : {d : Nat} → Tr d → Tr d × En × Tr d
  | 0, ks => (List.take ((keysT (d := 0) ks).length / 2) ks, (keysT (d := 0) ks)[(keysT (d := 0) ks).length / 2]?.getD e0, List.drop ((keysT (d := 0) ks).length / 2) ks)
  | _ + 1, x => ((x.1.take (x.1.length / 2), x.2.take (x.1.length / 2 + 1)), x.1[x.1.length / 2]?.getD e0, (x.1.drop (x.1.length / 2 + 1), x.2.drop (x.1.length / 2 + 1)))
def joinT : {d : Nat} → Tr d → En → Tr d → Tr d
  | 0, a, _, b => List.append (show List En from a) b
  | _ + 1, a, k, b => (a.1 ++ k :: b.1, a.2 ++ b.2)
def splitAt {d : Nat} (x : List En × List (Tr d)) (i : Nat) : List En × List (Tr d) :=
  match x.2[i]? with
  | some t => (x.1.take i ++ (splitT t).2.1 :: x.1.drop i, x.2.take i ++ (splitT t).1 :: (splitT t).2.2 :: x.2.drop (i + 1))
  | none => x
def joinAt {d : Nat} (x : List En × List (Tr d)) (i : Nat) : List En × List (Tr d) :=
  match x.2[i]?, x.1[i]?, x.2[i + 1]? with
  | some a, some k, some b => (x.1.take i ++ x.1.drop (i + 1), x.2.take i ++ joinT a k b :: x.2.drop (i + 2))
  | _, _, _ => x
def cntAt {d : Nat} (x : List En × List (Tr d)) (i : Nat) : Nat :=
  match x.2[i]? with
  | some t => (keysT t).length
  | none => 0
def mendT {d : Nat} (x : List En × List (Tr d)) (i : Nat) : List En × List (Tr d) :=
  if cntAt x i < 2 then (if 4 < cntAt (joinAt x (i - 1)) (i - 1) then splitAt (joinAt x (i - 1)) (i - 1) else joinAt x (i - 1)) else if 4 < cntAt x i then splitAt x i else x

/-- as a row of marks, what there is instead of it: in order, the same entries (but for what is told), no text that was not there -/
structure Ind (M M' : List Mk) : Prop where
  ord : M'.Pairwise ltM
  ends : Ends M'
  ent : entsF M' = entsF M
  txt : ∀ y ∈ M', ∃ z ∈ M, y.1 = z.1
theorem Ind.ctx {L M M' R : List Mk} (h : (L ++ (M ++ R)).Pairwise ltM) (i : Ind M M') : (L ++ (M' ++ R)).Pairwise ltM := by
  refine Go.Proofs.Ytiaclfldgagalaa.ctx h i.ord i.ends fun x hx => ?_
  have hm : (x, true) ∈ M := mem_entsF.1 (by rw [← i.ent]; exact mem_entsF.2 hx)
  obtain ⟨_, hMR, hL⟩ := List.pairwise_append.1 h
  exact ⟨fun l hl => hL l hl _ (by simp [hm]), fun r hr => (List.pairwise_append.1 hMR).2.2 _ hm r hr⟩

theorem Ind.refl {M : List Mk} (h : M.Pairwise ltM) (e : Ends M) : Ind M M := ⟨h, e, rfl, fun y hy => ⟨y, hy, rfl⟩⟩
theorem Ind.trans {M N O : List Mk} (h : Ind M N) (k : Ind N O) : Ind M O := ⟨k.ord, k.ends, k.ent.trans h.ent, fun y hy => by
  obtain ⟨z, hz, e⟩ := k.txt y hy
  obtain ⟨u, hu, e'⟩ := h.txt z hz
  exact ⟨u, hu, e.trans e'⟩⟩
/-- the same in the midst of others -/
theorem Ind.mid {L M M' R : List Mk} (h : (L ++ (M ++ R)).Pairwise ltM) (he : Ends (L ++ (M' ++ R))) (i : Ind M M') : Ind (L ++ (M ++ R)) (L ++ (M' ++ R)) := by
  refine ⟨i.ctx h, he, by simp only [entsF_append, i.ent], fun y hy => ?_⟩
  simp only [List.mem_append] at hy ⊢
  rcases hy with hy | hy | hy
  · exact ⟨y, .inl hy, rfl⟩
  · obtain ⟨z, hz, e⟩ := i.txt y hy
    exact ⟨z, .inr (.inl hz), e⟩
  · exact ⟨y, .inr (.inr hy), rfl⟩
theorem sep_in {A B : List En} {k : En} (h : ((A ++ k :: B).map fun x => ((x, true) : Mk)).Pairwise ltM) : ((A.map fun x => ((x, true) : Mk)) ++ (k, false) :: ((k :: B).map fun x => ((x, true) : Mk))).Pairwise ltM := by
  rw [List.map_append] at h
  obtain ⟨hA, hB, hAB⟩ := List.pairwise_append.1 h
  have hk := List.pairwise_cons.1 (show ((k, true) :: B.map fun x => ((x, true) : Mk)).Pairwise ltM from hB)
  refine List.pairwise_append.2 ⟨hA, List.pairwise_cons.2 ⟨fun x hx => ?_, hB⟩, fun a ha x hx => ?_⟩
  · rcases List.mem_cons.1 (show x ∈ (k, true) :: B.map fun x => ((x, true) : Mk) from hx) with rfl | hx
    · exact .inr ⟨rfl, rfl, rfl⟩
    · exact ltM_trans (b := (k, true)) (.inr ⟨rfl, rfl, rfl⟩) (hk.1 x hx)
  · rcases List.mem_cons.1 hx with rfl | hx
    · obtain ⟨y, _, rfl⟩ := List.mem_map.1 ha
      exact ltM_es.2 (ltM_ee.1 (hAB _ ha (k, true) (by simp)))
    · exact hAB a ha x hx
theorem weave_mid : ∀ (k1 : List En) (t1 : List (List Mk)) (m : En) (k2 : List En) (t2 : List (List Mk)), t1.length = k1.length + 1 → weave (k1 ++ m :: k2) (t1 ++ t2) = weave k1 t1 ++ (m, false) :: weave k2 t2
  | [], [t], m, k2, t2, _ => by simp [weave]
  | k :: k1, t :: t1, m, k2, t2, h => by
    rw [List.cons_append, List.cons_append, weave, weave_mid k1 t1 m k2 t2 (by simpa using h), weave]
    simp
theorem flat_succ {d : Nat} (x : Tr (d + 1)) : flat x = weave x.1 (x.2.map flat) := rfl

abbrev mk0 (ks : List En) : List Mk := ks.map fun k => (k, true)
theorem split0 (ks : List En) (h5 : 5 ≤ ks.length) (h6 : ks.length ≤ 6) (hp : (mk0 ks).Pairwise ltM) :
    Ind (mk0 ks) (mk0 (ks.take (ks.length / 2)) ++ ((ks[ks.length / 2]?).getD e0, false) :: mk0 (ks.drop (ks.length / 2))) := by
  have hlt : ks.length / 2 < ks.length := by omega
  have hd : ks.drop (ks.length / 2) = ks[ks.length / 2] :: ks.drop (ks.length / 2 + 1) := List.drop_eq_getElem_cons hlt
  have hks : ks = ks.take (ks.length / 2) ++ ks[ks.length / 2] :: ks.drop (ks.length / 2 + 1) := by rw [← hd, List.take_append_drop]
  rw [List.getElem?_eq_getElem hlt]
  show Ind _ (_ ++ (ks[ks.length / 2], false) :: _)
  refine ⟨?_, ?_, ?_, ?_⟩
  · rw [hd]
    refine sep_in ?_
    rw [← hks]
    exact hp
  · refine Ends.append (H := [(_, false)]) (ends_flat0 ?_) (ends_flat0 ?_)
    · intro e
      have h1 : (ks.take (ks.length / 2)).length = 0 := by rw [e]; rfl
      rw [List.length_take] at h1
      omega
    · intro e
      have h1 : (ks.drop (ks.length / 2)).length = 0 := by rw [e]; rfl
      rw [List.length_drop] at h1
      omega
  · rw [entsF_append, entsF_sep, entsF_map, entsF_map, entsF_map, List.take_append_drop]
  · intro y hy
    have key : ∀ z, z ∈ ks → ∃ u ∈ mk0 ks, z = u.1 := fun z hz => ⟨(z, true), List.mem_map.2 ⟨z, hz, rfl⟩, rfl⟩
    rcases List.mem_append.1 hy with hy | hy
    · obtain ⟨z, hz, rfl⟩ := List.mem_map.1 hy
      exact key z (List.mem_of_mem_take hz)
    · rcases List.mem_cons.1 hy with rfl | hy
      · exact key _ (List.getElem_mem hlt)
      · obtain ⟨z, hz, rfl⟩ := List.mem_map.1 hy
        exact key z (List.mem_of_mem_drop hz)
theorem splitT_ind : ∀ {d : Nat} (t : Tr d), Cnt t → 5 ≤ (keysT t).length → (keysT t).length ≤ 6 → (flat t).Pairwise ltM →
    Ind (flat t) (flat (splitT t).1 ++ (((splitT t).2.1, false) :: flat (splitT t).2.2)) ∧ Cnt (splitT t).1 ∧ Cnt (splitT t).2.2 ∧ 2 ≤ (keysT (splitT t).1).length ∧ (keysT (splitT t).1).length ≤ 4 ∧ 2 ≤ (keysT (splitT t).2.2).length ∧ (keysT (splitT t).2.2).length ≤ 4
  | 0, (ks : List En), _, h5, h6, hp => by
    change 5 ≤ ks.length at h5
    change ks.length ≤ 6 at h6
    have h1 : (ks.take (ks.length / 2)).length = ks.length / 2 := by rw [List.length_take]; omega
    have h2 : (ks.drop (ks.length / 2)).length = ks.length - ks.length / 2 := List.length_drop ..
    refine ⟨split0 ks h5 h6 hp, trivial, trivial, ?_, ?_, ?_, ?_⟩
    · show 2 ≤ (ks.take (ks.length / 2)).length; omega
    · show (ks.take (ks.length / 2)).length ≤ 4; omega
    · show 2 ≤ (ks.drop (ks.length / 2)).length; omega
    · show (ks.drop (ks.length / 2)).length ≤ 4; omega
  | d + 1, x, hc, h5, h6, hp => by
    obtain ⟨ks, ts⟩ := x
    change 5 ≤ ks.length at h5
    change ks.length ≤ 6 at h6
    obtain ⟨hl, hk⟩ := hc
    simp only at hl hk
    have hlt : ks.length / 2 < ks.length := by omega
    have hm : (splitT (d := d + 1) (ks, ts)).2.1 = ks[ks.length / 2] := by
      show (ks[ks.length / 2]?).getD e0 = _
      rw [List.getElem?_eq_getElem hlt]; rfl
    have hks : ks = ks.take (ks.length / 2) ++ ks[ks.length / 2] :: ks.drop (ks.length / 2 + 1) := by
      conv => lhs; rw [← List.take_append_drop (ks.length / 2) ks, List.drop_eq_getElem_cons hlt]
    have hf : flat (d := d + 1) (ks, ts) = flat (splitT (d := d + 1) (ks, ts)).1 ++ (((splitT (d := d + 1) (ks, ts)).2.1, false) :: flat (splitT (d := d + 1) (ks, ts)).2.2) := by
      rw [hm]
      show weave ks (ts.map flat) = weave (ks.take (ks.length / 2)) ((ts.take (ks.length / 2 + 1)).map flat) ++ (_, false) :: weave (ks.drop (ks.length / 2 + 1)) ((ts.drop (ks.length / 2 + 1)).map flat)
      rw [← weave_mid _ _ _ _ _ (by simp; omega), ← hks, ← List.map_append, List.take_append_drop]
    rw [← hf]
    refine ⟨Ind.refl hp (ends_flat (d := d + 1) (ks, ts) ⟨hl, hk⟩ (by show 1 ≤ ks.length; omega)), ⟨?_, fun t ht => hk t (List.mem_of_mem_take ht)⟩, ⟨?_, fun t ht => hk t (List.mem_of_mem_drop ht)⟩, ?_, ?_, ?_, ?_⟩
    · show (ts.take (ks.length / 2 + 1)).length = (ks.take (ks.length / 2)).length + 1
      rw [List.length_take, List.length_take]; omega
    · show (ts.drop (ks.length / 2 + 1)).length = (ks.drop (ks.length / 2 + 1)).length + 1
      rw [List.length_drop, List.length_drop]; omega
    · show 2 ≤ (ks.take (ks.length / 2)).length
      rw [List.length_take]; omega
    · show (ks.take (ks.length / 2)).length ≤ 4
      rw [List.length_take]; omega
    · show 2 ≤ (ks.drop (ks.length / 2 + 1)).length
      rw [List.length_drop]; omega
    · show (ks.drop (ks.length / 2 + 1)).length ≤ 4
      rw [List.length_drop]; omega
theorem joinT_ind : ∀ {d : Nat} (a : Tr d) (k : En) (b : Tr d), Cnt a → Cnt b → 1 ≤ (keysT a).length → 1 ≤ (keysT b).length → (flat a ++ (k, false) :: flat b).Pairwise ltM →
    Ind (flat a ++ (k, false) :: flat b) (flat (joinT a k b)) ∧ Cnt (joinT a k b) ∧ (keysT a).length + (keysT b).length ≤ (keysT (joinT a k b)).length ∧ (keysT (joinT a k b)).length ≤ (keysT a).length + (keysT b).length + (if d = 0 then 0 else 1)
  | 0, a, k, b, ha, hb, h1, h2, hp => by
    have e : flat (d := 0) (joinT (d := 0) a k b) = flat (d := 0) a ++ flat (d := 0) b := List.map_append ..
    refine ⟨?_, trivial, ?_, ?_⟩
    · rw [e]
      refine ⟨hp.sublist ((List.Sublist.refl _).append (List.sublist_cons_self _ _)), Ends.append (H := []) (ends_flat (d := 0) a ha h1) (ends_flat (d := 0) b hb h2), by rw [entsF_append, entsF_append, entsF_sep], fun y hy => ⟨y, ?_, rfl⟩⟩
      rcases List.mem_append.1 hy with hy | hy
      · exact List.mem_append_left _ hy
      · exact List.mem_append_right _ (List.mem_cons_of_mem _ hy)
    · show List.length a + List.length b ≤ (List.append a b).length
      exact Nat.le_of_eq (List.length_append ..).symm
    · show (List.append a b).length ≤ List.length a + List.length b + 0
      exact Nat.le_of_eq (List.length_append ..)
  | d + 1, a, k, b, ha, hb, h1, h2, hp => by
    have hf : flat (d := d + 1) (joinT (d := d + 1) a k b) = flat (d := d + 1) a ++ (k, false) :: flat (d := d + 1) b := by
      show weave (a.1 ++ k :: b.1) ((a.2 ++ b.2).map flat) = _
      rw [List.map_append, weave_mid _ _ _ _ _ (by rw [List.length_map]; exact ha.1)]; rfl
    rw [hf]
    refine ⟨Ind.refl hp (Ends.append (H := [(k, false)]) (ends_flat (d := d + 1) a ha h1) (ends_flat (d := d + 1) b hb h2)), ⟨?_, fun t ht => ?_⟩, ?_, ?_⟩
    · show (a.2 ++ b.2).length = (a.1 ++ k :: b.1).length + 1
      have := ha.1; have := hb.1
      simp; omega
    · rcases List.mem_append.1 (show t ∈ a.2 ++ b.2 from ht) with ht | ht
      · exact ha.2 t ht
      · exact hb.2 t ht
    · show a.1.length + b.1.length ≤ (a.1 ++ k :: b.1).length
      rw [List.length_append, List.length_cons]; omega
    · show (a.1 ++ k :: b.1).length ≤ a.1.length + b.1.length + 1
      rw [List.length_append, List.length_cons]; omega
end Go.Proofs.Ytiaclfldgagalaa

/-
  Trees of pages: a page's bounds mended: plain mathematics.
-/
namespace Go.Proofs.Ytiaclfldgagalaa
open Go.RowKit Go.Lib

def GoodT {d : Nat} (t : Tr d) : Prop := 2 ≤ (keysT t).length ∧ (keysT t).length ≤ 4 ∧ Cnt t
abbrev Nd (d : Nat) := List En × List (Tr d)
abbrev flatN {d : Nat} (x : Nd d) : List Mk := weave x.1 (x.2.map flat)
theorem GoodT.ends {d : Nat} {t : Tr d} (h : GoodT t) : Ends (flat t) := ends_flat t h.2.2 (by have := h.1; omega)
theorem ends_node {d : Nat} {ks : List En} {ts : List (Tr d)} (hl : ts.length = ks.length + 1) (h : ∀ t ∈ ts, Ends (flat t)) : Ends (flatN (ks, ts)) := by
  match ts, hl with
  | t :: ts, hl =>
    refine ends_weave ks _ _ (by simpa using hl.symm) (h t (by simp)) ?_
    intro u hu
    obtain ⟨t', ht', rfl⟩ := List.mem_map.1 hu
    exact h t' (by simp [ht'])
section
variable {d : Nat} {ks : List En} {ts : List (Tr d)} {i : Nat}
theorem ts_cut {t : Tr d} (hi : ts[i]? = some t) : ts = ts.take i ++ t :: ts.drop (i + 1) := by
  have hlt := (List.getElem?_eq_some_iff.1 hi).1
  have he := (List.getElem?_eq_some_iff.1 hi).2
  conv => lhs; rw [← List.take_append_drop i ts, List.drop_eq_getElem_cons hlt, he]
theorem ts_cut2 {a b : Tr d} (hi : ts[i]? = some a) (hj : ts[i + 1]? = some b) : ts = ts.take i ++ a :: b :: ts.drop (i + 2) := by
  have hlt := (List.getElem?_eq_some_iff.1 hi).1
  have he := (List.getElem?_eq_some_iff.1 hi).2
  have hlt' := (List.getElem?_eq_some_iff.1 hj).1
  have he' := (List.getElem?_eq_some_iff.1 hj).2
  conv => lhs; rw [← List.take_append_drop i ts, List.drop_eq_getElem_cons hlt, he, List.drop_eq_getElem_cons hlt', he']
theorem ks_cut {k : En} (hi : ks[i]? = some k) : ks = ks.take i ++ k :: ks.drop (i + 1) := by
  have hlt := (List.getElem?_eq_some_iff.1 hi).1
  have he := (List.getElem?_eq_some_iff.1 hi).2
  conv => lhs; rw [← List.take_append_drop i ks, List.drop_eq_getElem_cons hlt, he]
/-- a page's marks round one of its pages -/
theorem flat_at (t' : Tr d) (hl : ts.length = ks.length + 1) (hi : i < ts.length) :
    flatN (ks, ts.take i ++ t' :: ts.drop (i + 1)) = wl (ks.take i) ((ts.take i).map flat) ++ (flat t' ++ wr (ks.drop i) ((ts.drop (i + 1)).map flat)) := by
  show weave ks ((ts.take i ++ t' :: ts.drop (i + 1)).map flat) = _
  rw [List.map_append, List.map_cons]
  conv => lhs; rw [← List.take_append_drop i ks]
  exact weave_at _ (by simp; omega) (by simp; omega)
theorem flat_split (l r : Tr d) (m : En) (hl : ts.length = ks.length + 1) (hi : i < ts.length) :
    flatN (ks.take i ++ m :: ks.drop i, ts.take i ++ l :: r :: ts.drop (i + 1)) = wl (ks.take i) ((ts.take i).map flat) ++ ((flat l ++ (m, false) :: flat r) ++ wr (ks.drop i) ((ts.drop (i + 1)).map flat)) := by
  show weave (ks.take i ++ m :: ks.drop i) ((ts.take i ++ l :: r :: ts.drop (i + 1)).map flat) = _
  rw [List.map_append, List.map_cons, List.map_cons, weave_wl _ _ _ _ (by simp; omega), weave, weave_wr _ _ _ (by simp; omega)]
  simp
theorem flat_two (a b : Tr d) (k : En) (hl : ts.length = ks.length + 1) (hi : i + 1 < ts.length) :
    flatN (ks.take i ++ k :: ks.drop (i + 1), ts.take i ++ a :: b :: ts.drop (i + 2)) = wl (ks.take i) ((ts.take i).map flat) ++ ((flat a ++ (k, false) :: flat b) ++ wr (ks.drop (i + 1)) ((ts.drop (i + 2)).map flat)) := by
  show weave (ks.take i ++ k :: ks.drop (i + 1)) ((ts.take i ++ a :: b :: ts.drop (i + 2)).map flat) = _
  rw [List.map_append, List.map_cons, List.map_cons, weave_wl _ _ _ _ (by simp; omega), weave, weave_wr _ _ _ (by simp; omega)]
  simp
theorem flat_join (j : Tr d) (hl : ts.length = ks.length + 1) (hi : i + 1 < ts.length) :
    flatN (ks.take i ++ ks.drop (i + 1), ts.take i ++ j :: ts.drop (i + 2)) = wl (ks.take i) ((ts.take i).map flat) ++ (flat j ++ wr (ks.drop (i + 1)) ((ts.drop (i + 2)).map flat)) := by
  show weave (ks.take i ++ ks.drop (i + 1)) ((ts.take i ++ j :: ts.drop (i + 2)).map flat) = _
  rw [List.map_append, List.map_cons]
  exact weave_at _ (by simp; omega) (by simp; omega)

theorem splitAt_spec {t : Tr d} (hi : ts[i]? = some t) (hl : ts.length = ks.length + 1) (hL : ∀ u ∈ ts.take i, GoodT u) (hR : ∀ u ∈ ts.drop (i + 1), GoodT u) (hc : Cnt t) (h5 : 5 ≤ (keysT t).length) (h6 : (keysT t).length ≤ 6)
    (hp : (flatN (ks, ts)).Pairwise ltM) :
    Ind (flatN (ks, ts)) (flatN (splitAt (ks, ts) i)) ∧ (splitAt (ks, ts) i).2.length = (splitAt (ks, ts) i).1.length + 1 ∧ (∀ u ∈ (splitAt (ks, ts) i).2, GoodT u) ∧ (splitAt (ks, ts) i).1.length = ks.length + 1 := by
  have hlt := (List.getElem?_eq_some_iff.1 hi).1
  have he : splitAt (ks, ts) i = (ks.take i ++ (splitT t).2.1 :: ks.drop i, ts.take i ++ (splitT t).1 :: (splitT t).2.2 :: ts.drop (i + 1)) := by
    show (match ts[i]? with | some t => _ | none => _) = _
    rw [hi]
  rw [he]
  have hf : flatN (ks, ts) = wl (ks.take i) ((ts.take i).map flat) ++ (flat t ++ wr (ks.drop i) ((ts.drop (i + 1)).map flat)) := by
    rw [← flat_at t hl hlt, ← ts_cut hi]
  rw [hf] at hp ⊢
  have hpt := (List.pairwise_append.1 (List.pairwise_append.1 hp).2.1).1
  obtain ⟨hI, c1, c2, n1, n2, n3, n4⟩ := splitT_ind t hc h5 h6 hpt
  have hg : ∀ u ∈ ts.take i ++ (splitT t).1 :: (splitT t).2.2 :: ts.drop (i + 1), GoodT u := by
    intro u hu
    rcases List.mem_append.1 hu with hu | hu
    · exact hL u hu
    · rcases List.mem_cons.1 hu with rfl | hu
      · exact ⟨n1, n2, c1⟩
      · rcases List.mem_cons.1 hu with rfl | hu
        · exact ⟨n3, n4, c2⟩
        · exact hR u hu
  have hlen : (ts.take i ++ (splitT t).1 :: (splitT t).2.2 :: ts.drop (i + 1)).length = (ks.take i ++ (splitT t).2.1 :: ks.drop i).length + 1 := by simp; omega
  refine ⟨?_, hlen, hg, by simp; omega⟩
  have hends := ends_node hlen fun u hu => (hg u hu).ends
  rw [flat_split _ _ _ hl hlt] at hends ⊢
  exact hI.mid hp hends
theorem joinAt_spec {a b : Tr d} {k : En} (hi : ts[i]? = some a) (hk : ks[i]? = some k) (hj : ts[i + 1]? = some b) (hl : ts.length = ks.length + 1) (hL : ∀ u ∈ ts.take i, GoodT u) (hR : ∀ u ∈ ts.drop (i + 2), GoodT u)
    (ha : Cnt a) (hb : Cnt b) (h1 : 1 ≤ (keysT a).length) (h2 : 1 ≤ (keysT b).length) (hp : (flatN (ks, ts)).Pairwise ltM) :
    joinAt (ks, ts) i = (ks.take i ++ ks.drop (i + 1), ts.take i ++ joinT a k b :: ts.drop (i + 2)) ∧ Ind (flatN (ks, ts)) (flatN (ks.take i ++ ks.drop (i + 1), ts.take i ++ joinT a k b :: ts.drop (i + 2))) ∧
      Cnt (joinT a k b) ∧ (keysT a).length + (keysT b).length ≤ (keysT (joinT a k b)).length ∧ (keysT (joinT a k b)).length ≤ (keysT a).length + (keysT b).length + (if d = 0 then 0 else 1) := by
  have hlt := (List.getElem?_eq_some_iff.1 hj).1
  have hkl := (List.getElem?_eq_some_iff.1 hk).1
  have he : joinAt (ks, ts) i = (ks.take i ++ ks.drop (i + 1), ts.take i ++ joinT a k b :: ts.drop (i + 2)) := by
    show (match ts[i]?, ks[i]?, ts[i + 1]? with | some a, some k, some b => _ | _, _, _ => _) = _
    rw [hi, hk, hj]
  have hf : flatN (ks, ts) = wl (ks.take i) ((ts.take i).map flat) ++ ((flat a ++ (k, false) :: flat b) ++ wr (ks.drop (i + 1)) ((ts.drop (i + 2)).map flat)) := by
    rw [← flat_two a b k hl hlt, ← ts_cut2 hi hj, ← ks_cut hk]
  rw [hf] at hp ⊢
  have hpt := (List.pairwise_append.1 (List.pairwise_append.1 hp).2.1).1
  obtain ⟨hI, c, n1, n2⟩ := joinT_ind a k b ha hb h1 h2 hpt
  refine ⟨he, ?_, c, n1, n2⟩
  have hends := ends_node (ks := ks.take i ++ ks.drop (i + 1)) (ts := ts.take i ++ joinT a k b :: ts.drop (i + 2)) (by simp; omega) fun u hu => by
    rcases List.mem_append.1 hu with hu | hu
    · exact (hL u hu).ends
    · rcases List.mem_cons.1 hu with rfl | hu
      · exact hI.ends
      · exact (hR u hu).ends
  rw [flat_join _ hl hlt] at hends ⊢
  exact hI.mid hp hends
end

theorem cntAt_some {d : Nat} {x : Nd d} {i : Nat} {t : Tr d} (h : x.2[i]? = some t) : cntAt x i = (keysT t).length := by unfold cntAt; rw [h]
theorem mem_take_of {α : Type} {l : List α} {i j : Nat} (h : i ≤ j) {x : α} (hx : x ∈ l.take i) : x ∈ l.take j := by
  have : (l.take i) = (l.take j).take i := by rw [List.take_take, Nat.min_eq_left h]
  rw [this] at hx
  exact List.mem_of_mem_take hx
theorem mem_drop_of {α : Type} {l : List α} {i j : Nat} (h : i ≤ j) {x : α} (hx : x ∈ l.drop j) : x ∈ l.drop i := by
  have : l.drop j = (l.drop i).drop (j - i) := by rw [List.drop_drop]; congr 1; omega
  rw [this] at hx
  exact List.mem_of_mem_drop hx
theorem mend_spec {d : Nat} {ks : List En} {ts : List (Tr d)} {i : Nat} {t : Tr d} (hi : ts[i]? = some t) (hl : ts.length = ks.length + 1) (hk1 : 1 ≤ ks.length) (hL : ∀ u ∈ ts.take i, GoodT u) (hR : ∀ u ∈ ts.drop (i + 1), GoodT u)
    (hc : Cnt t) (h1 : 1 ≤ (keysT t).length) (h5 : (keysT t).length ≤ 5) (hp : (flatN (ks, ts)).Pairwise ltM) :
    Ind (flatN (ks, ts)) (flatN (mendT (ks, ts) i)) ∧ (mendT (ks, ts) i).2.length = (mendT (ks, ts) i).1.length + 1 ∧ (∀ u ∈ (mendT (ks, ts) i).2, GoodT u) ∧ ks.length ≤ (mendT (ks, ts) i).1.length + 1 ∧ (mendT (ks, ts) i).1.length ≤ ks.length + 1 := by
  have hlt := (List.getElem?_eq_some_iff.1 hi).1
  unfold mendT
  rw [cntAt_some (x := (ks, ts)) hi]
  by_cases h2 : (keysT t).length < 2
  · rw [if_pos h2]
    -- the two that are joined
    obtain ⟨j, a, b, k, hja, hjb, hjk, hji, hca, hcb, hna, hnb, hab, hL', hR'⟩ : ∃ j a b k, ts[j]? = some a ∧ ts[j + 1]? = some b ∧ ks[j]? = some k ∧ j = i - 1 ∧ Cnt a ∧ Cnt b ∧ 1 ≤ (keysT a).length ∧ 1 ≤ (keysT b).length ∧
        (3 ≤ (keysT a).length + (keysT b).length ∧ (keysT a).length + (keysT b).length ≤ 5) ∧ (∀ u ∈ ts.take j, GoodT u) ∧ ∀ u ∈ ts.drop (j + 2), GoodT u := by
      rcases Nat.eq_zero_or_pos i with h0 | h0
      · subst h0
        have hlb : 1 < ts.length := by omega
        have hgb := hR ts[1] (List.mem_iff_getElem.2 ⟨0, by simp; omega, by simp⟩)
        exact ⟨0, t, ts[1], ks[0], hi, List.getElem?_eq_getElem hlb, List.getElem?_eq_getElem (by omega), rfl, hc, hgb.2.2, h1, by have := hgb.1; omega, ⟨by have := hgb.1; omega, by have := hgb.2.1; omega⟩, hL, fun u hu => hR u (mem_drop_of (by omega) hu)⟩
      · obtain ⟨j, rfl⟩ : ∃ j, i = j + 1 := ⟨i - 1, by omega⟩
        have hgb := hL ts[j] (List.mem_iff_getElem.2 ⟨j, by simp; omega, by simp⟩)
        exact ⟨j, ts[j], t, ks[j], List.getElem?_eq_getElem (by omega), hi, List.getElem?_eq_getElem (by omega), rfl, hgb.2.2, hc, by have := hgb.1; omega, h1, ⟨by have := hgb.1; omega, by have := hgb.2.1; omega⟩, fun u hu => hL u (mem_take_of (by omega) hu), fun u hu => hR u hu⟩
    subst hji
    generalize i - 1 = j at *
    obtain ⟨he, hI, hcj, n1, n2⟩ := joinAt_spec hja hjk hjb hl hL' hR' hca hcb hna hnb hp
    rw [he]
    have hlb := (List.getElem?_eq_some_iff.1 hjb).1
    have hlk := (List.getElem?_eq_some_iff.1 hjk).1
    have hjt : (ts.take j).length = j := by simp; omega
    have hkj : (ks.take j).length = j := by simp; omega
    have hat : (ts.take j ++ joinT a k b :: ts.drop (j + 2))[j]? = some (joinT a k b) := by
      rw [List.getElem?_append_right (by omega), hjt, Nat.sub_self]; rfl
    have hlen : (ts.take j ++ joinT a k b :: ts.drop (j + 2)).length = (ks.take j ++ ks.drop (j + 1)).length + 1 := by simp; omega
    have hkl : (ks.take j ++ ks.drop (j + 1)).length + 1 = ks.length := by simp; omega
    have hT : (ts.take j ++ joinT a k b :: ts.drop (j + 2)).take j = ts.take j := by rw [List.take_append_of_le_length (by omega), List.take_take, Nat.min_self]
    have hD : (ts.take j ++ joinT a k b :: ts.drop (j + 2)).drop (j + 1) = ts.drop (j + 2) := by
      rw [List.drop_append, List.drop_eq_nil_of_le (by omega), hjt, show j + 1 - j = 1 by omega]; simp
    rw [cntAt_some (x := (ks.take j ++ ks.drop (j + 1), ts.take j ++ joinT a k b :: ts.drop (j + 2))) hat]
    have hn6 : (keysT (joinT a k b)).length ≤ 6 := by split at n2 <;> omega
    by_cases h4 : 4 < (keysT (joinT a k b)).length
    · rw [if_pos h4]
      obtain ⟨hI2, hl2, hg2, hn2⟩ := splitAt_spec hat hlen (by rw [hT]; exact hL') (by rw [hD]; exact hR') hcj (by omega) hn6 hI.ord
      exact ⟨hI.trans hI2, hl2, hg2, by omega, by omega⟩
    · rw [if_neg h4]
      refine ⟨hI, hlen, fun u hu => ?_, by show ks.length ≤ (ks.take j ++ ks.drop (j + 1)).length + 1; omega, by show (ks.take j ++ ks.drop (j + 1)).length ≤ ks.length + 1; omega⟩
      rcases List.mem_append.1 hu with hu | hu
      · exact hL' u hu
      · rcases List.mem_cons.1 hu with rfl | hu
        · exact ⟨by omega, by omega, hcj⟩
        · exact hR' u hu
  · rw [if_neg h2]
    by_cases h4 : 4 < (keysT t).length
    · rw [if_pos h4]
      obtain ⟨hI2, hl2, hg2, hn2⟩ := splitAt_spec hi hl hL hR hc (by omega) (by omega) hp
      exact ⟨hI2, hl2, hg2, by omega, by omega⟩
    · rw [if_neg h4]
      have hg : ∀ u ∈ ts, GoodT u := fun u hu => by
        rw [ts_cut hi] at hu
        rcases List.mem_append.1 hu with hu | hu
        · exact hL u hu
        · rcases List.mem_cons.1 hu with rfl | hu
          · exact ⟨by omega, by omega, hc⟩
          · exact hR u hu
      exact ⟨Ind.refl hp (ends_node hl fun u hu => (hg u hu).ends), hl, hg, by show ks.length ≤ ks.length + 1; omega, by show ks.length ≤ ks.length + 1; omega⟩
end Go.Proofs.Ytiaclfldgagalaa
