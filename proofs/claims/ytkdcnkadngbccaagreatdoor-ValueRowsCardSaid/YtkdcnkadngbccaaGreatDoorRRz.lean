/-
  The document's own RightRow and OrderRows.
-/
import Derived.Test.YtkdcnkadngbccaaGreatDoorRefVz
namespace Go.Proofs.YtkdcnkadngbccaaGreatDoor
open Go.RowKit Go.Lib

/-- a world in which all that lay in w is as it was -/
structure BelowBy (w : World) where
  w' : World
  h : Below w.heap.size w w'
instance (w : World) : Inhabited (BelowBy w) := ⟨⟨w, Below.refl _ _⟩⟩
theorem wp_region_below {P : Program} {id : Nat} {Q : Exit → Act → World → Prop} {a : Act} {w : World} {l : List Oper} (hm : P.follows .mixedOrders = true) (hB : Region.lexB .any l.toArray = true)
    (h : wpQuiet P l.toArray (fun w' => ∃ p : BelowBy w, w' = p.w') (fun a' => ∀ w', (∃ p : BelowBy w, w' = p.w') → Q .normal a' w') l a) : (Code.region id l.toArray true).wp P Q a w :=
  wp_region_quiet (C := fun w' => ∃ p : BelowBy w, w' = p.w') hm hB ⟨⟨w.drew, (Below.refl _ _).drew⟩, rfl⟩ (by simpa using h)
theorem calls_below {P : Program} {f : FuncId} {args : Array Value} {w : World} {p : BelowBy w} {v : Value} (h : Calls P f args p.w' fun e w' => e = .returned v ∧ Below p.w'.heap.size p.w' w') :
    Calls P f args p.w' fun e w'' => e = .returned v ∧ ∃ q : BelowBy w, w'' = q.w' :=
  h.mono fun _ w' ⟨he, hb⟩ => ⟨he, ⟨w', p.h.trans (hb.mono p.h.size)⟩, rfl⟩
theorem BelowBy.cell {w : World} {a : Addr} {v : Value} (h : w.cell? a = some v) (p : BelowBy w) : p.w'.cell? a = some v := (p.h.cell (World.block_lt_of_cell? _ _ h)).trans h

theorem right_all {vs : List Va} (h : rightR vs = true) : vs.length ≤ 8 ∧ ∀ x ∈ vs, rightVa x = true := by
  unfold rightR at h
  simpa using h
theorem right_mk {vs : List Va} (h8 : vs.length ≤ 8) (h : ∀ x ∈ vs, rightVa x = true) : rightR vs = true := by
  unfold rightR
  simpa using ⟨h8, h⟩

set_option maxRecDepth 100000 in
set_option maxHeartbeats 1600000 in
theorem refRightRow_any (A : Option Addr) (c : Nat) (vs : List Va) (w : World) (h : RowIn w w.heap.size A vs) (hm : vs.length ≤ maxLen) :
    Calls Tryz.prog 12 #[.slice A vs.length c] w fun e w' => e = .returned (.bool (rightR vs)) ∧ Below w.heap.size w w' := by
  have H := Lib.hid h
  clear h
  unfold maxLen at hm
  by_cases h8 : 8 < vs.length
  · have h8i : (8 : Int) < (vs.length : Int) := by omega
    have HR := Lib.hid (show rightR vs = false by unfold rightR; rw [decide_eq_false (by omega)]; rfl)
    go_enter Tryz.func12, Tryz.ntmps12
    go_wp2
    go_ret
    exact ⟨by rw [HR.out]; rfl, Below.refl _ _⟩
  · have h8i : ¬ (8 : Int) < (vs.length : Int) := by omega
    go_enter Tryz.func12, Tryz.ntmps12
    go_wp2_with fail
    go_loopw [3] (fun i wr => IfRel vs w i wr) (fun i _ => vs.length - (intOf i).toNat)
    case atStart => exact ⟨0, by omega, rfl, Below.refl _ _, fun j _ hj => absurd hj (by omega)⟩
    case round =>
      obtain ⟨k, hk, rfl, hb, hall⟩ := hrel
      have HB := Lib.hid (And.intro hb hall)
      have hk0 : (0 : Int) ≤ (k : Int) := Int.natCast_nonneg _
      by_cases hlt : k < vs.length
      · have hlt1 : (k : Int) < (vs.length : Int) := by omega
        obtain ⟨ad, rfl, _, c0, c1, c2⟩ := (H.out.below hb (Nat.le_refl _)).at_ hlt
        obtain ⟨x, hx⟩ : ∃ x, x = vs[k] := ⟨_, rfl⟩
        rw [← hx] at c0 c1 c2
        have HX := Lib.hid hx
        clear hb hall hx
        go_wp2_with fail
        refine (refRight_any x.k x.n x.s _).mono ?_
        rintro e w3 ⟨rfl, hb3⟩
        have HB3 := Lib.hid (HB.out.1.trans (hb3.mono HB.out.1.size))
        clear hb3 c0 c1 c2
        cases hr : rightV x.k x.n x.s with
        | true =>
          have HR := Lib.hid (show IfRel vs w (.int .i64 ((k : Int) + 1)) w3 from ⟨k + 1, by omega, by go_num, HB3.out, fun j hj hjk => by
            rcases Nat.lt_or_ge j k with h | h
            · exact HB.out.2 j hj h
            · obtain rfl : j = k := by omega
              rw [← HX.out]; exact hr⟩)
          clear hr
          go_wp2
          go_roundw
          case rel => exact HR.out
          case measure => simp [intOf]; omega
        | false =>
          have HR := Lib.hid (show rightR vs = false from by
            have : vs.all rightVa = false := by
              rw [List.all_eq_false]
              exact ⟨x, by rw [HX.out]; exact List.getElem_mem _, by unfold rightVa; rw [hr]; simp⟩
            unfold rightR
            rw [this, Bool.and_false])
          clear hr
          go_wp2
          go_ret
          exact ⟨by rw [HR.out]; rfl, HB3.out⟩
      · have hlt1 : ¬ (k : Int) < (vs.length : Int) := by omega
        have HR := Lib.hid (show rightR vs = true from right_mk (by omega) fun x hx => by
          obtain ⟨j, hj, rfl⟩ := List.mem_iff_getElem.1 hx
          exact hall j hj (by omega))
        clear hb hall
        go_wp2
        go_ret
        exact ⟨by rw [HR.out]; rfl, HB.out.1⟩
set_option maxRecDepth 100000 in
set_option maxHeartbeats 3200000 in
theorem refOrderRows_any (A A' : Option Addr) (c c' : Nat) (a b : List Va) (w : World) (h : RowIn w w.heap.size A a) (h' : RowIn w w.heap.size A' b) (hm : a.length ≤ 1000000) (hm' : b.length ≤ 1000000)
    (hs : ∀ x ∈ a, x.s.size ≤ 30000000000000) (hs' : ∀ x ∈ b, x.s.size ≤ 30000000000000) :
    Calls Tryz.prog 14 #[.slice A a.length c, .slice A' b.length c'] w fun e w' => e = .returned (.int .i64 (ordR a b)) ∧ Below w.heap.size w w' := by
  have hmx : Tryz.prog.follows .mixedOrders = true := by kernel_rfl
  have H := Lib.hid (And.intro h (And.intro h' (And.intro hs hs')))
  clear h h' hs hs'
  go_enter Tryz.func14, Tryz.ntmps14
  go_wp2_with fail
  go_loopw [5, 6] (fun i _ wr => CfRel a b w i wr) (fun i _ _ => a.length - (intOf i).toNat)
  case atStart => exact ⟨0, by omega, by omega, rfl, Below.refl _ _, rfl⟩
  case round =>
    obtain ⟨k, hka, hkb, rfl, hb, ho⟩ := hrel
    have HB := Lib.hid (And.intro hb ho)
    have hk0 : (0 : Int) ≤ (k : Int) := Int.natCast_nonneg _
    by_cases hla : k < a.length
    · have hla1 : (k : Int) < (a.length : Int) := by omega
      by_cases hlb : k < b.length
      · have hlb1 : (k : Int) < (b.length : Int) := by omega
        obtain ⟨ad, rfl, hlt, c0, c1, c2⟩ := (H.out.1.below hb (Nat.le_refl _)).at_ hla
        obtain ⟨ad', rfl, hlt', d0, d1, d2⟩ := (H.out.2.1.below hb (Nat.le_refl _)).at_ hlb
        have hstep := ordR_drop hla hlb
        have hsx := H.out.2.2.1 _ (List.getElem_mem hla)
        have hsy := H.out.2.2.2 _ (List.getElem_mem hlb)
        obtain ⟨x, hx⟩ : ∃ x, x = a[k] := ⟨_, rfl⟩
        obtain ⟨y, hy⟩ : ∃ y, y = b[k] := ⟨_, rfl⟩
        rw [← hx] at c0 c1 c2 hstep hsx
        rw [← hy] at d0 d1 d2 hstep hsy
        have HS := Lib.hid (And.intro hstep (And.intro hsx hsy))
        have b0 := BelowBy.cell c0
        have b1 := BelowBy.cell c1
        have b2 := BelowBy.cell c2
        have e0 := BelowBy.cell d0
        have e1 := BelowBy.cell d1
        have e2 := BelowBy.cell d2
        clear hb ho hstep hx hy hlt hlt' hsx hsy c0 c1 c2 d0 d1 d2
        go_wp2_with fail
        refine wp_region_below hmx (by kernel_rfl) ?_
        repeat (quiet_step (first | (go_at_call 39; exact calls_below (refOrder_any _ _ _ _ _ _ _ HS.out.2.1 HS.out.2.2))))
        refine wpQuiet_nil ?_
        intro _ hw'
        obtain ⟨pq, hw''⟩ := hw'
        subst hw''
        have HB3 := Lib.hid (HB.out.1.trans (pq.h.mono HB.out.1.size))
        rw [show ordV x.k x.n x.s y.k y.n y.s = ordVa x y from rfl]
        obtain ⟨w5, hw5⟩ : ∃ w5, w5 = pq.w' := ⟨_, rfl⟩
        rw [← hw5] at HB3 ⊢
        clear hw5 b0 b1 b2 e0 e1 e2
        by_cases g : ordVa x y = 0
        · have hd : (ordVa x y != 0) = false := by simp [g]
          have HR := Lib.hid (show CfRel a b w (.int .i64 ((k : Int) + 1)) w5 from ⟨k + 1, by omega, by omega, by go_num, HB3.out, by rw [HB.out.2, HS.out.1, if_neg (by simp [g])]⟩)
          go_wp2
          go_roundw
          case rel => exact HR.out
          case measure => simp [intOf]; omega
        · have hd : (ordVa x y != 0) = true := by simp [g]
          have hd2 : ¬ ordVa x y = 0 := g
          have HR := Lib.hid (show ordR a b = ordVa x y by rw [HB.out.2, HS.out.1, if_pos g])
          go_wp2
          go_ret
          exact ⟨ret_int HR.out.symm, HB3.out⟩
      · have hlb1 : ¬ (k : Int) < (b.length : Int) := by omega
        have HR := Lib.hid (show ordR a b = cmpI (a.length : Int) (b.length : Int) by rw [HB.out.2, ordR_gt hla (by omega)]; unfold cmpI; rw [if_neg (by omega), if_pos (by omega)])
        clear hb ho
        go_wp2_with fail
        refine (refCmp_any _ _ _).mono ?_
        rintro e w3 ⟨rfl, hw3⟩
        obtain rfl : wr = w3 := hw3.symm
        go_wp2
        go_ret
        exact ⟨ret_int HR.out.symm, HB.out.1⟩
    · have hla1 : ¬ (k : Int) < (a.length : Int) := by omega
      have HR := Lib.hid (show ordR a b = cmpI (a.length : Int) (b.length : Int) by
        rw [HB.out.2]
        by_cases h2 : k < b.length
        · rw [ordR_lt (by omega) h2]; unfold cmpI; rw [if_pos (by omega)]
        · rw [ordR_nil (by omega) (by omega)]; unfold cmpI; rw [if_neg (by omega), if_neg (by omega)])
      clear hb ho
      go_wp2_with fail
      refine (refCmp_any _ _ _).mono ?_
      rintro e w3 ⟨rfl, hw3⟩
      obtain rfl : wr = w3 := hw3.symm
      go_wp2
      go_ret
      exact ⟨ret_int HR.out.symm, HB.out.1⟩

end Go.Proofs.YtkdcnkadngbccaaGreatDoor
