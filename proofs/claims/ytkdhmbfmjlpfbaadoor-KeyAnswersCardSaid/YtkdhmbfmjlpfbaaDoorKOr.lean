/-
  The document's own RightRow and OrderRows; alive of layer 5.
-/
import Derived.Test.YtkdhmbfmjlpfbaaDoorKRow
import Derived.Test.YtkdhmbfmjlpfbaaDoorRefV
namespace Go.Proofs.YtkdhmbfmjlpfbaaDoor
open Go.RowKit Go.Lib

/-- a world in which all that lay in w is as it was -/
structure BelowBy (w : World) where
  w' : World
  h : Below w.heap.size w w'
instance (w : World) : Inhabited (BelowBy w) := ⟨⟨w, Below.refl _ _⟩⟩
theorem wp_region_below {P : Program} {id : Nat} {Q : Exit → Act → World → Prop} {a : Act} {w : World} {l : List Oper} (hm : P.follows .mixedOrders = true) (hB : Region.lexB .any l.toArray = true)
    (h : wpQuiet P l.toArray (fun w' => ∃ p : BelowBy w, w' = p.w') (fun a' => ∀ w', (∃ p : BelowBy w, w' = p.w') → Q .normal a' w') l a) : (Code.region id l.toArray true).wp P Q a w :=
  wp_region_quiet (C := fun w' => ∃ p : BelowBy w, w' = p.w') hm hB ⟨⟨w.drew, (Below.refl _ _).drew⟩, rfl⟩ (by simpa using h)
theorem calls_below {P : Program} {f : FuncId} {args : Array Value} {w : World} {p : BelowBy w} {v : Value} (h : Calls P f args p.w' fun e w' => e = .returned v ∧ Below p.w'.heap.size p.w' w') :
    Calls P f args p.w' fun e w'' => e = .returned v ∧ ∃ q : BelowBy w, w'' = q.w' :=
  h.mono fun _ w' ⟨he, hb⟩ => ⟨he, ⟨w', p.h.trans (hb.mono p.h.size)⟩, rfl⟩
theorem BelowBy.cell {w : World} {a : Addr} {v : Value} (h : w.cell? a = some v) (p : BelowBy w) : p.w'.cell? a = some v := (p.h.cell (World.block_lt_of_cell? _ _ h)).trans h

def CfRel (a b : List Va) (w : World) (i : Value) (wr : World) : Prop := ∃ k : Nat, k ≤ a.length ∧ k ≤ b.length ∧ i = .int .i64 k ∧ Below w.heap.size w wr ∧ ordR a b = ordR (a.drop k) (b.drop k)

set_option maxRecDepth 100000 in
set_option maxHeartbeats 3200000 in
theorem refOrderRows_any (A A' : Option Addr) (c c' : Nat) (a b : List Va) (w : World) (h : RowIn w w.heap.size A a) (h' : RowIn w w.heap.size A' b) (hm : a.length ≤ 1000000) (hm' : b.length ≤ 1000000)
    (hs : ∀ x ∈ a, x.s.size ≤ 30000000000000) (hs' : ∀ x ∈ b, x.s.size ≤ 30000000000000) :
    Calls Tryd.prog 22 #[.slice A a.length c, .slice A' b.length c'] w fun e w' => e = .returned (.int .i64 (ordR a b)) ∧ Below w.heap.size w w' := by
  have hmx : Tryd.prog.follows .mixedOrders = true := by kernel_rfl
  have H := Lib.hid (And.intro h (And.intro h' (And.intro hs hs')))
  clear h h' hs hs'
  go_enter Tryd.func22, Tryd.ntmps22
  go_wp2_with fail
  go_loopw [5, 6] (fun i _ wr => CfRel a b w i wr) (fun i _ _ => a.length - (Lib.intOf i).toNat)
  case atStart => exact ⟨0, by omega, by omega, rfl, Below.refl _ _, rfl⟩
  case round =>
    obtain ⟨k, hka, hkb, rfl, hb, ho⟩ := hrel
    have HB := Lib.hid (And.intro hb ho)
    have hk0 : (0 : Int) ≤ (k : Int) := Int.natCast_nonneg _
    by_cases hla : k < a.length
    · have hla1 : (k : Int) < (a.length : Int) := by omega
      by_cases hlb : k < b.length
      · have hlb1 : (k : Int) < (b.length : Int) := by omega
        obtain ⟨ad, rfl, hlt, c0, c1, c2⟩ := (H.out.1.below hb (Nat.le_refl _)).at_ hla
        obtain ⟨ad', rfl, hlt', d0, d1, d2⟩ := (H.out.2.1.below hb (Nat.le_refl _)).at_ hlb
        have hstep := ordR_drop hla hlb
        have hsx := H.out.2.2.1 _ (List.getElem_mem hla)
        have hsy := H.out.2.2.2 _ (List.getElem_mem hlb)
        obtain ⟨x, hx⟩ : ∃ x, x = a[k] := ⟨_, rfl⟩
        obtain ⟨y, hy⟩ : ∃ y, y = b[k] := ⟨_, rfl⟩
        rw [← hx] at c0 c1 c2 hstep hsx
        rw [← hy] at d0 d1 d2 hstep hsy
        have HS := Lib.hid (And.intro hstep (And.intro hsx hsy))
        have b0 := BelowBy.cell c0
        have b1 := BelowBy.cell c1
        have b2 := BelowBy.cell c2
        have e0 := BelowBy.cell d0
        have e1 := BelowBy.cell d1
        have e2 := BelowBy.cell d2
        clear hb ho hstep hx hy hlt hlt' hsx hsy c0 c1 c2 d0 d1 d2
        go_wp2_with fail
        refine wp_region_below hmx (by kernel_rfl) ?_
        repeat (quiet_step (first | (go_at_call 30; exact calls_below (refOrder_any _ _ _ _ _ _ _ HS.out.2.1 HS.out.2.2))))
        refine wpQuiet_nil ?_
        intro _ hw'
        obtain ⟨pq, hw''⟩ := hw'
        subst hw''
        have HB3 := Lib.hid (HB.out.1.trans (pq.h.mono HB.out.1.size))
        rw [show ordV x.k x.n x.s y.k y.n y.s = ordVa x y from rfl]
        obtain ⟨w5, hw5⟩ : ∃ w5, w5 = pq.w' := ⟨_, rfl⟩
        rw [← hw5] at HB3 ⊢
        clear hw5 b0 b1 b2 e0 e1 e2
        by_cases g : ordVa x y = 0
        · have hd : (ordVa x y != 0) = false := by simp [g]
          have HR := Lib.hid (show CfRel a b w (.int .i64 ((k : Int) + 1)) w5 from ⟨k + 1, by omega, by omega, by go_num, HB3.out, by rw [HB.out.2, HS.out.1, if_neg (by simp [g])]⟩)
          go_wp2
          go_roundw
          case rel => exact HR.out
          case measure => simp [Lib.intOf]; omega
        · have hd : (ordVa x y != 0) = true := by simp [g]
          have hd2 : ¬ ordVa x y = 0 := g
          have HR := Lib.hid (show ordR a b = ordVa x y by rw [HB.out.2, HS.out.1, if_pos g])
          go_wp2
          go_ret
          exact ⟨ret_int HR.out.symm, HB3.out⟩
      · have hlb1 : ¬ (k : Int) < (b.length : Int) := by omega
        have HR := Lib.hid (show ordR a b = cmpI (a.length : Int) (b.length : Int) by rw [HB.out.2, ordR_gt hla (by omega)]; unfold cmpI; rw [if_neg (by omega), if_pos (by omega)])
        clear hb ho
        go_wp2_with fail
        refine (refCmp_any _ _ _).mono ?_
        rintro e w3 ⟨rfl, hw3⟩
        obtain rfl : wr = w3 := hw3.symm
        go_wp2
        go_ret
        exact ⟨ret_int HR.out.symm, HB.out.1⟩
    · have hla1 : ¬ (k : Int) < (a.length : Int) := by omega
      have HR := Lib.hid (show ordR a b = cmpI (a.length : Int) (b.length : Int) by
        rw [HB.out.2]
        by_cases h2 : k < b.length
        · rw [ordR_lt (by omega) h2]; unfold cmpI; rw [if_pos (by omega)]
        · rw [ordR_nil (by omega) (by omega)]; unfold cmpI; rw [if_neg (by omega), if_neg (by omega)])
      clear hb ho
      go_wp2_with fail
      refine (refCmp_any _ _ _).mono ?_
      rintro e w3 ⟨rfl, hw3⟩
      obtain rfl : wr = w3 := hw3.symm
      go_wp2
      go_ret
      exact ⟨ret_int HR.out.symm, HB.out.1⟩

theorem next_any (s : ByteArray) (w : World) (hs : s.size ≤ 1000000) : Calls Tryd.prog 20 #[.string s] w fun e w' => e = .returned (.string (s ++ ⟨#[255]⟩)) ∧ w' = w := by
  have h2 : ¬ (9223372036854775807 < s.size + 1) := by omega
  go_enter Tryd.func20, Tryd.ntmps20
  go_wp2_with fail
  go_ret
  exact ⟨rfl, rfl⟩

def alR : List Va := [⟨3, 0, ⟨#[97]⟩⟩, ⟨0, 0, ⟨#[]⟩⟩]
theorem al_key : keyS alR = ⟨#[3, 97, 0, 1, 0]⟩ := by decide +kernel
theorem al_right : rightR alR = true := by decide +kernel

set_option maxRecDepth 100000 in
set_option maxHeartbeats 3200000 in
theorem alive_any (w : World) (hMs : Ms w) : Calls Tryd.prog 9 #[] w (YesB w) := by
  have hl := row_lit w alR (by simp [maxLen, alR])
  have hb := (Below.refl w.heap.size w).alloc (Nat.le_refl _) (.cells (cellsR alR).toArray 43)
  obtain ⟨w1, hw1⟩ : ∃ w1, w1 = w.alloc (.cells (cellsR alR).toArray 43) := ⟨_, rfl⟩
  rw [← hw1] at hl hb
  have hrow := RowIn.of_own hl
  have HM := Lib.hid (hMs.below hb (Nat.le_refl _))
  have HW := Lib.hid (show w1 = w.alloc (.cells #[.int .i64 3, .int .i64 0, .string ⟨#[97]⟩, .int .i64 0, .int .i64 0, .string ⟨#[]⟩] 43) from hw1)
  have H := Lib.hid (And.intro hrow hb)
  clear hw1 hrow hb hl hMs
  go_enter Tryd.func9, Tryd.ntmps9
  go_wp2_with fail
  rw [← HW.out]
  refine (encode_any (some ⟨w.heap.size, 0, none⟩) 2 alR w1 H.out.1 (by simp [alR, maxLen]) (by intro x hx; simp [alR] at hx; rcases hx with rfl | rfl <;> (unfold InN; decide)) HM.out).mono ?_
  rintro e w2 ⟨hb2, rfl⟩
  rw [al_key, al_right]
  have HB := Lib.hid (H.out.2.trans (hb2.mono H.out.2.size))
  clear hb2
  go_wp2_with fail
  refine (next_any ⟨#[97]⟩ _ (by decide)).mono ?_
  rintro e w3 ⟨rfl, rfl⟩
  have hnx : (((⟨#[97]⟩ : ByteArray) ++ (⟨#[255]⟩ : ByteArray)).toList == [97, 255]) = true := by decide +kernel
  go_wp2
  go_ret
  exact ⟨rfl, HB.out⟩
end Go.Proofs.YtkdhmbfmjlpfbaaDoor
