/-
  The document's own Right, cmp, Texts, Order, Compare, Fits (layer 4).
-/
import Derived.Test.YtkdcnkadngbccaaGreatDoorFits
import Derived.Test.YtkdcnkadngbccaaGreatDoorOrdM
namespace Go.Proofs.YtkdcnkadngbccaaGreatDoor
open Go.RowKit Go.Lib

theorem str_nil (s : ByteArray) : (s.toList == []) = decide (s = ⟨#[]⟩) := by
  have := str_eq s ⟨#[]⟩
  rwa [show (⟨#[]⟩ : ByteArray).toList = [] by rw [ByteArray.toList_eq]] at this

set_option maxHeartbeats 1600000 in
theorem refRight_any (k n : Int) (s : ByteArray) (w : World) :
    Calls Tryz.prog 37 #[.agg #[.int .i64 k, .int .i64 n, .string s]] w fun e w' => e = .returned (.bool (rightV k n s)) ∧ Below w.heap.size w w' := by
  have hse := str_nil s
  by_cases h0 : k = 0
  · subst h0
    by_cases hn : n = 0
    · subst hn
      have HR := Lib.hid (show rightV 0 0 s = decide (s = ⟨#[]⟩) by simp [rightV])
      go_enter Tryz.func37, Tryz.ntmps37
      go_wp2
      go_ret
      exact ⟨by rw [HR.out]; rfl, (Below.refl _ w).alloc (Nat.le_refl _) _⟩
    · have hd : (n == 0) = false := by simp [hn]
      have HR := Lib.hid (show rightV 0 n s = false by simp [rightV, hn])
      go_enter Tryz.func37, Tryz.ntmps37
      go_wp2
      go_ret
      exact ⟨by rw [HR.out]; rfl, (Below.refl _ w).alloc (Nat.le_refl _) _⟩
  by_cases h1 : k = 1
  · subst h1
    have HR := Lib.hid (show rightV 1 n s = decide (s = ⟨#[]⟩) by simp [rightV])
    go_enter Tryz.func37, Tryz.ntmps37
    go_wp2
    go_ret
    exact ⟨by rw [HR.out]; rfl, (Below.refl _ w).alloc (Nat.le_refl _) _⟩
  by_cases h2 : k = 2
  · subst h2
    by_cases hn : n = 0
    · subst hn
      have HR := Lib.hid (show rightV 2 0 s = decide (s = ⟨#[]⟩) by simp [rightV])
      go_enter Tryz.func37, Tryz.ntmps37
      go_wp2
      go_ret
      exact ⟨by rw [HR.out]; rfl, (Below.refl _ w).alloc (Nat.le_refl _) _⟩
    · by_cases hn1 : n = 1
      · subst hn1
        have HR := Lib.hid (show rightV 2 1 s = decide (s = ⟨#[]⟩) by simp [rightV])
        go_enter Tryz.func37, Tryz.ntmps37
        go_wp2
        go_ret
        exact ⟨by rw [HR.out]; rfl, (Below.refl _ w).alloc (Nat.le_refl _) _⟩
      · have hd : (n == 0) = false := by simp [hn]
        have hd1 : (n == 1) = false := by simp [hn1]
        have HR := Lib.hid (show rightV 2 n s = false by simp [rightV, hn, hn1])
        go_enter Tryz.func37, Tryz.ntmps37
        go_wp2
        go_ret
        exact ⟨by rw [HR.out]; rfl, (Below.refl _ w).alloc (Nat.le_refl _) _⟩
  by_cases h3 : k = 3
  · subst h3
    by_cases hn : n = 0
    · subst hn
      by_cases hs : s.size ≤ 16
      · have hsi : (s.size : Int) ≤ 16 := by omega
        have HR := Lib.hid (show rightV 3 0 s = true by simp [rightV, hs])
        go_enter Tryz.func37, Tryz.ntmps37
        go_wp2
        go_ret
        exact ⟨by rw [HR.out]; rfl, (Below.refl _ w).alloc (Nat.le_refl _) _⟩
      · have hsi : ¬ (s.size : Int) ≤ 16 := by omega
        have HR := Lib.hid (show rightV 3 0 s = false by simp [rightV, hs])
        go_enter Tryz.func37, Tryz.ntmps37
        go_wp2
        go_ret
        exact ⟨by rw [HR.out]; rfl, (Below.refl _ w).alloc (Nat.le_refl _) _⟩
    · have hd : (n == 0) = false := by simp [hn]
      have HR := Lib.hid (show rightV 3 n s = false by simp [rightV, hn])
      go_enter Tryz.func37, Tryz.ntmps37
      go_wp2
      go_ret
      exact ⟨by rw [HR.out]; rfl, (Below.refl _ w).alloc (Nat.le_refl _) _⟩
  have HR := Lib.hid (show rightV k n s = false by simp [rightV, h0, h1, h2, h3])
  go_enter Tryz.func37, Tryz.ntmps37
  go_wp2
  go_ret
  exact ⟨by rw [HR.out]; rfl, (Below.refl _ w).alloc (Nat.le_refl _) _⟩

theorem refCmp_any (a b : Int) (w : World) : Calls Tryz.prog 40 #[.int .i64 a, .int .i64 b] w fun e w' => e = .returned (.int .i64 (cmpI a b)) ∧ w' = w := by
  by_cases h1 : a < b
  · go_enter Tryz.func40, Tryz.ntmps40
    go_wp2
    go_ret
    exact ⟨ret_int (by simp [cmpI, h1]), rfl⟩
  · by_cases h2 : b < a
    · go_enter Tryz.func40, Tryz.ntmps40
      go_wp2
      go_ret
      exact ⟨ret_int (by simp [cmpI, h1, h2]), rfl⟩
    · go_enter Tryz.func40, Tryz.ntmps40
      go_wp2
      go_ret
      exact ⟨ret_int (by unfold cmpI; rw [if_neg (by omega), if_neg (by omega)]), rfl⟩

/-- byte by byte -/
def lexB (a b : List Int) : Int := lexL cmpI a b
theorem lexB_cmpS (s t : ByteArray) : lexB (bytes s) (bytes t) = cmpS s t := by
  unfold lexB cmpS
  rw [compareBytes_lex]
  unfold bytes
  generalize s.data.toList = l
  generalize t.data.toList = m
  induction l generalizing m with
  | nil => cases m <;> rfl
  | cons x l ih =>
    cases m with
    | nil => rfl
    | cons y m =>
      have hc : cmpI (x.toNat : Int) (y.toNat : Int) = cmpU x y := by
        unfold cmpI cmpU
        simp only [UInt8.lt_iff_toNat_lt]
        repeat' split
        all_goals omega
      simp only [List.map_cons, lexL]
      rw [hc, ih m]

def TxRel (s t : ByteArray) (w : World) (i : Value) (wr : World) : Prop :=
  ∃ k d : Nat, k ≤ s.size ∧ k ≤ t.size ∧ i = .int .i64 k ∧ wr = w.drewN d ∧ lexB (bytes s) (bytes t) = lexB ((bytes s).drop k) ((bytes t).drop k)

set_option maxRecDepth 100000 in
set_option maxHeartbeats 3200000 in
theorem refTexts_any (s t : ByteArray) (w : World) (hs : s.size ≤ 30000000000000) (ht : t.size ≤ 30000000000000) :
    Calls Tryz.prog 60 #[.string s, .string t] w fun e w' => e = .returned (.int .i64 (cmpS s t)) ∧ ∃ d, w' = w.drewN d := by
  rw [← lexB_cmpS]
  go_enter Tryz.func60, Tryz.ntmps60
  go_wp2_with fail
  go_loopw [5] (fun i wr => TxRel s t w i wr) (fun i _ => s.size - (intOf i).toNat)
  case atStart => exact ⟨0, 0, by omega, by omega, rfl, rfl, rfl⟩
  case round =>
    obtain ⟨k, d, hk, hk', rfl, hw, hlx⟩ := hrel
    have hk0 : (0 : Int) ≤ (k : Int) := Int.natCast_nonneg _
    have HP := Lib.hid (And.intro hw hlx)
    clear hw hlx
    by_cases h1 : k < s.size
    · have h1i : (k : Int) < (s.size : Int) := by omega
      by_cases h2 : k < t.size
      · have h2i : (k : Int) < (t.size : Int) := by omega
        have hkb : k < (bytes s).length := by rw [bytes_len]; exact h1
        have hkc : k < (bytes t).length := by rw [bytes_len]; exact h2
        have ix := str_index s k k rfl hkb
        have iy := str_index t k k rfl hkc
        obtain ⟨b, hb⟩ : ∃ b, b = (bytes s)[k] := ⟨_, rfl⟩
        obtain ⟨c, hc⟩ : ∃ c, c = (bytes t)[k] := ⟨_, rfl⟩
        rw [← hb] at ix
        rw [← hc] at iy
        have hbb := bytes_is s b (by rw [hb]; exact List.getElem_mem _)
        have hcc := bytes_is t c (by rw [hc]; exact List.getElem_mem _)
        have hstep : lexB ((bytes s).drop k) ((bytes t).drop k) = if cmpI b c ≠ 0 then cmpI b c else lexB ((bytes s).drop (k + 1)) ((bytes t).drop (k + 1)) := by
          rw [List.drop_eq_getElem_cons hkb, List.drop_eq_getElem_cons hkc, ← hb, ← hc]; rfl
        have HS := Lib.hid hstep
        clear hb hc hkb hkc hstep
        by_cases hbc : b = c
        · subst hbc
          have HR := Lib.hid (show ∀ m, TxRel s t w (.int .i64 ((k : Int) + 1)) (wr.drewN m) from fun m => ⟨k + 1, d + m, by omega, by omega, by go_num, by rw [HP.out.1]; exact World.drewN_drewN _ _ _, by rw [HP.out.2, HS.out, if_neg (by simp [good_cmpI.self])]⟩)
          have hne : (b != b) = false := by simp
          go_wp2_with fail
          go_quiet (fail)
          go_wp2
          go_roundw
          case rel => exact HR.out _
          case measure => simp [intOf]; omega
        · have hne : (b != c) = true := by simp [hbc]
          have hd : decide (b = c) = false := by simp [hbc]
          have HR := Lib.hid (show lexB (bytes s) (bytes t) = cmpI b c by rw [HP.out.2, HS.out, if_pos (fun e => hbc ((good_cmpI.zero b c).1 e))])
          have HC := Lib.hid (fun w => refCmp_any b c w)
          have HD : Hid (∀ m, ∃ d, wr.drewN m = w.drewN d) := Lib.hid fun m => ⟨d + m, by rw [HP.out.1]; exact World.drewN_drewN _ _ _⟩
          have hwb : IntKind.i64.wrap b = b := IntWalk.i64_in _ (by omega)
          have hwc : IntKind.i64.wrap c = c := IntWalk.i64_in _ (by omega)
          clear hbc
          go_wp2_with fail
          go_quiet (fail)
          obtain ⟨wq, hwq⟩ : ∃ wq, wq = wr.drewN nq := ⟨_, rfl⟩
          have HD2 : Hid (∀ m, ∃ d, wq.drewN m = w.drewN d) := Lib.hid fun m => by
            rw [hwq]
            obtain ⟨d', h⟩ := HD.out (nq + m)
            exact ⟨d', by rw [← h]; exact World.drewN_drewN _ _ _⟩
          rw [← hwq]
          clear hwq
          go_wp2_with fail
          go_quiet (first | (go_at_call 40; exact Calls.quiet_of_same (HC.out _)))
          go_wp2
          go_ret
          exact ⟨ret_int HR.out.symm, HD2.out _⟩
      · have h2i : ¬ (k : Int) < (t.size : Int) := by omega
        have HR := Lib.hid (show lexB (bytes s) (bytes t) = cmpI (s.size : Int) (t.size : Int) by
          rw [HP.out.2, List.drop_eq_getElem_cons (show k < (bytes s).length by rw [bytes_len]; exact h1), List.drop_eq_nil_of_le (show (bytes t).length ≤ k by rw [bytes_len]; omega)]
          show (1 : Int) = _
          unfold cmpI
          rw [if_neg (by omega), if_pos (by omega)])
        go_wp2_with fail
        refine (refCmp_any _ _ _).mono ?_
        rintro e w3 ⟨rfl, hw3⟩
        obtain rfl : wr = w3 := hw3.symm
        go_wp2
        go_ret
        exact ⟨ret_int HR.out.symm, d, HP.out.1⟩
    · have h1i : ¬ (k : Int) < (s.size : Int) := by omega
      have HR := Lib.hid (show lexB (bytes s) (bytes t) = cmpI (s.size : Int) (t.size : Int) by
        rw [HP.out.2, List.drop_eq_nil_of_le (show (bytes s).length ≤ k by rw [bytes_len]; omega)]
        by_cases h2 : k < t.size
        · rw [List.drop_eq_getElem_cons (show k < (bytes t).length by rw [bytes_len]; exact h2)]
          show (-1 : Int) = _
          unfold cmpI
          rw [if_pos (by omega)]
        · rw [List.drop_eq_nil_of_le (show (bytes t).length ≤ k by rw [bytes_len]; omega)]
          show (0 : Int) = _
          unfold cmpI
          rw [if_neg (by omega), if_neg (by omega)])
      go_wp2_with fail
      refine (refCmp_any _ _ _).mono ?_
      rintro e w3 ⟨rfl, hw3⟩
      obtain rfl : wr = w3 := hw3.symm
      go_wp2
      go_ret
      exact ⟨ret_int HR.out.symm, d, HP.out.1⟩

set_option maxHeartbeats 1600000 in
theorem refOrder_any (k n : Int) (s : ByteArray) (k' n' : Int) (s' : ByteArray) (w : World) (hs : s.size ≤ 30000000000000) (hs' : s'.size ≤ 30000000000000) :
    Calls Tryz.prog 39 #[.agg #[.int .i64 k, .int .i64 n, .string s], .agg #[.int .i64 k', .int .i64 n', .string s']] w
      fun e w' => e = .returned (.int .i64 (ordV k n s k' n' s')) ∧ Below w.heap.size w w' := by
  obtain ⟨w2, hw2, ⟨c0, c1, c2⟩, ⟨d0, d1, d2⟩, hb⟩ := two_boxed w k n s k' n' s'
  have HW := Lib.hid hw2
  have HB := Lib.hid hb
  clear hw2 hb
  by_cases h1 : k = k'
  · subst h1
    have e1 : (k != k) = false := by simp
    by_cases h2 : n = n'
    · subst h2
      have e2 : (n != n) = false := by simp
      have HR := Lib.hid (show ordV k n s k n s' = cmpS s s' by unfold ordV orI; rw [good_cmpI.self, good_cmpI.self]; simp)
      go_enter Tryz.func39, Tryz.ntmps39
      go_wp2_with fail
      rw [← HW.out]
      refine (refTexts_any s s' _ hs hs').mono ?_
      rintro e w3 ⟨rfl, d, rfl⟩
      go_wp2
      go_ret
      exact ⟨ret_int HR.out.symm, ⟨HB.out.os, HB.out.tape, HB.out.output, HB.out.size, HB.out.block⟩⟩
    · have e2 : (n != n') = true := by simp [h2]
      have HR := Lib.hid (show ordV k n s k n' s' = cmpI n n' by unfold ordV orI; rw [good_cmpI.self, if_neg (by simp), if_pos (fun e => h2 ((good_cmpI.zero _ _).1 e))])
      clear h2
      go_enter Tryz.func39, Tryz.ntmps39
      go_wp2_with fail
      rw [← HW.out]
      refine (refCmp_any n n' _).mono ?_
      rintro e w3 ⟨rfl, rfl⟩
      go_wp2
      go_ret
      exact ⟨ret_int HR.out.symm, HB.out⟩
  · have e1 : (k != k') = true := by simp [h1]
    have HR := Lib.hid (show ordV k n s k' n' s' = cmpI k k' by unfold ordV orI; rw [if_pos (fun e => h1 ((good_cmpI.zero _ _).1 e))])
    clear h1
    go_enter Tryz.func39, Tryz.ntmps39
    go_wp2_with fail
    rw [← HW.out]
    refine (refCmp_any k k' _).mono ?_
    rintro e w3 ⟨rfl, rfl⟩
    go_wp2
    go_ret
    exact ⟨ret_int HR.out.symm, HB.out⟩

set_option maxHeartbeats 1600000 in
theorem refFits_any (x : Va) (name : ByteArray) (ck : Int) (nn : Bool) (w : World) :
    Calls Tryz.prog 42 #[.agg #[.int .i64 x.k, .int .i64 x.n, .string x.s], .agg #[.string name, .int .i64 ck, .bool nn]] w
      fun e w' => e = .returned (.int .i64 (fitsV x ck nn)) ∧ Below w.heap.size w w' := by
  obtain ⟨k, n, s⟩ := x
  simp only
  have h1 := VS.new w k n s
  have h2 := CS.new (w.alloc (.cells #[.int .i64 k, .int .i64 n, .string s] 40)) name ck nn
  have sz : (w.alloc (.cells #[.int .i64 k, .int .i64 n, .string s] 40)).heap.size = w.heap.size + 1 := by simp
  have h3 := h1.below h2.2.2.2
  rw [sz] at h2
  obtain ⟨w2, hw2⟩ : ∃ w2, w2 = (w.alloc (.cells #[.int .i64 k, .int .i64 n, .string s] 40)).alloc (.cells #[.string name, .int .i64 ck, .bool nn] 64) := ⟨_, rfl⟩
  rw [← hw2] at h2 h3
  have HW := Lib.hid hw2
  have HV := Lib.hid h3
  have HC := Lib.hid (show CS w (w.heap.size + 1) name ck nn w2 from ⟨h2.1, h2.2.1, h2.2.2.1, h3.2.2.2⟩)
  clear h1 h2 h3 hw2 sz
  go_enter Tryz.func42, Tryz.ntmps42
  go_wp2_with fail
  rw [← HW.out]
  refine (refRight_any k n s _).mono ?_
  rintro e w3 ⟨rfl, hb3⟩
  have HV3 := Lib.hid (HV.out.below hb3)
  have HC3 := Lib.hid (HC.out.below hb3)
  clear hb3
  obtain ⟨c0, c1, c2, hB⟩ := HV3.out
  obtain ⟨d0, d1, d2, _⟩ := HC3.out
  have HB := Lib.hid hB
  clear hB
  cases hr : rightV k n s with
  | false =>
    have HR := Lib.hid (show fitsV ⟨k, n, s⟩ ck nn = 10 by unfold fitsV rightVa; rw [if_pos hr])
    clear hr
    go_wp2
    go_ret
    exact ⟨ret_int HR.out.symm, HB.out⟩
  | true =>
    by_cases hk : k = 0
    · subst hk
      cases nn with
      | true =>
        have HR := Lib.hid (show fitsV ⟨0, n, s⟩ ck true = 16 by unfold fitsV rightVa; rw [if_neg (by simp [hr])]; simp)
        clear hr
        go_wp2
        go_ret
        exact ⟨ret_int HR.out.symm, HB.out⟩
      | false =>
        have HR := Lib.hid (show fitsV ⟨0, n, s⟩ ck false = 0 by unfold fitsV rightVa; rw [if_neg (by simp [hr])]; simp)
        clear hr
        go_wp2
        go_ret
        exact ⟨ret_int HR.out.symm, HB.out⟩
    · have hd : (k == 0) = false := by simp [hk]
      by_cases hck : k = ck
      · have HR := Lib.hid (show fitsV ⟨k, n, s⟩ ck nn = 0 by unfold fitsV rightVa; rw [if_neg (by simp [hr]), if_neg hk, if_pos hck])
        subst hck
        have hne : (k != k) = false := by simp
        clear hr hk
        go_wp2
        go_ret
        exact ⟨ret_int HR.out.symm, HB.out⟩
      · have HR := Lib.hid (show fitsV ⟨k, n, s⟩ ck nn = 14 by unfold fitsV rightVa; rw [if_neg (by simp [hr]), if_neg hk, if_neg hck])
        have hne : (k != ck) = true := by simp [hck]
        clear hr hk hck
        go_wp2
        go_ret
        exact ⟨ret_int HR.out.symm, HB.out⟩
end Go.Proofs.YtkdcnkadngbccaaGreatDoor
