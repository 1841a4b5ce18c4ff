/-
  The contracts of Get and Add at any bytes.
-/
import Derived.Test.YtdnegfjddpdmhaaDoorFnC
namespace Go.Proofs.YtdnegfjddpdmhaaDoor
open Go.RowKit Go.Lib

/-- bytes, a number, true; or nothing, 0, false -/
def AdRet (r : Option (List Int)) (k : Nat) (w : World) (e : Ending) (w' : World) : Prop :=
  ∃ v, e = .returned (.tuple #[v, .int .i64 k, .bool r.isSome]) ∧ w'.ownsRow w.heap.size 5 1 v (r.getD []).length (cells (r.getD [])) ∧ Below w.heap.size w w'
theorem ad_no {r : Option (List Int)} {k : Nat} {w w' : World} (h : r = none) (hk : k = 0) (hb : Below w.heap.size w w') : AdRet r k w (.returned (.tuple #[.slice none 0 0, .int .i64 0, .bool false])) w' := by
  subst h; subst hk
  exact ⟨_, rfl, ⟨rfl, .inl ⟨rfl, rfl⟩⟩, hb⟩
theorem taken_some {s : List Slot} {k : Int} (h : takenP s k = true) : ∃ j : Nat, k = j ∧ ∃ b, s[j]? = some (some b) := by
  simp only [takenP, Bool.and_eq_true, decide_eq_true_eq] at h
  refine ⟨k.toNat, by omega, ?_⟩
  cases ho : s[k.toNat]? with
  | none => rw [ho] at h; cases h.2
  | some o =>
    rw [ho] at h
    cases o with
    | none => cases h.2
    | some b => exact ⟨b, rfl⟩

section
variable (w : World) (A : Option Addr) (n c : Nat) (l : List Int) (h : Sl w A n c l)
include h

set_option maxRecDepth 100000 in
set_option maxHeartbeats 1600000 in
theorem add_any (A2 : Option Addr) (n2 c2 : Nat) (b : List Int) (h2 : Rd w w.heap.size A2 n2 (cells b)) (hb : IsBytes b) :
    Calls Tryd.prog 47 #[.slice A n c, .slice A2 n2 c2] w (AdRet (addP (ofP l) b) (addK (ofP l) b) w) := by
  have HR := Lib.hid (right_sl w A n c l h)
  cases ho : ofP l with
  | none =>
    have HE := Lib.hid (show (ofP l).isSome = false by rw [ho]; rfl)
    clear ho h h2 hb
    go_enter Tryd.func47, Tryd.ntmps47
    go_wp2_with fail
    refine HR.out.mono ?_
    rintro e w1 ⟨rfl, hb1⟩
    rw [HE.out]
    have HB := Lib.hid hb1
    clear hb1
    go_wp2
    go_ret3
    exact ad_no rfl rfl HB.out
  | some s =>
    have HE := Lib.hid (show (ofP l).isSome = true by rw [ho]; rfl)
    have HO := Lib.hid ho
    have hp := ofP_some ho
    have H := Lib.hid h
    obtain ⟨rfl, g, rfl, ha⟩ := h.pg hp
    have HP := Lib.hid (And.intro hp ha)
    have H2 := Lib.hid (And.intro h2 hb)
    clear ho hp h h2 hb ha
    go_enter Tryd.func47, Tryd.ntmps47
    go_wp2_with fail
    refine HR.out.mono ?_
    rintro e w1 ⟨rfl, hb1⟩
    rw [HE.out]
    have HB := Lib.hid hb1
    have HA := Lib.hid ((HP.out.2.below hb1 (Nat.le_refl _)))
    clear hb1
    go_wp2_with fail
    refine (firstFree_any w1 w.heap.size g c l s HP.out.1 HA.out).mono ?_
    rintro e w' ⟨rfl, rfl⟩
    go_wp2_with fail
    refine (put_any _ _ _ c l (H.out.below HB.out) (ffP s) A2 n2 c2 b ((H2.out.1.below HB.out (Nat.le_refl _)).more HB.out.size) H2.out.2).mono ?_
    rintro e w2 ⟨v, rfl, hown, hbel⟩
    rw [HO.out] at hown ⊢
    have hv : ∃ A c, v = .slice A ((putP (some s) (ffP s) b).getD []).length c := by
      obtain ⟨A, c, h, _, _⟩ := own_shape hown
      exact ⟨A, c, h⟩
    obtain ⟨A3, c3, rfl⟩ := hv
    cases hs : putP (some s) (ffP s) b with
    | none =>
      have HS := Lib.hid hs
      have HB2 := Lib.hid (HB.out.trans (hbel.mono HB.out.size))
      clear hown hbel hs
      go_wp2
      go_ret3
      exact ad_no HS.out (by unfold addK; rw [show addP (some s) b = none from HS.out]; rfl) HB2.out
    | some t =>
      rw [hs] at hown
      have HS := Lib.hid hs
      have HF := Lib.hid (show AdRet (addP (some s) b) (addK (some s) b) w (.returned (.tuple #[.slice A3 ((some t).getD []).length c3, .int .i64 (ffP s), .bool true])) w2 from by
        have e1 : addP (some s) b = some t := hs
        have e2 : addK (some s) b = ffP s := by unfold addK; rw [e1]; rfl
        rw [e1, e2]
        exact ⟨_, rfl, own_base hown HB.out.size, HB.out.trans (hbel.mono HB.out.size)⟩)
      clear hown hbel hs
      go_wp2
      go_ret3
      exact HF.out

set_option maxRecDepth 100000 in
set_option maxHeartbeats 1600000 in
theorem get_any (k : Int) :
    Calls Tryd.prog 56 #[.slice A n c, .int .i64 k] w (BsRet (getP (ofP l) k) w) := by
  have HR := Lib.hid (right_sl w A n c l h)
  cases ho : ofP l with
  | none =>
    have HE := Lib.hid (show (ofP l).isSome = false by rw [ho]; rfl)
    clear ho h
    go_enter Tryd.func56, Tryd.ntmps56
    go_wp2_with fail
    refine HR.out.mono ?_
    rintro e w1 ⟨rfl, hb1⟩
    rw [HE.out]
    have HB := Lib.hid hb1
    clear hb1
    go_wp2
    go_ret2
    exact bs_no rfl HB.out
  | some s =>
    have HE := Lib.hid (show (ofP l).isSome = true by rw [ho]; rfl)
    have hp := ofP_some ho
    obtain ⟨rfl, g, rfl, ha⟩ := h.pg hp
    have HP := Lib.hid (And.intro hp ha)
    have hc := h.cap
    have hct := h.top
    cases ht : takenP s k with
    | false =>
      have HT := Lib.hid ht
      clear ho hp h ha ht
      go_enter Tryd.func56, Tryd.ntmps56
      go_wp2_with fail
      refine HR.out.mono ?_
      rintro e w1 ⟨rfl, hb1⟩
      rw [HE.out]
      have HB := Lib.hid hb1
      have HA := Lib.hid ((HP.out.2.below hb1 (Nat.le_refl _)))
      clear hb1
      go_wp2_with fail
      refine (taken_any w1 w.heap.size g c l s HP.out.1 HA.out k).mono ?_
      rintro e w' ⟨rfl, rfl⟩
      rw [HT.out]
      go_wp2
      go_ret2
      exact bs_no (by simp only [getP]; rw [HT.out]; rfl) HB.out
    | true =>
      obtain ⟨j, rfl, b, hj⟩ := taken_some ht
      have HT := Lib.hid ht
      have hgot := hp.got hj
      have hwt := wt_take_succ hj
      simp only [bsS] at hgot hwt
      have hsl := hp.slots
      have hjl : j < s.length := (List.getElem?_eq_some_iff.1 hj).1
      have hw1 := wt_take_le s (j + 1)
      have HF := Lib.hid (show getP (some s) (j : Int) = some b by
        simp only [getP]
        rw [ht, Int.toNat_natCast, hj]
        rfl)
      obtain ⟨z1, hz1⟩ : ∃ z, z = 256 - wtP (s.take (j + 1)) := ⟨_, rfl⟩
      obtain ⟨z2, hz2⟩ : ∃ z, z = 256 - wtP (s.take j) := ⟨_, rfl⟩
      have hz12 : z1 ≤ z2 := by omega
      have hz2c : z2 ≤ 256 := by omega
      have hbl : b.length = z2 - z1 := by omega
      have hwj : IntKind.i64.wrap ((j : Int) + 1) = (j : Int) + 1 := by rw [IntKind.wrap_i64]; omega
      have HB1 := Lib.hid (fun w1 (hh : PAt w1 w.heap.size g c l s.length) => begin_pg w1 w.heap.size g c l s hp hh ((j : Int) + 1) (j + 1) (by omega) (by omega))
      have HB2 := Lib.hid (fun w1 (hh : PAt w1 w.heap.size g c l s.length) => begin_pg w1 w.heap.size g c l s hp hh j j rfl (by omega))
      rw [← hz1] at HB1 hgot
      rw [← hz2] at HB2
      obtain ⟨A1, hA1⟩ : ∃ A1 : Option Addr, A1 = if c = z1 then some ⟨g, 0, none⟩ else some ⟨g, z1, none⟩ := ⟨_, rfl⟩
      have HA1 := Lib.hid hA1
      have hr1 : Rd w w.heap.size A1 (z2 - z1) (cells b) := by
        have h1 := (ha.rd.cutl (k := z1) (cap := c) (by omega) hc).cuth (k := z2 - z1) (by omega)
        rw [show List.take (z2 - z1) (List.drop z1 (cells l)) = cells ((l.drop z1).take (z2 - z1)) by simp [cells]] at h1
        rw [← hbl, hgot] at h1
        rw [← hbl, hA1]
        simpa [Addr.add_lit] using h1
      have HRD := Lib.hid hr1
      have hAo : ∃ o, A1 = some ⟨g, o, none⟩ := by rw [hA1]; split <;> exact ⟨_, rfl⟩
      have HBL := Lib.hid hbl
      have hz12i : (z1 : Int) ≤ (z2 : Int) := by omega
      have hz2i : (z2 : Int) ≤ (c : Int) := by omega
      have hz10 : (0 : Int) ≤ (z1 : Int) := Int.natCast_nonneg _
      have hz200 : z2 - z1 ≤ 256 := by omega
      clear ho hp h ha ht hgot hwt hsl hjl hw1 hz1 hz2 hr1 hbl hj hA1
      go_enter Tryd.func56, Tryd.ntmps56
      go_wp2_with fail
      refine HR.out.mono ?_
      rintro e w1 ⟨rfl, hb1⟩
      rw [HE.out]
      have HB := Lib.hid hb1
      have HA := Lib.hid ((HP.out.2.below hb1 (Nat.le_refl _)))
      clear hb1
      go_wp2_with fail
      refine (taken_any w1 w.heap.size g c l s HP.out.1 HA.out (j : Int)).mono ?_
      rintro e w' ⟨rfl, rfl⟩
      rw [HT.out]
      go_wp2_with fail
      refine (HB1.out _ HA.out).mono ?_
      rintro e w' ⟨rfl, rfl⟩
      go_wp2_with fail
      refine (HB2.out _ HA.out).mono ?_
      rintro e w' ⟨rfl, rfl⟩
      by_cases hcz : c = z1
      · obtain rfl : z1 = 256 := by omega
        obtain rfl : c = 256 := by omega
        obtain rfl : z2 = 256 := by omega
        rw [if_pos rfl] at HA1
        go_wp2_with fail
        have hrd := (HRD.out.below HB.out (Nat.le_refl _)).more HB.out.size
        rw [HA1.out] at hrd
        refine (clone_any _ g 0 0 0 b (by have := HBL.out; omega) (by omega) hrd).mono ?_
        rintro e w2 ⟨v, rfl, hown, hbel⟩
        have HX := Lib.hid (show BsRet (getP (some s) (j : Int)) w (.returned (.tuple #[v, .bool true])) w2 from by
          rw [HF.out]
          exact ⟨_, rfl, own_base hown HB.out.size, HB.out.trans (hbel.mono HB.out.size)⟩)
        clear hown hbel hrd
        go_wp2
        go_ret2
        exact HX.out
      · rw [if_neg hcz] at HA1
        have hcz2 : ¬ z1 = c := fun h => hcz h.symm
        go_wp2_with fail
        have hrd := (HRD.out.below HB.out (Nat.le_refl _)).more HB.out.size
        rw [HA1.out] at hrd
        refine (clone_any _ g z1 (z2 - z1) (c - z1) b HBL.out (by omega) hrd).mono ?_
        rintro e w2 ⟨v, rfl, hown, hbel⟩
        have HX := Lib.hid (show BsRet (getP (some s) (j : Int)) w (.returned (.tuple #[v, .bool true])) w2 from by
          rw [HF.out]
          exact ⟨_, rfl, own_base hown HB.out.size, HB.out.trans (hbel.mono HB.out.size)⟩)
        clear hown hbel hrd
        go_wp2
        go_ret2
        exact HX.out
end
end Go.Proofs.YtdnegfjddpdmhaaDoor
