/-
  container/heap's way down, over a contract of the interface's methods.
-/
import Derived.Test.YtcjhkafdfeopfaaHpU
namespace Go.Proofs.Ytcjhkafdfeopfaa
open Go.RowKit Go.Lib

set_option maxRecDepth 100000 in
set_option maxHeartbeats 6400000 in
theorem down_walk {α : Type} {ty : TypeId} {rv : Value} {lt : α → α → Bool} {S : World → Nat → (Nat → α) → Prop} (I : HpI ty rv lt S) (tr : ∀ {a b c : α}, leB lt a b → leB lt b c → leB lt a c) (asy : ∀ {a b : α}, lt a b = true → lt b a = false)
    (i0 m n : Nat) (f : Nat → α) (w : World) (hm : m ≤ n) (hn : n < 1000000) (hi : i0 ≤ m) (hS : S w n f) (hU : HpX (leB lt) m f i0) :
    Calls Try.prog 24 #[.iface ty rv, .int .i64 i0, .int .i64 m] w (fun e w' => ∃ b g, e = .returned (.bool b) ∧ S w' n g ∧ Sws m f g ∧ (b = true → Hp (leB lt) m g) ∧ (b = false → g = f ∧ HpU (leB lt) m f i0)) := by
  have hi0 : (0 : Int) ≤ (i0 : Int) := Int.natCast_nonneg _
  have hm0 : (0 : Int) ≤ (m : Int) := Int.natCast_nonneg _
  have H := Lib.hid (And.intro hS hU)
  clear hS hU
  go_enter Try.func24, Try.ntmps24
  go_wp2_with fail
  go_loopw [7] (fun v wx => ∃ (k : Nat) (g : Nat → α), i0 ≤ k ∧ k ≤ m ∧ v = .int .i64 k ∧ S wx n g ∧ HpX (leB lt) m g k ∧ Sws m f g ∧ (k = i0 → g = f) ∧ (i0 < k → HpD (leB lt) m g k)) (fun v _ => m - (intOf v).toNat)
  case atStart => exact ⟨i0, f, Nat.le_refl _, hi, rfl, H.out.1, H.out.2, .refl, fun _ => rfl, fun h => absurd h (Nat.lt_irrefl _)⟩
  case round =>
    obtain ⟨k, g, hik, hkm, rfl, hS, hX, hP, hE, hD⟩ := hrel
    have hk0 : (0 : Int) ≤ (k : Int) := Int.natCast_nonneg _
    have HR := Lib.hid (And.intro hS (And.intro hX (And.intro hP (And.intro hE hD))))
    clear hS hX hP hE hD
    have HEND := Lib.hid (show (∀ c, 0 < c → c < m → par c = k → leB lt (g k) (g c)) → (decide (i0 < k) = true → Hp (leB lt) m g) ∧ (decide (i0 < k) = false → g = f ∧ HpU (leB lt) m f i0) from fun hc => by
      constructor
      · intro h
        have h1 := of_decide_eq_true h
        exact (HR.out.2.2.2.2 (by omega)).done hc
      · intro h
        have h1 := of_decide_eq_false h
        obtain rfl : k = i0 := by omega
        have h2 := HR.out.2.2.2.1 rfl
        subst h2
        exact ⟨rfl, HR.out.2.1.stays hc⟩)
    obtain ⟨a, ha⟩ : ∃ a, a = 2 * k + 1 := ⟨_, rfl⟩
    obtain ⟨d, hd⟩ : ∃ d, d = 2 * k + 2 := ⟨_, rfl⟩
    have ha0 : (0 : Int) ≤ (a : Int) := Int.natCast_nonneg _
    have hd0 : (0 : Int) ≤ (d : Int) := Int.natCast_nonneg _
    have e2 : 2 * (k : Int) + 1 = (a : Int) := by omega
    have e3 : (a : Int) + 1 = (d : Int) := by omega
    have e4 : wrap64 (a : Int) = (a : Int) := by unfold wrap64; omega
    have e5 : wrap64 (d : Int) = (d : Int) := by unfold wrap64; omega
    have hamx : a < 2000002 := by omega
    have HA := Lib.hid (And.intro ha hd)
    have hkid : ∀ c, 0 < c → par c = k → c = a ∨ c = d := fun c c0 hc => by unfold par at hc; omega
    by_cases ham : m ≤ a
    · have HF := Lib.hid (HEND.out fun c c0 cm hc => by rcases hkid c c0 hc with h | h <;> omega)
      have hal : (m : Int) ≤ (a : Int) := by omega
      have hald : decide ((m : Int) ≤ (a : Int)) = true := decide_eq_true hal
      clear ha hd hkid
      go_wp2_with fail
      go_ret
      exact ⟨_, g, rfl, HR.out.1, HR.out.2.2.1, HF.out.1, HF.out.2⟩
    · have hal : ¬ (m : Int) ≤ (a : Int) := by omega
      have hal2 : (a : Int) < (m : Int) := by omega
      have hald : decide ((m : Int) ≤ (a : Int)) = false := decide_eq_false hal
      have hak : k < a := by omega
      have had : a < d := by omega
      have HPA := Lib.hid (show par a = k ∧ par d = k from by unfold par; omega)
      have HK := Lib.hid hkid
      have irr : ∀ x, lt x x = false := fun x => by
        cases h : lt x x with
        | false => rfl
        | true => have := asy h; rw [h] at this; exact this
      have HI := Lib.hid irr
      by_cases hdm : d < m
      · have hdl : (d : Int) < (m : Int) := by omega
        have hdld : decide ((d : Int) < (m : Int)) = true := decide_eq_true hdl
        obtain ⟨F1, r1, hm1, hf1, hc1⟩ := I.less HR.out.1 (i := d) (j := a) (by omega) (by omega)
        obtain ⟨b1, hb1⟩ : ∃ b1, b1 = lt (g d) (g a) := ⟨_, rfl⟩
        rw [← hb1] at hc1
        have HB := Lib.hid (And.intro hc1 hb1)
        clear ha hd hkid irr hc1 hb1
        go_wp2_with fail
        refine HB.out.1.mono ?_
        rintro e w5 ⟨rfl, hS5⟩
        have H5 := Lib.hid hS5
        clear hS5 hm1
        cases b1 with
        | true =>
          have HC := Lib.hid (show ∀ x, 0 < x → x < m → par x = k → leB lt (g d) (g x) from fun x x0 xm hx => by
            rcases HK.out x x0 hx with rfl | rfl
            · exact asy HB.out.2.symm
            · exact HI.out _)
          obtain ⟨F2, r2, hm2, hf2, hc2⟩ := I.less H5.out (i := d) (j := k) (by omega) (by omega)
          obtain ⟨b2, hb2⟩ : ∃ b2, b2 = lt (g d) (g k) := ⟨_, rfl⟩
          rw [← hb2] at hc2
          have HL := Lib.hid (And.intro hc2 hb2)
          clear hc2 hb2
          go_wp2_with fail
          refine HL.out.1.mono ?_
          rintro e w6 ⟨rfl, hS6⟩
          have H6 := Lib.hid hS6
          clear hS6 hm2
          cases b2 with
          | false =>
            have HF := Lib.hid (HEND.out fun x x0 xm hx => tr HL.out.2.symm (HC.out x x0 xm hx))
            go_wp2_with fail
            go_ret
            exact ⟨_, g, rfl, H6.out, HR.out.2.2.1, HF.out.1, HF.out.2⟩
          | true =>
            obtain ⟨F3, r3, hm3, hf3, hc3⟩ := I.swap H6.out (i := k) (j := d) (by omega) (by omega) (by omega)
            have HS := Lib.hid hc3
            clear hc3
            go_wp2_with fail
            refine HS.out.mono ?_
            rintro e w7 ⟨rfl, hS7⟩
            have H7 := Lib.hid hS7
            have HDN := Lib.hid (HR.out.2.1.down (j := d) (by omega) (by omega) HPA.out.2 HC.out (asy HL.out.2.symm))
            clear hS7 hm3
            go_wp2_with fail
            go_roundw
            case rel => exact ⟨d, _, by omega, by omega, rfl, H7.out, HDN.out.toHpX, .step HR.out.2.2.1 (by omega) (by omega), fun h => absurd h (by omega), fun _ => HDN.out⟩
            case measure => simp [intOf]; omega
        | false =>
          have HC := Lib.hid (show ∀ x, 0 < x → x < m → par x = k → leB lt (g a) (g x) from fun x x0 xm hx => by
            rcases HK.out x x0 hx with rfl | rfl
            · exact HI.out _
            · exact HB.out.2.symm)
          obtain ⟨F2, r2, hm2, hf2, hc2⟩ := I.less H5.out (i := a) (j := k) (by omega) (by omega)
          obtain ⟨b2, hb2⟩ : ∃ b2, b2 = lt (g a) (g k) := ⟨_, rfl⟩
          rw [← hb2] at hc2
          have HL := Lib.hid (And.intro hc2 hb2)
          clear hc2 hb2
          go_wp2_with fail
          refine HL.out.1.mono ?_
          rintro e w6 ⟨rfl, hS6⟩
          have H6 := Lib.hid hS6
          clear hS6 hm2
          cases b2 with
          | false =>
            have HF := Lib.hid (HEND.out fun x x0 xm hx => tr HL.out.2.symm (HC.out x x0 xm hx))
            go_wp2_with fail
            go_ret
            exact ⟨_, g, rfl, H6.out, HR.out.2.2.1, HF.out.1, HF.out.2⟩
          | true =>
            obtain ⟨F3, r3, hm3, hf3, hc3⟩ := I.swap H6.out (i := k) (j := a) (by omega) (by omega) (by omega)
            have HS := Lib.hid hc3
            clear hc3
            go_wp2_with fail
            refine HS.out.mono ?_
            rintro e w7 ⟨rfl, hS7⟩
            have H7 := Lib.hid hS7
            have HDN := Lib.hid (HR.out.2.1.down (j := a) (by omega) (by omega) HPA.out.1 HC.out (asy HL.out.2.symm))
            clear hS7 hm3
            go_wp2_with fail
            go_roundw
            case rel => exact ⟨a, _, by omega, by omega, rfl, H7.out, HDN.out.toHpX, .step HR.out.2.2.1 (by omega) (by omega), fun h => absurd h (by omega), fun _ => HDN.out⟩
            case measure => simp [intOf]; omega
      · have hdl : ¬ (d : Int) < (m : Int) := by omega
        have hdld : decide ((d : Int) < (m : Int)) = false := decide_eq_false hdl
        have HC := Lib.hid (show ∀ x, 0 < x → x < m → par x = k → leB lt (g a) (g x) from fun x x0 xm hx => by
          rcases HK.out x x0 hx with rfl | rfl
          · exact HI.out _
          · exact absurd xm hdm)
        clear ha hd hkid irr
        obtain ⟨F2, r2, hm2, hf2, hc2⟩ := I.less HR.out.1 (i := a) (j := k) (by omega) (by omega)
        obtain ⟨b2, hb2⟩ : ∃ b2, b2 = lt (g a) (g k) := ⟨_, rfl⟩
        rw [← hb2] at hc2
        have HL := Lib.hid (And.intro hc2 hb2)
        clear hc2 hb2
        go_wp2_with fail
        refine HL.out.1.mono ?_
        rintro e w6 ⟨rfl, hS6⟩
        have H6 := Lib.hid hS6
        clear hS6 hm2
        cases b2 with
        | false =>
          have HF := Lib.hid (HEND.out fun x x0 xm hx => tr HL.out.2.symm (HC.out x x0 xm hx))
          go_wp2_with fail
          go_ret
          exact ⟨_, g, rfl, H6.out, HR.out.2.2.1, HF.out.1, HF.out.2⟩
        | true =>
          obtain ⟨F3, r3, hm3, hf3, hc3⟩ := I.swap H6.out (i := k) (j := a) (by omega) (by omega) (by omega)
          have HS := Lib.hid hc3
          clear hc3
          go_wp2_with fail
          refine HS.out.mono ?_
          rintro e w7 ⟨rfl, hS7⟩
          have H7 := Lib.hid hS7
          have HDN := Lib.hid (HR.out.2.1.down (j := a) (by omega) (by omega) HPA.out.1 HC.out (asy HL.out.2.symm))
          clear hS7 hm3
          go_wp2_with fail
          go_roundw
          case rel => exact ⟨a, _, by omega, by omega, rfl, H7.out, HDN.out.toHpX, .step HR.out.2.2.1 (by omega) (by omega), fun h => absurd h (by omega), fun _ => HDN.out⟩
          case measure => simp [intOf]; omega
end Go.Proofs.Ytcjhkafdfeopfaa
