/-
  The contracts of bytes.TrimLeft and bytes.TrimRight at a cut set of one nought.
-/
import Derived.Test.YtdnegfjddpdmhaaDoorBeg
namespace Go.Proofs.YtdnegfjddpdmhaaDoor
open Go.RowKit Go.Lib

def TlRet (l : List Int) (m : Nat) (e : Ending) : Prop := ∃ (A' : Option Addr) (r c' : Nat), e = .returned (.slice A' r c') ∧ r ≤ m ∧ (r = 0 ↔ ∀ x ∈ l, x = 0)
def AllZ (l : List Int) : Prop := ∀ x ∈ l, x = 0

def TlRel (w : World) (B : Nat) (l : List Int) (v : Value) : Prop :=
  ∃ (r d : Nat) (A : Option Addr) (l' : List Int), v = .slice A r d ∧ r ≤ d ∧ d ≤ maxLen ∧ l'.length = r ∧ r ≤ l.length ∧ Rd w B A r (cells l') ∧ (AllZ l' ↔ AllZ l)

set_option maxRecDepth 100000 in
set_option maxHeartbeats 1600000 in
theorem trimLeftByte_any (w : World) (B : Nat) (A : Option Addr) (m c : Nat) (l : List Int) (hl : l.length = m) (hr : Rd w B A m (cells l)) (hmc : m ≤ c) (hc : c ≤ maxLen) :
    Calls Tryd.prog 85 #[.slice A m c, .int .u8 0] w fun e w' => TlRet l m e ∧ w' = w := by
  have H := Lib.hid hr
  clear hr
  go_enter Tryd.func85, Tryd.ntmps85
  go_wp2
  go_loop [0] (fun v => TlRel w B l v) (fun v => match v with | .slice _ r _ => r | _ => 0)
  case atStart => exact ⟨m, c, A, l, rfl, hmc, hc, hl, by omega, H.out, Iff.rfl⟩
  case round =>
    obtain ⟨r, d, A1, l1, rfl, hrd, hdm, hl1, hrl, hr1, hz⟩ := hrel
    by_cases h0 : 0 < r
    · obtain ⟨ad, u, rfl, _, hu, hcc⟩ := hr1.at_ h0
      rw [Addr.add_zero'] at hcc
      match l1, hl1 with
      | x :: l2, hl1 =>
      rw [show (cells (x :: l2))[0]? = some (.int .u8 x) from rfl] at hu
      obtain rfl := Option.some.inj hu
      have h0i : (0 : Int) < (r : Int) := by omega
      have h0n : ¬ ((r : Int) = 0) := by omega
      have hcut := hr1.cutl (k := 1) (cap := d) (by omega) hrd
      have HR := Lib.hid (And.intro hcut hz)
      clear hcut hr1 hz hu
      by_cases hx : x = 0
      · subst hx
        have hz2 : AllZ l2 ↔ AllZ (0 :: l2) := ⟨fun h y hy => (List.mem_cons.1 hy).elim id (h y), fun h y hy => h y (by simp [hy])⟩
        have HZ := Lib.hid (hz2.trans HR.out.2)
        clear hz2
        simp only [List.length_cons] at hl1
        have hd64 : d ≤ 9223372036854775807 := hdm
        have hr64 : r ≤ 9223372036854775807 := by omega
        by_cases hd : d = 1
        · have hr1 : r = 1 := by omega
          subst hd
          subst hr1
          have HF := Lib.hid (show TlRel w B l (.slice (some ad) 0 0) from ⟨0, 0, _, l2, rfl, by omega, by simp [maxLen], by omega, by omega, by have h := HR.out.1; rw [if_pos rfl] at h; exact h, HZ.out⟩)
          go_wp2
          exact ⟨HF.out, by simp⟩
        · have HF := Lib.hid (show TlRel w B l (.slice (some { block := ad.block, off := ad.off + 1 }) (r - 1) (d - 1)) from ⟨r - 1, d - 1, _, l2, rfl, by omega, by omega, by omega, by omega, by have := HR.out.1; rw [if_neg hd] at this; exact this, HZ.out⟩)
          go_wp2
          exact ⟨HF.out, by simp; omega⟩
      · have HF := Lib.hid (show ¬ AllZ l from fun h => hx (HR.out.2.2 h x (by simp)))
        go_wp2
        go_ret
        exact ⟨⟨_, r, _, rfl, by omega, ⟨fun h => by omega, fun h => absurd h HF.out⟩⟩, rfl⟩
    · obtain rfl : r = 0 := by omega
      have hn : l1 = [] := List.eq_nil_of_length_eq_zero hl1
      subst hn
      have HF := Lib.hid (show AllZ l from hz.1 (fun x h => by cases h))
      go_wp2
      go_ret
      exact ⟨⟨none, 0, 0, rfl, by omega, ⟨fun _ => HF.out, fun _ => rfl⟩⟩, rfl⟩

set_option maxRecDepth 100000 in
set_option maxHeartbeats 1600000 in
theorem trimLeft_any (w : World) (B : Nat) (A : Option Addr) (m c : Nat) (l : List Int) (hl : l.length = m) (hr : Rd w B A m (cells l)) (hmc : m ≤ c) (hc : c ≤ maxLen) :
    Calls Tryd.prog 70 #[.slice A m c, .string ⟨#[0]⟩] w fun e w' => TlRet l m e ∧ w' = w := by
  have HT := Lib.hid (trimLeftByte_any w B A m c l hl hr hmc hc)
  by_cases h0 : m = 0
  · subst h0
    have hn : l = [] := List.eq_nil_of_length_eq_zero hl
    subst hn
    go_enter Tryd.func70, Tryd.ntmps70
    go_wp2
    go_ret
    exact ⟨⟨_, _, _, rfl, by omega, ⟨fun _ x h => (by cases h), fun _ => rfl⟩⟩, rfl⟩
  · have h0n : ¬ ((m : Int) = 0) := by omega
    clear hr hl
    go_enter Tryd.func70, Tryd.ntmps70
    go_wp2_with (go_at_call 85; refine HT.out.mono ?_; rintro e w' ⟨⟨A', r, c', rfl, hrm, hrz⟩, rfl⟩)
    go_ret
    exact ⟨⟨_, _, _, rfl, hrm, hrz⟩, rfl⟩

/-- cut at its end -/
def TrRel (l : List Int) (r : Nat) : Prop := r ≤ l.length ∧ ∀ i, r ≤ i → i < l.length → l[i]? = some 0
structure TrRet (l : List Int) (r : Nat) : Prop where
  le : r ≤ l.length
  zero : ∀ i, r ≤ i → i < l.length → l[i]? = some 0
  last : 0 < r → l[r - 1]? ≠ some 0

def TrRets (l : List Int) (e : Ending) : Prop := ∃ (A' : Option Addr) (r c' : Nat), e = .returned (.slice A' r c') ∧ TrRet l r
def TrRets1 (A : Option Addr) (c : Nat) (l : List Int) (e : Ending) : Prop := ∃ r : Nat, e = .returned (.slice A r c) ∧ TrRet l r
set_option maxRecDepth 100000 in
set_option maxHeartbeats 1600000 in
theorem trimRightByte_any (w : World) (B : Nat) (A : Option Addr) (m c : Nat) (l : List Int) (hl : l.length = m) (hr : Rd w B A m (cells l)) (hmc : m ≤ c) (hc : c ≤ maxLen) :
    Calls Tryd.prog 90 #[.slice A m c, .int .u8 0] w fun e w' => TrRets1 A c l e ∧ w' = w := by
  have H := Lib.hid hr
  clear hr
  go_enter Tryd.func90, Tryd.ntmps90
  go_wp2
  go_loop [0] (fun v => ∃ r, v = .slice A r c ∧ TrRel l r) (fun v => match v with | .slice _ r _ => r | _ => 0)
  case atStart => exact ⟨m, rfl, by omega, fun i h1 h2 => by omega⟩
  case round =>
    obtain ⟨r, rfl, hrl, hz⟩ := hrel
    have HZ := Lib.hid hz
    clear hz
    by_cases h0 : 0 < r
    · obtain ⟨ad, u, rfl, _, hu, hcc⟩ := H.out.at_ (k := r - 1) (by omega)
      rw [cells_at (by omega)] at hu
      obtain rfl := Option.some.inj hu
      obtain ⟨x, hx⟩ : ∃ x, x = l[r - 1]'(by omega) := ⟨_, rfl⟩
      rw [← hx] at hcc
      obtain ⟨k, rfl⟩ : ∃ k, r = k + 1 := ⟨r - 1, by omega⟩
      simp only [Nat.add_sub_cancel] at hx hcc
      have HX := Lib.hid hx
      have hc64 : c ≤ 9223372036854775807 := hc
      have h0i : (0 : Int) < ((k + 1 : Nat) : Int) := by omega
      have hk1 : ((k + 1 : Nat) : Int) - 1 = (k : Int) := by omega
      clear hu hx
      by_cases hx0 : x = 0
      · subst hx0
        have HF := Lib.hid (show TrRel l k from ⟨by omega, fun i h1 h2 => by
          rcases Nat.lt_or_ge k i with h | h
          · exact HZ.out i h h2
          · obtain rfl : i = k := by omega
            rw [List.getElem?_eq_getElem h2, ← HX.out]⟩)
        go_wp2
        exact ⟨⟨k, rfl, HF.out⟩, by simp⟩
      · have HF := Lib.hid (show TrRet l (k + 1) from ⟨hrl, HZ.out, fun _ e => hx0 (by
          simp only [Nat.add_sub_cancel] at e
          rw [List.getElem?_eq_getElem (by omega)] at e
          rw [HX.out]
          exact Option.some.inj e)⟩)
        go_wp2
        go_ret
        exact ⟨⟨k + 1, rfl, HF.out⟩, rfl⟩
    · obtain rfl : r = 0 := by omega
      have HF := Lib.hid (show TrRet l 0 from ⟨hrl, HZ.out, fun h => absurd h (by omega)⟩)
      go_wp2
      go_ret
      exact ⟨⟨0, rfl, HF.out⟩, rfl⟩

set_option maxRecDepth 100000 in
set_option maxHeartbeats 1600000 in
theorem trimRight_any (w : World) (B : Nat) (A : Option Addr) (m c : Nat) (l : List Int) (hl : l.length = m) (hr : Rd w B A m (cells l)) (hmc : m ≤ c) (hc : c ≤ maxLen) :
    Calls Tryd.prog 78 #[.slice A m c, .string ⟨#[0]⟩] w fun e w' => TrRets l e ∧ w' = w := by
  have HT := Lib.hid (trimRightByte_any w B A m c l hl hr hmc hc)
  by_cases h0 : m = 0
  · subst h0
    have hn : l = [] := List.eq_nil_of_length_eq_zero hl
    subst hn
    go_enter Tryd.func78, Tryd.ntmps78
    go_wp2_with (go_at_call 90; refine HT.out.mono ?_; rintro e w' ⟨⟨r, rfl, hrz⟩, rfl⟩)
    all_goals go_ret
    all_goals exact ⟨⟨_, _, _, rfl, by first | assumption | exact ⟨by simp, fun i h1 h2 => by simp at h2, fun h => absurd h (by omega)⟩⟩, rfl⟩
  · have h0n : ¬ ((m : Int) = 0) := by omega
    clear hr hl
    go_enter Tryd.func78, Tryd.ntmps78
    go_wp2_with (go_at_call 90; refine HT.out.mono ?_; rintro e w' ⟨⟨r, rfl, hrz⟩, rfl⟩)
    go_ret
    exact ⟨⟨_, _, _, rfl, hrz⟩, rfl⟩
end Go.Proofs.YtdnegfjddpdmhaaDoor
