/-
  The contracts of bytes.HasSuffix at one nought, and of slices.ContainsFunc at the marks that are too great.
-/
import Derived.Test.YtdnegfjddpdmhaaDoorLibA
namespace Go.Proofs.YtdnegfjddpdmhaaDoor
open Go.RowKit Go.Lib

theorem run_strw {P : Program} (w : World) (src dst e : TypeId) (A : Option Addr) (m c B : Nat) (l : List Int) (hs : P.underlying src = some (.slice e)) (he : P.underlying e = some (.int .u8)) (hd : P.underlying dst = some .string)
    (hr : Rd w B A m (cells l)) : (convert src dst (.slice A m c)).run P w = .ok (.string (mkStr l)) w := by
  rw [run_convert_bytes_string w src dst e A m c hs he hd]
  obtain ⟨hl, hc⟩ := hr
  rw [cells_len] at hl
  rcases A with _ | a
  · have hm : m = 0 := by
      rcases Nat.eq_zero_or_pos m with h0 | h0
      · exact h0
      · obtain ⟨_, h, _⟩ := hc h0; cases h
    have hn : l = [] := List.eq_nil_of_length_eq_zero (by omega)
    subst hn
    subst hm
    rfl
  · have hh := run_loadCells_list (P := P) w a (cells l) (fun j v hj => by
      have hj' : j < (cells l).length := (List.getElem?_eq_some_iff.1 hj).1
      rw [cells_len] at hj'
      obtain ⟨ad, e1, _, h2⟩ := hc (by omega)
      obtain rfl := Option.some.inj e1
      exact h2 j v hj)
    rw [cells_len, hl] at hh
    exact run_bytesToString w a m c l hh
theorem str_eq (a b : ByteArray) : (a.toList == b.toList) = decide (a = b) := by
  by_cases h : a = b
  · subst h; simp
  · have h1 : a.toList ≠ b.toList := fun e => h (by
      rw [ByteArray.toList_eq, ByteArray.toList_eq] at e
      obtain ⟨⟨x⟩⟩ := a
      obtain ⟨⟨y⟩⟩ := b
      exact congrArg (fun l => (⟨⟨l⟩⟩ : ByteArray)) e)
    simp [h, h1]
theorem mkStr_inj {a b : List Int} (ha : IsBytes a) (hb : IsBytes b) : mkStr a = mkStr b ↔ a = b :=
  ⟨fun h => by rw [← bytes_mkStr a ha, ← bytes_mkStr b hb, h], fun h => by rw [h]⟩

set_option maxRecDepth 100000 in
theorem equal_any (w : World) (B B' : Nat) (A A' : Option Addr) (m m' c c' : Nat) (l l' : List Int) (hr : Rd w B A m (cells l)) (hr' : Rd w B' A' m' (cells l')) (hb : IsBytes l) (hb' : IsBytes l') :
    Calls Tryd.prog 84 #[.slice A m c, .slice A' m' c'] w fun e w' => e = .returned (.bool (decide (l = l'))) ∧ w' = w := by
  have h1 := run_strw (P := Tryd.prog) w 33 9 5 A m c B l Tryd.underlying33 Tryd.underlying5 Tryd.underlying9 hr
  have h2 := run_strw (P := Tryd.prog) w 33 9 5 A' m' c' B' l' Tryd.underlying33 Tryd.underlying5 Tryd.underlying9 hr'
  have h3 : ((mkStr l).toList == (mkStr l').toList) = decide (l = l') := by
    rw [str_eq]
    exact decide_eq_decide.2 (mkStr_inj hb hb')
  clear hr hr'
  go_enter Tryd.func84, Tryd.ntmps84
  go_wp2
  go_ret
  exact ⟨by first | rfl | (rw [← h3]; rfl) | (simp only [h3]), rfl⟩

theorem last_drop {l : List Int} : l.drop (l.length - 1) = [0] ↔ l.getLast? = some 0 := by
  rcases List.eq_nil_or_concat l with rfl | ⟨a, x, rfl⟩
  · simp
  · simp

set_option maxRecDepth 100000 in
set_option maxHeartbeats 800000 in
theorem hasSuffix_any (w : World) (B B' g : Nat) (m c : Nat) (l : List Int) (A : Option Addr) (hl : l.length = m) (hmc : m ≤ c) (hc : c ≤ maxLen) (hr : Rd w B (some ⟨g, 1, none⟩) m (cells l)) (hr' : Rd w B' A 1 (cells [0])) (hb : IsBytes l) :
    Calls Tryd.prog 68 #[.slice (some ⟨g, 1, none⟩) m c, .slice A 1 1] w fun e w' => e = .returned (.bool (decide (l.getLast? = some 0))) ∧ w' = w := by
  have hc64 : c ≤ 9223372036854775807 := hc
  by_cases h0 : m = 0
  · subst h0
    obtain rfl : l = [] := List.eq_nil_of_length_eq_zero hl
    go_enter Tryd.func68, Tryd.ntmps68
    go_wp2
    go_ret
    exact ⟨rfl, rfl⟩
  · obtain ⟨k, rfl⟩ : ∃ k, m = k + 1 := ⟨m - 1, by omega⟩
    have hk0 : (0 : Int) ≤ (k : Int) := Int.natCast_nonneg _
    have hk1 : (1 : Int) ≤ ((k + 1 : Nat) : Int) := by omega
    have hk2 : ((k + 1 : Nat) : Int) - 1 = (k : Int) := by omega
    have hcut := hr.cutl (k := k) (cap := c) (by omega) hmc
    rw [show k + 1 - k = 1 by omega, show (cells l).drop k = cells (l.drop k) by simp [cells]] at hcut
    have hck : ¬ c = k := by omega
    rw [if_neg hck] at hcut
    simp only [Option.map_some, Addr.add_lit] at hcut
    have HE := Lib.hid (equal_any w B B' _ A 1 1 (c - k) 1 (l.drop k) [0] hcut hr' (hb.drop k) (.cons (by omega) .nil))
    have HD := Lib.hid (show decide (l.drop k = [0]) = decide (l.getLast? = some 0) by
      have h := last_drop (l := l)
      rw [hl, Nat.add_sub_cancel] at h
      exact decide_eq_decide.2 h)
    clear hr hr' hcut hl hb
    go_enter Tryd.func68, Tryd.ntmps68
    go_wp2_with (go_at_call 84; refine HE.out.mono ?_; rintro e w' ⟨rfl, rfl⟩; rw [HD.out])
    all_goals go_ret
    all_goals exact ⟨rfl, rfl⟩

set_option maxRecDepth 100000 in
theorem tooMany_any (w : World) (m : Int) : Calls Tryd.prog 66 #[.int .u8 m] w fun e w' => e = .returned (.bool (decide (201 < m))) ∧ w' = w := by
  go_enter Tryd.func66, Tryd.ntmps66
  go_wp2
  go_ret
  exact ⟨rfl, rfl⟩

def IfRet (l : List Int) (e : Ending) : Prop := ∃ r : Int, e = .returned (.int .i64 r) ∧ -1 ≤ r ∧ (0 ≤ r ↔ ∃ x ∈ l, 201 < x)
set_option maxRecDepth 100000 in
set_option maxHeartbeats 1600000 in
theorem indexFunc_any (w : World) (B : Nat) (A : Option Addr) (m c : Nat) (l : List Int) (hl : l.length = m) (hm : m ≤ 1000) (hr : Rd w B A m (cells l)) :
    Calls Tryd.prog 83 #[.slice A m c, .func (.func 66) #[] #[]] w fun e w' => IfRet l e ∧ w' = w := by
  have H := Lib.hid hr
  clear hr
  go_enter Tryd.func83, Tryd.ntmps83
  go_wp2
  go_loop [8] (fun i => ∃ k : Nat, k ≤ m ∧ i = .int .i64 k ∧ ∀ j, j < k → ∀ x, l[j]? = some x → x ≤ 201) (fun i => m - (intOf i).toNat)
  case atStart => exact ⟨0, by omega, rfl, fun j h => by omega⟩
  case round =>
    obtain ⟨k, hk, rfl, hz⟩ := hrel
    have hk0 : (0 : Int) ≤ (k : Int) := Int.natCast_nonneg _
    by_cases hlt : k < m
    · have hlt1 : (k : Int) < (m : Int) := by omega
      obtain ⟨ad, u, rfl, _, hu, hcc⟩ := H.out.at_ hlt
      rw [cells_at (by omega)] at hu
      obtain rfl := Option.some.inj hu
      have hxe := List.getElem?_eq_getElem (l := l) (i := k) (by omega)
      obtain ⟨x, hx⟩ : ∃ x, x = l[k]'(by omega) := ⟨_, rfl⟩
      rw [← hx] at hcc hxe
      have HZ := Lib.hid (And.intro hz hxe)
      clear hz hu hxe hx
      by_cases h201 : 201 < x
      · have HF := Lib.hid (show IfRet l (.returned (.int .i64 k)) from ⟨k, rfl, by omega, ⟨fun _ => ⟨x, List.mem_of_getElem? HZ.out.2, h201⟩, fun _ => hk0⟩⟩)
        go_wp2_with (go_at_call 66; refine (tooMany_any _ _).mono ?_; rintro e w' ⟨rfl, rfl⟩)
        go_ret
        exact ⟨HF.out, rfl⟩
      · have HF := Lib.hid (show ∀ j, j < k + 1 → ∀ y, l[j]? = some y → y ≤ 201 from fun j hj y hy => by
          rcases Nat.lt_or_ge j k with h | h
          · exact HZ.out.1 j h y hy
          · obtain rfl : j = k := by omega
            rw [HZ.out.2] at hy
            have := Option.some.inj hy
            omega)
        go_wp2_with (go_at_call 66; refine (tooMany_any _ _).mono ?_; rintro e w' ⟨rfl, rfl⟩)
        exact ⟨⟨k + 1, by omega, by go_num, HF.out⟩, by simp [intOf]; omega⟩
    · have hlt1 : ¬ ((k : Int) < (m : Int)) := by omega
      have HF := Lib.hid (show IfRet l (.returned (.int .i64 (-1))) from ⟨-1, rfl, by omega, ⟨fun h => absurd h (by omega), fun ⟨x, hx, h⟩ => by
        obtain ⟨j, hj⟩ := List.mem_iff_getElem?.1 hx
        have h2 : j < l.length := (List.getElem?_eq_some_iff.1 hj).1
        have := hz j (by omega) x hj
        omega⟩⟩)
      clear hz
      go_wp2
      go_ret
      exact ⟨HF.out, rfl⟩

set_option maxRecDepth 100000 in
set_option maxHeartbeats 1600000 in
theorem containsFunc_any (w : World) (B : Nat) (A : Option Addr) (m c : Nat) (l : List Int) (hl : l.length = m) (hm : m ≤ 1000) (hr : Rd w B A m (cells l)) :
    Calls Tryd.prog 67 #[.slice A m c, .func (.func 66) #[] #[]] w fun e w' => e = .returned (.bool (decide (∃ x ∈ l, 201 < x))) ∧ w' = w := by
  have HI := Lib.hid (indexFunc_any w B A m c l hl hm hr)
  clear hr
  go_enter Tryd.func67, Tryd.ntmps67
  go_wp2_with (go_at_call 83; refine HI.out.mono ?_; rintro e w' ⟨⟨r, rfl, hr1, hrr⟩, rfl⟩)
  go_ret
  exact ⟨congrArg (fun b => Ending.returned (.bool b)) (decide_eq_decide.2 Iff.rfl), rfl⟩
end Go.Proofs.YtdnegfjddpdmhaaDoor
