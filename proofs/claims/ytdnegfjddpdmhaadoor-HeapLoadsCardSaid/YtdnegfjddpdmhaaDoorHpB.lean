/-
  The contracts of filled and copies; of New, Pages.
-/
import Derived.Test.YtdnegfjddpdmhaaDoorHpA
import Derived.Test.YtdnegfjddpdmhaaDoorLow
namespace Go.Proofs.YtdnegfjddpdmhaaDoor
open Go.RowKit Go.Lib

theorem slotsN_nil {s : List Slot} (h : TrimP s) : (slotsN s s.length).length = 0 ↔ s = [] := by
  constructor
  · intro h0
    rcases Nat.eq_zero_or_pos s.length with h1 | h1
    · exact List.eq_nil_of_length_eq_zero h1
    · exfalso
      have hl : s[s.length - 1]? = some (s[s.length - 1]'(by omega)) := List.getElem?_eq_getElem (by omega)
      cases ho : s[s.length - 1]'(by omega) with
      | none => exact h (by rw [List.getLast?_eq_getElem?, hl, ho])
      | some b =>
        rw [ho] at hl
        have := slotsN_yes hl
        rw [show s.length - 1 + 1 = s.length by omega] at this
        rw [this] at h0
        simp at h0
  · rintro rfl; rfl

/-- a page that reads as these slots -/
def PgOk (w : World) (x : Pv) : Prop := Sl w x.A 256 x.c (imgP x.s) ∧ GoodP x.s
theorem PgOk.below {w w' : World} {x : Pv} (h : PgOk w x) (hb : Below w.heap.size w w') : PgOk w' x := ⟨h.1.below hb, h.2⟩
theorem PgOk.of {w : World} {x : Pv} (h : PgOk w x) : ofP (imgP x.s) = some x.s := ofP_pg h.2.pg
/-- rows of pages that are read -/
structure PIn (w : World) (A : Option Addr) (n c : Nat) (xs : List Pv) : Prop where
  rd : Rd w w.heap.size A n (pvals xs)
  pg : ∀ x ∈ xs, PgOk w x
section
variable {w w' : World} {A : Option Addr} {n c : Nat} {xs : List Pv}
theorem PIn.len (h : PIn w A n c xs) : xs.length = n := by have := h.rd.1; rwa [pvals_len] at this
theorem PIn.below (h : PIn w A n c xs) (hb : Below w.heap.size w w') : PIn w' A n c xs := ⟨h.rd.le hb, fun x hx => (h.pg x hx).below hb⟩
theorem PIn.at_ (h : PIn w A n c xs) {k : Nat} (hk : k < n) : ∃ ad x, A = some ad ∧ xs[k]? = some x ∧ w.cell? (ad.add k) = some x.val ∧ PgOk w x ∧ (pslots xs)[k]? = some x.s := by
  obtain ⟨ad, u, e, _, hu, hc⟩ := h.rd.at_ hk
  have hk' : k < xs.length := by rw [h.len]; exact hk
  rw [pvals_at hk'] at hu
  refine ⟨ad, xs[k], e, List.getElem?_eq_getElem hk', by rw [hc, ← Option.some.inj hu], h.pg _ (List.getElem_mem hk'), ?_⟩
  simp [pslots, hk']
theorem HpX.pin {B hb : Nat} {D : Nat → Prop} {v : Value} (h : HpX B D w hb v xs) : ∃ A c, v = .slice A xs.length c ∧ PIn w A xs.length c xs ∧ xs.length ≤ c ∧ c ≤ maxLen := by
  obtain ⟨A, c, rfl, h1, h2⟩ := own_shape h.own
  exact ⟨A, c, rfl, ⟨Rd.of_own h.own, fun x hx => ⟨(h.pg x hx).sl, (h.pg x hx).good⟩⟩, h1, h2⟩
end

theorem slots_pv (w : World) (x : Pv) (h : PgOk w x) : Calls Tryd.prog 72 #[.slice x.A 256 x.c] w fun e w' => ∃ A' c', e = .returned (.slice A' (slotsN x.s x.s.length).length c') ∧
    w'.ownsRow w.heap.size 3 1 (.slice A' (slotsN x.s x.s.length).length c') (slotsN x.s x.s.length).length (cells64 (slotsN x.s x.s.length)) ∧ Below w.heap.size w w' := by
  refine (slots_any w x.A 256 x.c (imgP x.s) h.1).mono ?_
  rintro e w' ⟨v, rfl, hown, hb⟩
  rw [h.of] at hown
  obtain ⟨A', c', rfl, _, _⟩ := own_shape hown
  exact ⟨A', c', rfl, hown, hb⟩

def FlRel (w : World) (ps : Pgs) (i : Value) (wr : World) : Prop := ∃ k : Nat, k ≤ ps.length ∧ i = .int .i64 k ∧ (∀ j, k ≤ j → j < ps.length → pgAt ps j = []) ∧ Below w.heap.size w wr
theorem trimH_is {ps : Pgs} {k : Nat} (hk : k ≤ ps.length) (h1 : ∀ j, k ≤ j → j < ps.length → pgAt ps j = []) (h2 : k = 0 ∨ pgAt ps (k - 1) ≠ []) : trimH ps = ps.take k ∧ (trimH ps).length = k := by
  have e : ps = ps.take k ++ List.replicate (ps.length - k) [] := by
    apply List.ext_getElem?
    intro i
    rcases Nat.lt_or_ge i k with h | h
    · rw [List.getElem?_append_left (by simp; omega), List.getElem?_take_of_lt h]
    · rw [List.getElem?_append_right (by simp; omega), List.getElem?_replicate]
      split
      · rename_i hi
        simp at hi
        have hi' : i < ps.length := by omega
        have := h1 i h hi'
        rw [pgAt_lt hi'] at this
        rw [List.getElem?_eq_getElem hi', this]
      · rename_i hi
        simp at hi
        exact List.getElem?_eq_none (by omega)
  have hl : (ps.take k).getLast? ≠ some [] := by
    rcases h2 with rfl | h2
    · simp
    · rcases Nat.eq_zero_or_pos k with rfl | h0
      · simp
      · rw [List.getLast?_eq_getElem?, List.length_take, Nat.min_eq_left hk, List.getElem?_take_of_lt (by omega), List.getElem?_eq_getElem (by omega)]
        rw [pgAt_lt (by omega)] at h2
        simpa using h2
  have h3 := trimH_eq (j := ps.length - k) hl
  rw [← e] at h3
  exact ⟨h3, by rw [h3]; simp; omega⟩

set_option maxRecDepth 100000 in
set_option maxHeartbeats 1600000 in
theorem filled_any (w : World) (A : Option Addr) (n c : Nat) (xs : List Pv) (h : PIn w A n c xs) (hn : n ≤ 1000000) :
    Calls Tryd.prog 43 #[.slice A n c] w fun e w' => e = .returned (.int .i64 ((trimH (pslots xs)).length : Nat)) ∧ Below w.heap.size w w' := by
  have hl := h.len
  have H := Lib.hid h
  have HPL := Lib.hid (show (pslots xs).length = n by rw [pslots_len]; exact hl)
  have HLN := Lib.hid hl
  clear h hl
  go_enter Tryd.func43, Tryd.ntmps43
  go_wp2_with fail
  go_loopw [3] (fun i wr => FlRel w (pslots xs) i wr) (fun i _ => (intOf i).toNat)
  case atStart => exact ⟨n, by rw [HPL.out]; omega, rfl, fun j h1 h2 => by have := HPL.out; omega, Below.refl _ _⟩
  case round =>
    obtain ⟨k, hk, rfl, hz, hb⟩ := hrel
    have HZ := Lib.hid (And.intro hz hb)
    have hkn : k ≤ n := by rw [← HPL.out]; exact hk
    have hk0 : (0 : Int) ≤ (k : Int) := Int.natCast_nonneg _
    clear hz hb hk
    by_cases h0 : k = 0
    · subst h0
      have HF := Lib.hid (trimH_is (k := 0) (Nat.zero_le _) HZ.out.1 (.inl rfl))
      go_wp2_with fail
      go_ret
      exact ⟨by rw [HF.out.2]; rfl, HZ.out.2⟩
    · obtain ⟨q, rfl⟩ : ∃ q, k = q + 1 := ⟨k - 1, by omega⟩
      have hin := H.out.below HZ.out.2
      obtain ⟨ad, x, rfl, hx, hc, hok, hxs⟩ := hin.at_ (k := q) (by omega)
      have hpq : pgAt (pslots xs) q = x.s := by rw [pgAt, hxs]; rfl
      have HO := Lib.hid (And.intro hok hpq)
      clear hin hx hok hxs hpq
      unfold Pv.val at hc
      have hq0 : (0 : Int) ≤ (q : Int) := Int.natCast_nonneg _
      have hqn : (q : Int) < (n : Int) := by omega
      have hlt0 : (0 : Int) < (q : Int) + 1 := by omega
      have hadd : (q : Int) + 1 - 1 = (q : Int) := by omega
      have HS := Lib.hid (slots_pv wr x HO.out.1)
      by_cases hs : x.s = []
      · have HN := Lib.hid ((slotsN_nil HO.out.1.2.trim).2 hs)
        go_wp2_with fail
        refine HS.out.mono ?_
        rintro e w1 ⟨A', c', rfl, _, hb1⟩
        have HR := Lib.hid (show FlRel w (pslots xs) (.int .i64 q) w1 from ⟨q, by rw [HPL.out]; omega, rfl, fun j h1 h2 => by
          rcases Nat.lt_or_ge j (q + 1) with h3 | h3
          · obtain rfl : j = q := by omega
            rw [HO.out.2, hs]
          · exact HZ.out.1 j h3 h2, below_le HZ.out.2 hb1⟩)
        rw [HN.out]
        clear hb1
        go_wp2_with fail
        go_roundw
        case rel => exact HR.out
        case measure => simp [intOf]
      · have HN := Lib.hid (show (slotsN x.s x.s.length).length ≠ 0 from fun h => hs ((slotsN_nil HO.out.1.2.trim).1 h))
        have HF := Lib.hid (trimH_is (k := q + 1) (ps := pslots xs) (by rw [HPL.out]; omega) HZ.out.1 (.inr (by rw [Nat.add_sub_cancel, HO.out.2]; exact hs)))
        go_wp2_with fail
        refine HS.out.mono ?_
        rintro e w1 ⟨A', c', rfl, _, hb1⟩
        obtain ⟨m, hm⟩ : ∃ m, m = (slotsN x.s x.s.length).length := ⟨_, rfl⟩
        rw [← hm] at HN ⊢
        have hm0 : ¬ m = 0 := HN.out
        have hm1 : ¬ (m : Int) = 0 := by omega
        have HB := Lib.hid (below_le HZ.out.2 hb1)
        clear hb1 hm
        go_wp2_with fail
        go_ret
        exact ⟨by rw [HF.out.2]; rfl, HB.out⟩
end Go.Proofs.YtdnegfjddpdmhaaDoor
