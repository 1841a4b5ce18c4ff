/-
  Put, Get, Cut, Slots on pages of the call's own; what is put is got.
-/
import Derived.Test.YtdnegfjddpdmhaaDoorPgL
namespace Go.Proofs.YtdnegfjddpdmhaaDoor
open Go.RowKit Go.Lib

section
variable {w0 w : World} {A : Option Addr} {c : Nat} {l : List Int} {s : List Slot} (h : PgV w0 w A c l s)
include h

theorem put_pgv (k : Int) (A2 : Option Addr) (n2 c2 : Nat) (b : List Int) (h2 : Rd w w.heap.size A2 n2 (cells b)) (hb : IsBytes b) :
    Calls Tryd.prog 74 #[.slice A 256 c, .int .i64 k, .slice A2 n2 c2] w fun e w' =>
      (∃ A c, putP (some s) k b = none ∧ e = .returned (.tuple #[.slice A 0 c, .bool false]) ∧ Below w.heap.size w w') ∨
      (∃ A c l, 0 ≤ k ∧ k ≤ 250 ∧ (b.length : Int) ≤ roomP s k.toNat ∧ e = .returned (.tuple #[.slice A 256 c, .bool true]) ∧ PgV w0 w' A c l (setP s k.toNat (some b)) ∧ Below w.heap.size w w') := by
  refine (put_any w A 256 c l h.sl k A2 n2 c2 b h2 hb).mono ?_
  rintro e w' ⟨v, rfl, hown, hbel⟩
  rw [h.of] at hown ⊢
  cases ha : putP (some s) k b with
  | none =>
    rw [ha] at hown
    obtain ⟨A', c', rfl, _, _⟩ := own_shape hown
    exact .inl ⟨A', c', rfl, rfl, hbel⟩
  | some t =>
    rw [ha] at hown
    obtain ⟨h3, h4, h5, _, hp⟩ := put_pg h.pg hb ha
    obtain ⟨A', c', rfl, hv⟩ := PgV.own (w1 := w) h.b hown hp hbel
    exact .inr ⟨A', c', t, h3, h4, h5, rfl, hv, hbel⟩

theorem get_pgv (k : Int) :
    Calls Tryd.prog 56 #[.slice A 256 c, .int .i64 k] w fun e w' => ∃ A' c', e = .returned (.tuple #[.slice A' ((getP (some s) k).getD []).length c', .bool (takenP s k)]) ∧
      Rd w' w'.heap.size A' ((getP (some s) k).getD []).length (cells ((getP (some s) k).getD [])) ∧ Below w.heap.size w w' := by
  refine (get_any w A 256 c l h.sl k).mono ?_
  rintro e w' ⟨v, rfl, hown, hbel⟩
  rw [h.of] at hown ⊢
  obtain ⟨A', c', rfl, _, _⟩ := own_shape hown
  refine ⟨A', c', ?_, Rd.of_own hown, hbel⟩
  simp only [getP]
  split
  · rename_i ht; rw [ht]; rfl
  · rename_i ht; rw [Bool.not_eq_true] at ht; rw [ht]; rfl

theorem cut_pgv (k : Int) (ht : takenP s k = true) :
    Calls Tryd.prog 53 #[.slice A 256 c, .int .i64 k] w fun e w' => ∃ A' c' l', e = .returned (.tuple #[.slice A' 256 c', .bool true]) ∧ PgV w0 w' A' c' l' (trimP (setP s k.toNat none)) ∧ Below w.heap.size w w' := by
  refine (cut_any w A 256 c l h.sl k).mono ?_
  rintro e w' ⟨v, rfl, hown, hbel⟩
  rw [h.of] at hown ⊢
  simp only [cutP] at hown ⊢
  rw [if_pos ht] at hown ⊢
  obtain ⟨j, rfl, b, hj⟩ := taken_some ht
  have hjl : j < s.length := (List.getElem?_eq_some_iff.1 hj).1
  have hp : IsPg (imgP (trimP (setP s (j : Int).toNat none))) (trimP (setP s (j : Int).toNat none)) := ⟨trim_fit (cut_fit h.pg.fit (by simpa using hjl)), trim_trim _, rfl⟩
  obtain ⟨A', c', rfl, hv⟩ := PgV.own (w1 := w) h.b hown hp hbel
  exact ⟨A', c', _, rfl, hv, hbel⟩

theorem slots_pgv : Calls Tryd.prog 72 #[.slice A 256 c] w fun e w' => ∃ A' c', e = .returned (.slice A' (slotsN s s.length).length c') ∧
      Rd w' w'.heap.size A' (slotsN s s.length).length (cells64 (slotsN s s.length)) ∧ Below w.heap.size w w' := by
  refine (slots_any w A 256 c l h.sl).mono ?_
  rintro e w' ⟨v, rfl, hown, hbel⟩
  rw [h.of] at hown
  obtain ⟨A', c', rfl, _, _⟩ := own_shape hown
  exact ⟨A', c', rfl, Rd.of_own hown, hbel⟩

theorem right_pgv : Calls Tryd.prog 41 #[.slice A 256 c] w fun e w' => e = .returned (.bool true) ∧ Below w.heap.size w w' := by
  refine (right_sl w A 256 c l h.sl).mono ?_
  rintro e w' ⟨rfl, hb⟩
  rw [h.of]
  exact ⟨rfl, hb⟩
end

theorem slotsN_mem {s : List Slot} {n : Nat} {x : Int} (h : x ∈ slotsN s n) : ∃ (m : Nat) (b : List Int), x = m ∧ s[m]? = some (some b) := by
  simp only [slotsN, List.mem_map, List.mem_filter] at h
  obtain ⟨m, ⟨_, h2⟩, rfl⟩ := h
  refine ⟨m, ?_⟩
  cases ho : s[m]? with
  | none => rw [ho] at h2; cases h2
  | some o =>
    rw [ho] at h2
    cases o with
    | none => cases h2
    | some b => exact ⟨b, rfl, rfl⟩
theorem taken_at {s : List Slot} {m : Nat} {b : List Int} (h : s[m]? = some (some b)) : takenP s (m : Int) = true ∧ getP (some s) (m : Int) = some b := by
  have h1 : takenP s (m : Int) = true := by simp [takenP, h]
  refine ⟨h1, ?_⟩
  simp only [getP]
  rw [if_pos h1, Int.toNat_natCast, h]
  rfl
theorem set_other {s : List Slot} {k m : Nat} {o : Slot} {b : List Int} (h : s[m]? = some (some b)) (hne : m ≠ k) : (setP s k o)[m]? = some (some b) := by
  have h1 := set_far s k o m hne
  rw [h, Option.getD_some] at h1
  cases ho : (setP s k o)[m]? with
  | none => rw [ho] at h1; cases h1
  | some x => rw [ho] at h1; rw [← h1]; rfl

/-- what is cut and put again is as it was -/
theorem cut_put {t : List Slot} {k : Nat} {b : List Int} (hk : t[k]? = some (some b)) (ht : TrimP t) :
    setP (trimP (setP t k none)) k (some b) = t ∧ ¬ takenP (trimP (setP t k none)) (k : Int) = true := by
  have hkl : k < t.length := (List.getElem?_eq_some_iff.1 hk).1
  have hv : setP t k none = t.set k none := by
    unfold setP padP
    rw [show k + 1 - t.length = 0 by omega]
    simp
  rw [hv]
  have hback : (t.set k none).set k (some b) = t := by
    rw [List.set_set]
    apply List.ext_getElem?
    intro j
    rw [List.getElem?_set]
    split
    · rename_i e; subst e; first | rw [hk] | rw [if_pos hkl, hk]
    · rfl
  obtain ⟨j, hj⟩ := trim_split (t.set k none)
  have hlen := congrArg List.length hj
  rw [List.length_set, List.length_append, List.length_replicate] at hlen
  have hpad : padP (trimP (t.set k none)) (k + 1) = t.set k none := by
    rcases Nat.lt_or_ge (k + 1) t.length with h1 | h1
    · have hT : TrimP (t.set k none) := by
        unfold TrimP at ht ⊢
        rw [List.getLast?_eq_getElem?, List.length_set, List.getElem?_set_ne (by omega), ← List.getLast?_eq_getElem?]
        exact ht
      rw [trim_id hT]
      unfold padP
      rw [List.length_set, show k + 1 - t.length = 0 by omega]
      simp
    · unfold padP
      conv => rhs; rw [hj]
      congr 2
      omega
  refine ⟨?_, ?_⟩
  · show (padP (trimP (t.set k none)) (k + 1)).set k (some b) = t
    rw [hpad, hback]
  · intro h
    obtain ⟨i, hi, b', hb'⟩ := taken_some h
    obtain rfl : k = i := by omega
    have h1 : (t.set k none)[k]? = some none := by rw [List.getElem?_set_self hkl]
    rw [hj, List.getElem?_append_left (List.getElem?_eq_some_iff.1 hb').1, hb'] at h1
    cases h1
end Go.Proofs.YtdnegfjddpdmhaaDoor
