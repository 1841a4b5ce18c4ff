/-
  The contracts of the document's own reader (layer 1), more: Count, Text, Texts, Left.
-/
import Derived.Test.YtkdcnkadngbccaaGreatDoorRefR1
namespace Go.Proofs.YtkdcnkadngbccaaGreatDoor
open Go.RowKit Go.Lib

theorem RR.bytes {w : World} {g : Nat} {s : St} (h : RR w g s) : ∀ l, s = some l → IsBytes l := by
  intro l hl
  obtain ⟨_, _, _, l', _, _, _, _, _, hb, he⟩ := h
  rw [← he l hl]
  exact hb

/-- the bit that the reader is wrong, read -/
theorem RR.open_ {w : World} {g : Nat} {s : St} (h : RR w g s) :
    ∃ A n c l, Blk w g 55 #[.slice A n c, .bool s.isNone] ∧ w.cell? ⟨g, 0, none⟩ = some (.slice A n c) ∧ w.cell? ⟨g, 1, none⟩ = some (.bool s.isNone) ∧ w.frozen? ⟨g, 0, none⟩ = false ∧ w.frozen? ⟨g, 1, none⟩ = false ∧
      RR (w.setCell ⟨g, 1, none⟩ (.bool true)) g none ∧ n ≤ c ∧ c ≤ maxLen ∧ n ≤ 8000000000000 ∧ Rd w g A n (cells l) ∧ IsBytes l ∧ (∀ l', s = some l' → l = l') ∧ l.length = n := by
  obtain ⟨A, n, c, l, hblk, hnc, hcm, hn, hr, hb, hl⟩ := h
  exact ⟨A, n, c, l, hblk, RR.cell0 hblk, RR.cell1 hblk, hblk.frozen 0, hblk.frozen 1, RR.wrong hblk hnc hcm hn hr hb, hnc, hcm, hn, hr, hb, hl, by have := hr.len; rwa [cells_len] at this⟩

theorem rInt_bad {s : St} {n : Int} (h : rInt s = (n, none)) : n = 0 := by
  cases s with
  | none => simp [rInt] at h; exact h.symm
  | some l =>
    cases hn : num l with
    | none => rw [rInt_none hn] at h; simp at h; exact h.symm
    | some p => rw [rInt_some hn] at h; simp at h

set_option maxRecDepth 100000 in
set_option maxHeartbeats 3200000 in
theorem refcount_any (g : Nat) (s : St) (most : Int) (w : World) (h : RR w g s) :
    Calls Tryz.prog 31 #[.pointer (some ⟨g, 0, none⟩), .int .i64 most] w (RfRet g (.int .i64 (rCount s most).1) (rCount s most).2 w) := by
  have hbd := rint_bd s h.bytes
  have hcall := refint_any g s w h
  have hbad : ∀ n, rInt s = (n, none) → n = 0 := fun n => rInt_bad
  have hdef : rCount s most = if (rInt s).1 < 0 ∨ most < (rInt s).1 then (0, none) else rInt s := rfl
  generalize rInt s = p at hbd hcall hdef hbad
  obtain ⟨n, s1⟩ := p
  simp only at hbd hcall hdef
  obtain ⟨hbd1, hbd2⟩ := hbd
  have HC := Lib.hid hcall
  clear hcall h
  cases s1 with
  | none =>
    obtain rfl := hbad n rfl
    have HD := Lib.hid (show rCount s most = (0, none) by rw [hdef]; split <;> rfl)
    clear hdef hbad
    go_enter Tryz.func31, Tryz.ntmps31
    go_wp2_with (go_at_call 32; refine HC.out.mono ?_; rintro e w1 ⟨rfl, h5, h6⟩; obtain ⟨A1, n1, c1, l1, _, d0, d1, e0, e1, H1, _⟩ := h5.open_)
    go_ret
    rw [HD.out]
    exact ⟨rfl, H1, h6.trans (grown_set _ _ _ _)⟩
  | some l0 =>
    clear hbad
    rcases (show (n < 0 ∨ (0 ≤ n ∧ most < n)) ∨ (0 ≤ n ∧ n ≤ most) by omega) with hc | ⟨h1, h2⟩
    · have HD := Lib.hid (show rCount s most = (0, none) by rw [hdef, if_pos (by omega)])
      clear hdef
      rcases hc with h1 | ⟨h1, h2⟩
      all_goals
        go_enter Tryz.func31, Tryz.ntmps31
        go_wp2_with (go_at_call 32; refine HC.out.mono ?_; rintro e w1 ⟨rfl, h5, h6⟩; obtain ⟨A1, n1, c1, l1, _, d0, d1, e0, e1, H1, _⟩ := h5.open_)
        go_ret
        rw [HD.out]
        exact ⟨rfl, H1, h6.trans (grown_set _ _ _ _)⟩
    · have HD := Lib.hid (show rCount s most = (n, some l0) by rw [hdef, if_neg (by omega)])
      clear hdef
      go_enter Tryz.func31, Tryz.ntmps31
      go_wp2_with (go_at_call 32; refine HC.out.mono ?_; rintro e w1 ⟨rfl, h5, h6⟩; have H5 := Lib.hid h5; obtain ⟨A1, n1, c1, l1, _, d0, d1, e0, e1, H1, _⟩ := h5.open_)
      go_ret
      rw [HD.out]
      exact ⟨rfl, H5.out, h6⟩

set_option maxRecDepth 100000 in
set_option maxHeartbeats 3200000 in
theorem reftext_any (g : Nat) (s : St) (w : World) (h : RR w g s) :
    Calls Tryz.prog 33 #[.pointer (some ⟨g, 0, none⟩)] w (RfRet g (.string (mkStr (rText s).1)) (rText s).2 w) := by
  have hbd := rint_bd s h.bytes
  have hcall := refint_any g s w h
  have hbad : ∀ n, rInt s = (n, none) → n = 0 := fun n => rInt_bad
  have hdef : rText s = match (rInt s).2 with
    | none => ([], none)
    | some l => if (rInt s).1 < 0 ∨ (l.length : Int) < (rInt s).1 then ([], none) else (l.take (rInt s).1.toNat, some (l.drop (rInt s).1.toNat)) := rfl
  generalize rInt s = p at hbd hcall hdef hbad
  obtain ⟨n, s1⟩ := p
  simp only at hbd hcall hdef
  obtain ⟨hbd1, hbd2⟩ := hbd
  have HC := Lib.hid hcall
  clear hcall h
  have HN := Lib.hid (show Value.string (mkStr []) = .string ⟨#[]⟩ from rfl)
  cases s1 with
  | none =>
    obtain rfl := hbad n rfl
    have HD := Lib.hid (show rText s = ([], none) from hdef)
    clear hdef hbad
    go_enter Tryz.func33, Tryz.ntmps33
    go_wp2_with (go_at_call 32; refine HC.out.mono ?_; rintro e w1 ⟨rfl, h5, h6⟩; obtain ⟨A1, n1, c1, l1, _, d0, d1, e0, e1, H1, _⟩ := h5.open_)
    go_ret
    rw [HD.out]
    exact ⟨rfl, H1, h6.trans (grown_set _ _ _ _)⟩
  | some l0 =>
    clear hbad
    simp only at hdef
    rcases (show (n < 0 ∨ (0 ≤ n ∧ (l0.length : Int) < n)) ∨ (0 ≤ n ∧ n ≤ l0.length) by omega) with hc | ⟨h1, h2⟩
    · have HD := Lib.hid (show rText s = ([], none) by rw [hdef, if_pos (by omega)])
      clear hdef
      rcases hc with h1 | ⟨h1, h2⟩
      all_goals
        go_enter Tryz.func33, Tryz.ntmps33
        go_wp2_with (go_at_call 32; refine HC.out.mono ?_; rintro e w1 ⟨rfl, h5, h6⟩; obtain ⟨A1, n1, c1, l1, _, d0, d1, e0, e1, H1, _, _, _, _, _, hl1, hlen1⟩ := h5.open_; have hll := hl1 l0 rfl; subst hll; subst hlen1; clear hl1)
        go_ret
        rw [HD.out]
        exact ⟨rfl, H1, h6.trans (grown_set _ _ _ _)⟩
    · obtain ⟨m, rfl⟩ : ∃ m : Nat, n = (m : Int) := ⟨n.toNat, by omega⟩
      have hml : m ≤ l0.length := by omega
      have HD := Lib.hid (show rText s = (l0.take m, some (l0.drop m)) by rw [hdef, if_neg (by omega)]; rfl)
      clear hdef
      go_enter Tryz.func33, Tryz.ntmps33
      go_wp2_with (go_at_call 32; refine HC.out.mono ?_; rintro e w1 ⟨rfl, h5, h6⟩; obtain ⟨A1, n1, c1, l1, hblk1, d0, d1, e0, e1, H1, hnc1, hcm1, hn1, hr1, hb1, hl1, hlen1⟩ := h5.open_; have hll := hl1 l0 rfl; subst hll; subst hlen1; clear hl1; have hcv := run_str (P := Tryz.prog) w1 25 9 5 A1 m c1 g (l1.take m) Tryz.underlying25 Tryz.underlying5 Tryz.underlying9 (by have h := hr1.cuth hml; simpa [cells, List.map_take] using h))
      all_goals
        go_ret
        rw [HD.out]
        first | exact ⟨rfl, RR.next_at hblk1 hnc1 hcm1 hn1 hr1 hb1 hml (by assumption), h6.trans (grown_set _ _ _ _)⟩ | exact ⟨rfl, RR.next_far hblk1 hnc1 hcm1 hn1 hr1 hb1 hml (by assumption), h6.trans (grown_set _ _ _ _)⟩

end Go.Proofs.YtkdcnkadngbccaaGreatDoor
