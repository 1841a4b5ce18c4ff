/-
  The contracts of taken, firstFree, room; of bytes.IndexByte at a nought.
-/
import Derived.Test.YtdnegfjddpdmhaaDoorBeg
import Derived.Lib.BytesEntry
namespace Go.Proofs.YtdnegfjddpdmhaaDoor
open Go.RowKit Go.Lib

/-- the first nought -/
def IbRet (l : List Int) (e : Ending) : Prop :=
  (e = .returned (.int .i64 (-1)) ∧ ∀ x ∈ l, x ≠ 0) ∨ ∃ k : Nat, e = .returned (.int .i64 k) ∧ l[k]? = some 0 ∧ ∀ j, j < k → l[j]? ≠ some 0

theorem indexByte_zero (l : List Int) (h : IsBytes l) :
    (Lib.indexByte (Lib.bytesOf l) (0 : Int).toNat.toUInt8 = -1 ∧ ∀ x ∈ l, x ≠ 0) ∨ ∃ k : Nat, Lib.indexByte (Lib.bytesOf l) (0 : Int).toNat.toUInt8 = k ∧ l[k]? = some 0 ∧ ∀ j, j < k → l[j]? ≠ some 0 := by
  induction l with
  | nil => exact .inl ⟨rfl, fun x h => by cases h⟩
  | cons x l ih =>
    have hx := h x (by simp)
    have e : Lib.bytesOf (x :: l) = x.toNat.toUInt8 :: Lib.bytesOf l := rfl
    rw [e, Lib.indexByte]
    by_cases h0 : x = 0
    · subst h0
      exact .inr ⟨0, by simp, rfl, fun j h => by omega⟩
    · have hne : (x.toNat.toUInt8 == (0 : Int).toNat.toUInt8) = false := by
        rw [beq_eq_false_iff_ne]
        intro e2
        have e3 := congrArg UInt8.toNat e2
        simp at e3
        omega
      rw [hne]
      simp only [Bool.false_eq_true, if_false]
      rcases ih (fun y hy => h y (by simp [hy])) with ⟨h1, h2⟩ | ⟨k, h1, h2, h3⟩
      · rw [h1]
        refine .inl ⟨by simp, fun y hy => ?_⟩
        rcases List.mem_cons.1 hy with rfl | hy
        · exact h0
        · exact h2 y hy
      · rw [h1]
        refine .inr ⟨k + 1, ?_, h2, fun j hj => ?_⟩
        · rw [if_neg (by simp)]; simp
        · match j with
          | 0 => simp [h0]
          | j + 1 => exact h3 j (by omega)

set_option maxRecDepth 100000 in
set_option maxHeartbeats 1000000 in
theorem indexByte_any (w : World) (B g m c : Nat) (l : List Int) (hl : l.length = m) (hr : Rd w B (some ⟨g, 1, none⟩) m (cells l)) (hb : IsBytes l) :
    Calls Tryd.prog 81 #[.slice (some ⟨g, 1, none⟩) m c, .int .u8 0] w fun e w' => IbRet l e ∧ w' = w := by
  have hc : ∀ i, i < m → w.cell? ⟨g, 1 + i, none⟩ = some (.int .u8 (l.getD i 0)) := by
    intro i hi
    obtain ⟨ad, u, e1, _, hu, hcc⟩ := hr.at_ hi
    obtain rfl := Option.some.inj e1
    rw [cells_at (by omega)] at hu
    rw [Addr.add_lit] at hcc
    rw [hcc, ← Option.some.inj hu]
    simp [List.getD, List.getElem?_eq_getElem (show i < l.length by omega)]
  have HR := Lib.hid (Lib.run_indexByteSlice (P := Tryd.prog) w g 1 m c l hl hc 0)
  have HI := Lib.hid (indexByte_zero l hb)
  clear hr hc
  go_enter Tryd.func81, Tryd.ntmps81
  go_wp2
  rw [run_callFunc_extern Tryd.func93 (by kernel_rfl) (by kernel_rfl) (by kernel_rfl) (e := Extern.BytealgIndexByte.indexByte) (by kernel_rfl), HR.out]
  obtain ⟨r, hr⟩ : ∃ r, r = Lib.indexByte (Lib.bytesOf l) (0 : Int).toNat.toUInt8 := ⟨_, rfl⟩
  rw [← hr] at HI ⊢
  have HF := Lib.hid (show IbRet l (.returned (.int .i64 r)) by
    rcases HI.out with ⟨h1, h2⟩ | ⟨k, h1, h2, h3⟩
    · exact .inl ⟨by rw [h1], h2⟩
    · exact .inr ⟨k, by rw [h1], h2, h3⟩)
  clear hr HI
  simp only [Result.andThen]
  rw [Oper.upon_value]
  go_wp2
  go_ret
  exact ⟨HF.out, rfl⟩

/-- the first free slot, or the one behind the last -/
def ffP : List Slot → Nat
  | [] => 0
  | o :: r => if o = none then 0 else ffP r + 1
theorem ff_le (s : List Slot) : ffP s ≤ s.length := by
  induction s with
  | nil => simp [ffP]
  | cons o r ih =>
    rw [ffP]
    split
    · omega
    · simp; omega
theorem ff_all {s : List Slot} (h : ∀ x ∈ marksP s, x ≠ 0) : ffP s = s.length := by
  induction s with
  | nil => rfl
  | cons o r ih =>
    have h0 := h (mkS o) (by simp [marksP])
    rw [ffP, if_neg (fun e => h0 (mkS_zero.2 e)), ih (fun x hx => h x (by simp only [marksP, List.map_cons, List.mem_cons]; exact .inr hx))]
    rfl
theorem ff_at {s : List Slot} : ∀ {k : Nat}, (marksP s)[k]? = some 0 → (∀ j, j < k → (marksP s)[j]? ≠ some 0) → ffP s = k := by
  induction s with
  | nil => intro k h _; simp [marksP] at h
  | cons o r ih =>
    intro k h1 h2
    rw [ffP]
    split
    · rename_i h0
      match k with
      | 0 => rfl
      | k + 1 => exact absurd (show (marksP (o :: r))[0]? = some 0 by simp [marksP, h0, mkS]) (h2 0 (by omega))
    · rename_i h0
      match k with
      | 0 =>
        exfalso
        have : mkS o = 0 := by simpa [marksP] using h1
        exact h0 (mkS_zero.1 this)
      | k + 1 => rw [ih (k := k) h1 (fun j hj => h2 (j + 1) (by omega))]

section
variable (w : World) (B g c : Nat) (p : List Int) (s : List Slot) (hp : IsPg p s) (h : PAt w B g c p s.length)
include hp h
omit h in
theorem pg_mk : mkL p s.length = marksP s := hp.marks

set_option maxRecDepth 100000 in
set_option maxHeartbeats 1000000 in
theorem firstFree_any : Calls Tryd.prog 60 #[.slice (some ⟨g, 0, none⟩) 256 c] w fun e w' => e = .returned (.int .i64 (ffP s)) ∧ w' = w := by
  have hn := h.n_le
  have HM := Lib.hid (marks_any w B g c p s.length h)
  have hi := indexByte_any w B g s.length (c - 1) (mkL p s.length) h.mk_len h.marks h.mk_bytes
  rw [pg_mk p s hp] at hi
  have HI := Lib.hid hi
  clear hi h hp
  go_enter Tryd.func60, Tryd.ntmps60
  go_wp2_with fail
  refine HM.out.mono ?_
  rintro e w' ⟨rfl, rfl⟩
  go_wp2_with fail
  refine HI.out.mono ?_
  rintro e w' ⟨⟨rfl, h2⟩ | ⟨k, rfl, h2, h3⟩, rfl⟩
  · have HF := Lib.hid (ff_all h2)
    clear h2
    go_wp2
    go_ret
    exact ⟨by rw [HF.out]; rfl, rfl⟩
  · have HF := Lib.hid (ff_at h2 h3)
    have hk0 : (0 : Int) ≤ (k : Int) := Int.natCast_nonneg _
    clear h2 h3
    go_wp2
    go_ret
    exact ⟨by rw [HF.out]; rfl, rfl⟩

/-- there is such a slot, and it isn't free -/
def takenP (s : List Slot) (k : Int) : Bool := decide (0 ≤ k) && ((s[k.toNat]?).getD none).isSome

set_option maxRecDepth 100000 in
set_option maxHeartbeats 1000000 in
theorem taken_any (k : Int) : Calls Tryd.prog 76 #[.slice (some ⟨g, 0, none⟩) 256 c, .int .i64 k] w fun e w' => e = .returned (.bool (takenP s k)) ∧ w' = w := by
  have hn := h.n_le
  have HM := Lib.hid (marks_any w B g c p s.length h)
  have H := Lib.hid (And.intro h hp)
  clear h hp
  by_cases h0 : 0 ≤ k
  · by_cases h1 : k < (s.length : Int)
    · obtain ⟨j, rfl⟩ : ∃ j : Nat, k = (j : Int) := ⟨k.toNat, by omega⟩
      have hj : j < s.length := by omega
      obtain ⟨o, ho⟩ : ∃ o, s[j]? = some o := ⟨_, List.getElem?_eq_getElem hj⟩
      have hm := H.out.2.mark ho
      have hcell := H.out.1.cell (k := 1 + j) (by omega)
      rw [(List.getElem?_eq_some_iff.1 hm).2] at hcell
      have HT := Lib.hid (show takenP s (j : Int) = (mkS o != 0) by
        simp only [takenP, Int.toNat_natCast, ho, Option.getD_some, decide_eq_true h0, Bool.true_and]
        cases o with
        | none => rfl
        | some b => simp [mkS]; omega)
      obtain ⟨m, hmm⟩ : ∃ m, m = mkS o := ⟨_, rfl⟩
      rw [← hmm] at HT hcell
      clear hm ho hmm
      go_enter Tryd.func76, Tryd.ntmps76
      go_wp2_with fail
      refine HM.out.mono ?_
      rintro e w' ⟨rfl, rfl⟩
      go_wp2
      go_ret
      exact ⟨by rw [HT.out]; rfl, rfl⟩
    · have HT := Lib.hid (show takenP s k = false by
        simp only [takenP]
        rw [List.getElem?_eq_none (by omega)]
        simp)
      go_enter Tryd.func76, Tryd.ntmps76
      go_wp2_with fail
      refine HM.out.mono ?_
      rintro e w' ⟨rfl, rfl⟩
      go_wp2
      go_ret
      exact ⟨by rw [HT.out]; rfl, rfl⟩
  · have HT := Lib.hid (show takenP s k = false by simp [takenP, h0])
    go_enter Tryd.func76, Tryd.ntmps76
    go_wp2_with fail
    refine HM.out.mono ?_
    rintro e w' ⟨rfl, rfl⟩
    go_wp2
    go_ret
    exact ⟨by rw [HT.out]; rfl, rfl⟩

/-- what begin answers -/
theorem begin_pg (x : Int) (k : Nat) (hx : x = k) (hk : k ≤ 1000) : Calls Tryd.prog 69 #[.slice (some ⟨g, 0, none⟩) 256 c, .int .i64 x] w fun e w' => e = .returned (.int .i64 ((256 - wtP (s.take k) : Nat) : Int)) ∧ w' = w := by
  subst hx
  have hb := begin_any w B g c p s.length h k hk
  have h1 := hp.slots
  have h2 := wt_take_le s k
  rw [pg_mk p s hp, marks_take, sum_marks, show (256 : Int) - ((wtP (s.take k) : Nat) : Int) = ((256 - wtP (s.take k) : Nat) : Int) by omega] at hb
  exact hb

/-- what room answers -/
def roomI (s : List Slot) (k : Int) : Int := if k < 0 ∨ 250 < k then -1 else roomP s k.toNat
set_option maxRecDepth 100000 in
set_option maxHeartbeats 2000000 in
theorem room_any (k : Int) : Calls Tryd.prog 59 #[.slice (some ⟨g, 0, none⟩) 256 c, .int .i64 k] w fun e w' => e = .returned (.int .i64 (roomI s k)) ∧ w' = w := by
  have hn := h.n_le
  by_cases h0 : k < 0
  · have HF := Lib.hid (show roomI s k = -1 by simp [roomI, h0])
    clear h hp
    go_enter Tryd.func59, Tryd.ntmps59
    go_wp2
    go_ret
    exact ⟨by rw [HF.out]; rfl, rfl⟩
  by_cases h1 : 250 < k
  · have HF := Lib.hid (show roomI s k = -1 by simp [roomI, h1])
    clear h hp
    go_enter Tryd.func59, Tryd.ntmps59
    go_wp2
    go_ret
    exact ⟨by rw [HF.out]; rfl, rfl⟩
  obtain ⟨j, rfl⟩ : ∃ j : Nat, k = (j : Int) := ⟨k.toNat, by omega⟩
  have hj : j ≤ 250 := by omega
  have HM := Lib.hid (marks_any w B g c p s.length h)
  have HB1 := Lib.hid (begin_pg w B g c p s hp h j j rfl (by omega))
  have HB2 := Lib.hid (begin_pg w B g c p s hp h ((j : Int) + 1) (j + 1) (by omega) (by omega))
  have hsM : s.length ≤ 255 := hn
  obtain ⟨mI, hmI⟩ : ∃ mI : Int, mI = if (s.length : Int) < (j : Int) + 1 then (j : Int) + 1 else (s.length : Int) := ⟨_, rfl⟩
  have HB3 := Lib.hid (begin_pg w B g c p s hp h mI (max s.length (j + 1)) (by rw [hmI]; split <;> omega) (by omega))
  have hsl := hp.slots
  have ht : s.take (max s.length (j + 1)) = s := List.take_of_length_le (by omega)
  rw [ht] at HB3
  have hw1 := wt_take_le s j
  have hw2 := wt_take_le s (j + 1)
  have how : wtP (s.take (j + 1)) = wtP (s.take j) + ownP s j := by
    unfold ownP
    rcases Nat.lt_or_ge j s.length with h5 | h5
    · rw [wt_take_succ (List.getElem?_eq_getElem h5), List.getElem?_eq_getElem h5]; rfl
    · rw [List.getElem?_eq_none h5, List.take_of_length_le h5, List.take_of_length_le (by omega)]; simp [bsS]
  obtain ⟨a1, ha1⟩ : ∃ a, a = 256 - wtP (s.take j) := ⟨_, rfl⟩
  obtain ⟨a2, ha2⟩ : ∃ a, a = 256 - wtP (s.take (j + 1)) := ⟨_, rfl⟩
  obtain ⟨a3, ha3⟩ : ∃ a, a = 256 - wtP s := ⟨_, rfl⟩
  obtain ⟨M, hM⟩ : ∃ M, M = max s.length (j + 1) := ⟨_, rfl⟩
  rw [← ha1] at HB1
  rw [← ha2] at HB2
  rw [← ha3] at HB3
  have hl1 : a1 ≤ 256 := by omega
  have hl2 : a2 ≤ 256 := by omega
  have hl3 : a3 ≤ 256 := by omega
  have hMl : M ≤ 255 := by omega
  have HF := Lib.hid (show roomI s (j : Int) = min 200 ((a3 : Int) + ((a1 : Int) - (a2 : Int)) - 1 - (M : Int)) by
    unfold roomI roomP
    rw [if_neg (by omega), Int.toNat_natCast]
    congr 1
    rw [← hM]
    omega)
  have HM0 := hM
  clear ha1 ha2 ha3 how hw1 hw2 ht hsl
  by_cases hlt : s.length < j + 1
  · have hlt1 : (s.length : Int) < (j : Int) + 1 := by omega
    have HMe := Lib.hid (show (M : Int) = ((j : Int) + 1) by omega)
    rw [hmI, if_pos hlt1] at HB3
    clear h hp hM hmI HM0
    go_enter Tryd.func59, Tryd.ntmps59
    go_wp2_with fail
    refine HM.out.mono ?_
    rintro e w' ⟨rfl, rfl⟩
    go_wp2_with fail
    refine HB1.out.mono ?_
    rintro e w' ⟨rfl, rfl⟩
    go_wp2_with fail
    refine HB2.out.mono ?_
    rintro e w' ⟨rfl, rfl⟩
    go_wp2_with fail
    refine HB3.out.mono ?_
    rintro e w' ⟨rfl, rfl⟩
    by_cases hmin : ¬ ((a3 : Int) + ((a1 : Int) - (a2 : Int)) - 1 - ((j : Int) + 1) < 200)
    · have HQ := Lib.hid (show roomI s (j : Int) = 200 by rw [HF.out, HMe.out]; omega)
      go_wp2
      go_ret
      exact ⟨by rw [HQ.out]; rfl, rfl⟩
    · have hmin2 : (a3 : Int) + ((a1 : Int) - (a2 : Int)) - 1 - ((j : Int) + 1) < 200 := by omega
      clear hmin
      have HQ := Lib.hid (show roomI s (j : Int) = (a3 : Int) + ((a1 : Int) - (a2 : Int)) - 1 - ((j : Int) + 1) by rw [HF.out, HMe.out]; omega)
      go_wp2
      go_ret
      exact ⟨by rw [HQ.out]; rfl, rfl⟩
  · have hlt1 : ¬ ((s.length : Int) < (j : Int) + 1) := by omega
    have HMe := Lib.hid (show (M : Int) = (s.length : Int) by omega)
    rw [hmI, if_neg hlt1] at HB3
    clear h hp hM hmI HM0
    go_enter Tryd.func59, Tryd.ntmps59
    go_wp2_with fail
    refine HM.out.mono ?_
    rintro e w' ⟨rfl, rfl⟩
    go_wp2_with fail
    refine HB1.out.mono ?_
    rintro e w' ⟨rfl, rfl⟩
    go_wp2_with fail
    refine HB2.out.mono ?_
    rintro e w' ⟨rfl, rfl⟩
    go_wp2_with fail
    refine HB3.out.mono ?_
    rintro e w' ⟨rfl, rfl⟩
    by_cases hmin : ¬ ((a3 : Int) + ((a1 : Int) - (a2 : Int)) - 1 - (s.length : Int) < 200)
    · have HQ := Lib.hid (show roomI s (j : Int) = 200 by rw [HF.out, HMe.out]; omega)
      go_wp2
      go_ret
      exact ⟨by rw [HQ.out]; rfl, rfl⟩
    · have hmin2 : (a3 : Int) + ((a1 : Int) - (a2 : Int)) - 1 - (s.length : Int) < 200 := by omega
      clear hmin
      have HQ := Lib.hid (show roomI s (j : Int) = (a3 : Int) + ((a1 : Int) - (a2 : Int)) - 1 - (s.length : Int) by rw [HF.out, HMe.out]; omega)
      go_wp2
      go_ret
      exact ⟨by rw [HQ.out]; rfl, rfl⟩
end
end Go.Proofs.YtdnegfjddpdmhaaDoor
