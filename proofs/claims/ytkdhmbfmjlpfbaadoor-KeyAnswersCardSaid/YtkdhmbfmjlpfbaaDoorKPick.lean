/-
  Picks: the program's and the document's own; copies of numbers.
-/
import Derived.Test.YtkdhmbfmjlpfbaaDoorKRow
namespace Go.Proofs.YtkdhmbfmjlpfbaaDoor
open Go.RowKit Go.Lib

/-- the values at those places, if all are places -/
def pickL (vs : List Va) : List Int → Option (List Va)
  | [] => some []
  | p :: l => if h : 0 ≤ p ∧ p.toNat < vs.length then (pickL vs l).map fun r => vs[p.toNat] :: r else none
theorem pickL_app (vs : List Va) (a b : List Int) : pickL vs (a ++ b) = (pickL vs a).bind fun r => (pickL vs b).map fun q => r ++ q := by
  induction a with
  | nil => simp [pickL]
  | cons p a ih =>
    simp only [List.cons_append, pickL]
    split
    · rw [ih]
      cases pickL vs a with
      | none => rfl
      | some r => cases pickL vs b <;> simp
    · rfl
theorem pickL_len {vs : List Va} : ∀ {l : List Int} {r : List Va}, pickL vs l = some r → r.length = l.length
  | [], r, h => by simp [pickL] at h; subst h; rfl
  | p :: l, r, h => by
    unfold pickL at h
    split at h
    · cases hp : pickL vs l with
      | none => rw [hp] at h; cases h
      | some q =>
        rw [hp] at h
        simp at h
        subst h
        simp [pickL_len hp]
    · cases h
/-- one more place -/
theorem pick_yes {vs : List Va} {l : List Int} {k : Nat} (hk : k < l.length) {r : List Va} (h : pickL vs (l.take k) = some r) {p : Int} (hp : p = l[k]) (h0 : 0 ≤ p) (h1 : p.toNat < vs.length) : pickL vs (l.take (k + 1)) = some (r ++ [vs[p.toNat]]) := by
  rw [List.take_succ_eq_append_getElem hk, pickL_app, h, ← hp]
  simp [pickL, h0, h1]
theorem pick_no {vs : List Va} {l : List Int} {k : Nat} (hk : k < l.length) {r : List Va} (h : pickL vs (l.take k) = some r) {p : Int} (hp : p = l[k]) (hn : ¬ (0 ≤ p ∧ p.toNat < vs.length)) : pickL vs l = none := by
  have e : l = l.take k ++ ([l[k]] ++ l.drop (k + 1)) := by
    rw [List.singleton_append, ← List.drop_eq_getElem_cons hk, List.take_append_drop]
  rw [e, pickL_app, pickL_app, h, ← hp]
  simp [pickL, hn]

def cells64 (l : List Int) : List Value := l.map (Value.int .i64)
theorem cells64_len (l : List Int) : (cells64 l).length = l.length := by simp [cells64]
theorem cells64_one (l : List Int) : ∀ u ∈ cells64 l, u.oneCell' = true := ints_oneCell .i64 l
theorem cells64_at {l : List Int} {k : Nat} (hk : k < l.length) : (cells64 l)[k]? = some (.int .i64 l[k]) := by simp [cells64, hk]

/-- what a pick hands back -/
def PickRet (vs : List Va) (at' : List Int) (w : World) (e : Ending) (w' : World) : Prop :=
  Below w.heap.size w w' ∧ ((∃ (ps : List Va) (A : Option Addr) (c : Nat), pickL vs at' = some ps ∧ e = .returned (.tuple #[.slice A ps.length c, .bool true]) ∧ w'.ownsRow w.heap.size 43 3 (.slice A ps.length c) ps.length (cellsR ps)) ∨
    (pickL vs at' = none ∧ e = .returned (.tuple #[.slice none 0 0, .bool false])))

def RpRel (vs : List Va) (l : List Int) (w : World) (v i : Value) (wr : World) : Prop :=
  ∃ (k : Nat) (r : List Va), k ≤ l.length ∧ i = .int .i64 k ∧ pickL vs (l.take k) = some r ∧ wr.ownsRow w.heap.size 43 3 v r.length (cellsR r) ∧ Below w.heap.size w wr

set_option maxRecDepth 100000 in
set_option maxHeartbeats 3200000 in
theorem refPick_any (A A' : Option Addr) (c c' : Nat) (vs : List Va) (l : List Int) (w : World) (h : RowIn w w.heap.size A vs) (hm : vs.length ≤ 1000000) (h' : Rd w w.heap.size A' l.length (cells64 l)) (hl : l.length ≤ 1000) :
    Calls Tryd.prog 18 #[.slice A vs.length c, .slice A' l.length c'] w (PickRet vs l w) := by
  have H := Lib.hid (And.intro h h')
  have HL0 := Lib.hid (show (w.alloc (.cells #[] 43)).ownsRow w.heap.size 43 3 (.slice (some ⟨w.heap.size, 0, none⟩) 0 0) ([] : List Va).length (cellsR []) from row_lit w [] (by simp [maxLen]))
  clear h h'
  go_enter Tryd.func18, Tryd.ntmps18
  go_wp2_with fail
  go_loopw [6, 7] (fun v i wr => RpRel vs l w v i wr) (fun _ i _ => l.length - (Lib.intOf i).toNat)
  case atStart => exact ⟨0, [], by omega, rfl, by simp [pickL], HL0.out, (Below.refl _ _).alloc (Nat.le_refl _) _⟩
  case round =>
    obtain ⟨k, r, hk, rfl, hp, hown, hb⟩ := hrel
    obtain ⟨A2, c2, rfl, _, _⟩ := own3_shape hown
    have HR := Lib.hid (And.intro hp (And.intro hown hb))
    have hrl := pickL_len hp
    rw [List.length_take, Nat.min_eq_left hk] at hrl
    have hsz := hb.size
    have HRL := Lib.hid hrl
    clear hp hown hb hrl
    have hk0 : (0 : Int) ≤ (k : Int) := Int.natCast_nonneg _
    by_cases hlt : k < l.length
    · have hlt1 : (k : Int) < (l.length : Int) := by omega
      obtain ⟨ad, u, rfl, _, hu, hc⟩ := (H.out.2.below HR.out.2.2 (Nat.le_refl _)).at_ hlt
      rw [cells64_at hlt] at hu
      obtain rfl := Option.some.inj hu
      obtain ⟨p, hpk⟩ : ∃ p, p = l[k] := ⟨_, rfl⟩
      rw [← hpk] at hc
      have HP := Lib.hid hpk
      clear hu hpk
      by_cases hp0 : p < 0
      · have HF := Lib.hid (show PickRet vs l w (.returned (.tuple #[.slice none 0 0, .bool false])) wr from ⟨HR.out.2.2, .inr ⟨pick_no hlt HR.out.1 HP.out (by omega), rfl⟩⟩)
        go_wp2
        refine bodyPost_ret (results_tmp2 rfl _ _ _) rfl ?_
        exact HF.out
      by_cases hp1 : (vs.length : Int) ≤ p
      · have HF := Lib.hid (show PickRet vs l w (.returned (.tuple #[.slice none 0 0, .bool false])) wr from ⟨HR.out.2.2, .inr ⟨pick_no hlt HR.out.1 HP.out (by omega), rfl⟩⟩)
        go_wp2
        refine bodyPost_ret (results_tmp2 rfl _ _ _) rfl ?_
        exact HF.out
      obtain ⟨n, rfl⟩ : ∃ n : Nat, p = (n : Int) := ⟨p.toNat, by omega⟩
      have hn0 : (0 : Int) ≤ (n : Int) := Int.natCast_nonneg _
      have hnv : n < vs.length := by omega
      have hnv1 : (n : Int) < (vs.length : Int) := by omega
      obtain ⟨ad2, rfl, _, c0, c1, c2'⟩ := (H.out.1.below HR.out.2.2 (Nat.le_refl _)).at_ hnv
      have hyes := pick_yes hlt HR.out.1 HP.out hn0 (by simpa using hnv)
      simp only [Int.toNat_natCast] at hyes
      obtain ⟨x, hx⟩ : ∃ x, x = vs[n] := ⟨_, rfl⟩
      rw [← hx] at c0 c1 c2' hyes
      have hlit := RowIn.of_own (row_lit wr [x] (by simp [maxLen]))
      obtain ⟨w4, hw4⟩ : ∃ w4, w4 = wr.alloc (.cells #[.int .i64 x.k, .int .i64 x.n, .string x.s] 43) := ⟨_, rfl⟩
      have hlit' : RowIn w4 w4.heap.size (some ⟨wr.heap.size, 0, none⟩) [x] := by rw [hw4]; simpa [cellsR, vcell] using hlit
      have hb4 : Below wr.heap.size wr w4 := by rw [hw4]; exact (Below.refl _ _).alloc (Nat.le_refl _) _
      have HX := Lib.hid (And.intro hw4 (And.intro hlit' (And.intro hb4 hyes)))
      have HO4 := Lib.hid (own3_below HR.out.2.1 hb4 (Nat.le_refl _))
      clear hlit hw4 hlit' hb4 hyes hx
      go_wp2_with (at_builtin; rw [← HX.out.1]; refine wpList_append_row rfl (.tmp 29) (.tmp 37) rfl w.heap.size _ r rfl HO4.out w4.heap.size _ 1 [x] rfl HX.out.2.1 ?c3 ?c4 ?c5 ?_)
      case c3 => have := HRL.out; unfold maxLen; simp; omega
      case c4 => have := HRL.out; simp; omega
      case c5 => exact Nat.le_trans hsz HX.out.2.2.1.size
      intro v' w5 hown5 hgrow
      have HN := Lib.hid (show RpRel vs l w v' (.int .i64 ((k : Int) + 1)) w5 from ⟨k + 1, r ++ [x], by omega, by go_num, HX.out.2.2.2, by rw [List.length_append]; exact hown5,
        (HR.out.2.2.trans (HX.out.2.2.1.mono hsz)).trans (below_own3 HO4.out hgrow (Nat.le_trans hsz HX.out.2.2.1.size))⟩)
      clear hown5 hgrow c0 c1 c2' hc
      go_wp2
      go_roundw
      case rel => exact HN.out
      case measure => simp [Lib.intOf]; omega
    · have hlt1 : ¬ (k : Int) < (l.length : Int) := by omega
      have HF := Lib.hid (show PickRet vs l w (.returned (.tuple #[.slice A2 r.length c2, .bool true])) wr from ⟨HR.out.2.2, .inl ⟨r, A2, c2, by have := HR.out.1; rwa [List.take_of_length_le (by omega)] at this, rfl, HR.out.2.1⟩⟩)
      go_wp2
      refine bodyPost_ret (results_tmp2 rfl _ _ _) rfl ?_
      exact HF.out

theorem Tryd.info3 : (Tryd.prog.info? 3).map (fun i => (i.zero, i.size, i.bytes)) = some (some (.int .i64 0), 1, 8) := by kernel_rfl
/-- numbers of the call's own are handed back -/
def IntsRet (l : List Int) (w : World) (e : Ending) (w' : World) : Prop :=
  ∃ v', e = .returned v' ∧ w'.ownsRow w.heap.size 3 1 v' l.length (cells64 l) ∧ Below w.heap.size w w'
set_option maxRecDepth 100000 in
set_option maxHeartbeats 800000 in
theorem copyInts_any (A : Option Addr) (c : Nat) (l : List Int) (w : World) (h : Rd w w.heap.size A l.length (cells64 l)) (hm : l.length ≤ 1000000) :
    Calls Tryd.prog 12 #[.slice A l.length c] w (IntsRet l w) := by
  obtain ⟨i0, hi, hz0, hz1, hz2⟩ := info_parts Tryd.info3
  have hl : (w.alloc (.cells #[] 3)).ownsRow w.heap.size 3 1 (.slice (some ⟨w.heap.size, 0, none⟩) 0 0) 0 [] := World.ownsRow_lit (base := w.heap.size) w #[] 0 (Nat.le_refl _) (by simp [maxLen]) (by simp)
  have hb := (Below.refl w.heap.size w).alloc (Nat.le_refl _) (.cells #[] 3)
  obtain ⟨w1, hw1⟩ : ∃ w1, w1 = w.alloc (.cells #[] 3) := ⟨_, rfl⟩
  rw [← hw1] at hb hl
  have HW := Lib.hid hw1
  have H := Lib.hid (And.intro hl (And.intro hb (h.below hb (Nat.le_refl _))))
  clear hw1 hb hl h
  go_enter Tryd.func12, Tryd.ntmps12
  go_wp2_with (at_builtin; rw [← HW.out]; refine wpList_append_rd _ rfl (.tmp 5) (.tmp 6) 24 rfl w.heap.size 3 i0 (.int .i64 0) 8 Tryd.underlying24 hi hz0 hz1 hz2 rfl _ _ _ rfl H.out.1 w.heap.size A l.length c _ rfl H.out.2.2 (cells64_one _) ?c3 ?c4 ?c5 ?_)
  case c3 => simp [maxLen]; omega
  case c4 => simp; omega
  case c5 => exact H.out.2.1.size
  intro v' w2 hown hgrow
  have HF := Lib.hid (show IntsRet l w (.returned v') w2 from ⟨v', rfl, by simpa using hown, H.out.2.1.trans (below_own H.out.1 hgrow H.out.2.1.size)⟩)
  clear hown hgrow
  go_wp2
  go_ret
  exact HF.out

def SiRel (n : Nat) (w : World) (i : Value) (wr : World) : Prop := ∃ k d : Nat, k ≤ n ∧ i = .int .i64 k ∧ wr = w.drewN d
set_option maxRecDepth 100000 in
set_option maxHeartbeats 1600000 in
theorem sameInts_yes (A A' : Option Addr) (c c' : Nat) (l : List Int) (w : World) (B B' : Nat) (h : Rd w B A l.length (cells64 l)) (h' : Rd w B' A' l.length (cells64 l)) (hm : l.length ≤ 1000000) :
    Calls Tryd.prog 21 #[.slice A l.length c, .slice A' l.length c'] w fun e w' => e = .returned (.bool true) ∧ ∃ d, w' = w.drewN d := by
  have H := Lib.hid (And.intro h h')
  clear h h'
  go_enter Tryd.func21, Tryd.ntmps21
  go_wp2
  go_loopw [5] (fun i wr => SiRel l.length w i wr) (fun i _ => l.length - (Lib.intOf i).toNat)
  case atStart => exact ⟨0, 0, by omega, rfl, rfl⟩
  case round =>
    obtain ⟨k, d, hk, rfl, hw⟩ := hrel
    have HW := Lib.hid hw
    have hk0 : (0 : Int) ≤ (k : Int) := Int.natCast_nonneg _
    by_cases hlt : k < l.length
    · have hlt1 : (k : Int) < (l.length : Int) := by omega
      obtain ⟨ad, u, rfl, _, hu, hc⟩ := (H.out.1.drewN d).at_ hlt
      obtain ⟨ad', u', rfl, _, hu', hc'⟩ := (H.out.2.drewN d).at_ hlt
      rw [cells64_at hlt] at hu hu'
      obtain rfl := Option.some.inj hu
      obtain rfl := Option.some.inj hu'
      rw [← hw] at hc hc'
      obtain ⟨x, hx⟩ : ∃ x, x = l[k] := ⟨_, rfl⟩
      rw [← hx] at hc hc'
      clear hu hu' hx hw
      go_wp2
      go_quiet (fail)
      go_wp2
      go_roundw
      case rel => exact ⟨k + 1, _, by omega, by go_num, by rw [HW.out]; exact World.drewN_drewN _ _ _⟩
      case measure => simp [Lib.intOf]; omega
    · have hlt1 : ¬ (k : Int) < (l.length : Int) := by omega
      clear hw
      go_wp2
      go_ret
      exact ⟨rfl, d, HW.out⟩
end Go.Proofs.YtkdhmbfmjlpfbaaDoor
