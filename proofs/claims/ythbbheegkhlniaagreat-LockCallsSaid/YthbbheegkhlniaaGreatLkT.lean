/-
  What the laws want of the program's locks; alive.
-/
import Derived.Test.YthbbheegkhlniaaGreatM02
import Derived.Test.YthbbheegkhlniaaGreatM03
import Derived.Deep.Cut
import Derived.Deep.RegionHeld3
namespace Go.Proofs.YthbbheegkhlniaaGreat
open Go.RowKit Go.Lib

def NumI (x : Int) : Prop := -9223372036854775808 ≤ x ∧ x ≤ 9223372036854775807
/-- how long a text may be that is handed in: 2^47 -/
def roomLen : Nat := 140737488355328
def Th.In (x : Th) : Prop := NumI x.k ∧ x.t.size ≤ roomLen ∧ x.y.size ≤ roomLen
def intV (z : Int) : List Value := [.int .i64 z]
def intsV (l : List Int) : List Value := l.map fun x => .int .i64 x
def heldC (h : Int × Int × Bool) : List Value := [.int .i64 h.1, .int .i64 h.2.1, .bool h.2.2]
abbrev wantV (t : Th) (m : Int) : Value := .agg #[.int .i64 t.k, .string t.t, .string t.y, .int .i64 m]
def waitR (l : Lk) (x : Int) : Value := match waitL l.W x with
  | some o => .tuple #[wantV o.th o.m, .bool true]
  | none => .tuple #[wantV ⟨0, eS, eS⟩ 0, .bool false]
def szL (l : Lk) : Nat := l.H.length + l.W.length
theorem below_dN {C : Nat} {w w' : World} (h : Below C w w') (d : Nat) : Below C w (w'.drewN d) := ⟨h.os, h.tape, h.output, h.size, h.block⟩
/-- a number of a row that is read -/
theorem int_at {w : World} {B : Nat} {A : Option Addr} {vs : List Int} (h : RowG intV 1 w B A vs) {i : Nat} (hi : i < vs.length) : ∃ ad, A = some ad ∧ ad.block < B ∧ w.cell? (ad.add i) = some (.int .i64 vs[i]) := by
  obtain ⟨ad, rfl, hlt⟩ := h.lo (by omega)
  obtain ⟨ad', e, hc⟩ := h.cell i hi 0 _ rfl
  obtain rfl := Option.some.inj e
  rw [Nat.mul_one, Nat.add_zero] at hc
  exact ⟨ad, rfl, hlt, hc⟩
set_option maxRecDepth 100000 in
set_option maxHeartbeats 3200000 in
theorem sameI_yes {w : World} {A A' : Option Addr} {n n' c c' B B' : Nat} {l : List Int} (hn : n = l.length) (hn' : n' = l.length) (h1 : RowG intV 1 w B A l) (h2 : RowG intV 1 w B' A' l) (hl : l.length ≤ 1000000) :
    Calls Tryz.prog 9 #[.slice A n c, .slice A' n' c'] w fun e w' => e = .returned (.bool true) ∧ Below w.heap.size w w' := by
  obtain rfl : n' = n := by rw [hn, hn']
  have H := Lib.hid (And.intro h1 (And.intro h2 hn))
  have hnl : n' ≤ 1000000 := by omega
  have hn0 : (0 : Int) ≤ (n' : Int) := Int.natCast_nonneg _
  clear h1 h2 hn hn'
  go_enter Tryz.func9, Tryz.ntmps9
  go_wp2_with fail
  go_loopw [5] (fun i wr => ∃ k d : Nat, k ≤ n' ∧ i = .int .i64 k ∧ wr = w.drewN d) (fun i _ => n' - (intOf i).toNat)
  case atStart => exact ⟨0, 0, by omega, rfl, rfl⟩
  case round =>
    obtain ⟨k, d, hk, rfl, hw⟩ := hrel
    have HW := Lib.hid hw
    have hk0 : (0 : Int) ≤ (k : Int) := Int.natCast_nonneg _
    by_cases hlt : k < n'
    · have hk1 : (k : Int) < (n' : Int) := by omega
      have hkl : k < l.length := by rw [← H.out.2.2]; exact hlt
      obtain ⟨ad, rfl, _, a0⟩ := int_at H.out.1 hkl
      obtain ⟨ad', rfl, _, b0⟩ := int_at H.out.2.1 hkl
      have c0 : wr.cell? (ad.add k) = some (.int .i64 l[k]) := by rw [hw]; exact a0
      have d0 : wr.cell? (ad'.add k) = some (.int .i64 l[k]) := by rw [hw]; exact b0
      obtain ⟨x, hx⟩ : ∃ x, x = l[k] := ⟨_, rfl⟩
      rw [← hx] at c0 d0
      clear hw a0 b0 hx
      go_wp2_with fail
      go_quiet (fail)
      go_wp2_with fail
      go_roundw
      case rel => exact ⟨k + 1, _, by omega, by go_num, by rw [HW.out]; exact World.drewN_drewN _ _ _⟩
      case measure => simp [intOf]; omega
    · have hkn : ¬ ((k : Int) < (n' : Int)) := by omega
      have hb : Below w.heap.size w wr := by rw [hw]; exact below_dN (Below.refl _ _) _
      have HB := Lib.hid hb
      clear hw hb
      go_wp2_with fail
      go_ret
      exact ⟨rfl, HB.out⟩
abbrev LkP := Nat → (Nat → Prop) → World → Nat → Lk → Prop
abbrev ptrL (tb : Nat) : Value := .pointer (some ⟨tb, 0, none⟩)
/-- a row of numbers is answered -/
def IntsRet (w : World) (xs : List Int) (w' : World) (v : Value) : Prop := ∃ A n c, v = .slice A n c ∧ n = xs.length ∧ w'.ownsRow w.heap.size 3 1 (.slice A n c) n (intsV xs)
/-- the locks' contract: T B D w tb l = at block tb lie locks such as l, in the footprint D -/
structure ImplL (T : LkP) : Prop where
  below : ∀ {B D w w' tb l}, T B D w tb l → Below w.heap.size w w' → T B D w' tb l
  chg : ∀ {B D w w' tb l} {F : Nat → Prop}, T B D w tb l → Chg F w w' → (∀ k, D k → ¬ F k) → T B D w' tb l
  foot : ∀ {B D w tb l}, T B D w tb l → ∀ {k}, D k → B ≤ k ∧ k < w.heap.size
  ok : ∀ {B D w tb l}, T B D w tb l → LkOk l
  new : ∀ (w : World) (B : Nat), B ≤ w.heap.size → Calls Tryz.prog 6 #[] w fun e w' => ∃ tb D, e = .returned (ptrL tb) ∧ T B D w' tb ⟨[], []⟩ ∧ (∀ k, D k → w.heap.size ≤ k) ∧ Below w.heap.size w w'
  ask : ∀ {B D w tb l} (x : Int) (t : Th) (m : Int), T B D w tb l → szL l ≤ 1000 → B ≤ w.heap.size → NumI x → t.In → NumI m → Calls Tryz.prog 7 #[ptrL tb, .int .i64 x, wantV t m] w fun r w' => r = .returned (.tuple #[.bool (askL l x t m).2.1, .int .i64 (askL l x t m).2.2]) ∧ T B (Ext D w w') w' tb (askL l x t m).1 ∧ Chg D w w'
  cancel : ∀ {B D w tb l} (x : Int), T B D w tb l → szL l ≤ 1000 → B ≤ w.heap.size → NumI x → Calls Tryz.prog 10 #[ptrL tb, .int .i64 x] w fun r w' => ∃ v, r = .returned v ∧ IntsRet w (cancelL l x).2 w' v ∧ T B (Ext D w w') w' tb (cancelL l x).1 ∧ Chg D w w'
  release : ∀ {B D w tb l} (x : Int), T B D w tb l → szL l ≤ 1000 → B ≤ w.heap.size → NumI x → Calls Tryz.prog 12 #[ptrL tb, .int .i64 x] w fun r w' => ∃ v, r = .returned v ∧ IntsRet w (releaseL l x).2 w' v ∧ T B (Ext D w w') w' tb (releaseL l x).1 ∧ Chg D w w'
  blockers : ∀ {B D w tb l} (x : Int), T B D w tb l → szL l ≤ 1000 → NumI x → Calls Tryz.prog 19 #[ptrL tb, .int .i64 x] w fun r w' => ∃ v, r = .returned v ∧ IntsRet w (blockL l x) w' v ∧ Below w.heap.size w w'
  waiting : ∀ {B D w tb l} (x : Int), T B D w tb l → szL l ≤ 1000 → NumI x → Calls Tryz.prog 14 #[ptrL tb, .int .i64 x] w fun r w' => r = .returned (waitR l x) ∧ Below w.heap.size w w'
  mode : ∀ {B D w tb l} (x : Int) (t : Th), T B D w tb l → szL l ≤ 1000 → NumI x → t.In → Calls Tryz.prog 21 #[ptrL tb, .int .i64 x, thV t] w fun r w' => r = .returned (.int .i64 (modeL l.H x t)) ∧ Below w.heap.size w w'
  state : ∀ {B D w tb l} (t : Th), T B D w tb l → szL l ≤ 1000 → t.In → Calls Tryz.prog 17 #[ptrL tb, thV t] w fun r w' => ∃ A n c, r = .returned (.slice A n c) ∧ n = (stateL l t).length ∧ w'.ownsRow w.heap.size 62 3 (.slice A n c) n ((stateL l t).flatMap heldC) ∧ Below w.heap.size w w'
  things : ∀ {B D w tb l} (x : Int), T B D w tb l → szL l ≤ 1000 → NumI x → Calls Tryz.prog 23 #[ptrL tb, .int .i64 x] w fun r w' => ∃ A n c, r = .returned (.slice A n c) ∧ n = (thingsL l.H x).length ∧ w'.ownsRow w.heap.size 32 3 (.slice A n c) n (ths (thingsL l.H x)) ∧ Below w.heap.size w w'
/-- the program's locks (tb, D, l) alone, made since w0 -/
structure Tl (T : LkP) (w0 w : World) (tb : Nat) (D : Nat → Prop) (l : Lk) : Prop where
  t : T w0.heap.size D w tb l
  low : Below w0.heap.size w0 w
section
variable {T : LkP} (I : ImplL T) {w0 w w' : World} {tb : Nat} {D : Nat → Prop} {l l' : Lk}
include I
theorem Tl.below (h : Tl T w0 w tb D l) (hb : Below w.heap.size w w') : Tl T w0 w' tb D l := ⟨I.below h.t hb, h.low.trans (hb.mono h.low.size)⟩
theorem Tl.step (h : Tl T w0 w tb D l) (ht : T w0.heap.size (Ext D w w') w' tb l') (hc : Chg D w w') : Tl T w0 w' tb (Ext D w w') l' := ⟨ht, h.low.trans (hc.below (fun _ hk => (I.foot h.t hk).1) h.low.size)⟩
end
/-! ### how many there are -/
theorem sweepGo_sz (t : Th) : ∀ (pend done H : List Od), (sweepGo t done H pend).1.length + (sweepGo t done H pend).2.1.length ≤ H.length + done.length + pend.length
  | [], done, H => by simp [sweepGo]
  | o :: r, done, H => by
    rw [sweepGo]
    split
    · have h1 := sweepGo_sz t r done (giveL o H)
      have h2 := giveL_len o H
      simp only [List.length_cons]
      omega
    · have h1 := sweepGo_sz t r (done ++ [o]) H
      simp only [List.length_cons, List.length_append, List.length_nil] at h1 ⊢
      omega
theorem sweepL_sz (l : Lk) (t : Th) : szL (sweepL l t).1 ≤ szL l := by
  have := sweepGo_sz t l.W [] l.H
  unfold szL sweepL
  simpa using this
theorem sweepAll_sz : ∀ (ts : List Th) (l : Lk), szL (sweepAll ts l).1 ≤ szL l
  | [], _ => Nat.le_refl _
  | t :: r, l => by
    have e : sweepAll (t :: r) l = ((sweepAll r (sweepL l t).1).1, (sweepL l t).2 ++ (sweepAll r (sweepL l t).1).2) := rfl
    rw [e]
    have h1 := sweepAll_sz r (sweepL l t).1
    have h2 := sweepL_sz l t
    simp only
    omega
theorem cancel_sz (l : Lk) (x : Int) : szL (cancelL l x).1 ≤ szL l := by
  unfold cancelL
  split
  · refine Nat.le_trans (sweepL_sz _ _) ?_
    have := (cutW_sub x l.W).length_le
    unfold szL
    simp only
    omega
  · exact Nat.le_refl _
theorem release_sz (l : Lk) (x : Int) : szL (releaseL l x).1 ≤ szL l := by
  unfold releaseL
  refine Nat.le_trans (sweepAll_sz _ _) ?_
  have := (cutW_sub x l.W).length_le
  have := List.length_filter_le (fun o : Od => decide (o.x ≠ x)) l.H
  unfold szL
  simp only
  omega
theorem ask_sz (l : Lk) (x : Int) (t : Th) (m : Int) : szL (askL l x t m).1 ≤ szL l + 1 := by
  unfold askL
  split
  · exact Nat.le_succ _
  · split
    · exact Nat.le_succ _
    · simp only
      split
      · exact Nat.le_succ _
      · generalize (if modeL l.H x t = 0 then m else jnI (modeL l.H x t) m) = m'
        generalize (if modeL l.H x t = 0 then l.W.length else placeGo l.H t 0 0 l.W) = p
        split
        · have := giveL_len ⟨t, x, m'⟩ l.H
          unfold szL
          simp only
          omega
        · unfold szL insL
          simp only [List.length_append, List.length_take, List.length_cons, List.length_drop]
          omega
end Go.Proofs.YthbbheegkhlniaaGreat
