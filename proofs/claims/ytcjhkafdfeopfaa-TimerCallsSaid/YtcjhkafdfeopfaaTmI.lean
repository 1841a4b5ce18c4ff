/-
  What the laws want of the program's timers, as one predicate T with a contract for each call; both timers beside one another; SameInts.
-/
import Derived.Test.YtcjhkafdfeopfaaTmU
namespace Go.Proofs.Ytcjhkafdfeopfaa
open Go.RowKit Go.Lib

def NumI (x : Int) : Prop := -9223372036854775808 ≤ x ∧ x ≤ 9223372036854775807
theorem below_dN {C : Nat} {w w' : World} (h : Below C w w') (d : Nat) : Below C w (w'.drewN d) := ⟨h.os, h.tape, h.output, h.size, h.block⟩
def intV (z : Int) : List Value := [.int .i64 z]
/-- a number of a row that is read -/
theorem int_at {w : World} {B : Nat} {A : Option Addr} {vs : List Int} (h : RowG intV 1 w B A vs) {i : Nat} (hi : i < vs.length) : ∃ ad, A = some ad ∧ ad.block < B ∧ w.cell? (ad.add i) = some (.int .i64 vs[i]) := by
  obtain ⟨ad, rfl, hlt⟩ := h.lo (by omega)
  obtain ⟨ad', e, hc⟩ := h.cell i hi 0 _ rfl
  obtain rfl := Option.some.inj e
  rw [Nat.mul_one, Nat.add_zero] at hc
  exact ⟨ad, rfl, hlt, hc⟩
set_option maxRecDepth 100000 in
set_option maxHeartbeats 3200000 in
theorem sameI_yes {w : World} {A A' : Option Addr} {n n' c c' B B' : Nat} {l : List Int} (hn : n = l.length) (hn' : n' = l.length) (h1 : RowG intV 1 w B A l) (h2 : RowG intV 1 w B' A' l) (hl : l.length ≤ 1000000) :
    Calls Try.prog 15 #[.slice A n c, .slice A' n' c'] w fun e w' => e = .returned (.bool true) ∧ Below w.heap.size w w' := by
  obtain rfl : n' = n := by rw [hn, hn']
  have H := Lib.hid (And.intro h1 (And.intro h2 hn))
  have hnl : n' ≤ 1000000 := by omega
  have hn0 : (0 : Int) ≤ (n' : Int) := Int.natCast_nonneg _
  clear h1 h2 hn hn'
  go_enter Try.func15, Try.ntmps15
  go_wp2_with fail
  go_loopw [5] (fun i wr => ∃ k d : Nat, k ≤ n' ∧ i = .int .i64 k ∧ wr = w.drewN d) (fun i _ => n' - (intOf i).toNat)
  case atStart => exact ⟨0, 0, by omega, rfl, rfl⟩
  case round =>
    obtain ⟨k, d, hk, rfl, hw⟩ := hrel
    have HW := Lib.hid hw
    have hk0 : (0 : Int) ≤ (k : Int) := Int.natCast_nonneg _
    by_cases hlt : k < n'
    · have hk1 : (k : Int) < (n' : Int) := by omega
      have hkl : k < l.length := by rw [← H.out.2.2]; exact hlt
      obtain ⟨ad, rfl, _, a0⟩ := int_at H.out.1 hkl
      obtain ⟨ad', rfl, _, b0⟩ := int_at H.out.2.1 hkl
      have c0 : wr.cell? (ad.add k) = some (.int .i64 l[k]) := by rw [hw]; exact a0
      have d0 : wr.cell? (ad'.add k) = some (.int .i64 l[k]) := by rw [hw]; exact b0
      obtain ⟨x, hx⟩ : ∃ x, x = l[k] := ⟨_, rfl⟩
      rw [← hx] at c0 d0
      clear hw a0 b0 hx
      go_wp2_with fail
      go_quiet (fail)
      go_wp2_with fail
      go_roundw
      case rel => exact ⟨k + 1, _, by omega, by go_num, by rw [HW.out]; exact World.drewN_drewN _ _ _⟩
      case measure => simp [intOf]; omega
    · have hkn : ¬ ((k : Int) < (n' : Int)) := by omega
      have hb : Below w.heap.size w wr := by rw [hw]; exact below_dN (Below.refl _ _) _
      have HB := Lib.hid hb
      clear hw hb
      go_wp2_with fail
      go_ret
      exact ⟨rfl, HB.out⟩

abbrev TmP := Nat → (Nat → Prop) → World → Nat → List On → Prop
/-- timers' contract: T B D w tb l = at block tb lie timers with the ids and times l, in the footprint D -/
structure Impl (T : TmP) : Prop where
  below : ∀ {B D w w' tb l}, T B D w tb l → Below w.heap.size w w' → T B D w' tb l
  chg : ∀ {B D w w' tb l} {F : Nat → Prop}, T B D w tb l → Chg F w w' → (∀ k, D k → ¬ F k) → T B D w' tb l
  foot : ∀ {B D w tb l}, T B D w tb l → ∀ {k}, D k → B ≤ k ∧ k < w.heap.size
  ok : ∀ {B D w tb l}, T B D w tb l → OkO l
  new : ∀ (w : World) (B : Nat), B ≤ w.heap.size → Calls Try.prog 8 #[] w fun e w' => ∃ tb D, e = .returned (.pointer (some ⟨tb, 0, none⟩)) ∧ T B D w' tb [] ∧ (∀ k, D k → w.heap.size ≤ k) ∧ Below w.heap.size w w'
  set : ∀ {B D w tb l} (id t : Int), T B D w tb l → l.length ≤ 900000 → B ≤ w.heap.size → NumI id → NumI t → Calls Try.prog 9 #[.pointer (some ⟨tb, 0, none⟩), .int .i64 id, .int .i64 t] w fun r w' => r = .returned (.tuple #[]) ∧ T B (Ext D w w') w' tb (setO ⟨id, t⟩ l) ∧ Chg D w w'
  drop : ∀ {B D w tb l} (id : Int), T B D w tb l → l.length ≤ 900000 → B ≤ w.heap.size → NumI id → Calls Try.prog 11 #[.pointer (some ⟨tb, 0, none⟩), .int .i64 id] w fun r w' => r = .returned (.bool (atO id l).isSome) ∧ T B (Ext D w w') w' tb (dropO id l) ∧ Chg D w w'
  at_ : ∀ {B D w tb l} (id : Int), T B D w tb l → l.length ≤ 900000 → NumI id → Calls Try.prog 13 #[.pointer (some ⟨tb, 0, none⟩), .int .i64 id] w fun r w' => r = .returned (tmRes (atO id l)) ∧ Below w.heap.size w w'
  next : ∀ {B D w tb l}, T B D w tb l → l.length ≤ 900000 → Calls Try.prog 18 #[.pointer (some ⟨tb, 0, none⟩)] w fun r w' => r = .returned (tmRes (nextO l)) ∧ Below w.heap.size w w'
  due : ∀ {B D w tb l} (now : Int), T B D w tb l → l.length ≤ 900000 → B ≤ w.heap.size → NumI now → Calls Try.prog 16 #[.pointer (some ⟨tb, 0, none⟩), .int .i64 now] w fun r w' => ∃ A n c, r = .returned (.slice A n c) ∧ n = (dueO now l).length ∧ w'.ownsRow w.heap.size 3 1 (.slice A n c) n (ids (dueO now l)) ∧ T B (Ext D w w') w' tb (restO now l) ∧ Chg D w w'
  count : ∀ {B D w tb l}, T B D w tb l → l.length ≤ 900000 → Calls Try.prog 20 #[.pointer (some ⟨tb, 0, none⟩)] w fun r w' => r = .returned (.int .i64 l.length) ∧ Below w.heap.size w w'

/-- the program's timers (tb, D, l) alone, made since w0 -/
structure Tn (T : TmP) (w0 w : World) (tb : Nat) (D : Nat → Prop) (l : List On) : Prop where
  t : T w0.heap.size D w tb l
  low : Below w0.heap.size w0 w
/-- the program's timers (tb, D, l) and the document's (rb, E, m), apart, made since w0 -/
structure Tq (T : TmP) (w0 w : World) (tb rb : Nat) (D E : Nat → Prop) (l m : List On) : Prop where
  t : T w0.heap.size D w tb l
  r : RmV w0.heap.size E w rb m
  dis : ∀ k, D k → ¬ E k
  low : Below w0.heap.size w0 w
section
variable {T : TmP} (I : Impl T) {w0 w w' : World} {tb rb : Nat} {D E : Nat → Prop} {l m l' m' : List On}
include I
theorem Tn.below (h : Tn T w0 w tb D l) (hb : Below w.heap.size w w') : Tn T w0 w' tb D l := ⟨I.below h.t hb, h.low.trans (hb.mono h.low.size)⟩
theorem Tn.step (h : Tn T w0 w tb D l) (ht : T w0.heap.size (Ext D w w') w' tb l') (hc : Chg D w w') : Tn T w0 w' tb (Ext D w w') l' := ⟨ht, h.low.trans (hc.below (fun _ hk => (I.foot h.t hk).1) h.low.size)⟩
theorem Tq.below (h : Tq T w0 w tb rb D E l m) (hb : Below w.heap.size w w') : Tq T w0 w' tb rb D E l m := ⟨I.below h.t hb, h.r.below hb, h.dis, h.low.trans (hb.mono h.low.size)⟩
theorem Tq.stepT (h : Tq T w0 w tb rb D E l m) (ht : T w0.heap.size (Ext D w w') w' tb l') (hc : Chg D w w') : Tq T w0 w' tb rb (Ext D w w') E l' m :=
  ⟨ht, h.r.chg hc fun k hk hd => h.dis k hd hk, fun k hk he => hk.elim (fun hf => h.dis k hf he) fun hf => by have := (h.r.foot he).2; omega, h.low.trans (hc.below (fun k hk => (I.foot h.t hk).1) h.low.size)⟩
theorem Tq.stepR (h : Tq T w0 w tb rb D E l m) (hr : RmTo w0.heap.size rb E w m' w') : Tq T w0 w' tb rb D (Ext E w w') l m' :=
  ⟨I.chg h.t hr.2 h.dis, hr.1, fun k hk he => he.elim (fun hf => h.dis k hk hf) fun hf => by have := (I.foot h.t hk).2; omega, h.low.trans (hr.2.below (fun k hk => (h.r.foot hk).1) h.low.size)⟩
end
/-- how many there are at most -/
theorem setO_len (x : On) (l : List On) : (setO x l).length ≤ l.length + 1 := by
  have h1 := insO_len x (dropO x.i l)
  have h2 := (dropO_sub x.i l).length_le
  unfold setO
  omega
theorem restO_len (now : Int) (l : List On) : (restO now l).length ≤ l.length := (List.dropWhile_sublist _).length_le
end Go.Proofs.Ytcjhkafdfeopfaa
