/-
  The program's order of things; the library's sort over it.
-/
import Derived.Test.YthbbheegkhlniaaGreatImG
import Derived.Test.YthbbheegkhlniaaGreatLays
import Derived.Test.YthbbheegkhlniaaGreatLkT
import Derived.Test.YthbbheegkhlniaaGreatM03
import Derived.Deep.MidRow
import Derived.Deep.RegionHeld3
namespace Go.Proofs.YthbbheegkhlniaaGreat
open Go.RowKit Go.Lib Go.Shelf Go.Sort

def orV (a b c : Int) : Int := if a ≠ 0 then a else if b ≠ 0 then b else c
def ordT (x y : Th) : Int := orV (compareInt x.k y.k) (cmpS x.t y.t) (cmpS x.y y.y)
set_option maxRecDepth 100000 in
set_option maxHeartbeats 6400000 in
theorem or_any (a b c : Int) (g : Nat) (w : World) (h0 : w.cell? ⟨g, 0, none⟩ = some (.int .i64 a)) (h1 : w.cell? ⟨g, 1, none⟩ = some (.int .i64 b)) (h2 : w.cell? ⟨g, 2, none⟩ = some (.int .i64 c)) :
    Calls Tryz.prog 70 #[.slice (some ⟨g, 0, none⟩) 3 3] w fun e w' => e = .returned (.int .i64 (orV a b c)) ∧ w' = w := by
  obtain ⟨r, hr⟩ : ∃ r, r = orV a b c := ⟨_, rfl⟩
  rw [← hr]
  have HR := Lib.hid hr
  clear hr
  go_enter Tryz.func70, Tryz.ntmps70
  go_wp2_with fail
  go_loopw [5, 8] (fun _ iv wr => ∃ k : Nat, k ≤ 3 ∧ iv = .int .i64 k ∧ wr = w ∧ (0 < k → a = 0) ∧ (1 < k → b = 0) ∧ (2 < k → c = 0)) (fun _ iv _ => 3 - (intOf iv).toNat)
  case atStart => exact ⟨0, by omega, rfl, rfl, by omega, by omega, by omega⟩
  case round =>
    obtain ⟨k, hk, rfl, rfl, ha, hb, hc⟩ := hrel
    have H := Lib.hid (And.intro ha (And.intro hb hc))
    clear ha hb hc
    have hk4 : k = 0 ∨ k = 1 ∨ k = 2 ∨ k = 3 := by omega
    rcases hk4 with rfl | rfl | rfl | rfl
    · by_cases hz : a = 0
      · have hq : (a != 0) = false := by simp [hz]
        have HZ := Lib.hid hz
        clear hz
        go_wp2_with fail
        go_roundw
        case rel => exact ⟨1, by omega, by go_num, by first | rfl | trivial, fun _ => HZ.out, by omega, by omega⟩
        case measure => simp [intOf]
      · have hq : (a != 0) = true := by simp [hz]
        have HF := Lib.hid (show r = a by rw [HR.out]; unfold orV; rw [if_pos hz])
        clear hz
        go_wp2_with fail
        go_ret
        exact ⟨by rw [HF.out]; rfl, rfl⟩
    · have hz0 := H.out.1 (by omega)
      by_cases hz : b = 0
      · have hq : (b != 0) = false := by simp [hz]
        have HZ := Lib.hid (And.intro hz0 hz)
        clear hz hz0
        go_wp2_with fail
        go_roundw
        case rel => exact ⟨2, by omega, by go_num, by first | rfl | trivial, fun _ => HZ.out.1, fun _ => HZ.out.2, by omega⟩
        case measure => simp [intOf]
      · have hq : (b != 0) = true := by simp [hz]
        have HF := Lib.hid (show r = b by rw [HR.out]; unfold orV; rw [if_neg (by simp [hz0]), if_pos hz])
        clear hz hz0
        go_wp2_with fail
        go_ret
        exact ⟨by rw [HF.out]; rfl, rfl⟩
    · have hz0 := H.out.1 (by omega)
      have hz1 := H.out.2.1 (by omega)
      by_cases hz : c = 0
      · have hq : (c != 0) = false := by simp [hz]
        have HZ := Lib.hid (And.intro hz0 (And.intro hz1 hz))
        clear hz hz0 hz1
        go_wp2_with fail
        go_roundw
        case rel => exact ⟨3, by omega, by go_num, by first | rfl | trivial, fun _ => HZ.out.1, fun _ => HZ.out.2.1, fun _ => HZ.out.2.2⟩
        case measure => simp [intOf]
      · have hq : (c != 0) = true := by simp [hz]
        have HF := Lib.hid (show r = c by rw [HR.out]; unfold orV; rw [if_neg (by simp [hz0]), if_neg (by simp [hz1])])
        clear hz hz0 hz1
        go_wp2_with fail
        go_ret
        exact ⟨by rw [HF.out]; rfl, rfl⟩
    · have HF := Lib.hid (show r = 0 by rw [HR.out]; unfold orV; rw [H.out.1 (by omega), H.out.2.1 (by omega), H.out.2.2 (by omega)]; rfl)
      go_wp2_with fail
      go_ret
      exact ⟨by rw [HF.out]; rfl, rfl⟩
theorem cmpI_any (x y : Int) (w : World) : Calls Tryz.prog 71 #[.int .i64 x, .int .i64 y] w fun e w' => e = .returned (.int .i64 (compareInt x y)) ∧ w' = w := AnyG.cmp_Compare_int Tryz.cmpI x y w
theorem strCmp_any (a b : ByteArray) (w : World) : Calls Tryz.prog 72 #[.string a, .string b] w fun e w' => e = .returned (.int .i64 (cmpS a b)) ∧ w' = w := Any.strings_Compare Tryz.strCmp a b w
theorem new3_cell (W : World) (o1 o2 : Obj) (cs : Array Value) (ty : TypeId) (j : Nat) (u : Value) (h : cs[j]? = some u) : (((W.alloc o1).alloc o2).alloc (.cells cs ty)).cell? ⟨W.heap.size + 1 + 1, j, none⟩ = some u := by
  have h9 := (Blk.new ((W.alloc o1).alloc o2) ty cs).cell j
  rw [h] at h9
  have e : ((W.alloc o1).alloc o2).heap.size = W.heap.size + 1 + 1 := by simp
  rw [e] at h9
  exact h9
set_option maxRecDepth 100000 in
set_option maxHeartbeats 6400000 in
theorem order_any (x y : Th) (W : World) : Calls Tryz.prog 48 #[.agg #[.int .i64 x.k, .string x.t, .string x.y], .agg #[.int .i64 y.k, .string y.t, .string y.y]] W fun e w' => e = .returned (.int .i64 (ordT x y)) ∧ ∃ q os', w' = grow (W.drewN q) os' := by
  have k1 := fun w' => cmpI_any x.k y.k w'
  have k2 := fun w' => strCmp_any x.t y.t w'
  have k3 := fun w' => strCmp_any x.y y.y w'
  obtain ⟨r, hr⟩ : ∃ r, r = ordT x y := ⟨_, rfl⟩
  rw [← hr]
  unfold ordT at hr
  generalize compareInt x.k y.k = a at k1 hr
  generalize cmpS x.t y.t = b at k2 hr
  generalize cmpS x.y y.y = c at k3 hr
  have HK := Lib.hid (And.intro k1 (And.intro k2 k3))
  have HR := Lib.hid hr
  clear k1 k2 k3 hr
  go_enter Tryz.func48, Tryz.ntmps48
  go_wp2_with fail
  go_region_held3 (fun w' => w'.cell? ⟨W.heap.size, 0, none⟩ = some (.int .i64 x.k) ∧ w'.cell? ⟨W.heap.size, 1, none⟩ = some (.string x.t) ∧ w'.cell? ⟨W.heap.size, 2, none⟩ = some (.string x.y) ∧ w'.cell? ⟨W.heap.size + 1, 0, none⟩ = some (.int .i64 y.k) ∧ w'.cell? ⟨W.heap.size + 1, 1, none⟩ = some (.string y.t) ∧ w'.cell? ⟨W.heap.size + 1, 2, none⟩ = some (.string y.y))
    (first
      | (go_split_ands; exact ⟨‹_›, ‹_›, ‹_›, ‹_›, ‹_›, ‹_›⟩)
      | go_keep)
    (first
      | (go_at_call 71; refine (HK.out.1 _).mono ?_; rintro e w2 ⟨rfl, rfl⟩)
      | (go_at_call 72; refine (HK.out.2.1 _).mono ?_; rintro e w2 ⟨rfl, rfl⟩)
      | (go_at_call 72; refine (HK.out.2.2 _).mono ?_; rintro e w2 ⟨rfl, rfl⟩)
      | (go_at_call 70; refine (or_any a b c _ _ (by exact new3_cell W _ _ #[.int .i64 a, .int .i64 b, .int .i64 c] _ 0 _ rfl) (by exact new3_cell W _ _ #[.int .i64 a, .int .i64 b, .int .i64 c] _ 1 _ rfl) (by exact new3_cell W _ _ #[.int .i64 a, .int .i64 b, .int .i64 c] _ 2 _ rfl)).mono ?_; rintro e w2 ⟨rfl, rfl⟩))
  all_goals
    go_wp2_with fail
    go_ret
    exact ⟨by rw [HR.out]; rfl, 1, _, by rw [alloc_eq_grow, alloc_eq_grow, alloc_eq_grow, grow_grow, grow_grow, drew_grow]; rfl⟩
end Go.Proofs.YthbbheegkhlniaaGreat

/-
  Orders: numbers, rows, texts. Imports nothing of the program.
-/
namespace Go.Proofs.YthbbheegkhlniaaGreat
open Go.RowKit Go.Lib

theorem ret_int {k : IntKind} {a b : Int} (h : a = b) : Ending.returned (.int k a) = .returned (.int k b) := by rw [h]
theorem ret_bool {a b : Bool} (h : a = b) : Ending.returned (.bool a) = .returned (.bool b) := by rw [h]
theorem drewN_below {w w' : World} {d : Nat} (h : w' = w.drewN d) : Below w.heap.size w w' := by rw [h]; exact below_dN (Below.refl _ _) d
def cmpI (a b : Int) : Int := if a < b then -1 else if b < a then 1 else 0
structure Good {α : Type} (c : α → α → Int) : Prop where
  anti : ∀ a b, c a b = -c b a
  zero : ∀ a b, c a b = 0 ↔ a = b
  trans : ∀ a b d, c a b ≤ 0 → c b d ≤ 0 → c a d ≤ 0

namespace Good
variable {α : Type} {c : α → α → Int} (g : Good c)
include g
theorem self (a : α) : c a a = 0 := (g.zero a a).2 rfl
theorem strict (a b d : α) (h : c a b < 0) (h' : c b d ≤ 0) : c a d < 0 := by
  have h1 := g.trans a b d (by omega) h'
  have h2 : c a d ≠ 0 := fun e => by
    have e1 := (g.zero a d).1 e
    subst e1
    have := g.anti a b
    omega
  omega
theorem strict' (a b d : α) (h : c a b ≤ 0) (h' : c b d < 0) : c a d < 0 := by
  have h1 := g.trans a b d h (by omega)
  have h2 : c a d ≠ 0 := fun e => by
    have e1 := (g.zero a d).1 e
    subst e1
    have := g.anti a b
    omega
  omega
theorem up (a b d : α) (h : 0 ≤ c a b) (h' : 0 ≤ c b d) : 0 ≤ c a d := by
  have e1 := g.anti a b
  have e2 := g.anti b d
  have e3 := g.anti a d
  have := g.trans d b a (by omega) (by omega)
  omega
end Good

theorem good_cmpI : Good cmpI := by
  refine ⟨fun a b => ?_, fun a b => ?_, fun a b d => ?_⟩ <;> unfold cmpI <;> (repeat' split) <;> omega

def lexL {α : Type} (c : α → α → Int) : List α → List α → Int
  | [], [] => 0
  | [], _ :: _ => -1
  | _ :: _, [] => 1
  | a :: l, b :: m => if c a b ≠ 0 then c a b else lexL c l m

theorem good_lexL {α : Type} {c : α → α → Int} (g : Good c) : Good (lexL c) := by
  refine ⟨fun a => ?_, fun a => ?_, fun a => ?_⟩
  · induction a with
    | nil => intro b; cases b <;> simp [lexL]
    | cons x l ih =>
      intro b
      cases b with
      | nil => simp [lexL]
      | cons y m =>
        have h := g.anti x y
        have hi := ih m
        unfold lexL
        split <;> split <;> omega
  · induction a with
    | nil => intro b; cases b <;> simp [lexL]
    | cons x l ih =>
      intro b
      cases b with
      | nil => simp [lexL]
      | cons y m =>
        have h := g.zero x y
        have hi := ih m
        unfold lexL
        split
        · rename_i h1
          constructor
          · intro h2; exact absurd h2 h1
          · intro h2; injection h2 with h3 h4; exact absurd (h.2 h3) h1
        · rename_i h1
          have h2 := h.1 (by omega)
          subst h2
          simp [hi]
  · induction a with
    | nil => intro b d; cases b <;> cases d <;> simp [lexL]
    | cons x l ih =>
      intro b d
      cases b with
      | nil => simp [lexL]
      | cons y m =>
        cases d with
        | nil => simp [lexL]
        | cons z n =>
          have hi := ih m n
          intro h1 h2
          unfold lexL at h1 h2 ⊢
          by_cases e1 : c x y = 0
          · have e1' := (g.zero x y).1 e1
            subst e1'
            by_cases e2 : c x z = 0
            · rw [if_neg (by omega)] at h1 h2 ⊢
              exact hi h1 h2
            · rw [if_pos e2] at h2 ⊢
              exact h2
          · rw [if_pos e1] at h1
            by_cases e2 : c y z = 0
            · have e2' := (g.zero y z).1 e2
              subst e2'
              rw [if_pos e1]
              exact h1
            · rw [if_pos e2] at h2
              have h3 := g.strict x y z (by omega) h2
              rw [if_pos (by omega)]
              omega

def cmpU (a b : UInt8) : Int := if a < b then -1 else if b < a then 1 else 0
theorem good_cmpU : Good cmpU := by
  refine ⟨fun a b => ?_, fun a b => ?_, fun a b d => ?_⟩ <;> unfold cmpU <;> simp only [UInt8.lt_iff_toNat_lt, ← UInt8.toNat_inj] <;> (repeat' split) <;> omega
theorem compareBytes_lex : ∀ a b : List UInt8, compareBytes a b = lexL cmpU a b
  | [], [] => rfl
  | [], _ :: _ => rfl
  | _ :: _, [] => rfl
  | x :: l, y :: m => by
    have ih := compareBytes_lex l m
    unfold compareBytes lexL
    rw [ih]
    by_cases h1 : x < y
    · simp [h1, show cmpU x y = -1 by simp [cmpU, h1]]
    · by_cases h2 : y < x
      · simp [h1, h2, show cmpU x y = 1 by simp [cmpU, h1, h2]]
      · simp [h1, h2, show cmpU x y = 0 by simp [cmpU, h1, h2]]
theorem good_cmpS : Good cmpS := by
  have g := good_lexL good_cmpU
  refine ⟨fun a b => ?_, fun a b => ?_, fun a b d => ?_⟩ <;> unfold cmpS <;> simp only [compareBytes_lex]
  · exact g.anti _ _
  · rw [g.zero]
    constructor
    · intro h
      obtain ⟨⟨x⟩⟩ := a
      obtain ⟨⟨y⟩⟩ := b
      exact congrArg (fun l => (⟨⟨l⟩⟩ : ByteArray)) h
    · intro h; rw [h]
  · exact g.trans _ _ _


end Go.Proofs.YthbbheegkhlniaaGreat

/-
  Things in order.
-/
namespace Go.Proofs.YthbbheegkhlniaaGreat
open Go.RowKit Go.Lib Go.Shelf Go.Sort

theorem good_compareInt : Good compareInt := by
  refine ⟨fun a b => ?_, fun a b => ?_, fun a b d => ?_⟩ <;> unfold compareInt <;> (repeat' split) <;> omega
def lex2 {α β : Type} (c : α → α → Int) (d : β → β → Int) (p q : α × β) : Int := if c p.1 q.1 ≠ 0 then c p.1 q.1 else d p.2 q.2
theorem good_lex2 {α β : Type} {c : α → α → Int} {d : β → β → Int} (g : Good c) (k : Good d) : Good (lex2 c d) := by
  refine ⟨fun p q => ?_, fun p q => ?_, fun p q r h1 h2 => ?_⟩
  · unfold lex2
    have e1 := g.anti p.1 q.1
    have e2 := k.anti p.2 q.2
    split <;> split <;> omega
  · unfold lex2
    have e1 := g.zero p.1 q.1
    have e2 := k.zero p.2 q.2
    obtain ⟨a, b⟩ := p
    obtain ⟨a', b'⟩ := q
    simp only [Prod.mk.injEq] at *
    split
    · rename_i h
      exact ⟨fun h3 => absurd h3 h, fun h3 => absurd (e1.2 h3.1) h⟩
    · rename_i h
      have h : c a a' = 0 := by simpa using h
      exact ⟨fun h3 => ⟨e1.1 h, e2.1 h3⟩, fun h3 => e2.2 h3.2⟩
  · unfold lex2 at *
    by_cases ha : c p.1 q.1 = 0
    · have e := (g.zero _ _).1 ha
      rw [if_neg (by simpa using ha)] at h1
      rw [e]
      by_cases hb : c q.1 r.1 = 0
      · rw [if_neg (by simpa using hb)] at h2 ⊢
        exact k.trans _ _ _ h1 h2
      · rw [if_pos hb] at h2 ⊢
        exact h2
    · rw [if_pos ha] at h1
      have h3 : c p.1 q.1 < 0 := by omega
      by_cases hb : c q.1 r.1 = 0
      · have e := (g.zero _ _).1 hb
        rw [← e, if_pos ha]
        exact h1
      · rw [if_pos hb] at h2
        have h4 := g.strict _ _ _ h3 h2
        rw [if_pos (by omega)]
        omega
theorem ordT_lex (x y : Th) : ordT x y = lex2 compareInt (lex2 cmpS cmpS) (x.k, x.t, x.y) (y.k, y.t, y.y) := rfl
theorem good_ordT : Good ordT := by
  have g := good_lex2 good_compareInt (good_lex2 good_cmpS good_cmpS)
  refine ⟨fun a b => by rw [ordT_lex, ordT_lex]; exact g.anti _ _, fun a b => ?_, fun a b d => by rw [ordT_lex, ordT_lex, ordT_lex]; exact g.trans _ _ _⟩
  rw [ordT_lex, g.zero]
  obtain ⟨k, t, y⟩ := a
  obtain ⟨k', t', y'⟩ := b
  simp
theorem ltOf_ordT (x y : Th) : ltOf ordT x y = belowT x y := by
  unfold ltOf ordT orV belowT compareInt
  by_cases h1 : x.k = y.k
  · simp [h1]
    split
    · simp
    · simp
  · rcases Int.lt_or_gt_of_ne h1 with h2 | h2
    · simp [h1, h2]
    · have h3 : ¬ x.k < y.k := by omega
      have h4 : y.k < x.k := h2
      simp [h1, h3, h4]
theorem bt_lt {x y : Th} : belowT x y = true ↔ ordT x y < 0 := by
  rw [← ltOf_ordT]
  unfold ltOf
  simp
theorem bt_irr (x : Th) : belowT x x = false := by
  rw [← ltOf_ordT]
  unfold ltOf
  rw [good_ordT.self]
  rfl
theorem bt_tr {x y z : Th} (h1 : belowT x y = true) (h2 : belowT y z = true) : belowT x z = true := by
  rw [bt_lt] at *
  exact good_ordT.strict _ _ _ h1 (by omega)
theorem bt_as {x y : Th} (h1 : belowT x y = true) : belowT y x = false := by
  cases h : belowT y x with
  | false => rfl
  | true => have := bt_tr h1 h; rw [bt_irr] at this; cases this
theorem bt_tot {x y : Th} (h1 : belowT x y = false) (h2 : belowT y x = false) : x = y := by
  have e1 : ¬ ordT x y < 0 := fun h => by rw [bt_lt.2 h] at h1; cases h1
  have e2 : ¬ ordT y x < 0 := fun h => by rw [bt_lt.2 h] at h2; cases h2
  have := good_ordT.anti x y
  exact (good_ordT.zero x y).1 (by omega)
theorem swo_ordT : SWO (ltOf ordT) where
  irrefl x := by rw [ltOf_ordT, bt_irr]
  trans x y z h1 h2 := by rw [ltOf_ordT] at *; exact bt_tr h1 h2
  ntrans x y z h1 h2 := by
    unfold ltOf at *
    simp only [decide_eq_false_iff_not] at *
    have := good_ordT.up x y z (by omega) (by omega)
    omega
theorem tot_ordT (x y : Th) (h1 : ltOf ordT x y = false) (h2 : ltOf ordT y x = false) : x = y := by
  rw [ltOf_ordT] at *
  exact bt_tot h1 h2
/-! ### rows in order -/
def SrtT (l : List Th) : Prop := l.Pairwise fun a b => belowT a b = true
def sortT (l : List Th) : List Th := l.mergeSort fun x y => !(ltOf ordT) y x
theorem sortT_perm (l : List Th) : (sortT l).Perm l := List.mergeSort_perm l _
theorem sortT_le (l : List Th) : (sortT l).Pairwise fun a b => belowT b a = false := by
  have h := List.pairwise_mergeSort (le := fun x y => !(ltOf ordT) y x) (fun a b c h1 h2 => by
    simp only [Bool.not_eq_true'] at *
    rw [ltOf_ordT] at *
    cases h : belowT c a with
    | false => rfl
    | true =>
      by_cases e : b = c
      · subst e; rw [h] at h1; cases h1
      · have h3 : belowT b c = true := by
          cases h4 : belowT b c with
          | true => rfl
          | false => exact absurd (bt_tot h4 h2) e
        have := bt_tr h3 h
        rw [this] at h1
        cases h1) (fun a b => by
    simp only [Bool.or_eq_true, Bool.not_eq_true']
    rw [ltOf_ordT, ltOf_ordT]
    cases h : belowT b a with
    | false => exact .inl rfl
    | true => exact .inr (bt_as h)) l
  refine h.imp fun {a b} h => ?_
  simp only [Bool.not_eq_true'] at h
  rw [ltOf_ordT] at h
  exact h
theorem srt_ext : ∀ {l k : List Th}, SrtT l → SrtT k → (∀ x, x ∈ l ↔ x ∈ k) → l = k
  | [], [], _, _, _ => rfl
  | [], a :: k, _, _, h => absurd ((h a).2 List.mem_cons_self) (by simp)
  | a :: l, [], _, _, h => absurd ((h a).1 List.mem_cons_self) (by simp)
  | a :: l, b :: k, hl, hk, h => by
    have hl' := List.pairwise_cons.1 hl
    have hk' := List.pairwise_cons.1 hk
    have e : a = b := by
      rcases List.mem_cons.1 ((h a).1 List.mem_cons_self) with h1 | h1
      · exact h1
      · rcases List.mem_cons.1 ((h b).2 List.mem_cons_self) with h2 | h2
        · exact h2.symm
        · have h3 := hl'.1 b h2
          have h4 := hk'.1 a h1
          rw [bt_as h3] at h4
          cases h4
    subst e
    rw [srt_ext hl'.2 hk'.2 fun x => ?_]
    constructor
    · intro hx
      rcases List.mem_cons.1 ((h x).1 (List.mem_cons_of_mem _ hx)) with h1 | h1
      · subst h1; have := hl'.1 x hx; rw [bt_irr] at this; cases this
      · exact h1
    · intro hx
      rcases List.mem_cons.1 ((h x).2 (List.mem_cons_of_mem _ hx)) with h1 | h1
      · subst h1; have := hk'.1 x hx; rw [bt_irr] at this; cases this
      · exact h1
theorem putGo_srt {t : Th} : ∀ {l : List Th} {b : Bool}, SrtT l → (b = false → ∀ x ∈ l, x ≠ t) → SrtT (putGo belowT t b l)
  | [], false, _, _ => by simp [putGo, SrtT]
  | [], true, _, _ => by simp [putGo, SrtT]
  | u :: r, true, h, _ => by
    have h' := List.pairwise_cons.1 h
    rw [putGo]
    refine List.pairwise_cons.2 ⟨fun x hx => ?_, putGo_srt (b := true) h'.2 (fun e => by cases e)⟩
    rcases mem_putGo.1 hx with h1 | h1
    · exact h'.1 x h1
    · exact absurd h1.1 (by decide)
  | u :: r, false, h, hn => by
    have h' := List.pairwise_cons.1 h
    have hne : u ≠ t := hn rfl u List.mem_cons_self
    rw [putGo]
    split
    · rename_i hlt
      refine List.pairwise_cons.2 ⟨fun x hx => ?_, List.pairwise_cons.2 ⟨fun x hx => ?_, putGo_srt (b := true) h'.2 (fun e => by cases e)⟩⟩
      · rcases List.mem_cons.1 hx with h1 | h1
        · rw [h1]; exact hlt
        · rcases mem_putGo.1 h1 with h2 | h2
          · exact bt_tr hlt (h'.1 x h2)
          · exact absurd h2.1 (by decide)
      · rcases mem_putGo.1 hx with h2 | h2
        · exact h'.1 x h2
        · exact absurd h2.1 (by decide)
    · rename_i hlt
      have hut : belowT u t = true := by
        cases h1 : belowT u t with
        | true => rfl
        | false => exact absurd (bt_tot h1 (by simpa using hlt)) hne
      refine List.pairwise_cons.2 ⟨fun x hx => ?_, putGo_srt (b := false) h'.2 (fun _ x hx => hn rfl x (List.mem_cons_of_mem _ hx))⟩
      rcases mem_putGo.1 hx with h1 | h1
      · exact h'.1 x h1
      · rw [h1.2]; exact hut
theorem putT_srt {l : List Th} (h : SrtT l) (t : Th) : SrtT (putT l t) := by
  unfold putT putL
  split
  · exact h
  · rename_i hn
    exact putGo_srt h fun _ x hx e => hn (e ▸ hx)
theorem foldT_srt {α : Type} (f : α → Th) : ∀ (l : List α) {a : List Th}, SrtT a → SrtT (l.foldl (fun acc b => putT acc (f b)) a)
  | [], _, h => h
  | _ :: r, _, h => foldT_srt f r (putT_srt h _)
theorem thingsL_srt (H : List Od) (x : Int) : SrtT (thingsL H x) := foldT_srt _ _ List.Pairwise.nil
/-- in order, no two alike: it is the order -/
theorem sortT_srt {l : List Th} (h : l.Nodup) : SrtT (sortT l) := by
  have h1 := sortT_le l
  have h2 : (sortT l).Nodup := (sortT_perm l).nodup_iff.2 h
  exact (h1.and h2).imp fun {a b} h => by
    cases h3 : belowT a b with
    | true => rfl
    | false => exact absurd (bt_tot h3 h.1) h.2
end Go.Proofs.YthbbheegkhlniaaGreat

/-
  A struct stored into a block that is known whole. Imports nothing of the program's but its rows.
-/
namespace Go.Proofs.YthbbheegkhlniaaGreat
open Go.RowKit Go.Lib

/-- cells stored into a block that is known whole: a splice -/
theorem Blk.setCells {g : Nat} {t : TypeId} (cs : List Value) : ∀ (cur : List Value) (w : World) (o : Nat), Blk w g t cur.toArray → o + cs.length ≤ cur.length → Blk (w.setCells g o cs) g t (splice cur o cs).toArray := by
  induction cs with
  | nil => intro cur w o h _; show Blk w g t _; simpa [splice] using h
  | cons v cs ih =>
    intro cur w o h hl
    simp only [List.length_cons] at hl
    have h1 := h.put o v
    rw [show (cur.toArray.setIfInBounds o v) = (cur.set o v).toArray by simp] at h1
    have h2 := ih (cur.set o v) (w.setCell ⟨g, o, none⟩ v) (o + 1) h1 (by simp; omega)
    show Blk ((w.setCell ⟨g, o, none⟩ v).setCells g (o + 1) cs) g t _
    rw [show splice cur o (v :: cs) = splice (cur.set o v) (o + 1) cs by
      unfold splice
      rw [List.take_set, List.drop_set_of_lt (by omega)]
      have e : (cur.take (o + 1)).set o v = cur.take o ++ [v] := by
        rw [List.take_succ_eq_append_getElem (by omega), List.set_append_right _ _ (by simp; omega)]
        simp [Nat.min_eq_left (show o ≤ cur.length by omega)]
      rw [e, List.length_cons, show o + (cs.length + 1) = o + 1 + cs.length by omega]
      simp]
    exact h2


section
variable {P : Program} {w : World} {ops : Array Oper} {rest : List Oper} {o : Oper} {a : Act} {Q : Exit → Act → World → Prop}
/-- a whole array or struct stored into a block that is known whole -/
theorem wp_store_blk {K : Act → World → Prop} (ty : TypeId) (x y : Operand) (ho : o.op = .store ty x y)
    (g off : Nat) (cs : List Value) (hx : a.eval x = .pointer (some ⟨g, off, none⟩)) (hy : a.eval y = .agg cs.toArray)
    (cur : List Value) (t : TypeId) (hg : Blk w g t cur.toArray) (hfit : off + cs.length ≤ cur.length) (hi : (P.info? ty).map (·.size) = some cs.length) (h1 : ∀ v ∈ cs, v.oneCell' = true)
    (h : ∀ w', Blk w' g t (splice cur off cs).toArray → Chg (fun k => k = g) w w' → w'.heap.size = w.heap.size → K (a.put o.dst undef) w') : o.wp P a w K Q := by
  refine wp_store_mid ty x y ho g off cs.toArray hx hy ?_ (by simpa using hi) (by simpa using h1) ?_
  · intro j hj
    refine ⟨?_, hg.frozen _⟩
    rw [hg.cell]
    simp at hj
    simp; omega
  · exact h _ (Blk.setCells cs cur w off hg hfit) ((Chg.refl (fun k => k = g) w).setCells (fun _ => rfl) _) (setCells_size _ _ _ _)
theorem wpList_store_blk (hgd : o.guard = none) (ty : TypeId) (x y : Operand) (ho : o.op = .store ty x y)
    (g off : Nat) (cs : List Value) (hx : a.eval x = .pointer (some ⟨g, off, none⟩)) (hy : a.eval y = .agg cs.toArray)
    (cur : List Value) (t : TypeId) (hg : Blk w g t cur.toArray) (hfit : off + cs.length ≤ cur.length) (hi : (P.info? ty).map (·.size) = some cs.length) (h1 : ∀ v ∈ cs, v.oneCell' = true)
    (h : ∀ w', Blk w' g t (splice cur off cs).toArray → Chg (fun k => k = g) w w' → w'.heap.size = w.heap.size → wpList P ops Q rest (a.put o.dst undef) w') : wpList P ops Q (o :: rest) a w :=
  wpList_plain hgd fun _ hK => wp_store_blk ty x y ho g off cs hx hy cur t hg hfit hi h1 fun w' a b c => hK _ _ (h w' a b c)

theorem step_store_blk {K : Act → World → Prop} {E : Prop} (hgd : o.guard = none) (ty : TypeId) (x y : Operand) (ho : o.op = .store ty x y)
    (g off : Nat) (cs : List Value) (hx : a.eval x = .pointer (some ⟨g, off, none⟩)) (hy : a.eval y = .agg cs.toArray)
    (cur : List Value) (t : TypeId) (hg : Blk w g t cur.toArray) (hfit : off + cs.length ≤ cur.length) (hi : (P.info? ty).map (·.size) = some cs.length) (h1 : ∀ v ∈ cs, v.oneCell' = true)
    (h : ∀ w', Blk w' g t (splice cur off cs).toArray → Chg (fun k => k = g) w w' → w'.heap.size = w.heap.size → K (a.put o.dst undef) w') :
    if Region.wanted o (yielded ops a.tmps) = true then Oper.wp P o a w K Q else E := by
  have hw : Region.wanted o (yielded ops a.tmps) = true := by simp [Region.wanted, hgd]
  rw [if_pos hw]
  exact wp_store_blk ty x y ho g off cs hx hy cur t hg hfit hi h1 h
end
end Go.Proofs.YthbbheegkhlniaaGreat
