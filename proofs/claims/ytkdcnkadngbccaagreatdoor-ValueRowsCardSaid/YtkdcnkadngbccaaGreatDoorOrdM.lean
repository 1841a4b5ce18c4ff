/-
  The order of values and rows is one: turned about it is turned; what is below what is below a third one is below that; only like ones are level.
-/
import Derived.Test.YtkdcnkadngbccaaGreatDoorRowV
namespace Go.Proofs.YtkdcnkadngbccaaGreatDoor
open Go.RowKit Go.Lib

structure Good {α : Type} (c : α → α → Int) : Prop where
  anti : ∀ a b, c a b = -c b a
  zero : ∀ a b, c a b = 0 ↔ a = b
  trans : ∀ a b d, c a b ≤ 0 → c b d ≤ 0 → c a d ≤ 0

namespace Good
variable {α : Type} {c : α → α → Int} (g : Good c)
include g
theorem self (a : α) : c a a = 0 := (g.zero a a).2 rfl
theorem strict (a b d : α) (h : c a b < 0) (h' : c b d ≤ 0) : c a d < 0 := by
  have h1 := g.trans a b d (by omega) h'
  have h2 : c a d ≠ 0 := fun e => by
    have e1 := (g.zero a d).1 e
    subst e1
    have := g.anti a b
    omega
  omega
theorem strict' (a b d : α) (h : c a b ≤ 0) (h' : c b d < 0) : c a d < 0 := by
  have h1 := g.trans a b d h (by omega)
  have h2 : c a d ≠ 0 := fun e => by
    have e1 := (g.zero a d).1 e
    subst e1
    have := g.anti a b
    omega
  omega
theorem up (a b d : α) (h : 0 ≤ c a b) (h' : 0 ≤ c b d) : 0 ≤ c a d := by
  have e1 := g.anti a b
  have e2 := g.anti b d
  have e3 := g.anti a d
  have := g.trans d b a (by omega) (by omega)
  omega
end Good

theorem good_cmpI : Good cmpI := by
  refine ⟨fun a b => ?_, fun a b => ?_, fun a b d => ?_⟩ <;> unfold cmpI <;> (repeat' split) <;> omega

def lexL {α : Type} (c : α → α → Int) : List α → List α → Int
  | [], [] => 0
  | [], _ :: _ => -1
  | _ :: _, [] => 1
  | a :: l, b :: m => if c a b ≠ 0 then c a b else lexL c l m

theorem good_lexL {α : Type} {c : α → α → Int} (g : Good c) : Good (lexL c) := by
  refine ⟨fun a => ?_, fun a => ?_, fun a => ?_⟩
  · induction a with
    | nil => intro b; cases b <;> simp [lexL]
    | cons x l ih =>
      intro b
      cases b with
      | nil => simp [lexL]
      | cons y m =>
        have h := g.anti x y
        have hi := ih m
        unfold lexL
        split <;> split <;> omega
  · induction a with
    | nil => intro b; cases b <;> simp [lexL]
    | cons x l ih =>
      intro b
      cases b with
      | nil => simp [lexL]
      | cons y m =>
        have h := g.zero x y
        have hi := ih m
        unfold lexL
        split
        · rename_i h1
          constructor
          · intro h2; exact absurd h2 h1
          · intro h2; injection h2 with h3 h4; exact absurd (h.2 h3) h1
        · rename_i h1
          have h2 := h.1 (by omega)
          subst h2
          simp [hi]
  · induction a with
    | nil => intro b d; cases b <;> cases d <;> simp [lexL]
    | cons x l ih =>
      intro b d
      cases b with
      | nil => simp [lexL]
      | cons y m =>
        cases d with
        | nil => simp [lexL]
        | cons z n =>
          have hi := ih m n
          intro h1 h2
          unfold lexL at h1 h2 ⊢
          by_cases e1 : c x y = 0
          · have e1' := (g.zero x y).1 e1
            subst e1'
            by_cases e2 : c x z = 0
            · rw [if_neg (by omega)] at h1 h2 ⊢
              exact hi h1 h2
            · rw [if_pos e2] at h2 ⊢
              exact h2
          · rw [if_pos e1] at h1
            by_cases e2 : c y z = 0
            · have e2' := (g.zero y z).1 e2
              subst e2'
              rw [if_pos e1]
              exact h1
            · rw [if_pos e2] at h2
              have h3 := g.strict x y z (by omega) h2
              rw [if_pos (by omega)]
              omega

def cmpU (a b : UInt8) : Int := if a < b then -1 else if b < a then 1 else 0
theorem good_cmpU : Good cmpU := by
  refine ⟨fun a b => ?_, fun a b => ?_, fun a b d => ?_⟩ <;> unfold cmpU <;> simp only [UInt8.lt_iff_toNat_lt, ← UInt8.toNat_inj] <;> (repeat' split) <;> omega
theorem compareBytes_lex : ∀ a b : List UInt8, compareBytes a b = lexL cmpU a b
  | [], [] => rfl
  | [], _ :: _ => rfl
  | _ :: _, [] => rfl
  | x :: l, y :: m => by
    have ih := compareBytes_lex l m
    unfold compareBytes lexL
    rw [ih]
    by_cases h1 : x < y
    · simp [h1, show cmpU x y = -1 by simp [cmpU, h1]]
    · by_cases h2 : y < x
      · simp [h1, h2, show cmpU x y = 1 by simp [cmpU, h1, h2]]
      · simp [h1, h2, show cmpU x y = 0 by simp [cmpU, h1, h2]]
theorem good_cmpS : Good cmpS := by
  have g := good_lexL good_cmpU
  refine ⟨fun a b => ?_, fun a b => ?_, fun a b d => ?_⟩ <;> unfold cmpS <;> simp only [compareBytes_lex]
  · exact g.anti _ _
  · rw [g.zero]
    constructor
    · intro h
      obtain ⟨⟨x⟩⟩ := a
      obtain ⟨⟨y⟩⟩ := b
      exact congrArg (fun l => (⟨⟨l⟩⟩ : ByteArray)) h
    · intro h; rw [h]
  · exact g.trans _ _ _
theorem ordVa_eq (a b : Va) : ordVa a b = if cmpI a.k b.k ≠ 0 then cmpI a.k b.k else if cmpI a.n b.n ≠ 0 then cmpI a.n b.n else cmpS a.s b.s := rfl
theorem good_ordVa : Good ordVa := by
  refine ⟨fun a b => ?_, fun a b => ?_, fun a b d => ?_⟩
  · have h1 := good_cmpI.anti a.k b.k
    have h2 := good_cmpI.anti a.n b.n
    have h3 := good_cmpS.anti a.s b.s
    rw [ordVa_eq, ordVa_eq]
    repeat' split
    all_goals omega
  · obtain ⟨ak, an, as'⟩ := a
    obtain ⟨bk, bn, bs'⟩ := b
    have h1 := good_cmpI.zero ak bk
    have h2 := good_cmpI.zero an bn
    have h3 := good_cmpS.zero as' bs'
    rw [ordVa_eq]
    simp only [Va.mk.injEq]
    by_cases e1 : cmpI ak bk = 0
    · by_cases e2 : cmpI an bn = 0
      · rw [if_neg (by simp [e1]), if_neg (by simp [e2]), h3]; simp [h1.1 e1, h2.1 e2]
      · rw [if_neg (by simp [e1]), if_pos e2]; simp [e2]; exact fun _ h _ => e2 (h2.2 h)
    · rw [if_pos e1]; simp [e1]; exact fun h _ _ => e1 (h1.2 h)
  · rw [ordVa_eq, ordVa_eq, ordVa_eq]
    intro h1 h2
    by_cases e1 : cmpI a.k b.k = 0
    · rw [(good_cmpI.zero _ _).1 e1] at h1 ⊢
      rw [if_neg (by simp [good_cmpI.self])] at h1
      by_cases e2 : cmpI b.k d.k = 0
      · rw [if_neg (by simp [e2])] at h2 ⊢
        by_cases e3 : cmpI a.n b.n = 0
        · rw [(good_cmpI.zero _ _).1 e3] at h1 ⊢
          rw [if_neg (by simp [good_cmpI.self])] at h1
          by_cases e4 : cmpI b.n d.n = 0
          · rw [if_neg (by simp [e4])] at h2 ⊢
            exact good_cmpS.trans _ _ _ h1 h2
          · rw [if_pos e4] at h2 ⊢
            exact h2
        · rw [if_pos e3] at h1
          by_cases e4 : cmpI b.n d.n = 0
          · rw [(good_cmpI.zero _ _).1 e4] at h1 e3
            rw [if_pos e3]; exact h1
          · rw [if_pos e4] at h2
            have := good_cmpI.strict a.n b.n d.n (by omega) h2
            rw [if_pos (by omega)]; omega
      · rw [if_pos e2] at h2 ⊢
        exact h2
    · rw [if_pos e1] at h1
      by_cases e2 : cmpI b.k d.k = 0
      · rw [(good_cmpI.zero _ _).1 e2] at h1 e1
        rw [if_pos e1]; exact h1
      · rw [if_pos e2] at h2
        have := good_cmpI.strict a.k b.k d.k (by omega) h2
        rw [if_pos (by omega)]; omega
theorem ordR_lex : ∀ a b, ordR a b = lexL ordVa a b
  | [], [] => rfl
  | [], _ :: _ => rfl
  | _ :: _, [] => rfl
  | x :: l, y :: m => by unfold ordR lexL; rw [ordR_lex l m]
theorem good_ordR : Good ordR := by
  have e : ordR = lexL ordVa := by funext a b; exact ordR_lex a b
  rw [e]
  exact good_lexL good_ordVa
theorem ordR_bd (a b : List Va) : -1 ≤ ordR a b ∧ ordR a b ≤ 1 := by
  have hi : ∀ x y : Int, -1 ≤ cmpI x y ∧ cmpI x y ≤ 1 := fun x y => by unfold cmpI; repeat' split
                                                                       all_goals omega
  have hs : ∀ x y : List UInt8, -1 ≤ lexL cmpU x y ∧ lexL cmpU x y ≤ 1 := fun x => by
    induction x with
    | nil => intro y; cases y <;> simp [lexL]
    | cons x l ih =>
      intro y
      cases y with
      | nil => simp [lexL]
      | cons y m =>
        have := ih m
        have hu : -1 ≤ cmpU x y ∧ cmpU x y ≤ 1 := by unfold cmpU; repeat' split
                                                     all_goals omega
        unfold lexL
        split <;> omega
  have hv : ∀ x y, -1 ≤ ordVa x y ∧ ordVa x y ≤ 1 := fun x y => by
    rw [ordVa_eq]
    have h1 := hi x.k y.k
    have h2 := hi x.n y.n
    have h3 : -1 ≤ cmpS x.s y.s ∧ cmpS x.s y.s ≤ 1 := by unfold cmpS; rw [compareBytes_lex]; exact hs _ _
    repeat' split
    all_goals omega
  induction a generalizing b with
  | nil => cases b <;> simp [ordR]
  | cons x l ih =>
    cases b with
    | nil => simp [ordR]
    | cons y m =>
      have := ih m
      have := hv x y
      unfold ordR
      split <;> omega
end Go.Proofs.YtkdcnkadngbccaaGreatDoor
