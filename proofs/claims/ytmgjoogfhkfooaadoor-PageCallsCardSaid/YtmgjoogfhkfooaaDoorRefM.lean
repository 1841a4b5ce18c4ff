/-
  The document's own page: slots in memory; what its Bytes builds, slot by slot.
-/
import Derived.Test.YtmgjoogfhkfooaaDoorPgK
namespace Go.Proofs.YtmgjoogfhkfooaaDoor
open Go.RowKit Go.Lib

/-- a slot in memory: free (nil), or bytes at an address -/
structure Sv where
  A : Option Addr
  n : Nat
  c : Nat
  o : Slot
def Sv.val (x : Sv) : Value := .slice x.A x.n x.c
def vals (xs : List Sv) : List Value := xs.map Sv.val
def slotsOf (xs : List Sv) : List Slot := xs.map (·.o)
def Sv.Ok (w : World) (x : Sv) : Prop := match x.o with
  | none => x.A = none ∧ x.n = 0 ∧ x.c = 0
  | some b => (∃ a, x.A = some a) ∧ Rd w w.heap.size x.A x.n (cells b) ∧ IsBytes b ∧ b.length = x.n ∧ x.n ≤ x.c ∧ x.c ≤ maxLen
theorem Sv.Ok.below {w w' : World} {x : Sv} (h : x.Ok w) (hb : Below w.heap.size w w') : x.Ok w' := by
  unfold Sv.Ok at h ⊢
  split
  · rename_i e; rw [e] at h; exact h
  · rename_i b e
    rw [e] at h
    exact ⟨h.1, (h.2.1.below hb (Nat.le_refl _)).more hb.size, h.2.2⟩
theorem Sv.Ok.free {w : World} {x : Sv} (h : x.Ok w) (ho : x.o = none) : x.val = .slice none 0 0 := by
  unfold Sv.Ok at h
  rw [ho] at h
  obtain ⟨h1, h2, h3⟩ := h
  unfold Sv.val
  rw [h1, h2, h3]
theorem Sv.Ok.got {w : World} {x : Sv} {b : List Int} (h : x.Ok w) (ho : x.o = some b) : (∃ a, x.A = some a) ∧ Rd w w.heap.size x.A x.n (cells b) ∧ IsBytes b ∧ b.length = x.n ∧ x.n ≤ x.c ∧ x.c ≤ maxLen := by
  unfold Sv.Ok at h
  rw [ho] at h
  exact h
theorem vals_len (xs : List Sv) : (vals xs).length = xs.length := by simp [vals]
theorem slotsOf_len (xs : List Sv) : (slotsOf xs).length = xs.length := by simp [slotsOf]
theorem vals_at {xs : List Sv} {k : Nat} (h : k < xs.length) : (vals xs)[k]? = some xs[k].val := by simp [vals, h]
theorem slotsOf_at {xs : List Sv} {k : Nat} (h : k < xs.length) : (slotsOf xs)[k]? = some xs[k].o := by simp [slotsOf, h]
theorem vals_one (xs : List Sv) : ∀ u ∈ vals xs, u.oneCell' = true := by
  intro u hu
  simp only [vals, List.mem_map] at hu
  obtain ⟨x, _, rfl⟩ := hu
  rfl

/-- a page's slots in memory -/
structure PgR (w : World) (A : Option Addr) (n c : Nat) (xs : List Sv) : Prop where
  rd : Rd w w.heap.size A n (vals xs)
  ok : ∀ x ∈ xs, x.Ok w
  cap : n ≤ c
  top : c ≤ maxLen
section
variable {w w' : World} {A : Option Addr} {n c : Nat} {xs : List Sv}
theorem PgR.len (h : PgR w A n c xs) : xs.length = n := by have := h.rd.1; rwa [vals_len] at this
theorem PgR.below (h : PgR w A n c xs) (hb : Below w.heap.size w w') : PgR w' A n c xs := ⟨(h.rd.below hb (Nat.le_refl _)).more hb.size, fun x hx => (h.ok x hx).below hb, h.cap, h.top⟩
theorem PgR.nil : PgR w none 0 0 [] := ⟨Rd.empty, fun x hx => by (cases hx), Nat.le_refl _, by simp [maxLen]⟩
theorem PgR.at_ (h : PgR w A n c xs) {k : Nat} (hk : k < n) : ∃ ad x, A = some ad ∧ xs[k]? = some x ∧ w.cell? (ad.add k) = some x.val ∧ x.Ok w ∧ (slotsOf xs)[k]? = some x.o := by
  have hkx : k < xs.length := by rw [h.len]; exact hk
  obtain ⟨ad, u, e, _, hu, hc⟩ := h.rd.at_ hk
  rw [vals_at hkx] at hu
  exact ⟨ad, xs[k], e, List.getElem?_eq_getElem hkx, by rw [hc, ← Option.some.inj hu], h.ok _ (List.getElem_mem hkx), slotsOf_at hkx⟩
end

/-- a page that can be: what Bytes answers -/
def CanP (s : List Slot) : Prop := 1 + s.length + wtP s ≤ 256 ∧ ∀ o ∈ s, (bsS o).length ≤ 200
instance (s : List Slot) : Decidable (CanP s) := by unfold CanP; exact instDecidableAnd
def bytesP (s : List Slot) : Option (List Int) := if CanP s then some (imgP s) else none
theorem can_img {s : List Slot} (h : CanP s) : (imgP s).length = 256 := by
  have := h.1
  simp [imgP, marks_len]
  have : wtP s = (rowsP s).length := rfl
  omega
theorem fit_can {s : List Slot} (h : Fit s) : CanP s := ⟨h.room, h.len⟩
theorem can_fit {s : List Slot} (h : CanP s) (hb : ∀ o ∈ s, IsBytes (bsS o)) : Fit s := ⟨hb, h.2, h.1⟩

/-- behind i slots -/
def stg (s : List Slot) (i : Nat) : List Int := (s.length : Int) :: (marksP (s.take i) ++ (List.replicate (255 - i - wtP (s.take i)) 0 ++ rowsP (s.take i)))
theorem stg_zero (s : List Slot) : (List.replicate 256 (0 : Int)).set 0 (s.length : Int) = stg s 0 := by
  unfold stg
  rw [show (256 : Nat) = 255 + 1 by rfl, List.replicate_succ, List.set_cons_zero, List.take_zero]
  show _ = (s.length : Int) :: ([] ++ (List.replicate (255 - 0 - 0) 0 ++ []))
  rw [List.nil_append, List.append_nil]
theorem stg_all (s : List Slot) : stg s s.length = imgP s := by unfold stg imgP; rw [List.take_length]
theorem stg_none {s : List Slot} {i : Nat} (h : s[i]? = some none) (hr : i + 1 + wtP (s.take i) ≤ 255) : stg s (i + 1) = stg s i := by
  unfold stg
  have h1 : s.take (i + 1) = s.take i ++ [none] := take_succ_at h
  rw [h1, marks_append, rows_append, wt_append]
  obtain ⟨q, hq⟩ : ∃ q, 255 - i - wtP (s.take i) = q + 1 := ⟨255 - i - wtP (s.take i) - 1, by omega⟩
  have e : 255 - (i + 1) - (wtP (s.take i) + wtP [none]) = q := by simp [wtP, rowsP, bsS]; have : wtP (s.take i) = (rowsP (s.take i)).length := rfl; omega
  rw [e, hq, List.replicate_succ]
  simp [marksP, mkS, rowsP, bsS]
theorem stg_some {s : List Slot} {i : Nat} {b : List Int} (h : s[i]? = some (some b)) (hr : i + 1 + wtP (s.take i) + b.length ≤ 255) :
    splice ((stg s i).set (1 + i) ((b.length : Int) + 1)) (256 - wtP (s.take i) - b.length) b = stg s (i + 1) := by
  have hi : i < s.length := (List.getElem?_eq_some_iff.1 h).1
  have h1 : s.take (i + 1) = s.take i ++ [some b] := take_succ_at h
  have hml : (marksP (s.take i)).length = i := by rw [marks_len, List.length_take]; omega
  obtain ⟨q, hq⟩ : ∃ q, 255 - i - wtP (s.take i) = q + 1 := ⟨255 - i - wtP (s.take i) - 1, by omega⟩
  have hw : wtP (s.take i) = (rowsP (s.take i)).length := rfl
  have hset : (stg s i).set (1 + i) ((b.length : Int) + 1) = ((s.length : Int) :: (marksP (s.take i) ++ [(b.length : Int) + 1])) ++ (List.replicate q 0 ++ rowsP (s.take i)) := by
    unfold stg
    rw [show 1 + i = i + 1 by omega, List.set_cons_succ, hq, List.replicate_succ, List.set_append_right _ _ (by omega), hml, Nat.sub_self]
    simp
  rw [hset]
  have hql : q = (q - b.length) + b.length := by omega
  have hsplit : (List.replicate q (0 : Int)) = List.replicate (q - b.length) 0 ++ List.replicate b.length 0 := by
    rw [List.replicate_append_replicate, ← hql]
  have hpl : (((s.length : Int) :: (marksP (s.take i) ++ [(b.length : Int) + 1])) ++ List.replicate (q - b.length) 0).length = 256 - wtP (s.take i) - b.length := by
    simp [hml]; omega
  rw [hsplit, List.append_assoc, ← List.append_assoc ((s.length : Int) :: (marksP (s.take i) ++ [(b.length : Int) + 1]))]
  unfold splice
  rw [List.take_append_of_le_length (by omega), List.take_of_length_le (by omega), List.drop_append, List.drop_eq_nil_of_le (by omega), hpl, show 256 - wtP (s.take i) - b.length + b.length - (256 - wtP (s.take i) - b.length) = b.length by omega]
  rw [List.drop_append, List.drop_eq_nil_of_le (by simp), List.length_replicate, Nat.sub_self, List.drop_zero]
  unfold stg
  rw [h1, marks_append, rows_append, wt_append]
  have e : 255 - (i + 1) - (wtP (s.take i) + wtP [some b]) = q - b.length := by simp [wtP, rowsP, bsS]; omega
  rw [e]
  simp [marksP, mkS, rowsP, bsS]
theorem wt_take_le' {s : List Slot} {i : Nat} {o : Slot} (h : s[i]? = some o) : wtP (s.take i) + (bsS o).length ≤ wtP s := by
  have h1 := wt_take_succ h
  have h2 := wt_take_le s (i + 1)
  omega
end Go.Proofs.YtmgjoogfhkfooaaDoor
