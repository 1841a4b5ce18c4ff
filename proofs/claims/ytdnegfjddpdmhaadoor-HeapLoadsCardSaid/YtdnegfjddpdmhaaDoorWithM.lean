/-
  Plain mathematics for layer 6: what 'with' builds out of noughts.
-/
import Derived.Test.YtdnegfjddpdmhaaDoorPgM
import Derived.Laws.CopyOwn
namespace Go.Proofs.YtdnegfjddpdmhaaDoor
open Go.RowKit Go.Lib

def zeros : List Int := List.replicate 256 0
theorem splice_map {α β : Type} (f : α → β) (L : List α) (o : Nat) (cs : List α) : splice (L.map f) o (cs.map f) = (splice L o cs).map f := by simp [splice]
theorem splice_cells (L : List Int) (o : Nat) (cs : List Int) : splice (cells L) o (cells cs) = cells (splice L o cs) := splice_map _ _ _ _
theorem set_cells (L : List Int) (i : Nat) (x : Int) : (cells L).set i (.int .u8 x) = cells (L.set i x) := by simp [cells, List.map_set]

section
variable {p : List Int} {s : List Slot}
/-- behind the first copy -/
def st1 (s : List Slot) : List Int := (s.length : Int) :: (marksP s ++ List.replicate (255 - s.length) 0)
theorem with1 (hp : IsPg p s) : splice zeros 0 (p.take (1 + s.length)) = st1 s := by
  have h1 := hp.slots
  have h2 : p.take (1 + s.length) = (s.length : Int) :: marksP s := by
    have e := hp.marks
    have hh := hp.head
    match p, hh with
    | x :: r, hh =>
      rw [List.getElem?_cons_zero] at hh
      have hx := Option.some.inj hh
      rw [show 1 + s.length = s.length + 1 by omega, List.take_succ_cons, hx]
      simpa using e
  rw [h2]
  have hl : ((s.length : Int) :: marksP s).length = s.length + 1 := by rw [List.length_cons, marks_len]
  unfold splice
  rw [hl, List.take_zero, List.nil_append, Nat.zero_add, zeros, List.drop_replicate, show 256 - (s.length + 1) = 255 - s.length by omega]
  rfl
/-- behind the two stores -/
def st3 (t : List Slot) : List Int := (t.length : Int) :: (marksP t ++ List.replicate (255 - t.length) 0)
theorem pad_pad (s : List Slot) (j m : Nat) (h : j ≤ m) : padP (padP s j) m = padP s m := by
  unfold padP
  rw [List.append_assoc, List.replicate_append_replicate]
  congr 2
  simp
  omega
theorem with3 (s : List Slot) (j : Nat) (o : Slot) (hs : s.length ≤ 255) (hj : j ≤ 254) :
    ((st1 s).set 0 ((max s.length (j + 1) : Nat) : Int)).set (1 + j) (mkS o) = st3 (setP s j o) := by
  have hM : (setP s j o).length = max s.length (j + 1) := set_len s j o
  have e1 : marksP s ++ List.replicate (255 - s.length) 0 = marksP (padP s 255) := by
    rw [padP, marks_append, marks_none]
  have e2 : marksP (setP s j o) ++ List.replicate (255 - (setP s j o).length) 0 = marksP ((padP s 255).set j o) := by
    rw [← marks_none, ← marks_append]
    congr 1
    have e3 : setP s j o ++ List.replicate (255 - (setP s j o).length) none = padP (setP s j o) 255 := rfl
    rw [e3]
    have e4 : padP s 255 = padP (padP s (j + 1)) 255 := (pad_pad s (j + 1) 255 (by omega)).symm
    rw [e4]
    have hj' : j < (padP s (j + 1)).length := by rw [pad_len]; omega
    show setP s j o ++ List.replicate (255 - (setP s j o).length) none = (padP s (j + 1) ++ List.replicate (255 - (padP s (j + 1)).length) none).set j o
    rw [List.set_append_left _ _ hj', hM, pad_len]
    rfl
  unfold st1 st3
  rw [List.set_cons_zero, show 1 + j = j + 1 by omega, List.set_cons_succ, e1, e2, hM]
  congr 1
  simp [marksP, List.map_set]
/-- behind the second copy -/
theorem with4 (t : List Slot) (h : 1 + t.length + wtP t ≤ 256) : splice (st3 t) (256 - (rowsP t).length) (rowsP t) = imgP t := by
  have hw : wtP t = (rowsP t).length := rfl
  rw [← hw]
  have hl : (st3 t).length = 256 := by simp [st3, marks_len]; omega
  unfold splice
  rw [← hw, show 256 - wtP t + wtP t = 256 by omega, List.drop_eq_nil_of_le (by omega), List.append_nil]
  unfold st3 imgP
  rw [show 256 - wtP t = (255 - wtP t) + 1 by omega, List.take_succ_cons, List.cons_append, List.take_append, List.take_of_length_le (show (marksP t).length ≤ 255 - wtP t by rw [marks_len]; omega), List.take_replicate, marks_len, Nat.min_eq_left (by omega), List.append_assoc, show 255 - wtP t - t.length = 255 - t.length - wtP t by omega]
end
end Go.Proofs.YtdnegfjddpdmhaaDoor
