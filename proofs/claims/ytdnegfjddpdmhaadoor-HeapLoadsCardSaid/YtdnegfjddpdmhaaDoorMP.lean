/-
  The document's own page: slots in memory; what its Bytes builds, slot by slot.
-/
import Derived.Test.YtdnegfjddpdmhaaDoorPgK
import Derived.Deep.RegionLaw
import Derived.Deep.Cut
namespace Go.Proofs.YtdnegfjddpdmhaaDoor
open Go.RowKit Go.Lib

/-- a slot in memory: free (nil), or bytes at an address -/
structure Sv where
  A : Option Addr
  n : Nat
  c : Nat
  o : Slot
def Sv.val (x : Sv) : Value := .slice x.A x.n x.c
def vals (xs : List Sv) : List Value := xs.map Sv.val
def slotsOf (xs : List Sv) : List Slot := xs.map (·.o)
def Sv.Ok (w : World) (x : Sv) : Prop := match x.o with
  | none => x.A = none ∧ x.n = 0 ∧ x.c = 0
  | some b => (∃ a, x.A = some a) ∧ Rd w w.heap.size x.A x.n (cells b) ∧ IsBytes b ∧ b.length = x.n ∧ x.n ≤ x.c ∧ x.c ≤ maxLen
theorem Sv.Ok.below {w w' : World} {x : Sv} (h : x.Ok w) (hb : Below w.heap.size w w') : x.Ok w' := by
  unfold Sv.Ok at h ⊢
  split
  · rename_i e; rw [e] at h; exact h
  · rename_i b e
    rw [e] at h
    exact ⟨h.1, (h.2.1.below hb (Nat.le_refl _)).more hb.size, h.2.2⟩
theorem Sv.Ok.free {w : World} {x : Sv} (h : x.Ok w) (ho : x.o = none) : x.val = .slice none 0 0 := by
  unfold Sv.Ok at h
  rw [ho] at h
  obtain ⟨h1, h2, h3⟩ := h
  unfold Sv.val
  rw [h1, h2, h3]
theorem Sv.Ok.got {w : World} {x : Sv} {b : List Int} (h : x.Ok w) (ho : x.o = some b) : (∃ a, x.A = some a) ∧ Rd w w.heap.size x.A x.n (cells b) ∧ IsBytes b ∧ b.length = x.n ∧ x.n ≤ x.c ∧ x.c ≤ maxLen := by
  unfold Sv.Ok at h
  rw [ho] at h
  exact h
theorem vals_len (xs : List Sv) : (vals xs).length = xs.length := by simp [vals]
theorem slotsOf_len (xs : List Sv) : (slotsOf xs).length = xs.length := by simp [slotsOf]
theorem vals_at {xs : List Sv} {k : Nat} (h : k < xs.length) : (vals xs)[k]? = some xs[k].val := by simp [vals, h]
theorem slotsOf_at {xs : List Sv} {k : Nat} (h : k < xs.length) : (slotsOf xs)[k]? = some xs[k].o := by simp [slotsOf, h]
theorem vals_one (xs : List Sv) : ∀ u ∈ vals xs, u.oneCell' = true := by
  intro u hu
  simp only [vals, List.mem_map] at hu
  obtain ⟨x, _, rfl⟩ := hu
  rfl

/-- a page's slots in memory -/
structure PgR (w : World) (A : Option Addr) (n c : Nat) (xs : List Sv) : Prop where
  rd : Rd w w.heap.size A n (vals xs)
  ok : ∀ x ∈ xs, x.Ok w
  cap : n ≤ c
  top : c ≤ maxLen
section
variable {w w' : World} {A : Option Addr} {n c : Nat} {xs : List Sv}
theorem PgR.len (h : PgR w A n c xs) : xs.length = n := by have := h.rd.1; rwa [vals_len] at this
theorem PgR.below (h : PgR w A n c xs) (hb : Below w.heap.size w w') : PgR w' A n c xs := ⟨(h.rd.below hb (Nat.le_refl _)).more hb.size, fun x hx => (h.ok x hx).below hb, h.cap, h.top⟩
theorem PgR.nil : PgR w none 0 0 [] := ⟨Rd.empty, fun x hx => by (cases hx), Nat.le_refl _, by simp [maxLen]⟩
theorem PgR.at_ (h : PgR w A n c xs) {k : Nat} (hk : k < n) : ∃ ad x, A = some ad ∧ xs[k]? = some x ∧ w.cell? (ad.add k) = some x.val ∧ x.Ok w ∧ (slotsOf xs)[k]? = some x.o := by
  have hkx : k < xs.length := by rw [h.len]; exact hk
  obtain ⟨ad, u, e, _, hu, hc⟩ := h.rd.at_ hk
  rw [vals_at hkx] at hu
  exact ⟨ad, xs[k], e, List.getElem?_eq_getElem hkx, by rw [hc, ← Option.some.inj hu], h.ok _ (List.getElem_mem hkx), slotsOf_at hkx⟩
end

/-- a page that can be: what Bytes answers -/
def CanP (s : List Slot) : Prop := 1 + s.length + wtP s ≤ 256 ∧ ∀ o ∈ s, (bsS o).length ≤ 200
instance (s : List Slot) : Decidable (CanP s) := by unfold CanP; exact instDecidableAnd
def bytesP (s : List Slot) : Option (List Int) := if CanP s then some (imgP s) else none
theorem can_img {s : List Slot} (h : CanP s) : (imgP s).length = 256 := by
  have := h.1
  simp [imgP, marks_len]
  have : wtP s = (rowsP s).length := rfl
  omega
theorem fit_can {s : List Slot} (h : Fit s) : CanP s := ⟨h.room, h.len⟩
theorem can_fit {s : List Slot} (h : CanP s) (hb : ∀ o ∈ s, IsBytes (bsS o)) : Fit s := ⟨hb, h.2, h.1⟩

/-- behind i slots -/
def stg (s : List Slot) (i : Nat) : List Int := (s.length : Int) :: (marksP (s.take i) ++ (List.replicate (255 - i - wtP (s.take i)) 0 ++ rowsP (s.take i)))
theorem stg_zero (s : List Slot) : (List.replicate 256 (0 : Int)).set 0 (s.length : Int) = stg s 0 := by
  unfold stg
  rw [show (256 : Nat) = 255 + 1 by rfl, List.replicate_succ, List.set_cons_zero, List.take_zero]
  show _ = (s.length : Int) :: ([] ++ (List.replicate (255 - 0 - 0) 0 ++ []))
  rw [List.nil_append, List.append_nil]
theorem stg_all (s : List Slot) : stg s s.length = imgP s := by unfold stg imgP; rw [List.take_length]
theorem stg_none {s : List Slot} {i : Nat} (h : s[i]? = some none) (hr : i + 1 + wtP (s.take i) ≤ 255) : stg s (i + 1) = stg s i := by
  unfold stg
  have h1 : s.take (i + 1) = s.take i ++ [none] := take_succ_at h
  rw [h1, marks_append, rows_append, wt_append]
  obtain ⟨q, hq⟩ : ∃ q, 255 - i - wtP (s.take i) = q + 1 := ⟨255 - i - wtP (s.take i) - 1, by omega⟩
  have e : 255 - (i + 1) - (wtP (s.take i) + wtP [none]) = q := by simp [wtP, rowsP, bsS]; have : wtP (s.take i) = (rowsP (s.take i)).length := rfl; omega
  rw [e, hq, List.replicate_succ]
  simp [marksP, mkS, rowsP, bsS]
theorem stg_some {s : List Slot} {i : Nat} {b : List Int} (h : s[i]? = some (some b)) (hr : i + 1 + wtP (s.take i) + b.length ≤ 255) :
    splice ((stg s i).set (1 + i) ((b.length : Int) + 1)) (256 - wtP (s.take i) - b.length) b = stg s (i + 1) := by
  have hi : i < s.length := (List.getElem?_eq_some_iff.1 h).1
  have h1 : s.take (i + 1) = s.take i ++ [some b] := take_succ_at h
  have hml : (marksP (s.take i)).length = i := by rw [marks_len, List.length_take]; omega
  obtain ⟨q, hq⟩ : ∃ q, 255 - i - wtP (s.take i) = q + 1 := ⟨255 - i - wtP (s.take i) - 1, by omega⟩
  have hw : wtP (s.take i) = (rowsP (s.take i)).length := rfl
  have hset : (stg s i).set (1 + i) ((b.length : Int) + 1) = ((s.length : Int) :: (marksP (s.take i) ++ [(b.length : Int) + 1])) ++ (List.replicate q 0 ++ rowsP (s.take i)) := by
    unfold stg
    rw [show 1 + i = i + 1 by omega, List.set_cons_succ, hq, List.replicate_succ, List.set_append_right _ _ (by omega), hml, Nat.sub_self]
    simp
  rw [hset]
  have hql : q = (q - b.length) + b.length := by omega
  have hsplit : (List.replicate q (0 : Int)) = List.replicate (q - b.length) 0 ++ List.replicate b.length 0 := by
    rw [List.replicate_append_replicate, ← hql]
  have hpl : (((s.length : Int) :: (marksP (s.take i) ++ [(b.length : Int) + 1])) ++ List.replicate (q - b.length) 0).length = 256 - wtP (s.take i) - b.length := by
    simp [hml]; omega
  rw [hsplit, List.append_assoc, ← List.append_assoc ((s.length : Int) :: (marksP (s.take i) ++ [(b.length : Int) + 1]))]
  unfold splice
  rw [List.take_append_of_le_length (by omega), List.take_of_length_le (by omega), List.drop_append, List.drop_eq_nil_of_le (by omega), hpl, show 256 - wtP (s.take i) - b.length + b.length - (256 - wtP (s.take i) - b.length) = b.length by omega]
  rw [List.drop_append, List.drop_eq_nil_of_le (by simp), List.length_replicate, Nat.sub_self, List.drop_zero]
  unfold stg
  rw [h1, marks_append, rows_append, wt_append]
  have e : 255 - (i + 1) - (wtP (s.take i) + wtP [some b]) = q - b.length := by simp [wtP, rowsP, bsS]; omega
  rw [e]
  simp [marksP, mkS, rowsP, bsS]
theorem wt_take_le' {s : List Slot} {i : Nat} {o : Slot} (h : s[i]? = some o) : wtP (s.take i) + (bsS o).length ≤ wtP s := by
  have h1 := wt_take_succ h
  have h2 := wt_take_le s (i + 1)
  omega
end Go.Proofs.YtdnegfjddpdmhaaDoor

/-
  The document's own page: trim, Get.
-/
namespace Go.Proofs.YtdnegfjddpdmhaaDoor
open Go.RowKit Go.Lib

theorem q22 (w : World) (a : Option Addr) (n c n' c' : Nat) : (binOp .eql 33 (.slice a n c) (.slice none n' c')).run Tryd.prog w = .ok (.bool a.isNone) w := Lib.run_eql_slice_nil w _ _ a n c n' c' Tryd.underlying33
theorem none_of_ok {w : World} {x : Sv} (h : x.Ok w) : x.A.isNone = (x.o.isNone) := by
  cases ho : x.o with
  | none => have := h.free ho; unfold Sv.Ok at h; rw [ho] at h; rw [h.1]; rfl
  | some b => obtain ⟨⟨a, ha⟩, _⟩ := h.got ho; rw [ha]; rfl

def TmRel (A : Option Addr) (c n : Nat) (s : List Slot) (v : Value) : Prop := ∃ r, v = .slice A r c ∧ r ≤ n ∧ ∀ i, r ≤ i → i < n → s[i]? = some none

set_option maxRecDepth 100000 in
set_option maxHeartbeats 1600000 in
theorem trim_any (w : World) (A : Option Addr) (n c : Nat) (xs : List Sv) (h : PgR w A n c xs) :
    Calls Tryd.prog 73 #[.slice A n c] w fun e w' => e = .returned (.slice A (trimP (slotsOf xs)).length c) ∧ w' = w := by
  have hq := q22
  have hc := h.cap
  have hct := h.top
  unfold maxLen at hct
  have H := Lib.hid h
  have HLE := Lib.hid h.len
  clear h
  go_enter Tryd.func73, Tryd.ntmps73
  go_wp2
  go_loop [0] (fun v => TmRel A c n (slotsOf xs) v) (fun v => match v with | .slice _ r _ => r | _ => 0)
  case atStart => exact ⟨n, rfl, by omega, fun i h1 h2 => by omega⟩
  case round =>
    obtain ⟨r, rfl, hrn, hz⟩ := hrel
    have HZ := Lib.hid hz
    clear hz
    by_cases h0 : 0 < r
    · obtain ⟨k, rfl⟩ : ∃ k, r = k + 1 := ⟨r - 1, by omega⟩
      obtain ⟨ad, x, rfl, hx, hcell, hok, hso⟩ := H.out.at_ (k := k) (by omega)
      have h0i : (0 : Int) < ((k + 1 : Nat) : Int) := by omega
      have hk1 : ((k + 1 : Nat) : Int) - 1 = (k : Int) := by omega
      have hiso := none_of_ok hok
      have HSO := Lib.hid hso
      unfold Sv.val at hcell
      obtain ⟨xA, xn, xc, xo⟩ := x
      simp only at hcell hiso hso HSO
      have hx2 := hx
      have hok2 := hok
      clear hx hok hso hx2 hok2
      cases xo with
      | none =>
        obtain rfl : xA = none := by cases xA with
          | none => rfl
          | some a => cases hiso
        have HF := Lib.hid (show TmRel (some ad) c n (slotsOf xs) (.slice (some ad) k c) from ⟨k, rfl, by omega, fun i h1 h2 => by
          rcases Nat.lt_or_ge k i with h | h
          · exact HZ.out i h h2
          · obtain rfl : i = k := by omega
            exact HSO.out⟩)
        clear hiso
        go_wp2
        exact ⟨HF.out, by simp⟩
      | some b =>
        obtain ⟨a, rfl⟩ : ∃ a, xA = some a := by cases xA with
          | none => cases hiso
          | some a => exact ⟨a, rfl⟩
        have HF := Lib.hid (show (trimP (slotsOf xs)).length = k + 1 from trimmed ⟨by rw [marks_len, slotsOf_len, HLE.out]; omega, fun i h1 h2 => by
            rw [marks_len, slotsOf_len, HLE.out] at h2
            rw [marks_at, HZ.out i h1 h2]
            rfl, fun _ => by
            rw [Nat.add_sub_cancel, marks_at, HSO.out]
            simp [mkS]
            omega⟩)
        clear hiso
        go_wp2
        go_ret
        exact ⟨by rw [HF.out]; rfl, rfl⟩
    · obtain rfl : r = 0 := by omega
      have HF := Lib.hid (show (trimP (slotsOf xs)).length = 0 from trimmed ⟨by omega, fun i h1 h2 => by
            rw [marks_len, slotsOf_len, HLE.out] at h2
            rw [marks_at, HZ.out i h1 h2]
            rfl, fun h => absurd h (by omega)⟩)
      go_wp2
      go_ret
      exact ⟨by rw [HF.out]; rfl, rfl⟩

/-- what the document's Get answers -/
def RgRet (s : List Slot) (k : Int) (w : World) (e : Ending) (w' : World) : Prop :=
  ∃ A' n' c', e = .returned (.tuple #[.slice A' n' c', .bool (takenP s k)]) ∧ n' = ((getP (some s) k).getD []).length ∧ Rd w' w'.heap.size A' n' (cells ((getP (some s) k).getD [])) ∧ Below w.heap.size w w'
theorem rg_no {s : List Slot} {k : Int} {w w' : World} (h : takenP s k = false) (hb : Below w.heap.size w w') : RgRet s k w (.returned (.tuple #[.slice none 0 0, .bool false])) w' := by
  refine ⟨none, 0, 0, by rw [h], ?_, ?_, hb⟩
  · simp [getP, h]
  · simp only [getP, h]; exact Rd.empty

set_option maxRecDepth 100000 in
set_option maxHeartbeats 1600000 in
theorem refGet_any (w : World) (A : Option Addr) (n c : Nat) (xs : List Sv) (h : PgR w A n c xs) (k : Int) :
    Calls Tryd.prog 63 #[.agg #[.slice A n c], .int .i64 k] w (RgRet (slotsOf xs) k w) := by
  have hq := q22
  have hba := (Below.refl w.heap.size w).alloc (Nat.le_refl _) (.cells #[.slice A n c] 70)
  have HB := Lib.hid hba
  have hc := h.cap
  have hct := h.top
  unfold maxLen at hct
  have HLE := Lib.hid h.len
  have H := Lib.hid h
  have H1 := Lib.hid (h.below hba)
  clear hba
  by_cases h0 : k < 0
  · have HT := Lib.hid (show takenP (slotsOf xs) k = false by simp [takenP]; omega)
    clear h
    go_enter Tryd.func63, Tryd.ntmps63
    go_wp2
    go_ret2
    exact rg_no HT.out HB.out
  by_cases h1 : (n : Int) ≤ k
  · have HT := Lib.hid (show takenP (slotsOf xs) k = false by
      simp only [takenP]
      rw [List.getElem?_eq_none (by rw [slotsOf_len, HLE.out]; omega)]
      simp)
    clear h
    go_enter Tryd.func63, Tryd.ntmps63
    go_wp2
    go_ret2
    exact rg_no HT.out HB.out
  obtain ⟨j, rfl⟩ : ∃ j : Nat, k = (j : Int) := ⟨k.toNat, by omega⟩
  obtain ⟨ad, x, rfl, hx, hcell, hok, hso⟩ := H1.out.at_ (k := j) (by omega)
  have hiso := none_of_ok hok
  have HOK := Lib.hid hok
  have HSO := Lib.hid hso
  have hjn : j < n := by omega
  have hj0 : (0 : Int) ≤ (j : Int) := Int.natCast_nonneg _
  cases hxo : x.o with
  | none =>
    have HT := Lib.hid (show takenP (slotsOf xs) (j : Int) = false by simp [takenP, hso, hxo])
    rw [hok.free hxo] at hcell
    clear h hx hok hso hiso hxo
    go_enter Tryd.func63, Tryd.ntmps63
    go_wp2
    go_ret2
    exact rg_no HT.out HB.out
  | some b =>
    obtain ⟨⟨a, ha⟩, hrd, _, hbl, _⟩ := hok.got hxo
    have HF := Lib.hid (show RgRet (slotsOf xs) (j : Int) w (.returned (.tuple #[.slice (some a) x.n x.c, .bool true])) (w.alloc (.cells #[.slice (some ad) n c] 70)) from by
      have h2 := taken_at (s := slotsOf xs) (m := j) (b := b) (by rw [hso, hxo])
      refine ⟨some a, x.n, x.c, by rw [h2.1], ?_, ?_, HB.out⟩
      · rw [h2.2]; exact hbl.symm
      · rw [h2.2, ← ha]; exact hrd)
    unfold Sv.val at hcell
    rw [ha] at hcell
    obtain ⟨xn, hxn⟩ : ∃ xn, xn = x.n := ⟨_, rfl⟩
    obtain ⟨xc, hxc⟩ : ∃ xc, xc = x.c := ⟨_, rfl⟩
    rw [← hxn, ← hxc] at hcell HF
    clear h hx hok hso hiso hxo hrd hbl ha hxn hxc
    go_enter Tryd.func63, Tryd.ntmps63
    go_wp2
    go_ret2
    exact HF.out
end Go.Proofs.YtdnegfjddpdmhaaDoor

/-
  The document's own page: Bytes.
-/
namespace Go.Proofs.YtdnegfjddpdmhaaDoor
open Go.RowKit Go.Lib

theorem bytes_no {s : List Slot} {w w' : World} (h : ¬ CanP s) (hb : Below w.heap.size w w') : BsRet (bytesP s) w (.returned (.tuple #[.slice none 0 0, .bool false])) w' :=
  bs_no (by unfold bytesP; rw [if_neg h]) hb

/-- how far the loop is -/
def ByRel (w1 : World) (g : Nat) (s : List Slot) (end' i : Value) (wr : World) : Prop :=
  ∃ k : Nat, k ≤ s.length ∧ i = .int .i64 k ∧ end' = .int .i64 ((256 - wtP (s.take k) : Nat) : Int) ∧ k + wtP (s.take k) ≤ 255 ∧ s.length + wtP (s.take k) ≤ 255 ∧ (∀ o ∈ s.take k, (bsS o).length ≤ 200) ∧ Blk wr g 5 (cells (stg s k)).toArray ∧ Below w1.heap.size w1 wr

theorem stg_len {s : List Slot} {k : Nat} (hk : k ≤ s.length) (h : k + wtP (s.take k) ≤ 255) : (stg s k).length = 256 := by
  have : wtP (s.take k) = (rowsP (s.take k)).length := rfl
  simp [stg, marks_len]
  omega
theorem marks_byte {s : List Slot} (o : Slot) : True := trivial

set_option maxRecDepth 100000 in
set_option maxHeartbeats 6400000 in
theorem refBytes_any (w : World) (A : Option Addr) (n c : Nat) (xs : List Sv) (h : PgR w A n c xs) :
    Calls Tryd.prog 39 #[.agg #[.slice A n c]] w (BsRet (bytesP (slotsOf xs)) w) := by
  have hq := q22
  have hmk := make256
  have hc := h.cap
  have hct := h.top
  unfold maxLen at hct
  have HLE := Lib.hid (show (slotsOf xs).length = n by rw [slotsOf_len]; exact h.len)
  have hba := (Below.refl w.heap.size w).alloc (Nat.le_refl _) (.cells #[.slice A n c] 70)
  have hbx : Blk (w.alloc (.cells #[.slice A n c] 70)) w.heap.size 70 #[.slice A n c] := Blk.new _ _ _
  have hp1 := h.below hba
  obtain ⟨w1, hw1⟩ : ∃ w1, w1 = w.alloc (.cells #[.slice A n c] 70) := ⟨_, rfl⟩
  rw [← hw1] at hba hbx hp1
  have HW1 := Lib.hid hw1
  have H1 := Lib.hid (And.intro hba (And.intro hbx hp1))
  clear hba hbx hp1 hw1 h
  have hb2 := (Below.refl w1.heap.size w1).alloc (Nat.le_refl _) (.cells zarr 5)
  have HB2 := Lib.hid hb2
  have HG := Lib.hid (show Blk (w1.alloc (.cells zarr 5)) w1.heap.size 5 zarr from Blk.new _ _ _)
  clear hb2
  have hc0 : w1.cell? ⟨w.heap.size, 0, none⟩ = some (.slice A n c) := by rw [H1.out.2.1.cell]; rfl
  have hc1 : (w1.alloc (.cells zarr 5)).cell? ⟨w.heap.size, 0, none⟩ = some (.slice A n c) := (HB2.out.cell (p := ⟨w.heap.size, 0, none⟩) H1.out.2.1.lt).trans hc0
  have hz0 : (w1.alloc (.cells zarr 5)).cell? ⟨w1.heap.size, 0, none⟩ = some (.int .u8 0) := by rw [HG.out.cell, zarr_cells]; rfl
  have hfz := HG.out.frozen 0
  by_cases hbig : 255 < n
  · have HN := Lib.hid (show ¬ CanP (slotsOf xs) from fun h => by have := h.1; rw [HLE.out] at this; omega)
    go_enter Tryd.func39, Tryd.ntmps39
    go_upto_region 1 with (fail)
    rw [← HW1.out]
    go_wp2
    go_ret2
    exact bytes_no HN.out (H1.out.1.trans (HB2.out.mono H1.out.1.size))
  have hwn : IntKind.u8.wrap (n : Int) = (n : Int) := by rw [IntKind.wrap_u8]; omega
  have HZ := Lib.hid (show (zarr.setIfInBounds 0 (.int .u8 (n : Int))) = (cells (stg (slotsOf xs) 0)).toArray by
    rw [zarr_cells, List.setIfInBounds_toArray, set_cells, ← HLE.out]
    rw [show zeros.set 0 ((slotsOf xs).length : Int) = stg (slotsOf xs) 0 from stg_zero _])
  have HST := Lib.hid (show Blk (w1.alloc (.cells (zarr.setIfInBounds 0 (.int .u8 (n : Int))) 5)) w1.heap.size 5 (cells (stg (slotsOf xs) 0)).toArray from by rw [HZ.out]; exact Blk.new _ _ _)
  have HSB := Lib.hid ((Below.refl w1.heap.size w1).alloc (Nat.le_refl _) (.cells (zarr.setIfInBounds 0 (.int .u8 (n : Int))) 5))
  go_enter Tryd.func39, Tryd.ntmps39
  go_upto_region 1 with (fail)
  rw [← HW1.out]
  go_wp2_with fail
  clear hc1 hz0 hfz hc0
  go_loopw [5, 6] (fun e i wr => ByRel w1 w1.heap.size (slotsOf xs) e i wr) (fun _ i _ => n - (intOf i).toNat)
  case atStart => exact ⟨0, by omega, rfl, rfl, by simp [wt_nil], by rw [HLE.out, List.take_zero, wt_nil]; omega, (by intro o ho; rw [List.take_zero] at ho; cases ho), HST.out, HSB.out⟩
  case round =>
    obtain ⟨k, hk, rfl, rfl, hkw, hsw, hsm, hblk, hbel⟩ := hrel
    have hk0 : (0 : Int) ≤ (k : Int) := Int.natCast_nonneg _
    have hcb : wr.cell? ⟨w.heap.size, 0, none⟩ = some (.slice A n c) := (hbel.cell (p := ⟨w.heap.size, 0, none⟩) H1.out.2.1.lt).trans (by rw [H1.out.2.1.cell]; rfl)
    have HK := Lib.hid (And.intro hblk hbel)
    have HSM := Lib.hid hsm
    rw [HLE.out] at hk hsw
    obtain ⟨W, hW⟩ : ∃ W, W = wtP ((slotsOf xs).take k) := ⟨_, rfl⟩
    obtain ⟨E, hE⟩ : ∃ E, E = 256 - W := ⟨_, rfl⟩
    rw [← hW, ← hE]
    rw [← hW] at hkw hsw
    have HWE := Lib.hid hW
    have hEW : E + W = 256 := by omega
    have hE0 : (0 : Int) ≤ (E : Int) := Int.natCast_nonneg _
    clear hblk hbel hW hE hsm
    by_cases hlt : k < n
    · obtain ⟨ad, x, rfl, hx, hcell1, hok1, hso⟩ := H1.out.2.2.at_ hlt
      have hcell := (HK.out.2.cell (p := ad.add k) (World.block_lt_of_cell? _ _ hcell1)).trans hcell1
      have hok := hok1.below HK.out.2
      have HC1 := Lib.hid hcell1
      have HOK1 := Lib.hid hok1
      clear hcell1 hok1
      have HSO := Lib.hid hso
      cases hxo : x.o with
      | none =>
        rw [hok.free hxo] at hcell
        have HF := Lib.hid (show ByRel w1 w1.heap.size (slotsOf xs) (.int .i64 (E : Int)) (.int .i64 ((k : Int) + 1)) wr from by
          have h1 : (slotsOf xs)[k]? = some none := by rw [HSO.out, hxo]
          have h2 : wtP ((slotsOf xs).take (k + 1)) = wtP ((slotsOf xs).take k) := by rw [wt_take_succ h1]; rfl
          have h3 : (slotsOf xs).take (k + 1) = (slotsOf xs).take k ++ [none] := take_succ_at h1
          refine ⟨k + 1, by rw [HLE.out]; omega, by simp, by rw [h2, ← HWE.out]; congr 1; omega, by rw [h2, ← HWE.out]; omega, by rw [h2, ← HWE.out, HLE.out]; omega, fun o ho => ?_, ?_, HK.out.2⟩
          · rw [h3] at ho
            rcases List.mem_append.1 ho with ho | ho
            · exact HSM.out o ho
            · rw [List.mem_singleton.1 ho]; simp [bsS]
          · rw [stg_none h1 (by rw [← HWE.out]; omega)]
            exact HK.out.1)
        clear hx hok hso hxo
        go_wp2
        go_roundw
        case rel => exact HF.out
        case measure => simp [intOf]; omega
      | some b =>
        obtain ⟨⟨a, ha⟩, hrd, hbb, hbl, hxc, hxt⟩ := hok.got hxo
        have h1 : (slotsOf xs)[k]? = some (some b) := by rw [hso, hxo]
        have H1S := Lib.hid h1
        unfold Sv.val at hcell
        rw [ha] at hcell hrd
        have hcv : x.val = .slice (some a) x.n x.c := by unfold Sv.val; rw [ha]
        rw [hcv] at HC1
        obtain ⟨xn, hxn⟩ : ∃ xn, xn = x.n := ⟨_, rfl⟩
        obtain ⟨xc, hxcc⟩ : ∃ xc, xc = x.c := ⟨_, rfl⟩
        rw [← hxn] at hcell hrd hbl hxc HC1
        rw [← hxcc] at hcell hxc hxt HC1
        unfold maxLen at hxt
        have HRD := Lib.hid hrd
        have RD1 := Lib.hid (show Rd w1 w1.heap.size (some a) xn (cells b) from by
          obtain ⟨_, h, _⟩ := HOK1.out.got hxo
          rw [ha, ← hxn] at h
          exact h)
        have HBL := Lib.hid hbl
        clear hx hok hso hxo ha hrd hbb hbl hxn hxcc h1 hcv
        have hn0 : (0 : Int) ≤ (xn : Int) := Int.natCast_nonneg _
        by_cases h200 : 200 < xn
        · have HN := Lib.hid (show ¬ CanP (slotsOf xs) from fun h => by
            have := h.2 _ (List.mem_of_getElem? H1S.out)
            simp only [bsS] at this
            rw [HBL.out] at this
            omega)
          have HBF := Lib.hid (H1.out.1.trans (HK.out.2.mono H1.out.1.size))
          go_wp2
          go_ret2
          exact bytes_no HN.out HBF.out
        by_cases hrm : (E : Int) - (xn : Int) < 1 + (n : Int)
        · have HN := Lib.hid (show ¬ CanP (slotsOf xs) from fun h => by
            have h3 := h.1
            have h2 := wt_take_le' H1S.out
            simp only [bsS] at h2
            rw [HBL.out, ← HWE.out] at h2
            rw [HLE.out] at h3
            omega)
          have HBF := Lib.hid (H1.out.1.trans (HK.out.2.mono H1.out.1.size))
          go_wp2
          go_ret2
          exact bytes_no HN.out HBF.out
        obtain ⟨e', he'⟩ : ∃ e' : Nat, e' = E - xn := ⟨_, rfl⟩
        have hei : (E : Int) - (xn : Int) = (e' : Int) := by omega
        have he0 : (0 : Int) ≤ (e' : Int) := Int.natCast_nonneg _
        have hle : e' + xn ≤ 256 := by omega
        have he2 : e' ≤ 256 := by omega
        have he3 : (e' : Int) ≤ 256 := by omega
        have HE2 := Lib.hid he'
        clear he'
        have hstl : (stg (slotsOf xs) k).length = 256 := stg_len (by rw [HLE.out]; omega) (by rw [← HWE.out]; omega)
        have hc1 : ∃ v, wr.cell? ⟨w1.heap.size, 1 + k, none⟩ = some v := by
          rw [HK.out.1.cell]
          exact ⟨_, Array.getElem?_eq_getElem (by simp [cells_len, hstl]; omega)⟩
        obtain ⟨v1, hc1⟩ := hc1
        have hf1 := HK.out.1.frozen (1 + k)
        have hw8 : IntKind.u8.wrap ((xn : Int) + 1) = (xn : Int) + 1 := by rw [IntKind.wrap_u8]; omega
        have HP := Lib.hid (And.intro (show Blk (wr.setCell ⟨w1.heap.size, 1 + k, none⟩ (.int .u8 ((xn : Int) + 1))) w1.heap.size 5 (cells ((stg (slotsOf xs) k).set (1 + k) ((xn : Int) + 1))).toArray from by
          have h := HK.out.1.put (1 + k) (.int .u8 ((xn : Int) + 1))
          simp only [List.setIfInBounds_toArray, set_cells] at h
          exact h) (HK.out.2.setCell (p := ⟨w1.heap.size, 1 + k, none⟩) (Nat.le_refl _) (.int .u8 ((xn : Int) + 1))))
        go_wp2_with fail
        obtain ⟨wq, hwq⟩ : ∃ wq, wq = wr.setCell ⟨w1.heap.size, 1 + k, none⟩ (.int .u8 ((xn : Int) + 1)) := ⟨_, rfl⟩
        rw [← hwq] at HP ⊢
        have hcbq : wq.cell? ⟨w.heap.size, 0, none⟩ = some (.slice (some ad) n c) := (HP.out.2.cell (p := ⟨w.heap.size, 0, none⟩) H1.out.2.1.lt).trans (by rw [H1.out.2.1.cell]; rfl)
        have hcellq := (HP.out.2.cell (p := ad.add k) (World.block_lt_of_cell? _ _ HC1.out)).trans HC1.out
        have HRQ := Lib.hid (show Rd wq w1.heap.size (some a) xn (cells b) from RD1.out.below HP.out.2 (Nat.le_refl _))
        clear hwq hcell hcb hc1 hf1
        have HSL := Lib.hid (show (cells ((stg (slotsOf xs) k).set (1 + k) ((xn : Int) + 1))).length = 256 by rw [cells_len, List.length_set, hstl])
        have HFIN := Lib.hid (show ∀ w4, w4.heap[w1.heap.size]? = some (.cells (splice (cells ((stg (slotsOf xs) k).set (1 + k) ((xn : Int) + 1))) e' (cells b)).toArray 5 (0, 0)) → Below w1.heap.size w1 w4 →
            ByRel w1 w1.heap.size (slotsOf xs) (.int .i64 (e' : Int)) (.int .i64 ((k : Int) + 1)) w4 from fun w4 hg4 hb4 => by
          have h2 : wtP ((slotsOf xs).take (k + 1)) = W + xn := by rw [wt_take_succ H1S.out, ← HWE.out]; simp only [bsS]; rw [HBL.out]
          have h3 : (slotsOf xs).take (k + 1) = (slotsOf xs).take k ++ [some b] := take_succ_at H1S.out
          have h4 := stg_some H1S.out (by rw [← HWE.out, HBL.out]; omega)
          rw [HBL.out, ← HWE.out, show 256 - W - xn = e' by have := HE2.out; omega] at h4
          refine ⟨k + 1, by rw [HLE.out]; omega, by simp, by rw [h2]; congr 1; have := HE2.out; omega, by rw [h2]; omega, by rw [h2, HLE.out]; omega, fun o ho => ?_, ?_, hb4⟩
          · rw [h3] at ho
            rcases List.mem_append.1 ho with ho | ho
            · exact HSM.out o ho
            · rw [List.mem_singleton.1 ho]; simp only [bsS]; rw [HBL.out]; omega
          · rw [splice_cells, h4] at hg4
            exact hg4)
        clear hstl
        by_cases he256 : 256 = e'
        · subst he256
          have hx0 : xn = 0 := by omega
          go_region_law (refine step_copy_splice rfl (.tmp 62) (.tmp 67) 33 33 rfl 5 Tryd.underlying33 Tryd.dksize5 _ _ _ _ _ _ (by rfl) (by rfl) w1.heap.size 256 (cells ((stg (slotsOf xs) k).set (1 + k) ((xn : Int) + 1))) 5 HP.out.1 (cells b) (by rw [cells_len, HBL.out, hx0]; rfl) (fun h => absurd h (by rw [cells_len, HBL.out]; omega)) (by rw [HSL.out, cells_len, HBL.out]; omega) (cells_one _) w1.heap.size w1 HP.out.2.drew (Nat.le_refl _) ?_; intro w4 hg4 hb4)
          have HF := Lib.hid (HFIN.out w4 hg4.out hb4)
          clear hg4 hb4
          go_wp2
          go_roundw
          case rel => exact HF.out
          case measure => simp [intOf]; omega
        · have he4 : ¬ e' = 256 := fun h => he256 h.symm
          go_region_law (refine step_copy_splice rfl (.tmp 62) (.tmp 67) 33 33 rfl 5 Tryd.underlying33 Tryd.dksize5 _ _ _ _ _ _ (by rfl) (by rfl) w1.heap.size e' (cells ((stg (slotsOf xs) k).set (1 + k) ((xn : Int) + 1))) 5 HP.out.1 (cells b) (by rw [cells_len, HBL.out]; exact (Nat.min_eq_left (by omega)).symm) (fun h => ⟨rfl, _, rfl, fun j v hv => by
            obtain ⟨ad', e1, _, hcc⟩ := HRQ.out.2 (by rw [cells_len, HBL.out] at h; exact h)
            obtain rfl := Option.some.inj e1
            exact hcc j v hv⟩) (by rw [HSL.out, cells_len, HBL.out]; omega) (cells_one _) w1.heap.size w1 HP.out.2.drew (Nat.le_refl _) ?_; intro w4 hg4 hb4)
          have HF := Lib.hid (HFIN.out w4 hg4.out hb4)
          clear hg4 hb4
          go_wp2
          go_roundw
          case rel => exact HF.out
          case measure => simp [intOf]; omega
    · obtain rfl : k = n := by omega
      have htk : (slotsOf xs).take k = slotsOf xs := List.take_of_length_le (by rw [HLE.out]; exact Nat.le_refl _)
      rw [htk] at HWE HSM
      have HST2 := Lib.hid (show Blk wr w1.heap.size 5 (cells (imgP (slotsOf xs))).toArray from by have h := HK.out.1; rw [← HLE.out, stg_all] at h; exact h)
      have HB3 := Lib.hid (H1.out.1.trans (HK.out.2.mono H1.out.1.size))
      have HLO := Lib.hid H1.out.1.size
      have HCAN := Lib.hid (show CanP (slotsOf xs) from ⟨by rw [HLE.out, ← HWE.out]; omega, HSM.out⟩)
      have hle1 : (1 : Int) + (k : Int) ≤ (E : Int) := by omega
      clear htk
      go_wp2
      go_ret2
      have hl := can_img HCAN.out
      refine ⟨_, by unfold bytesP; rw [if_pos HCAN.out]; rfl, ?_, HB3.out⟩
      unfold bytesP
      rw [if_pos HCAN.out]
      have h := own_blk (base := w.heap.size) HST2.out HLO.out (by rw [hl]; simp [maxLen])
      rw [hl] at h
      simpa [hl] using h
end Go.Proofs.YtdnegfjddpdmhaaDoor
