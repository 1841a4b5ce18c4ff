/-
  The document's own page: trim, Get.
-/
import Derived.Test.YtmgjoogfhkfooaaDoorRefM
namespace Go.Proofs.YtmgjoogfhkfooaaDoor
open Go.RowKit Go.Lib

theorem q22 (w : World) (a : Option Addr) (n c n' c' : Nat) : (binOp .eql 22 (.slice a n c) (.slice none n' c')).run Tryd.prog w = .ok (.bool a.isNone) w := Lib.run_eql_slice_nil w _ _ a n c n' c' Tryd.underlying22
theorem none_of_ok {w : World} {x : Sv} (h : x.Ok w) : x.A.isNone = (x.o.isNone) := by
  cases ho : x.o with
  | none => have := h.free ho; unfold Sv.Ok at h; rw [ho] at h; rw [h.1]; rfl
  | some b => obtain ⟨⟨a, ha⟩, _⟩ := h.got ho; rw [ha]; rfl

def TmRel (A : Option Addr) (c n : Nat) (s : List Slot) (v : Value) : Prop := ∃ r, v = .slice A r c ∧ r ≤ n ∧ ∀ i, r ≤ i → i < n → s[i]? = some none

set_option maxRecDepth 100000 in
set_option maxHeartbeats 1600000 in
theorem trim_any (w : World) (A : Option Addr) (n c : Nat) (xs : List Sv) (h : PgR w A n c xs) :
    Calls Tryd.prog 40 #[.slice A n c] w fun e w' => e = .returned (.slice A (trimP (slotsOf xs)).length c) ∧ w' = w := by
  have hq := q22
  have hc := h.cap
  have hct := h.top
  unfold maxLen at hct
  have H := Lib.hid h
  have HLE := Lib.hid h.len
  clear h
  go_enter Tryd.func40, Tryd.ntmps40
  go_wp2
  go_loop [0] (fun v => TmRel A c n (slotsOf xs) v) (fun v => match v with | .slice _ r _ => r | _ => 0)
  case atStart => exact ⟨n, rfl, by omega, fun i h1 h2 => by omega⟩
  case round =>
    obtain ⟨r, rfl, hrn, hz⟩ := hrel
    have HZ := Lib.hid hz
    clear hz
    by_cases h0 : 0 < r
    · obtain ⟨k, rfl⟩ : ∃ k, r = k + 1 := ⟨r - 1, by omega⟩
      obtain ⟨ad, x, rfl, hx, hcell, hok, hso⟩ := H.out.at_ (k := k) (by omega)
      have h0i : (0 : Int) < ((k + 1 : Nat) : Int) := by omega
      have hk1 : ((k + 1 : Nat) : Int) - 1 = (k : Int) := by omega
      have hiso := none_of_ok hok
      have HSO := Lib.hid hso
      unfold Sv.val at hcell
      obtain ⟨xA, xn, xc, xo⟩ := x
      simp only at hcell hiso hso HSO
      have hx2 := hx
      have hok2 := hok
      clear hx hok hso hx2 hok2
      cases xo with
      | none =>
        obtain rfl : xA = none := by cases xA with
          | none => rfl
          | some a => cases hiso
        have HF := Lib.hid (show TmRel (some ad) c n (slotsOf xs) (.slice (some ad) k c) from ⟨k, rfl, by omega, fun i h1 h2 => by
          rcases Nat.lt_or_ge k i with h | h
          · exact HZ.out i h h2
          · obtain rfl : i = k := by omega
            exact HSO.out⟩)
        clear hiso
        go_wp2
        exact ⟨HF.out, by simp⟩
      | some b =>
        obtain ⟨a, rfl⟩ : ∃ a, xA = some a := by cases xA with
          | none => cases hiso
          | some a => exact ⟨a, rfl⟩
        have HF := Lib.hid (show (trimP (slotsOf xs)).length = k + 1 from trimmed ⟨by rw [marks_len, slotsOf_len, HLE.out]; omega, fun i h1 h2 => by
            rw [marks_len, slotsOf_len, HLE.out] at h2
            rw [marks_at, HZ.out i h1 h2]
            rfl, fun _ => by
            rw [Nat.add_sub_cancel, marks_at, HSO.out]
            simp [mkS]
            omega⟩)
        clear hiso
        go_wp2
        go_ret
        exact ⟨by rw [HF.out]; rfl, rfl⟩
    · obtain rfl : r = 0 := by omega
      have HF := Lib.hid (show (trimP (slotsOf xs)).length = 0 from trimmed ⟨by omega, fun i h1 h2 => by
            rw [marks_len, slotsOf_len, HLE.out] at h2
            rw [marks_at, HZ.out i h1 h2]
            rfl, fun h => absurd h (by omega)⟩)
      go_wp2
      go_ret
      exact ⟨by rw [HF.out]; rfl, rfl⟩

/-- what the document's Get answers -/
def RgRet (s : List Slot) (k : Int) (w : World) (e : Ending) (w' : World) : Prop :=
  ∃ A' n' c', e = .returned (.tuple #[.slice A' n' c', .bool (takenP s k)]) ∧ n' = ((getP (some s) k).getD []).length ∧ Rd w' w'.heap.size A' n' (cells ((getP (some s) k).getD [])) ∧ Below w.heap.size w w'
theorem rg_no {s : List Slot} {k : Int} {w w' : World} (h : takenP s k = false) (hb : Below w.heap.size w w') : RgRet s k w (.returned (.tuple #[.slice none 0 0, .bool false])) w' := by
  refine ⟨none, 0, 0, by rw [h], ?_, ?_, hb⟩
  · simp [getP, h]
  · simp only [getP, h]; exact Rd.empty

set_option maxRecDepth 100000 in
set_option maxHeartbeats 1600000 in
theorem refGet_any (w : World) (A : Option Addr) (n c : Nat) (xs : List Sv) (h : PgR w A n c xs) (k : Int) :
    Calls Tryd.prog 22 #[.agg #[.slice A n c], .int .i64 k] w (RgRet (slotsOf xs) k w) := by
  have hq := q22
  have hba := (Below.refl w.heap.size w).alloc (Nat.le_refl _) (.cells #[.slice A n c] 45)
  have HB := Lib.hid hba
  have hc := h.cap
  have hct := h.top
  unfold maxLen at hct
  have HLE := Lib.hid h.len
  have H := Lib.hid h
  have H1 := Lib.hid (h.below hba)
  clear hba
  by_cases h0 : k < 0
  · have HT := Lib.hid (show takenP (slotsOf xs) k = false by simp [takenP]; omega)
    clear h
    go_enter Tryd.func22, Tryd.ntmps22
    go_wp2
    go_ret2
    exact rg_no HT.out HB.out
  by_cases h1 : (n : Int) ≤ k
  · have HT := Lib.hid (show takenP (slotsOf xs) k = false by
      simp only [takenP]
      rw [List.getElem?_eq_none (by rw [slotsOf_len, HLE.out]; omega)]
      simp)
    clear h
    go_enter Tryd.func22, Tryd.ntmps22
    go_wp2
    go_ret2
    exact rg_no HT.out HB.out
  obtain ⟨j, rfl⟩ : ∃ j : Nat, k = (j : Int) := ⟨k.toNat, by omega⟩
  obtain ⟨ad, x, rfl, hx, hcell, hok, hso⟩ := H1.out.at_ (k := j) (by omega)
  have hiso := none_of_ok hok
  have HOK := Lib.hid hok
  have HSO := Lib.hid hso
  have hjn : j < n := by omega
  have hj0 : (0 : Int) ≤ (j : Int) := Int.natCast_nonneg _
  cases hxo : x.o with
  | none =>
    have HT := Lib.hid (show takenP (slotsOf xs) (j : Int) = false by simp [takenP, hso, hxo])
    rw [hok.free hxo] at hcell
    clear h hx hok hso hiso hxo
    go_enter Tryd.func22, Tryd.ntmps22
    go_wp2
    go_ret2
    exact rg_no HT.out HB.out
  | some b =>
    obtain ⟨⟨a, ha⟩, hrd, _, hbl, _⟩ := hok.got hxo
    have HF := Lib.hid (show RgRet (slotsOf xs) (j : Int) w (.returned (.tuple #[.slice (some a) x.n x.c, .bool true])) (w.alloc (.cells #[.slice (some ad) n c] 45)) from by
      have h2 := taken_at (s := slotsOf xs) (m := j) (b := b) (by rw [hso, hxo])
      refine ⟨some a, x.n, x.c, by rw [h2.1], ?_, ?_, HB.out⟩
      · rw [h2.2]; exact hbl.symm
      · rw [h2.2, ← ha]; exact hrd)
    unfold Sv.val at hcell
    rw [ha] at hcell
    obtain ⟨xn, hxn⟩ : ∃ xn, xn = x.n := ⟨_, rfl⟩
    obtain ⟨xc, hxc⟩ : ∃ xc, xc = x.c := ⟨_, rfl⟩
    rw [← hxn, ← hxc] at hcell HF
    clear h hx hok hso hiso hxo hrd hbl ha hxn hxc
    go_enter Tryd.func22, Tryd.ntmps22
    go_wp2
    go_ret2
    exact HF.out
end Go.Proofs.YtmgjoogfhkfooaaDoor
