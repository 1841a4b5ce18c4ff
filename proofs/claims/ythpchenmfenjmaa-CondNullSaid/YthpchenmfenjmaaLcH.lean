/-
  Rows of conditions of one's own: CopyConds, one more behind.
-/
import Derived.Test.YthpchenmfenjmaaLcG
import Derived.Test.YthpchenmfenjmaaPrF
namespace Go.Proofs.Ythpchenmfenjmaa
open Go.RowKit Go.Lib Go.Shelf

theorem Try.infocond : (Try.prog.info? 25).map (fun i => (i.zero, i.size, i.bytes)) = some (some (.agg #[.string ⟨#[]⟩, .int .i64 0, .int .i64 0, .int .i64 0, .string ⟨#[]⟩]), 5, 56) := by kernel_rfl
/-- conditions as cells -/
def cds (l : List Cd) : List Value := l.flatMap cdC
theorem cds_len (l : List Cd) : (cds l).length = l.length * 5 := by
  induction l with
  | nil => rfl
  | cons c l ih => rw [cds, List.flatMap_cons, List.length_append, ← cds, ih]; simp [cdC]; omega
theorem cds_app (a b : List Cd) : cds (a ++ b) = cds a ++ cds b := by unfold cds; rw [List.flatMap_append]
theorem cds_one (l : List Cd) : ∀ u ∈ cds l, u.oneCell' = true := by
  intro u hu
  unfold cds at hu
  obtain ⟨c, _, hc⟩ := List.mem_flatMap.1 hu
  simp [cdC] at hc
  rcases hc with rfl | rfl | rfl | rfl | rfl <;> rfl
theorem cds_at {w : World} {B : Nat} {A : Option Addr} {l : List Cd} (h : RowG cdC 5 w B A l) : ∀ ad, A = some ad → ∀ j u, (cds l)[j]? = some u → w.cell? (ad.add j) = some u := by
  intro ad had j u hu
  have hj : j < l.length * 5 := by rw [← cds_len]; exact (List.getElem?_eq_some_iff.1 hu).1
  have hi : j / 5 < l.length := by omega
  have h5 : j / 5 * 5 + j % 5 = j := by omega
  have hc := flat_cell (cell := cdC) (S := 5) (fun _ => rfl) l (j / 5) (j % 5) hi (by omega)
  rw [h5] at hc
  obtain ⟨ad', e, hcell⟩ := h.cell (j / 5) hi (j % 5) u (by rw [← hc]; exact hu)
  rw [had] at e
  obtain rfl := Option.some.inj e
  rw [h5] at hcell
  exact hcell
/-- a row of conditions of one's own, made behind w0 -/
structure OwC (w0 w : World) (A : Option Addr) (n c : Nat) (l : List Cd) : Prop where
  low : Below w0.heap.size w0 w
  own : w.ownsRow w0.heap.size 25 5 (.slice A n c) n (cds l)
  len : n = l.length
section
variable {w0 w w' : World} {A : Option Addr} {n c : Nat} {l : List Cd}
theorem OwC.row (h : OwC w0 w A n c l) : RowG cdC 5 w w.heap.size A l := RowG.of_rows (fun _ => rfl) h.own h.len
theorem OwC.below (h : OwC w0 w A n c l) (hb : Below w.heap.size w w') : OwC w0 w' A n c l := ⟨h.low.trans (hb.mono h.low.size), own_chg h.own (F := Non) (Chg.of_below hb) (fun _ _ hf => hf), h.len⟩
theorem OwC.step {A' : Option Addr} {c' m : Nat} {ys : List Cd} (h : OwC w0 w A n c l) (hR : RowTo w0.heap.size 25 5 (.slice A n c) w (.slice A' (n + m) c') (n + m) (cds l ++ cds ys) w') (hm : m = ys.length) : OwC w0 w' A' (n + m) c' (l ++ ys) :=
  ⟨(Chg.trans' (F := fun k => w0.heap.size ≤ k) (Chg.of_below h.low) hR.chg (fun k _ hk => by
    have h1 := h.own
    rcases own_form2 h1 with ⟨rfl, _⟩ | ⟨g, rfl⟩
    · cases hk
    · have h2 := (h1.lt g rfl).1
      cases hk
      exact h2)).below (fun _ h => h) (Nat.le_refl _), by rw [cds_app]; exact hR.own, by rw [List.length_append, ← h.len, hm]⟩
theorem OwC.nil (w0 w : World) (hb : Below w0.heap.size w0 w) : OwC w0 w none 0 0 [] := ⟨hb, World.ownsRow_nil _ _ _ _, rfl⟩
theorem OwC.zero (w0 w : World) (hb : Below w0.heap.size w0 w) : OwC w0 (w.alloc (.cells #[] 25)) (some ⟨w.heap.size, 0, none⟩) 0 0 [] :=
  ⟨hb.alloc hb.size _, World.ownsRow_lit (base := w0.heap.size) (size := 5) (e := 25) w #[] 0 hb.size (by simp [maxLen]) (by simp), rfl⟩
/-- looked at, it is a row as the conditions take it -/
theorem OwC.cdr (h : OwC w0 w A n c l) (hs : ∀ x ∈ l, x.Sm) (hl : l.length ≤ 1000) : CdR w A n l := ⟨h.row, h.len, hs, hl⟩
end
set_option maxRecDepth 100000 in
set_option maxHeartbeats 6400000 in
theorem copyConds_any {w : World} {B : Nat} {A : Option Addr} {n c : Nat} {l : List Cd} (h : RowG cdC 5 w B A l) (hB : B ≤ w.heap.size) (hn : n = l.length) (hA : A = none → n = 0) (hz : n * 56 ≤ 140737488355328) :
    Calls Try.prog 12 #[.slice A n c] w fun e w' => ∃ A' c', e = .returned (.slice A' n c') ∧ OwC w w' A' n c' l := by
  obtain ⟨i0, hi, hz0, hz1, hz2⟩ := info_parts Try.infocond
  have h0 := OwC.zero w w (Below.refl _ _)
  have hsrc := cds_at (h.below ((Below.refl _ w).alloc (Nat.le_refl _) (.cells #[] 25)) hB)
  have H := Lib.hid (And.intro h0 (And.intro hsrc (And.intro hA hn)))
  clear h0 hsrc h hA hn hB
  go_enter Try.func12, Try.ntmps12
  go_wp2_with (at_builtin; refine wpList_append_row rfl _ _ 31 rfl w.heap.size 25 i0 (.agg #[.string ⟨#[]⟩, .int .i64 0, .int .i64 0, .int .i64 0, .string ⟨#[]⟩]) 5 56 Try.underlying31 hi hz0 hz1 hz2 rfl (by decide) _ 0 [] H.out.1.own (by rfl) A n c (cds l) (by rfl) (by rw [cds_len, H.out.2.2.2]) H.out.2.2.1 H.out.2.1 (cds_one l) (by simp [maxLen]; omega) (by omega) H.out.1.low.size ?_; intro AX cX wX hRX; have HX := Lib.hid (H.out.1.step (ys := l) hRX H.out.2.2.2); clear hRX)
  go_ret
  have hX := HX.out
  rw [Nat.zero_add, List.nil_append] at hX
  exact ⟨AX, cX, by simp, hX⟩
end Go.Proofs.Ythpchenmfenjmaa
