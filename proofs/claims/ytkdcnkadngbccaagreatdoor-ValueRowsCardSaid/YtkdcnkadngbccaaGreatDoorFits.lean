/-
  The contract of Fits; values and columns that came in.
-/
import Derived.Test.YtkdcnkadngbccaaGreatDoorVLift
namespace Go.Proofs.YtkdcnkadngbccaaGreatDoor
open Go.RowKit Go.Lib Go.ChangeShapes Go.WideShapes Go.ChangeAt

/-- a column -/
structure Co where
  name : ByteArray
  k : Int
  nn : Bool
def ccell (x : Co) : List Value := [.string x.name, .int .i64 x.k, .bool x.nn]
def fitsV (x : Va) (k : Int) (nn : Bool) : Int :=
  if rightVa x = false then 10 else if x.k = 0 then (if nn then 16 else 0) else if x.k = k then 0 else 14

def CS (w0 : World) (b : Nat) (name : ByteArray) (k : Int) (nn : Bool) (w' : World) : Prop :=
  w'.cell? ⟨b, 0, none⟩ = some (.string name) ∧ w'.cell? ⟨b, 1, none⟩ = some (.int .i64 k) ∧ w'.cell? ⟨b, 2, none⟩ = some (.bool nn) ∧ Below w0.heap.size w0 w'
theorem CS.new (w : World) (name : ByteArray) (k : Int) (nn : Bool) : CS w w.heap.size name k nn (w.alloc (.cells #[.string name, .int .i64 k, .bool nn] 64)) := by
  have h := Blk.new w 64 #[.string name, .int .i64 k, .bool nn]
  exact ⟨h.cell 0, h.cell 1, h.cell 2, (Below.refl _ w).alloc (Nat.le_refl _) _⟩
theorem CS.below {w0 w' w'' : World} {b : Nat} {k : Int} {s : ByteArray} {nn : Bool} (h : CS w0 b s k nn w') (hl : Below w'.heap.size w' w'') : CS w0 b s k nn w'' := by
  have h0 := World.block_lt_of_cell? _ _ h.1
  exact ⟨(hl.cell (p := ⟨b, 0, none⟩) h0).trans h.1, (hl.cell (p := ⟨b, 1, none⟩) h0).trans h.2.1, (hl.cell (p := ⟨b, 2, none⟩) h0).trans h.2.2.1, h.2.2.2.trans (hl.mono h.2.2.2.size)⟩

set_option maxHeartbeats 1600000 in
theorem fits_any (x : Va) (name : ByteArray) (ck : Int) (nn : Bool) (w : World) :
    Calls Tryz.prog 41 #[.agg #[.int .i64 x.k, .int .i64 x.n, .string x.s], .agg #[.string name, .int .i64 ck, .bool nn]] w
      fun e w' => e = .returned (.int .i64 (fitsV x ck nn)) ∧ Below w.heap.size w w' := by
  obtain ⟨k, n, s⟩ := x
  simp only
  have heq := eqVal
  have hm : Tryz.prog.follows .mixedOrders = true := by kernel_rfl
  have h1 := VS.new w k n s
  have h2 := CS.new (w.alloc (.cells #[.int .i64 k, .int .i64 n, .string s] 40)) name ck nn
  have sz : (w.alloc (.cells #[.int .i64 k, .int .i64 n, .string s] 40)).heap.size = w.heap.size + 1 := by simp
  have h3 := h1.below h2.2.2.2
  rw [sz] at h2
  obtain ⟨w2, hw2⟩ : ∃ w2, w2 = (w.alloc (.cells #[.int .i64 k, .int .i64 n, .string s] 40)).alloc (.cells #[.string name, .int .i64 ck, .bool nn] 64) := ⟨_, rfl⟩
  rw [← hw2] at h2 h3
  have HW := Lib.hid hw2
  have HV := Lib.hid h3
  have HC := Lib.hid (show CS w (w.heap.size + 1) name ck nn w2 from ⟨h2.1, h2.2.1, h2.2.2.1, h3.2.2.2⟩)
  obtain ⟨c0, c1, c2, _⟩ := h3
  clear h1 h2 hw2 sz
  go_enter Tryz.func41, Tryz.ntmps41
  go_wp2_with fail
  rw [← HW.out]
  refine (right_any k n s _).mono ?_
  rintro e w3 ⟨rfl, hb3⟩
  have HV3 := Lib.hid (HV.out.below hb3)
  have HC3 := Lib.hid (HC.out.below hb3)
  clear c0 c1 c2 hb3
  obtain ⟨c0, c1, c2, hB⟩ := HV3.out
  obtain ⟨d0, d1, d2, _⟩ := HC3.out
  cases hr : rightV k n s with
  | false =>
    have HR := Lib.hid (show fitsV ⟨k, n, s⟩ ck nn = 10 by unfold fitsV rightVa; rw [if_pos hr])
    clear hr
    go_wp2
    go_ret
    exact ⟨ret_int HR.out.symm, HV3.out.2.2.2⟩
  | true =>
    have hbv := World.block_lt_of_cell? _ _ c0
    have hbc := World.block_lt_of_cell? _ _ d0
    have g0 := cell_grown (by exact hbv) c0
    have g1 := cell_grown (by exact hbv) c1
    have g2 := cell_grown (by exact hbv) c2
    have k0 := cell_grown (by exact hbc) d0
    have k1 := cell_grown (by exact hbc) d1
    have k2 := cell_grown (by exact hbc) d2
    have HB := Lib.hid (And.intro hB (Nat.le_of_lt hbv))
    clear hbv hbc c0 c1 c2 d0 d1 d2 hB
    by_cases hk : k = 0
    · have hz : n = 0 ∧ s = ⟨#[]⟩ := by unfold rightV at hr; rw [if_pos hk] at hr; simpa using hr
      obtain ⟨rfl, rfl⟩ := hz
      subst hk
      cases nn with
      | true =>
        have HR := Lib.hid (show fitsV ⟨0, 0, ⟨#[]⟩⟩ ck true = 16 by unfold fitsV rightVa; rw [if_neg (by simp [hr])]; simp)
        clear hr
        go_wp2_with fail
        go_quiet_grown (first | (go_at_call 47; exact ValRet.grown null_any))
        go_wp2
        go_ret
        exact ⟨ret_int HR.out.symm, below_grow HB.out.1 HB.out.1.size _ _⟩
      | false =>
        have HR := Lib.hid (show fitsV ⟨0, 0, ⟨#[]⟩⟩ ck false = 0 by unfold fitsV rightVa; rw [if_neg (by simp [hr])]; simp)
        clear hr
        go_wp2_with fail
        go_quiet_grown (first | (go_at_call 47; exact ValRet.grown null_any))
        go_wp2
        go_ret
        exact ⟨ret_int HR.out.symm, below_grow HB.out.1 HB.out.1.size _ _⟩
    · have hd : decide (k = 0) = false := by simp [hk]
      by_cases hck : k = ck
      · have HR := Lib.hid (show fitsV ⟨k, n, s⟩ ck nn = 0 by unfold fitsV rightVa; rw [if_neg (by simp [hr]), if_neg hk, if_pos hck])
        have hne : (k != ck) = false := by simp [hck]
        have hne2 : (ck != ck) = false := by simp
        clear hr
        go_wp2_with fail
        go_quiet_grown (first | (go_at_call 47; exact ValRet.grown null_any))
        go_wp2
        go_ret
        exact ⟨ret_int HR.out.symm, below_grow HB.out.1 HB.out.1.size _ _⟩
      · have HR := Lib.hid (show fitsV ⟨k, n, s⟩ ck nn = 14 by unfold fitsV rightVa; rw [if_neg (by simp [hr])]; simp [hk, hck])
        have hne : (k != ck) = true := by simp [hck]
        clear hr
        go_wp2_with fail
        go_quiet_grown (first | (go_at_call 47; exact ValRet.grown null_any))
        go_wp2
        go_ret
        exact ⟨ret_int HR.out.symm, below_grow HB.out.1 HB.out.1.size _ _⟩

section
variable {P : Program} {H : Type} {enc : TypeId × Value → H} {W : World} {B : Nat}
theorem col_of_trod {fuel : Nat} {e : TypeId} {f0 f1 f2 : Field} {cs : List Value} {x : DataW H × List MemPlace} (he : P.underlying e = some (.struct #[f0, f1, f2])) (hlen : cs.length = 3)
    (o0 : f0.offset = 0 ∧ P.cellsOf f0.type = 1 ∧ P.underlying f0.type = some .string) (o1 : f1.offset = 1 ∧ P.cellsOf f1.type = 1 ∧ P.underlying f1.type = some (.int .i64)) (o2 : f2.offset = 2 ∧ P.cellsOf f2.type = 1 ∧ P.underlying f2.type = some .bool)
    (h : DataW.trod enc P W B (fun _ => true) true fuel e cs = some x) : ∃ y : Co, cs = ccell y := by
  obtain ⟨ys, n', _, hD, _, hys, hfl⟩ := DataW.trod_struct he h
  match cs, hlen with
  | [u0, u1, u2], _ =>
    have g0 := hfl 0 f0 rfl
    have g1 := hfl 1 f1 rfl
    have g2 := hfl 2 f2 rfl
    rw [o0.1, o0.2.1] at g0
    rw [o1.1, o1.2.1] at g1
    rw [o2.1, o2.2.1] at g2
    have hys3 : ys.length = 3 := by simpa using hys
    have some_of : ∀ {k : Nat} {α : Type} {l : List α}, k < l.length → ∃ y, l[k]? = some y := fun h => ⟨_, List.getElem?_eq_getElem h⟩
    obtain ⟨y0, e0⟩ := some_of (k := 0) (l := ys) (by omega)
    obtain ⟨y1, e1⟩ := some_of (k := 1) (l := ys) (by omega)
    obtain ⟨y2, e2⟩ := some_of (k := 2) (l := ys) (by omega)
    obtain ⟨s, hs, _, ws⟩ := DataW.trod_string o0.2.2 (g0.trans e0)
    obtain ⟨z1, hz1, _, w1⟩ := DataW.trod_int o1.2.2 (g1.trans e1)
    obtain ⟨b, hb, _⟩ := DataW.trod_bool o2.2.2 (g2.trans e2)
    simp at hs hz1 hb
    subst hs hz1 hb
    exact ⟨⟨s, z1, b⟩, rfl⟩

theorem val_of_wide {t : TypeId} {f0 f1 f2 : Field} {v : Value} {d : DataW H} {p : List MemPlace} {W' : World} {r : Reach} {b0 : Nat} (ht : P.underlying t = some (.struct #[f0, f1, f2])) (hc : P.cellsOf t = 3)
    (o0 : f0.offset = 0 ∧ P.cellsOf f0.type = 1 ∧ P.underlying f0.type = some (.int .i64)) (o1 : f1.offset = 1 ∧ P.cellsOf f1.type = 1 ∧ P.underlying f1.type = some (.int .i64)) (o2 : f2.offset = 2 ∧ P.cellsOf f2.type = 1 ∧ P.underlying f2.type = some .string)
    (hval : Value.okWide P W' r b0 t v) (h : DataW.Trod enc P W B (fun _ => true) true t v d p) : ∃ y : Va, y.In ∧ v = .agg #[.int .i64 y.k, .int .i64 y.n, .string y.s] := by
  obtain ⟨cs, rfl, hs⟩ := okWide_struct ht hval
  obtain ⟨fuel, hf⟩ := h
  obtain ⟨y, hy, e⟩ := val_of_trod ht (by show cs.toList.length = 3; rw [Array.length_toList, hs, hc]) o0 o1 o2 hf
  refine ⟨y, hy, ?_⟩
  have e' : cs.toList = vcell y := e
  rw [show cs = (vcell y).toArray by rw [← e']]
  rfl
theorem col_of_wide {t : TypeId} {f0 f1 f2 : Field} {v : Value} {d : DataW H} {p : List MemPlace} {W' : World} {r : Reach} {b0 : Nat} (ht : P.underlying t = some (.struct #[f0, f1, f2])) (hc : P.cellsOf t = 3)
    (o0 : f0.offset = 0 ∧ P.cellsOf f0.type = 1 ∧ P.underlying f0.type = some .string) (o1 : f1.offset = 1 ∧ P.cellsOf f1.type = 1 ∧ P.underlying f1.type = some (.int .i64)) (o2 : f2.offset = 2 ∧ P.cellsOf f2.type = 1 ∧ P.underlying f2.type = some .bool)
    (hval : Value.okWide P W' r b0 t v) (h : DataW.Trod enc P W B (fun _ => true) true t v d p) : ∃ y : Co, True ∧ v = .agg #[.string y.name, .int .i64 y.k, .bool y.nn] := by
  obtain ⟨cs, rfl, hs⟩ := okWide_struct ht hval
  obtain ⟨fuel, hf⟩ := h
  obtain ⟨y, e⟩ := col_of_trod ht (by show cs.toList.length = 3; rw [Array.length_toList, hs, hc]) o0 o1 o2 hf
  refine ⟨y, trivial, ?_⟩
  have e' : cs.toList = ccell y := e
  rw [show cs = (ccell y).toArray by rw [← e']]
  rfl
end
end Go.Proofs.YtkdcnkadngbccaaGreatDoor
