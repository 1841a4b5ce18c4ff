/-
  Columns and bytes that came in; what is handed back told flat; the state of ValueRows.
-/
import Derived.Test.YtkdcnkadngbccaaGreatDoorFitsRz
import Derived.Test.YtkdcnkadngbccaaGreatDoorRefE
import Derived.Test.YtkdcnkadngbccaaGreatDoorRefD
import Derived.Test.YtkdcnkadngbccaaGreatDoorFits
namespace Go.Proofs.YtkdcnkadngbccaaGreatDoor
open Go.ChangeShapes Go.WideShapes Go.ChangeAt Go.RowKit
section
variable {P : Program} {H : Type} {enc : TypeId × Value → H} {W : World} {B : Nat}
theorem rd_of_ints {t e : TypeId} {k : IntKind} {a : Option Addr} {len cap : Nat} {d : DataW H} {p : List MemPlace} (ht : P.underlying t = some (.slice e)) (he : P.underlying e = some (.int k)) (hc : P.cellsOf e = 1)
    (h : DataW.Trod enc P W B (fun _ => true) true t (.slice a len cap) d p) :
    ∃ zs : List Int, Rd W W.heap.size a len (zs.map (Value.int k)) ∧ (∀ z ∈ zs, (Lit.int k z).wf = true) ∧ zs.length = len ∧ len ≤ cap ∧ cap ≤ maxLen := by
  obtain ⟨fuel, hf⟩ := h
  rcases open_ints ht he hc hf with ⟨hcs, _⟩ | ⟨x, l, c, zs, hcs, _, hl, hm, hz, _, hcell, hwz⟩
  · simp [Value.cells] at hcs
    obtain ⟨rfl, rfl, rfl⟩ := hcs
    exact ⟨[], Rd.empty, fun z hz => by simp at hz, rfl, Nat.le_refl _, by simp [maxLen]⟩
  · simp [Value.cells] at hcs
    obtain ⟨rfl, rfl, rfl⟩ := hcs
    have hzl : zs.length = cap := by simpa using hz
    refine ⟨zs.take len, ⟨by simp; omega, fun h0 => ⟨x, rfl, ?_, ?_⟩⟩, fun z hz => hwz z (List.mem_of_mem_take hz), by simp; omega, hl, hm⟩
    · have h1 := World.block_lt_of_cell? _ _ (hcell 0 (by omega))
      rwa [addr_block] at h1
    · intro j u hu
      have hj : j < len := by
        have := (List.getElem?_eq_some_iff.1 hu).1
        simp at this
        omega
      have hjz : j < zs.length := by omega
      rw [hcell j hjz]
      simp only [List.getElem?_map, List.getElem?_take, if_pos hj, List.getElem?_eq_getElem hjz] at hu
      simpa [List.getD, hjz] using hu

theorem rd_of_cols {t e : TypeId} {f0 f1 f2 : Field} {a : Option Addr} {len cap : Nat} {d : DataW H} {p : List MemPlace} (ht : P.underlying t = some (.slice e)) (he : P.underlying e = some (.struct #[f0, f1, f2])) (hc : P.cellsOf e = 3)
    (o0 : f0.offset = 0 ∧ P.cellsOf f0.type = 1 ∧ P.underlying f0.type = some .string) (o1 : f1.offset = 1 ∧ P.cellsOf f1.type = 1 ∧ P.underlying f1.type = some (.int .i64)) (o2 : f2.offset = 2 ∧ P.cellsOf f2.type = 1 ∧ P.underlying f2.type = some .bool)
    (h : DataW.Trod enc P W B (fun _ => true) true t (.slice a len cap) d p) :
    ∃ vs : List Co, vs.length = len ∧ len ≤ cap ∧ cap ≤ maxLen ∧ (∀ x ∈ vs, True) ∧ ColIn W W.heap.size a vs := by
  obtain ⟨fuel, hf⟩ := h
  rcases Go.Deep.open_slice ht hf with ⟨hcs, _⟩ | ⟨x, l, c, m, n, D, Pl, hcs, _, hl, hm, hmm, hx, hel⟩
  · simp [Value.cells] at hcs
    obtain ⟨rfl, rfl, rfl⟩ := hcs
    exact ⟨[], rfl, Nat.le_refl _, by simp [maxLen], fun x hx => by simp at hx, ⟨fun h => absurd h (by simp), fun i hi => absurd hi (by simp)⟩⟩
  · simp [Value.cells] at hcs
    obtain ⟨rfl, rfl, rfl⟩ := hcs
    obtain rfl : m = cap := by simpa using hmm
    have hone : ∀ i, i < len → ∃ y : Co, True ∧ ∀ j u, (ccell y)[j]? = some u → W.cell? (x.add (i * 3 + j)) = some u := by
      intro i hi
      obtain ⟨cs', hc', ht'⟩ := hel i (by omega)
      rw [hc] at hc'
      obtain ⟨_, hcl, hat⟩ := World.cells?_some hc'
      obtain ⟨y, rfl⟩ := col_of_trod he hcl o0 o1 o2 ht'
      refine ⟨y, trivial, fun j u hu => ?_⟩
      have hj : j < 3 := by have := (List.getElem?_eq_some_iff.1 hu).1; simpa [ccell] using this
      rw [← addr_add, hat j hj]
      exact hu
    refine ⟨(List.finRange len).map fun i => Classical.choose (hone i.1 i.2), by simp, hl, hm, fun y hy => ?_, fun h0 => ⟨x, rfl, ?_⟩, fun i hi j u hu => ⟨x, rfl, ?_⟩⟩
    · trivial
    · have h0' : 0 < len := by simpa using h0
      have h1 := World.block_lt_of_cell? _ _ ((Classical.choose_spec (hone 0 h0')).2 0 _ rfl)
      rwa [addr_block] at h1
    · have hi' : i < len := by simpa using hi
      simp only [List.getElem_map, List.getElem_finRange] at hu
      exact (Classical.choose_spec (hone i hi')).2 j u hu
end
theorem isBytes_of_wf {l : List Int} (h : ∀ z ∈ l, (Lit.int .u8 z).wf = true) : IsBytes l := fun x hx => by
  have := bounds_u8 (h x hx)
  omega

structure ZA (w0 w : World) (rows : List (Option Addr × List Va)) (bs : List (Option Addr × List Int)) (A : Option Addr) (cs : List Co) : Prop where
  rows : ∀ p ∈ rows, RowIn w w.heap.size p.1 p.2
  bs : ∀ p ∈ bs, Rd w w.heap.size p.1 p.2.length (cells p.2)
  cols : ColIn w w.heap.size A cs
  bel : Below w0.heap.size w0 w
section
variable {w0 w w' : World} {rows : List (Option Addr × List Va)} {bs : List (Option Addr × List Int)} {A : Option Addr} {cs : List Co}
theorem ZA.step (h : ZA w0 w rows bs A cs) (hb : Below w.heap.size w w') : ZA w0 w' rows bs A cs :=
  ⟨fun p hp => ((h.rows p hp).below hb (Nat.le_refl _)).more hb.size, fun p hp => ((h.bs p hp).below hb (Nat.le_refl _)).more hb.size, (h.cols.below hb (Nat.le_refl _)).more hb.size, h.bel.trans (hb.mono h.bel.size)⟩
theorem ZA.draws (h : ZA w0 w rows bs A cs) (d : Nat) : ZA w0 (w.drewN d) rows bs A cs := h.step ⟨rfl, rfl, rfl, Nat.le_refl _, fun _ _ => rfl⟩
theorem ZA.add {B : Option Addr} {vs : List Va} (h : ZA w0 w rows bs A cs) (hr : RowIn w w.heap.size B vs) : ZA w0 w ((B, vs) :: rows) bs A cs :=
  ⟨fun p hp => by
    rcases List.mem_cons.1 hp with rfl | hp
    · exact hr
    · exact h.rows p hp, h.bs, h.cols, h.bel⟩
theorem ZA.addB {B : Option Addr} {l : List Int} (h : ZA w0 w rows bs A cs) (hr : Rd w w.heap.size B l.length (cells l)) : ZA w0 w rows ((B, l) :: bs) A cs :=
  ⟨h.rows, fun p hp => by
    rcases List.mem_cons.1 hp with rfl | hp
    · exact hr
    · exact h.bs p hp, h.cols, h.bel⟩
end

def encO (vs : List Va) : List Int := if rightR vs then encR vs else []
theorem EncRet.flat {vs : List Va} {w w' : World} {e : Ending} (h : EncRet vs w e w') : ∃ (A : Option Addr) (c : Nat), e = .returned (.tuple #[.slice A (encO vs).length c, .bool (rightR vs)]) ∧ Rd w' w'.heap.size A (encO vs).length (cells (encO vs)) ∧ Below w.heap.size w w' := by
  obtain ⟨hb, ⟨hr, rfl⟩ | ⟨hr, v', rfl, hown⟩⟩ := h
  · have e : encO vs = [] := by unfold encO; rw [hr]; rfl
    rw [e, hr]
    exact ⟨none, 0, rfl, Rd.empty, hb⟩
  · have e : encO vs = encR vs := by unfold encO; rw [hr]; rfl
    rw [e, hr]
    obtain ⟨A, c, rfl, _, _⟩ := own_shape hown
    exact ⟨A, c, rfl, Rd.of_own hown, hb⟩
def decO (l : List Int) : List Va := if decOk l then (dR (some l)).1 else []
theorem DcRet.flat {l : List Int} {w w' : World} {e : Ending} (h : DcRet l w e w') : ∃ (A : Option Addr) (c : Nat), e = .returned (.tuple #[.slice A (decO l).length c, .bool (decOk l)]) ∧ RowIn w' w'.heap.size A (decO l) ∧ Below w.heap.size w w' ∧ (decO l).length ≤ 8 := by
  obtain ⟨hb, ⟨hr, A, c, rfl, hrow, h8⟩ | ⟨hr, rfl⟩⟩ := h
  · have e : decO l = (dR (some l)).1 := by unfold decO; rw [hr]; rfl
    rw [e, hr]
    exact ⟨A, c, rfl, hrow, hb, h8⟩
  · have e : decO l = [] := by unfold decO; rw [hr]; rfl
    rw [e, hr]
    exact ⟨none, 0, rfl, RowIn.nil, hb, by simp⟩
theorem encO_len {vs : List Va} (h : ∀ x ∈ vs, VaOk x) : (encO vs).length ≤ 200000 := by
  unfold encO
  split
  · rename_i hr
    have h8 := (right_all hr).1
    have h1 := encVs_len h
    have h2 := encI_len (n := (vs.length : Int)) (by omega) (by omega)
    unfold encR
    rw [List.length_append]
    omega
  · simp
end Go.Proofs.YtkdcnkadngbccaaGreatDoor
