/-
  Numbers that came in; the steps of KeyAnswers told together.
-/
import Derived.Test.YtkdhmbfmjlpfbaaDoorKLift
import Derived.Test.YtkdhmbfmjlpfbaaDoorKRDec
import Derived.Test.YtkdhmbfmjlpfbaaDoorKREnc
import Derived.Test.YtkdhmbfmjlpfbaaDoorKPick2
import Derived.OpenShut
namespace Go.Proofs.YtkdhmbfmjlpfbaaDoor
open Go.ChangeShapes Go.WideShapes Go.ChangeAt Go.RowKit
section
variable {P : Program} {H : Type} {enc : TypeId × Value → H} {W : World} {B : Nat}
theorem rd_of_ints {t e : TypeId} {k : IntKind} {a : Option Addr} {len cap : Nat} {d : DataW H} {p : List MemPlace} (ht : P.underlying t = some (.slice e)) (he : P.underlying e = some (.int k)) (hc : P.cellsOf e = 1)
    (h : DataW.Trod enc P W B (fun _ => true) true t (.slice a len cap) d p) :
    ∃ zs : List Int, Rd W W.heap.size a len (zs.map (Value.int k)) ∧ (∀ z ∈ zs, (Lit.int k z).wf = true) ∧ zs.length = len ∧ len ≤ cap ∧ cap ≤ maxLen := by
  obtain ⟨fuel, hf⟩ := h
  rcases open_ints ht he hc hf with ⟨hcs, _⟩ | ⟨x, l, c, zs, hcs, _, hl, hm, hz, _, hcell, hwz⟩
  · simp [Value.cells] at hcs
    obtain ⟨rfl, rfl, rfl⟩ := hcs
    exact ⟨[], Rd.empty, fun z hz => by simp at hz, rfl, Nat.le_refl _, by simp [maxLen]⟩
  · simp [Value.cells] at hcs
    obtain ⟨rfl, rfl, rfl⟩ := hcs
    have hzl : zs.length = cap := by simpa using hz
    refine ⟨zs.take len, ⟨by simp; omega, fun h0 => ⟨x, rfl, ?_, ?_⟩⟩, fun z hz => hwz z (List.mem_of_mem_take hz), by simp; omega, hl, hm⟩
    · have h1 := World.block_lt_of_cell? _ _ (hcell 0 (by omega))
      rwa [addr_block] at h1
    · intro j u hu
      have hj : j < len := by
        have := (List.getElem?_eq_some_iff.1 hu).1
        simp at this
        omega
      have hjz : j < zs.length := by omega
      rw [hcell j hjz]
      simp only [List.getElem?_map, List.getElem?_take, if_pos hj, List.getElem?_eq_getElem hjz] at hu
      simpa [List.getD, hjz] using hu
end

/-- rows, numbers and the library's variable, in a world that was come to -/
structure KA (w0 w : World) (A' A2 : Option Addr) (l : List Int) (rows : List (Option Addr × List Va)) : Prop where
  rows : ∀ p ∈ rows, RowIn w w.heap.size p.1 p.2
  at_ : Rd w w.heap.size A' l.length (cells64 l)
  pl : Rd w w.heap.size A2 l.length (cells64 l)
  ms : Ms w
  bel : Below w0.heap.size w0 w
theorem KA.step {w0 w w' : World} {A' A2 : Option Addr} {l : List Int} {rows : List (Option Addr × List Va)} (h : KA w0 w A' A2 l rows) (hb : Below w.heap.size w w') : KA w0 w' A' A2 l rows :=
  ⟨fun p hp => ((h.rows p hp).below hb (Nat.le_refl _)).more hb.size, (h.at_.below hb (Nat.le_refl _)).more hb.size, (h.pl.below hb (Nat.le_refl _)).more hb.size, h.ms.below hb (Nat.le_refl _), h.bel.trans (hb.mono h.bel.size)⟩
theorem KA.draws {w0 w : World} {A' A2 : Option Addr} {l : List Int} {rows : List (Option Addr × List Va)} (h : KA w0 w A' A2 l rows) (d : Nat) : KA w0 (w.drewN d) A' A2 l rows :=
  h.step ⟨rfl, rfl, rfl, Nat.le_refl _, fun _ _ => rfl⟩
theorem KA.add {w0 w : World} {A' A2 A : Option Addr} {l : List Int} {rows : List (Option Addr × List Va)} {vs : List Va} (h : KA w0 w A' A2 l rows) (hr : RowIn w w.heap.size A vs) : KA w0 w A' A2 l ((A, vs) :: rows) :=
  ⟨fun p hp => by
    rcases List.mem_cons.1 hp with rfl | hp
    · exact hr
    · exact h.rows p hp, h.at_, h.pl, h.ms, h.bel⟩

def DecIs (s : ByteArray) (b : Bool) (vs : List Va) : Prop := (b = true ∧ Good8 vs ∧ keyVs vs = bytes s) ∨ (b = false ∧ vs = [] ∧ ∀ us, Good8 us → keyVs us ≠ bytes s)
theorem DecIs.one {s : ByteArray} {b b' : Bool} {vs vs' : List Va} (h : DecIs s b vs) (h' : DecIs s b' vs') : b' = b ∧ vs' = vs := by
  rcases h with ⟨rfl, h1, h2⟩ | ⟨rfl, rfl, h1⟩ <;> rcases h' with ⟨rfl, g1, g2⟩ | ⟨rfl, rfl, g1⟩
  · exact ⟨rfl, key_inj (fun x hx => ⟨(right_all g1.1).2 x hx, g1.2 x hx⟩) (fun x hx => ⟨(right_all h1.1).2 x hx, h1.2 x hx⟩) (g2.trans h2.symm)⟩
  · exact absurd h2 (g1 _ h1)
  · exact absurd g2 (h1 _ g1)
  · exact ⟨rfl, rfl⟩
theorem DecIs.len {s : ByteArray} {b : Bool} {vs : List Va} (h : DecIs s b vs) : vs.length ≤ 8 := by
  rcases h with ⟨_, h, _⟩ | ⟨_, rfl, _⟩
  · exact (right_all h.1).1
  · simp
theorem DecRet.flat {s : ByteArray} {w w' : World} {e : Ending} (h : DecRet s w e w') : ∃ (vs : List Va) (A : Option Addr) (c : Nat) (b : Bool), e = .returned (.tuple #[.slice A vs.length c, .bool b]) ∧ DecIs s b vs ∧ RowIn w' w'.heap.size A vs ∧ Below w.heap.size w w' := by
  obtain ⟨hb, ⟨vs, A, c, rfl, hg, hk, hown⟩ | ⟨rfl, hno⟩⟩ := h
  · exact ⟨vs, A, c, true, rfl, .inl ⟨rfl, hg, hk⟩, RowIn.of_own hown, hb⟩
  · exact ⟨[], none, 0, false, rfl, .inr ⟨rfl, rfl, hno⟩, RowIn.nil, hb⟩

def PickIs (vs : List Va) (l : List Int) (b : Bool) (ps : List Va) : Prop := (b = true ∧ pickL vs l = some ps) ∨ (b = false ∧ ps = [] ∧ pickL vs l = none)
theorem PickIs.one {vs : List Va} {l : List Int} {b b' : Bool} {ps ps' : List Va} (h : PickIs vs l b ps) (h' : PickIs vs l b' ps') : b' = b ∧ ps' = ps := by
  rcases h with ⟨rfl, h1⟩ | ⟨rfl, rfl, h1⟩ <;> rcases h' with ⟨rfl, g1⟩ | ⟨rfl, rfl, g1⟩
  · rw [h1] at g1; exact ⟨rfl, (Option.some.inj g1).symm⟩
  · rw [h1] at g1; cases g1
  · rw [h1] at g1; cases g1
  · exact ⟨rfl, rfl⟩
theorem PickIs.len {vs : List Va} {l : List Int} {b : Bool} {ps : List Va} (h : PickIs vs l b ps) : ps.length ≤ l.length := by
  rcases h with ⟨_, h⟩ | ⟨_, rfl, _⟩
  · exact Nat.le_of_eq (pickL_len h)
  · simp
theorem PickRet.flat {vs : List Va} {l : List Int} {w w' : World} {e : Ending} (h : PickRet vs l w e w') : ∃ (ps : List Va) (A : Option Addr) (c : Nat) (b : Bool), e = .returned (.tuple #[.slice A ps.length c, .bool b]) ∧ PickIs vs l b ps ∧ RowIn w' w'.heap.size A ps ∧ Below w.heap.size w w' := by
  obtain ⟨hb, ⟨ps, A, c, hp, rfl, hown⟩ | ⟨hp, rfl⟩⟩ := h
  · exact ⟨ps, A, c, true, rfl, .inl ⟨rfl, hp⟩, RowIn.of_own hown, hb⟩
  · exact ⟨[], none, 0, false, rfl, .inr ⟨rfl, rfl, hp⟩, RowIn.nil, hb⟩
end Go.Proofs.YtkdhmbfmjlpfbaaDoor
