/-
  Arguments opened: a slice of bytes, a slice of calls, as the cells that they hold.
-/
import Derived.Test.YtbfgnjkkelknmaaAlive
import Derived.ProofKit
import Derived.OpenShut
import Derived.ChangeOld
import Derived.Deep.Slices
namespace Go.Proofs.Ytbfgnjkkelknmaa
open Go.ChangeShapes Go.WideShapes Go.ChangeAt Go.RowKit

theorem own : ownKnob Try.prog.godebug = none := by kernel_rfl
theorem laidOut : laidOutB Try.prog = true := by kernel_rfl

/-- a call, as it came in: its numbers, its bytes and where they lie -/
structure Cl where
  what : Int
  at' : Int
  torn : Int
  A : Option Addr
  n : Nat
  c : Nat
  data : List Int
def ccell (x : Cl) : List Value := [.int .i64 x.what, .int .i64 x.at', .int .i64 x.torn, .slice x.A x.n x.c]
/-- its bytes lie in w -/
def Cl.Ok (w : World) (x : Cl) : Prop :=
  Rd w w.heap.size x.A x.n (cells x.data) ∧ x.n ≤ x.c ∧ x.c ≤ maxLen ∧ (-9223372036854775808 ≤ x.what ∧ x.what ≤ 9223372036854775807) ∧ (-9223372036854775808 ≤ x.at' ∧ x.at' ≤ 9223372036854775807) ∧ (-9223372036854775808 ≤ x.torn ∧ x.torn ≤ 9223372036854775807)

section
variable {P : Program} {H : Type} {enc : TypeId × Value → H} {W : World} {B : Nat}
theorem rd_of_ints {t e : TypeId} {k : IntKind} {a : Option Addr} {len cap : Nat} {d : DataW H} {p : List MemPlace} (ht : P.underlying t = some (.slice e)) (he : P.underlying e = some (.int k)) (hc : P.cellsOf e = 1)
    (h : DataW.Trod enc P W B (fun _ => true) true t (.slice a len cap) d p) :
    ∃ zs : List Int, Rd W W.heap.size a len (zs.map (Value.int k)) ∧ (∀ z ∈ zs, (Lit.int k z).wf = true) ∧ zs.length = len ∧ len ≤ cap ∧ cap ≤ maxLen := by
  obtain ⟨fuel, hf⟩ := h
  rcases open_ints ht he hc hf with ⟨hcs, _⟩ | ⟨x, l, c, zs, hcs, _, hl, hm, hz, _, hcell, hwz⟩
  · simp [Value.cells] at hcs
    obtain ⟨rfl, rfl, rfl⟩ := hcs
    exact ⟨[], Rd.empty, fun z hz => by simp at hz, rfl, Nat.le_refl _, by simp [maxLen]⟩
  · simp [Value.cells] at hcs
    obtain ⟨rfl, rfl, rfl⟩ := hcs
    have hzl : zs.length = cap := by simpa using hz
    refine ⟨zs.take len, ⟨by simp; omega, fun h0 => ⟨x, rfl, ?_, ?_⟩⟩, fun z hz => hwz z (List.mem_of_mem_take hz), by simp; omega, hl, hm⟩
    · have h1 := World.block_lt_of_cell? _ _ (hcell 0 (by omega))
      rwa [addr_block] at h1
    · intro j u hu
      have hj : j < len := by
        have := (List.getElem?_eq_some_iff.1 hu).1
        simp at this
        omega
      have hjz : j < zs.length := by omega
      rw [hcell j hjz]
      simp only [List.getElem?_map, List.getElem?_take, if_pos hj, List.getElem?_eq_getElem hjz] at hu
      simpa [List.getD, hjz] using hu

theorem i64_of_wf {n : Int} (h : (Lit.int .i64 n).wf = true) : -9223372036854775808 ≤ n ∧ n ≤ 9223372036854775807 := bounds_i64 h

theorem bytes_of_trod {fuel : Nat} {t e : TypeId} {cs : List Value} {x : DataW H × List MemPlace} (ht : P.underlying t = some (.slice e)) (he : P.underlying e = some (.int .u8)) (hc : P.cellsOf e = 1)
    (h : DataW.trod enc P W B (fun _ => true) true fuel t cs = some x) : ∃ A n c zs, cs = [.slice A n c] ∧ Rd W W.heap.size A n (cells zs) ∧ n ≤ c ∧ c ≤ maxLen := by
  rcases open_ints ht he hc h with ⟨rfl, _⟩ | ⟨a, l, c, zs, rfl, _⟩
  · exact ⟨none, 0, 0, [], rfl, Rd.empty, Nat.le_refl _, by simp [maxLen]⟩
  · obtain ⟨zs', h1, _, _, h4, h5⟩ := rd_of_ints (a := some a) (len := l) (cap := c) (d := x.1) (p := x.2) ht he hc ⟨fuel, by simpa [Value.cells] using h⟩
    exact ⟨some a, l, c, zs', rfl, h1, h4, h5⟩

theorem rd_of_calls {t e : TypeId} {f0 f1 f2 f3 : Field} {eb : TypeId} {a : Option Addr} {len cap : Nat} {d : DataW H} {p : List MemPlace} (ht : P.underlying t = some (.slice e)) (he : P.underlying e = some (.struct #[f0, f1, f2, f3])) (hc : P.cellsOf e = 4)
    (o0 : f0.offset = 0 ∧ P.cellsOf f0.type = 1 ∧ P.underlying f0.type = some (.int .i64)) (o1 : f1.offset = 1 ∧ P.cellsOf f1.type = 1 ∧ P.underlying f1.type = some (.int .i64)) (o2 : f2.offset = 2 ∧ P.cellsOf f2.type = 1 ∧ P.underlying f2.type = some (.int .i64))
    (o3 : f3.offset = 3 ∧ P.cellsOf f3.type = 1 ∧ P.underlying f3.type = some (.slice eb)) (hb : P.underlying eb = some (.int .u8)) (hcb : P.cellsOf eb = 1)
    (h : DataW.Trod enc P W B (fun _ => true) true t (.slice a len cap) d p) :
    ∃ cl : List Cl, cl.length = len ∧ len ≤ cap ∧ cap ≤ maxLen ∧ (∀ x ∈ cl, x.Ok W) ∧ (0 < len → ∃ ad, a = some ad ∧ ad.block < W.heap.size) ∧
      ∀ i (hi : i < cl.length) j u, (ccell cl[i])[j]? = some u → ∃ ad, a = some ad ∧ W.cell? (ad.add (i * 4 + j)) = some u := by
  obtain ⟨fuel, hf⟩ := h
  rcases Go.Deep.open_slice ht hf with ⟨hcs, _⟩ | ⟨x, l, c, m, n, D, Pl, hcs, _, hl, hm, hmm, _, hel⟩
  · simp [Value.cells] at hcs
    obtain ⟨rfl, rfl, rfl⟩ := hcs
    exact ⟨[], rfl, Nat.le_refl _, by simp [maxLen], fun x hx => by simp at hx, fun h => absurd h (by omega), fun i hi => by simp at hi⟩
  · simp [Value.cells] at hcs
    obtain ⟨rfl, rfl, rfl⟩ := hcs
    obtain rfl : m = cap := by simpa using hmm
    -- one call
    have hone : ∀ i, i < len → ∃ y : Cl, y.Ok W ∧ ∀ j u, (ccell y)[j]? = some u → W.cell? (x.add (i * 4 + j)) = some u := by
      intro i hi
      obtain ⟨cs', hc', ht'⟩ := hel i (by omega)
      rw [hc] at hc'
      obtain ⟨_, hcl, hat⟩ := World.cells?_some hc'
      obtain ⟨ys, n', _, _, hlen, _, hfl⟩ := DataW.trod_struct he ht'
      match cs', hcl with
      | [u0, u1, u2, u3], _ =>
        have g0 := hfl 0 f0 rfl
        have g1 := hfl 1 f1 rfl
        have g2 := hfl 2 f2 rfl
        have g3 := hfl 3 f3 rfl
        rw [o0.1, o0.2.1] at g0
        rw [o1.1, o1.2.1] at g1
        rw [o2.1, o2.2.1] at g2
        rw [o3.1, o3.2.1] at g3
        have some_of : ∀ {k : Nat} {α : Type} {l : List α}, k < l.length → ∃ y, l[k]? = some y := fun h => ⟨_, List.getElem?_eq_getElem h⟩
        have hys : ys.length = 4 := by assumption
        obtain ⟨y0, e0⟩ := some_of (k := 0) (l := ys) (by omega)
        obtain ⟨y1, e1⟩ := some_of (k := 1) (l := ys) (by omega)
        obtain ⟨y2, e2⟩ := some_of (k := 2) (l := ys) (by omega)
        obtain ⟨y3, e3⟩ := some_of (k := 3) (l := ys) (by omega)
        obtain ⟨z0, hz0, _, w0⟩ := DataW.trod_int o0.2.2 (g0.trans e0)
        obtain ⟨z1, hz1, _, w1⟩ := DataW.trod_int o1.2.2 (g1.trans e1)
        obtain ⟨z2, hz2, _, w2⟩ := DataW.trod_int o2.2.2 (g2.trans e2)
        obtain ⟨A, k, c3, zs, hz3, r1, r2, r3⟩ := bytes_of_trod o3.2.2 hb hcb (g3.trans e3)
        simp at hz0 hz1 hz2 hz3
        subst hz0 hz1 hz2 hz3
        refine ⟨⟨z0, z1, z2, A, k, c3, zs⟩, ⟨r1, r2, r3, i64_of_wf w0, i64_of_wf w1, i64_of_wf w2⟩, fun j u hu => ?_⟩
        have hj : j < 4 := by have := (List.getElem?_eq_some_iff.1 hu).1; simpa [ccell] using this
        rw [← addr_add, hat j hj]
        exact hu
    have hall : ∀ k, k ≤ len → ∃ cl : List Cl, cl.length = k ∧ (∀ y ∈ cl, y.Ok W) ∧ ∀ i (hi : i < cl.length) j u, (ccell cl[i])[j]? = some u → W.cell? (x.add (i * 4 + j)) = some u := by
      intro k
      induction k with
      | zero => exact fun _ => ⟨[], rfl, fun y hy => by simp at hy, fun i hi => by simp at hi⟩
      | succ k ih =>
        intro hk
        obtain ⟨cl, h1, h2, h3⟩ := ih (by omega)
        obtain ⟨y, hy, hyc⟩ := hone k (by omega)
        refine ⟨cl ++ [y], by simp [h1], fun z hz => ?_, fun i hi j u hu => ?_⟩
        · rcases List.mem_append.1 hz with hz | hz
          · exact h2 z hz
          · rw [List.mem_singleton.1 hz]; exact hy
        · by_cases hik : i < cl.length
          · rw [List.getElem_append_left hik] at hu
            exact h3 i hik j u hu
          · have hik' : i = cl.length := by simp at hi; omega
            subst hik'
            rw [List.getElem_append_right (Nat.le_refl _)] at hu
            simp at hu
            rw [h1]
            exact hyc j u (by simpa using hu)
    obtain ⟨cl, h1, h2, h3⟩ := hall len (Nat.le_refl _)
    refine ⟨cl, h1, hl, hm, h2, fun h0 => ⟨x, rfl, ?_⟩, fun i hi j u hu => ⟨x, rfl, h3 i hi j u hu⟩⟩
    have := World.block_lt_of_cell? _ _ (h3 0 (by omega) 0 _ rfl)
    rwa [addr_block] at this
end

end Go.Proofs.Ytbfgnjkkelknmaa
