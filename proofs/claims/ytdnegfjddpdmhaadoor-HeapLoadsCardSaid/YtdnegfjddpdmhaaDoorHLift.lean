/-
  Arguments opened: rows of rows of bytes, rows of calls, a call; great.
-/
import Derived.Test.YtdnegfjddpdmhaaDoorHpP
namespace Go.Proofs.YtdnegfjddpdmhaaDoor
open Go.ChangeShapes Go.WideShapes Go.ChangeAt Go.RowKit

/-- a call, as it came in -/
structure C7 where
  what : Int
  nn : Int
  p : Int
  k : Int
  A : Option Addr
  n : Nat
  c : Nat
  data : List Int
def c7cell (x : C7) : List Value := [.int .i64 x.what, .int .i64 x.nn, .int .i64 x.p, .int .i64 x.k, .slice x.A x.n x.c]
def C7.Ok (w : World) (x : C7) : Prop := Rd w w.heap.size x.A x.n (cells x.data) ∧ IsBytes x.data ∧ x.n ≤ x.c ∧ x.c ≤ maxLen

section
variable {P : Program} {H : Type} {enc : TypeId × Value → H} {W : World} {B : Nat}
theorem weights_all {e : TypeId} {d : DataW H} {q : Nat} : ∀ {l : List (DataW H)}, d ∈ l → q ∈ d.weights P e → q ∈ DataW.weightsAll P e l := by
  intro l
  induction l with
  | nil => intro h; simp at h
  | cons x l ih =>
    intro h hq
    simp only [DataW.weightsAll]
    rcases List.mem_cons.1 h with rfl | h
    · exact List.mem_append.2 (.inl hq)
    · exact List.mem_append.2 (.inr (ih h hq))
theorem bytesw_of_trod {fuel : Nat} {t e : TypeId} {cs : List Value} {x : DataW H × List MemPlace} (ht : P.underlying t = some (.slice e)) (he : P.underlying e = some (.int .u8)) (hc : P.cellsOf e = 1) (hby : P.bytesOf e = 1)
    (h : DataW.trod enc P W B (fun _ => true) true fuel t cs = some x) : ∃ A n c zs, cs = [.slice A n c] ∧ Rd W W.heap.size A n (cells zs) ∧ n ≤ c ∧ c ≤ maxLen ∧ IsBytes zs ∧ (n = 0 ∨ ∃ q ∈ x.1.weights P t, n ≤ q) := by
  rcases open_ints ht he hc h with ⟨rfl, _⟩ | ⟨a, l, c, zs, rfl, _, hlc, _, hzs, hx, _⟩
  · exact ⟨none, 0, 0, [], rfl, Rd.empty, Nat.le_refl _, by simp [maxLen], IsBytes.nil, .inl rfl⟩
  · have hw : l ≤ zs.length := by simp at hzs; omega
    have hq : l = 0 ∨ ∃ q ∈ x.1.weights P t, l ≤ q := by
      refine .inr ⟨zs.length, ?_, hw⟩
      rw [hx]
      simp only [DataW.weights, ht, hby, Nat.mul_one]
      refine List.mem_cons.2 (.inl ?_)
      simp [lits]; omega
    obtain ⟨zs', h1, h2, _, h4, h5⟩ := rd_of_ints (a := some a) (len := l) (cap := c) (d := x.1) (p := x.2) ht he hc ⟨fuel, by simpa [Value.cells] using h⟩
    exact ⟨some a, l, c, zs', rfl, h1, h4, h5, bytes_wf h2, hq⟩
theorem rd_of_lists {t e eb : TypeId} {a : Option Addr} {len cap : Nat} {d : DataW H} {p : List MemPlace} (ht : P.underlying t = some (.slice e)) (he : P.underlying e = some (.slice eb)) (hc : P.cellsOf e = 1) (hb : P.underlying eb = some (.int .u8)) (hcb : P.cellsOf eb = 1) (hby : P.bytesOf eb = 1)
    (h : DataW.Trod enc P W B (fun _ => true) true t (.slice a len cap) d p) :
    ∃ xs : List Rb, RIn0 W a len xs ∧ (∀ x ∈ xs, IsBytes x.l ∧ x.n ≤ x.c ∧ x.c ≤ maxLen) ∧ len ≤ cap ∧ cap ≤ maxLen ∧ (∀ x ∈ xs, x.n = 0 ∨ ∃ q ∈ d.weights P t, x.n ≤ q) := by
  obtain ⟨fuel, hf⟩ := h
  rcases Go.Deep.open_slice ht hf with ⟨hcs, _⟩ | ⟨x, l, c, m, n, D, Pl, hcs, _, hl, hm, hmm, hx, hel⟩
  · simp [Value.cells] at hcs
    obtain ⟨rfl, rfl, rfl⟩ := hcs
    exact ⟨[], ⟨Rd.empty, fun x hx => by simp at hx⟩, fun x hx => by simp at hx, Nat.le_refl _, by simp [maxLen], fun x hx => by simp at hx⟩
  · simp [Value.cells] at hcs
    obtain ⟨rfl, rfl, rfl⟩ := hcs
    obtain rfl : m = cap := by simpa using hmm
    have hone : ∀ i, i < len → ∃ y : Rb, (Rd W W.heap.size y.A y.n (cells y.l) ∧ y.n ≤ y.c ∧ y.c ≤ maxLen) ∧ IsBytes y.l ∧ W.cell? (x.add i) = some y.val ∧ (y.n = 0 ∨ ∃ q ∈ (D i).weights P e, y.n ≤ q) := by
      intro i hi
      obtain ⟨cs', hc', ht'⟩ := hel i (by omega)
      rw [hc] at hc'
      obtain ⟨_, hcl, hat⟩ := World.cells?_some hc'
      obtain ⟨A, k, c3, zs, hz3, r1, r2, r3, r4, r5⟩ := bytesw_of_trod he hb hcb hby ht'
      refine ⟨⟨A, k, c3, zs⟩, ⟨r1, r2, r3⟩, r4, ?_, r5⟩
      have h0 := hat 0 (by omega)
      rw [hz3, show (x.add (i * 1)).add 0 = x.add i by rw [addr_add, Nat.mul_one, Nat.add_zero]] at h0
      exact h0
    have hall : ∀ k, k ≤ len → ∃ ys : List Rb, ys.length = k ∧ (∀ y ∈ ys, (Rd W W.heap.size y.A y.n (cells y.l) ∧ y.n ≤ y.c ∧ y.c ≤ maxLen) ∧ IsBytes y.l ∧ ∃ i, i < len ∧ (y.n = 0 ∨ ∃ q ∈ (D i).weights P e, y.n ≤ q)) ∧ ∀ i (hi : i < ys.length), W.cell? (x.add i) = some ys[i].val := by
      intro k
      induction k with
      | zero => exact fun _ => ⟨[], rfl, fun y hy => by simp at hy, fun i hi => by simp at hi⟩
      | succ k ih =>
        intro hk
        obtain ⟨ys, h1, h2, h3⟩ := ih (by omega)
        obtain ⟨y, hy1, hy2, hy3, hy4⟩ := hone k (by omega)
        refine ⟨ys ++ [y], by simp [h1], fun z hz => ?_, fun i hi => ?_⟩
        · rcases List.mem_append.1 hz with hz | hz
          · exact h2 z hz
          · rw [List.mem_singleton.1 hz]; exact ⟨hy1, hy2, k, by omega, hy4⟩
        · by_cases hik : i < ys.length
          · rw [List.getElem_append_left hik]; exact h3 i hik
          · have hik' : i = ys.length := by simp at hi; omega
            subst hik'
            rw [List.getElem_append_right (Nat.le_refl _)]
            simp only [Nat.sub_self, List.getElem_singleton]
            rw [h1]; exact hy3
    obtain ⟨ys, h1, h2, h3⟩ := hall len (Nat.le_refl _)
    have hd : d = .slice ((List.range len).map D) ((List.range (m - len)).map fun j => D (len + j)) := by
      simp only [Prod.mk.injEq] at hx
      exact hx.1
    refine ⟨ys, ⟨⟨by rw [rvals_len, h1], fun h0 => ⟨x, rfl, ?_, fun j u hu => ?_⟩⟩, fun y hy => (h2 y hy).1.1⟩, fun y hy => ⟨(h2 y hy).2.1, (h2 y hy).1.2⟩, hl, hm, fun y hy => ?_⟩
    · have := World.block_lt_of_cell? _ _ (h3 0 (by omega))
      rwa [addr_block] at this
    · have hj : j < ys.length := by have := (List.getElem?_eq_some_iff.1 hu).1; rwa [rvals_len] at this
      rw [show (rvals ys)[j]? = some ys[j].val by simp [rvals, hj]] at hu
      rw [h3 j hj, ← hu]
    · obtain ⟨_, _, i, hi, hor⟩ := h2 y hy
      refine hor.imp id fun ⟨q, hq, hle⟩ => ⟨q, ?_, hle⟩
      rw [hd]
      simp only [DataW.weights, ht]
      refine List.mem_cons.2 (.inr (List.mem_append.2 (.inl (weights_all ?_ hq))))
      exact List.mem_map.2 ⟨i, List.mem_range.2 hi, rfl⟩

theorem call7_of_trod {fuel : Nat} {e : TypeId} {f0 f1 f2 f3 g0 g1 : Field} {eb : TypeId} {cs : List Value} {x : DataW H × List MemPlace} (he : P.underlying e = some (.struct #[f0, f1, f2, f3])) (hlen : cs.length = 5)
    (o0 : f0.offset = 0 ∧ P.cellsOf f0.type = 1 ∧ P.underlying f0.type = some (.int .i64)) (o1 : f1.offset = 1 ∧ P.cellsOf f1.type = 1 ∧ P.underlying f1.type = some (.int .i64))
    (o2 : f2.offset = 2 ∧ P.cellsOf f2.type = 2 ∧ P.underlying f2.type = some (.struct #[g0, g1])) (o3 : f3.offset = 4 ∧ P.cellsOf f3.type = 1 ∧ P.underlying f3.type = some (.slice eb))
    (q0 : g0.offset = 0 ∧ P.cellsOf g0.type = 1 ∧ P.underlying g0.type = some (.int .i64)) (q1 : g1.offset = 1 ∧ P.cellsOf g1.type = 1 ∧ P.underlying g1.type = some (.int .i64)) (hb : P.underlying eb = some (.int .u8)) (hcb : P.cellsOf eb = 1) (hby : P.bytesOf eb = 1)
    (h : DataW.trod enc P W B (fun _ => true) true fuel e cs = some x) : ∃ y : C7, y.Ok W ∧ cs = c7cell y ∧ (y.n = 0 ∨ ∃ q ∈ x.1.weights P e, y.n ≤ q) := by
  obtain ⟨ys, n', _, hD, hl, _, hfl⟩ := DataW.trod_struct he h
  have hD' := congrArg Prod.fst hD
  simp only at hD'
  match cs, hlen with
  | [u0, u1, u2, u3, u4], _ =>
    have g0' := hfl 0 f0 rfl
    have g1' := hfl 1 f1 rfl
    have g2' := hfl 2 f2 rfl
    have g3' := hfl 3 f3 rfl
    rw [o0.1, o0.2.1] at g0'
    rw [o1.1, o1.2.1] at g1'
    rw [o2.1, o2.2.1] at g2'
    rw [o3.1, o3.2.1] at g3'
    have some_of : ∀ {k : Nat} {α : Type} {l : List α}, k < l.length → ∃ y, l[k]? = some y := fun h => ⟨_, List.getElem?_eq_getElem h⟩
    have hys : ys.length = 4 := by assumption
    obtain ⟨y0, e0⟩ := some_of (k := 0) (l := ys) (by omega)
    obtain ⟨y1, e1⟩ := some_of (k := 1) (l := ys) (by omega)
    obtain ⟨y2, e2⟩ := some_of (k := 2) (l := ys) (by omega)
    obtain ⟨y3, e3⟩ := some_of (k := 3) (l := ys) (by omega)
    obtain ⟨z0, hz0, _, _⟩ := DataW.trod_int o0.2.2 (g0'.trans e0)
    obtain ⟨z1, hz1, _, _⟩ := DataW.trod_int o1.2.2 (g1'.trans e1)
    obtain ⟨A, k, c3, zs, hz3, r1, r2, r3, r0, r4⟩ := bytesw_of_trod o3.2.2 hb hcb hby (g3'.trans e3)
    have r5 : k = 0 ∨ ∃ q ∈ x.1.weights P e, k ≤ q := by
      refine r4.imp id fun ⟨q, hq, hkq⟩ => ⟨q, ?_, hkq⟩
      rw [hD']
      simp only [DataW.weights, he]
      exact DataW.weights_mem_each (j := 3) (t := f3.type) (d := y3.1) rfl (by rw [List.getElem?_map, e3]; rfl) q hq
    obtain ⟨vs, n2, _, hD2, hl2, _, hfl2⟩ := DataW.trod_struct o2.2.2 (g2'.trans e2)
    have k0 := hfl2 0 g0 rfl
    have k1 := hfl2 1 g1 rfl
    rw [q0.1, q0.2.1] at k0
    rw [q1.1, q1.2.1] at k1
    have hvs : vs.length = 2 := by assumption
    obtain ⟨v0, d0⟩ := some_of (k := 0) (l := vs) (by omega)
    obtain ⟨v1, d1⟩ := some_of (k := 1) (l := vs) (by omega)
    obtain ⟨z4, hz4, _, _⟩ := DataW.trod_int q0.2.2 (k0.trans d0)
    obtain ⟨z5, hz5, _, _⟩ := DataW.trod_int q1.2.2 (k1.trans d1)
    simp at hz0 hz1 hz3 hz4 hz5
    subst hz0 hz1 hz3 hz4 hz5
    exact ⟨⟨z0, z1, z4, z5, A, k, c3, zs⟩, ⟨r1, r0, r2, r3⟩, rfl, r5⟩

theorem call7_of_wide {t : TypeId} {f0 f1 f2 f3 g0 g1 : Field} {eb : TypeId} {v : Value} {d : DataW H} {p : List MemPlace} {W' : World} {r : Reach} {b0 : Nat} (ht : P.underlying t = some (.struct #[f0, f1, f2, f3])) (hc : P.cellsOf t = 5)
    (o0 : f0.offset = 0 ∧ P.cellsOf f0.type = 1 ∧ P.underlying f0.type = some (.int .i64)) (o1 : f1.offset = 1 ∧ P.cellsOf f1.type = 1 ∧ P.underlying f1.type = some (.int .i64))
    (o2 : f2.offset = 2 ∧ P.cellsOf f2.type = 2 ∧ P.underlying f2.type = some (.struct #[g0, g1])) (o3 : f3.offset = 4 ∧ P.cellsOf f3.type = 1 ∧ P.underlying f3.type = some (.slice eb))
    (q0 : g0.offset = 0 ∧ P.cellsOf g0.type = 1 ∧ P.underlying g0.type = some (.int .i64)) (q1 : g1.offset = 1 ∧ P.cellsOf g1.type = 1 ∧ P.underlying g1.type = some (.int .i64)) (hb : P.underlying eb = some (.int .u8)) (hcb : P.cellsOf eb = 1) (hby : P.bytesOf eb = 1)
    (hval : Value.okWide P W' r b0 t v) (h : DataW.Trod enc P W B (fun _ => true) true t v d p) : ∃ y : C7, y.Ok W ∧ v = .agg #[.int .i64 y.what, .int .i64 y.nn, .int .i64 y.p, .int .i64 y.k, .slice y.A y.n y.c] := by
  obtain ⟨cs, rfl, hs⟩ := okWide_struct ht hval
  obtain ⟨fuel, hf⟩ := h
  obtain ⟨y, hy, e, _⟩ := call7_of_trod ht (by show cs.toList.length = 5; rw [Array.length_toList, hs, hc]) o0 o1 o2 o3 q0 q1 hb hcb hby hf
  refine ⟨y, hy, ?_⟩
  have e' : cs.toList = c7cell y := e
  rw [show cs = (c7cell y).toArray by rw [← e']]
  rfl

theorem rd_of_calls7 {t e : TypeId} {f0 f1 f2 f3 g0 g1 : Field} {eb : TypeId} {a : Option Addr} {len cap : Nat} {d : DataW H} {p : List MemPlace} (ht : P.underlying t = some (.slice e)) (he : P.underlying e = some (.struct #[f0, f1, f2, f3])) (hc : P.cellsOf e = 5)
    (o0 : f0.offset = 0 ∧ P.cellsOf f0.type = 1 ∧ P.underlying f0.type = some (.int .i64)) (o1 : f1.offset = 1 ∧ P.cellsOf f1.type = 1 ∧ P.underlying f1.type = some (.int .i64))
    (o2 : f2.offset = 2 ∧ P.cellsOf f2.type = 2 ∧ P.underlying f2.type = some (.struct #[g0, g1])) (o3 : f3.offset = 4 ∧ P.cellsOf f3.type = 1 ∧ P.underlying f3.type = some (.slice eb))
    (q0 : g0.offset = 0 ∧ P.cellsOf g0.type = 1 ∧ P.underlying g0.type = some (.int .i64)) (q1 : g1.offset = 1 ∧ P.cellsOf g1.type = 1 ∧ P.underlying g1.type = some (.int .i64)) (hb : P.underlying eb = some (.int .u8)) (hcb : P.cellsOf eb = 1) (hby : P.bytesOf eb = 1)
    (h : DataW.Trod enc P W B (fun _ => true) true t (.slice a len cap) d p) :
    ∃ cl : List C7, cl.length = len ∧ len ≤ cap ∧ cap ≤ maxLen ∧ (∀ x ∈ cl, x.Ok W ∧ (x.n = 0 ∨ ∃ q ∈ d.weights P t, x.n ≤ q)) ∧ (0 < len → ∃ ad, a = some ad ∧ ad.block < W.heap.size) ∧
      ∀ i (hi : i < cl.length) j u, (c7cell cl[i])[j]? = some u → ∃ ad, a = some ad ∧ W.cell? (ad.add (i * 5 + j)) = some u := by
  obtain ⟨fuel, hf⟩ := h
  rcases Go.Deep.open_slice ht hf with ⟨hcs, _⟩ | ⟨x, l, c, m, n, D, Pl, hcs, _, hl, hm, hmm, hx, hel⟩
  · simp [Value.cells] at hcs
    obtain ⟨rfl, rfl, rfl⟩ := hcs
    exact ⟨[], rfl, Nat.le_refl _, by simp [maxLen], fun x hx => by simp at hx, fun h => absurd h (by omega), fun i hi => by simp at hi⟩
  · simp [Value.cells] at hcs
    obtain ⟨rfl, rfl, rfl⟩ := hcs
    obtain rfl : m = cap := by simpa using hmm
    have hone : ∀ i, i < len → ∃ y : C7, (y.Ok W ∧ (y.n = 0 ∨ ∃ q ∈ (D i).weights P e, y.n ≤ q)) ∧ ∀ j u, (c7cell y)[j]? = some u → W.cell? (x.add (i * 5 + j)) = some u := by
      intro i hi
      obtain ⟨cs', hc', ht'⟩ := hel i (by omega)
      rw [hc] at hc'
      obtain ⟨_, hcl, hat⟩ := World.cells?_some hc'
      obtain ⟨y, hy, e, hyw⟩ := call7_of_trod he hcl o0 o1 o2 o3 q0 q1 hb hcb hby ht'
      refine ⟨y, ⟨hy, hyw⟩, fun j u hu => ?_⟩
      have hj : j < 5 := by have := (List.getElem?_eq_some_iff.1 hu).1; simpa [c7cell] using this
      rw [← addr_add, hat j hj, e]
      exact hu
    have hall : ∀ k, k ≤ len → ∃ cl : List C7, cl.length = k ∧ (∀ y ∈ cl, y.Ok W ∧ ∃ i, i < len ∧ (y.n = 0 ∨ ∃ q ∈ (D i).weights P e, y.n ≤ q)) ∧ ∀ i (hi : i < cl.length) j u, (c7cell cl[i])[j]? = some u → W.cell? (x.add (i * 5 + j)) = some u := by
      intro k
      induction k with
      | zero => exact fun _ => ⟨[], rfl, fun y hy => by simp at hy, fun i hi => by simp at hi⟩
      | succ k ih =>
        intro hk
        obtain ⟨cl, h1, h2, h3⟩ := ih (by omega)
        obtain ⟨y, hy, hyc⟩ := hone k (by omega)
        refine ⟨cl ++ [y], by simp [h1], fun z hz => ?_, fun i hi j u hu => ?_⟩
        · rcases List.mem_append.1 hz with hz | hz
          · exact h2 z hz
          · rw [List.mem_singleton.1 hz]; exact ⟨hy.1, k, by omega, hy.2⟩
        · by_cases hik : i < cl.length
          · rw [List.getElem_append_left hik] at hu
            exact h3 i hik j u hu
          · have hik' : i = cl.length := by simp at hi; omega
            subst hik'
            rw [List.getElem_append_right (Nat.le_refl _)] at hu
            simp at hu
            rw [h1]
            exact hyc j u (by simpa using hu)
    obtain ⟨cl, h1, h2, h3⟩ := hall len (Nat.le_refl _)
    have hd : d = .slice ((List.range len).map D) ((List.range (m - len)).map fun j => D (len + j)) := by
      simp only [Prod.mk.injEq] at hx
      exact hx.1
    refine ⟨cl, h1, hl, hm, fun y hy => ⟨(h2 y hy).1, ?_⟩, fun h0 => ⟨x, rfl, ?_⟩, fun i hi j u hu => ⟨x, rfl, h3 i hi j u hu⟩⟩
    · obtain ⟨_, i, hi, hor⟩ := h2 y hy
      refine hor.imp id fun ⟨q, hq, hle⟩ => ⟨q, ?_, hle⟩
      rw [hd]
      simp only [DataW.weights, ht]
      refine List.mem_cons.2 (.inr (List.mem_append.2 (.inl (weights_all ?_ hq))))
      exact List.mem_map.2 ⟨i, List.mem_range.2 hi, rfl⟩
    have := World.block_lt_of_cell? _ _ (h3 0 (by omega) 0 _ rfl)
    rwa [addr_block] at this
end

/-- the calls lie in w, below block B -/
structure CIn7 (w : World) (B : Nat) (A : Option Addr) (cl : List C7) : Prop where
  lo : 0 < cl.length → ∃ ad, A = some ad ∧ ad.block < B
  cell : ∀ i (hi : i < cl.length) j u, (c7cell cl[i])[j]? = some u → ∃ ad, A = some ad ∧ w.cell? (ad.add (i * 5 + j)) = some u
  rd : ∀ x ∈ cl, Rd w B x.A x.n (cells x.data)
  num : ∀ x ∈ cl, IsBytes x.data ∧ x.n ≤ x.c ∧ x.c ≤ maxLen ∧ x.n ≤ 140737488355328
theorem CIn7.below {w w' : World} {B C : Nat} {A : Option Addr} {cl : List C7} (h : CIn7 w B A cl) (hb : Below C w w') (hC : B ≤ C) : CIn7 w' B A cl := by
  refine ⟨h.lo, fun i hi j u hu => ?_, fun x hx => (h.rd x hx).below hb hC, h.num⟩
  obtain ⟨ad, rfl, hc⟩ := h.cell i hi j u hu
  obtain ⟨ad', e, hlt⟩ := h.lo (by omega)
  obtain rfl := Option.some.inj e
  exact ⟨ad, rfl, (hb.cell (p := ad.add (i * 5 + j)) (by rw [addr_block]; omega)).trans hc⟩
theorem CIn7.at_ {w : World} {B : Nat} {A : Option Addr} {cl : List C7} (h : CIn7 w B A cl) {i : Nat} (hi : i < cl.length) : ∃ ad, A = some ad ∧ ad.block < B ∧ w.cell? (ad.add (i * 5)) = some (.int .i64 cl[i].what) ∧
    w.cell? ⟨(ad.add (i * 5)).block, (ad.add (i * 5)).off + 1, none⟩ = some (.int .i64 cl[i].nn) ∧ w.cell? ⟨(ad.add (i * 5)).block, (ad.add (i * 5)).off + 2, none⟩ = some (.int .i64 cl[i].p) ∧
    w.cell? ⟨(ad.add (i * 5)).block, (ad.add (i * 5)).off + 3, none⟩ = some (.int .i64 cl[i].k) ∧ w.cell? ⟨(ad.add (i * 5)).block, (ad.add (i * 5)).off + 4, none⟩ = some (.slice cl[i].A cl[i].n cl[i].c) := by
  obtain ⟨ad, rfl, hlt⟩ := h.lo (by omega)
  have get : ∀ j u, (c7cell cl[i])[j]? = some u → w.cell? (ad.add (i * 5 + j)) = some u := fun j u hu => by
    obtain ⟨ad', e, hc⟩ := h.cell i hi j u hu
    obtain rfl := Option.some.inj e
    exact hc
  refine ⟨ad, rfl, hlt, get 0 _ rfl, ?_, ?_, ?_, ?_⟩
  · rw [addr_field _ (by omega), addr_add]; exact get 1 _ rfl
  · rw [addr_field _ (by omega), addr_add]; exact get 2 _ rfl
  · rw [addr_field _ (by omega), addr_add]; exact get 3 _ rfl
  · rw [addr_field _ (by omega), addr_add]; exact get 4 _ rfl
theorem CIn7.of {W : World} {a : Option Addr} {cl : List C7} (o : ∀ x ∈ cl, x.Ok W ∧ x.n ≤ 140737488355328) (q : 0 < cl.length → ∃ ad, a = some ad ∧ ad.block < W.heap.size)
    (r : ∀ i (hi : i < cl.length) j u, (c7cell cl[i])[j]? = some u → ∃ ad, a = some ad ∧ W.cell? (ad.add (i * 5 + j)) = some u) : CIn7 W W.heap.size a cl :=
  ⟨q, r, fun x hx => (o x hx).1.1, fun x hx => ⟨(o x hx).1.2.1, (o x hx).1.2.2.1, (o x hx).1.2.2.2, (o x hx).2⟩⟩

/-- how the answer of great is used -/
def GreatRet (cl : List C7) (w : World) (e : Ending) (w' : World) : Prop :=
  w = w' ∧ (e = .returned (.bool true) ∨ (e = .returned (.bool false) ∧ cl.length ≤ 80 ∧ ∀ x ∈ cl, x.n ≤ 20000))
open Go.Lib in
set_option maxRecDepth 100000 in
set_option maxHeartbeats 800000 in
theorem great_any (A : Option Addr) (c : Nat) (cl : List C7) (w : World) (B : Nat) (h : CIn7 w B A cl) (hm : cl.length ≤ maxLen) :
    Calls Tryd.prog 10 #[.slice A cl.length c] w (GreatRet cl w) := by
  unfold maxLen at hm
  have HC := Lib.hid h
  clear h
  by_cases h80 : 80 < cl.length
  · go_enter Tryd.func10, Tryd.ntmps10
    go_wp2_with fail
    go_ret
    exact ⟨rfl, .inl rfl⟩
  · go_enter Tryd.func10, Tryd.ntmps10
    go_wp2_with fail
    go_loop [3, 4] (fun s i => ∃ (k : Nat) (z : Int), k ≤ cl.length ∧ i = .int .i64 k ∧ s = .int .i64 z ∧ 0 ≤ z ∧ z ≤ 20000 ∧ ∀ j (h : j < cl.length), j < k → cl[j].n ≤ 20000) (fun _ i => cl.length - (intOf i).toNat)
    case atStart => exact ⟨0, 0, by omega, rfl, rfl, by omega, by omega, fun j _ hj => absurd hj (by omega)⟩
    case round =>
      obtain ⟨k, z, hk, rfl, rfl, hz0, hz1, hall⟩ := hrel
      have HA := Lib.hid hall
      have hk0 : (0 : Int) ≤ (k : Int) := Int.natCast_nonneg _
      clear hall
      by_cases hlt : k < cl.length
      · obtain ⟨ad, rfl, _, c0, c1, c2, c3, c4⟩ := HC.out.at_ hlt
        have hn := HC.out.num cl[k] (List.getElem_mem hlt)
        have hn6 := hn.2.1
        have hn7 := hn.2.2.2
        obtain ⟨xn, hxn⟩ : ∃ xn, xn = cl[k].n := ⟨_, rfl⟩
        rw [← hxn] at c4 hn6 hn7
        have HX := Lib.hid hxn
        clear hn hxn c0 c1 c2 c3
        have hx0 : (0 : Int) ≤ (xn : Int) := Int.natCast_nonneg _
        by_cases hbig : 20000 < z + (xn : Int)
        · go_wp2_with fail
          go_ret
          exact ⟨rfl, .inl rfl⟩
        · go_wp2_with fail
          go_round
          case rel => exact ⟨k + 1, z + (xn : Int), by omega, by go_num, by go_num, by omega, by omega, fun j hj hjk => by
            rcases Nat.lt_or_ge j k with h | h
            · exact HA.out j hj h
            · obtain rfl : j = k := by omega
              have := HX.out
              omega⟩
          case measure => simp [intOf]; omega
      · go_wp2_with fail
        go_ret
        exact ⟨rfl, .inr ⟨rfl, by omega, fun x hx => by
          obtain ⟨j, hj, rfl⟩ := List.mem_iff_getElem.1 hx
          exact HA.out j hj (by omega)⟩⟩
end Go.Proofs.YtdnegfjddpdmhaaDoor
