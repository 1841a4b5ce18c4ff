/-
  A row of calls as it came in; the contract of great.
  The contract of great.
-/
import Derived.Test.YtehghjakggdnpaaWWeigh
import Derived.Deep.RegionHeld3
namespace Go.Proofs.Ytehghjakggdnpaa
open Go.ChangeShapes Go.WideShapes Go.ChangeAt Go.RowKit

/-- a call, as it came in: its numbers, its bytes and its rows, and where they lie -/
structure Cl3 where
  what : Int
  keep : Int
  torn : Int
  A : Option Addr
  n : Nat
  c : Nat
  data : List Int
  LA : Option Addr
  lc : Nat
  xs : List Sl
def ccell3 (x : Cl3) : List Value := [.int .i64 x.what, .int .i64 x.keep, .int .i64 x.torn, .slice x.A x.n x.c, .slice x.LA x.xs.length x.lc]
def Cl3.Ok (w : World) (x : Cl3) : Prop :=
  Rd w w.heap.size x.A x.n (cells x.data) ∧ x.n ≤ x.c ∧ x.c ≤ maxLen ∧ IsBytes x.data ∧ Rd w w.heap.size x.LA x.xs.length (vals x.xs) ∧ SlsIn w w.heap.size x.xs ∧ (∀ y ∈ x.xs, IsBytes y.l) ∧ x.xs.length ≤ x.lc ∧ x.lc ≤ maxLen ∧
    (-9223372036854775808 ≤ x.what ∧ x.what ≤ 9223372036854775807) ∧ (-9223372036854775808 ≤ x.keep ∧ x.keep ≤ 9223372036854775807) ∧ (-9223372036854775808 ≤ x.torn ∧ x.torn ≤ 9223372036854775807)
def Cl3.W3 (x : Cl3) (ws : List Nat) : Prop := (x.n = 0 ∨ ∃ q ∈ ws, x.n ≤ q) ∧ ∀ y ∈ x.xs, y.n = 0 ∨ ∃ q ∈ ws, y.n ≤ q
theorem Cl3.W3.mono {x : Cl3} {ws vs : List Nat} (h : x.W3 ws) (hv : ∀ q ∈ ws, q ∈ vs) : x.W3 vs :=
  ⟨h.1.imp id fun ⟨q, hq, hl⟩ => ⟨q, hv q hq, hl⟩, fun y hy => (h.2 y hy).imp id fun ⟨q, hq, hl⟩ => ⟨q, hv q hq, hl⟩⟩

section
variable {P : Program} {H : Type} {enc : TypeId × Value → H} {W : World} {B : Nat}
theorem lists_of_trod {fuel : Nat} {t e eb : TypeId} {cs : List Value} {x : DataW H × List MemPlace} (ht : P.underlying t = some (.slice e)) (he : P.underlying e = some (.slice eb)) (hc : P.cellsOf e = 1) (hb : P.underlying eb = some (.int .u8)) (hcb : P.cellsOf eb = 1) (hby : P.bytesOf eb = 1)
    (h : DataW.trod enc P W B (fun _ => true) true fuel t cs = some x) :
    ∃ LA lc xs, cs = [.slice LA xs.length lc] ∧ Rd W W.heap.size LA xs.length (vals xs) ∧ SlsIn W W.heap.size xs ∧ (∀ y ∈ xs, IsBytes y.l) ∧ xs.length ≤ lc ∧ lc ≤ maxLen ∧ (∀ y ∈ xs, y.n = 0 ∨ ∃ q ∈ x.1.weights P t, y.n ≤ q) := by
  rcases Go.Deep.open_slice ht h with ⟨rfl, _⟩ | ⟨a, l, c, m, n, D, Pl, rfl, _, _, _, _, _, _⟩
  · exact ⟨none, 0, [], rfl, Rd.empty, fun x hx => by simp at hx, fun x hx => by simp at hx, Nat.le_refl _, by simp [maxLen], fun x hx => by simp at hx⟩
  · obtain ⟨xs, h1, h2, h3, h4, h5, h6, h7⟩ := rd_of_lists (a := some a) (len := l) (cap := c) (d := x.1) (p := x.2) ht he hc hb hcb hby ⟨fuel, by simpa [Value.cells] using h⟩
    subst h4
    exact ⟨some a, c, xs, rfl, h1, h2, h3, h5, h6, h7⟩
theorem rd_of_calls3 {t e : TypeId} {f0 f1 f2 f3 f4 : Field} {eb : TypeId} {a : Option Addr} {len cap : Nat} {d : DataW H} {p : List MemPlace} (ht : P.underlying t = some (.slice e)) (he : P.underlying e = some (.struct #[f0, f1, f2, f3, f4])) (hc : P.cellsOf e = 5)
    (o0 : f0.offset = 0 ∧ P.cellsOf f0.type = 1 ∧ P.underlying f0.type = some (.int .i64)) (o1 : f1.offset = 1 ∧ P.cellsOf f1.type = 1 ∧ P.underlying f1.type = some (.int .i64)) (o2 : f2.offset = 2 ∧ P.cellsOf f2.type = 1 ∧ P.underlying f2.type = some (.int .i64))
    (o3 : f3.offset = 3 ∧ P.cellsOf f3.type = 1 ∧ P.underlying f3.type = some (.slice eb)) (o4 : f4.offset = 4 ∧ P.cellsOf f4.type = 1 ∧ P.underlying f4.type = some (.slice f3.type)) (hb : P.underlying eb = some (.int .u8)) (hcb : P.cellsOf eb = 1) (hby : P.bytesOf eb = 1)
    (h : DataW.Trod enc P W B (fun _ => true) true t (.slice a len cap) d p) :
    ∃ cl : List Cl3, cl.length = len ∧ len ≤ cap ∧ cap ≤ maxLen ∧ (∀ x ∈ cl, x.Ok W ∧ x.W3 (d.weights P t)) ∧ (0 < len → ∃ ad, a = some ad ∧ ad.block < W.heap.size) ∧
      ∀ i (hi : i < cl.length) j u, (ccell3 cl[i])[j]? = some u → ∃ ad, a = some ad ∧ W.cell? (ad.add (i * 5 + j)) = some u := by
  obtain ⟨fuel, hf⟩ := h
  rcases Go.Deep.open_slice ht hf with ⟨hcs, _⟩ | ⟨x, l, c, m, n, D, Pl, hcs, _, hl, hm, hmm, hx, hel⟩
  · simp [Value.cells] at hcs
    obtain ⟨rfl, rfl, rfl⟩ := hcs
    exact ⟨[], rfl, Nat.le_refl _, by simp [maxLen], fun x hx => by simp at hx, fun h => absurd h (by omega), fun i hi => by simp at hi⟩
  · simp [Value.cells] at hcs
    obtain ⟨rfl, rfl, rfl⟩ := hcs
    obtain rfl : m = cap := by simpa using hmm
    -- one call
    have hone : ∀ i, i < len → ∃ y : Cl3, (y.Ok W ∧ y.W3 ((D i).weights P e)) ∧ ∀ j u, (ccell3 y)[j]? = some u → W.cell? (x.add (i * 5 + j)) = some u := by
      intro i hi
      obtain ⟨cs', hc', ht'⟩ := hel i (by omega)
      rw [hc] at hc'
      obtain ⟨_, hcl, hat⟩ := World.cells?_some hc'
      obtain ⟨ys, n', _, hD, hlen, _, hfl⟩ := DataW.trod_struct he ht'
      simp only [Prod.mk.injEq] at hD
      match cs', hcl with
      | [u0, u1, u2, u3, u4], _ =>
        have g0 := hfl 0 f0 rfl
        have g1 := hfl 1 f1 rfl
        have g2 := hfl 2 f2 rfl
        have g3 := hfl 3 f3 rfl
        have g4 := hfl 4 f4 rfl
        rw [o0.1, o0.2.1] at g0
        rw [o1.1, o1.2.1] at g1
        rw [o2.1, o2.2.1] at g2
        rw [o3.1, o3.2.1] at g3
        rw [o4.1, o4.2.1] at g4
        have some_of : ∀ {k : Nat} {α : Type} {l : List α}, k < l.length → ∃ y, l[k]? = some y := fun h => ⟨_, List.getElem?_eq_getElem h⟩
        have hys : ys.length = 5 := by assumption
        obtain ⟨y0, e0⟩ := some_of (k := 0) (l := ys) (by omega)
        obtain ⟨y1, e1⟩ := some_of (k := 1) (l := ys) (by omega)
        obtain ⟨y2, e2⟩ := some_of (k := 2) (l := ys) (by omega)
        obtain ⟨y3, e3⟩ := some_of (k := 3) (l := ys) (by omega)
        obtain ⟨y4, e4⟩ := some_of (k := 4) (l := ys) (by omega)
        obtain ⟨z0, hz0, _, w0⟩ := DataW.trod_int o0.2.2 (g0.trans e0)
        obtain ⟨z1, hz1, _, w1⟩ := DataW.trod_int o1.2.2 (g1.trans e1)
        obtain ⟨z2, hz2, _, w2⟩ := DataW.trod_int o2.2.2 (g2.trans e2)
        obtain ⟨A, k, c3, zs, hz3, r1, r2, r3, rb, r4⟩ := bytes_of_trod o3.2.2 hb hcb hby (g3.trans e3)
        obtain ⟨LA, lc, xs, hz4, l1, l2, l3, l4, l5, l6⟩ := lists_of_trod o4.2.2 o3.2.2 o3.2.1 hb hcb hby (g4.trans e4)
        have r5 : k = 0 ∨ ∃ q ∈ (D i).weights P e, k ≤ q := by
          rcases r4 with r4 | ⟨q, hq, hkq⟩
          · exact .inl r4
          · refine .inr ⟨q, ?_, hkq⟩
            rw [hD.1]
            simp only [DataW.weights, he]
            exact DataW.weights_mem_each (j := 3) (t := f3.type) (d := y3.1) rfl (by rw [List.getElem?_map, e3]; rfl) q hq
        have l7 : ∀ y ∈ xs, y.n = 0 ∨ ∃ q ∈ (D i).weights P e, y.n ≤ q := by
          intro y hy
          rcases l6 y hy with h6 | ⟨q, hq, hkq⟩
          · exact .inl h6
          · refine .inr ⟨q, ?_, hkq⟩
            rw [hD.1]
            simp only [DataW.weights, he]
            exact DataW.weights_mem_each (j := 4) (t := f4.type) (d := y4.1) rfl (by rw [List.getElem?_map, e4]; rfl) q hq
        simp at hz0 hz1 hz2 hz3 hz4
        subst hz0 hz1 hz2 hz3 hz4
        refine ⟨⟨z0, z1, z2, A, k, c3, zs, LA, lc, xs⟩, ⟨⟨r1, r2, r3, rb, l1, l2, l3, l4, l5, bounds_i64 w0, bounds_i64 w1, bounds_i64 w2⟩, r5, l7⟩, fun j u hu => ?_⟩
        have hj : j < 5 := by have := (List.getElem?_eq_some_iff.1 hu).1; simpa [ccell3] using this
        rw [← addr_add, hat j hj]
        exact hu
    have hall : ∀ k, k ≤ len → ∃ cl : List Cl3, cl.length = k ∧ (∀ y ∈ cl, y.Ok W ∧ (∃ i, i < len ∧ y.W3 ((D i).weights P e))) ∧ ∀ i (hi : i < cl.length) j u, (ccell3 cl[i])[j]? = some u → W.cell? (x.add (i * 5 + j)) = some u := by
      intro k
      induction k with
      | zero => exact fun _ => ⟨[], rfl, fun y hy => by simp at hy, fun i hi => by simp at hi⟩
      | succ k ih =>
        intro hk
        obtain ⟨cl, h1, h2, h3⟩ := ih (by omega)
        obtain ⟨y, hy, hyc⟩ := hone k (by omega)
        refine ⟨cl ++ [y], by simp [h1], fun z hz => ?_, fun i hi j u hu => ?_⟩
        · rcases List.mem_append.1 hz with hz | hz
          · exact h2 z hz
          · rw [List.mem_singleton.1 hz]; exact ⟨hy.1, ⟨k, by omega, hy.2⟩⟩
        · by_cases hik : i < cl.length
          · rw [List.getElem_append_left hik] at hu
            exact h3 i hik j u hu
          · have hik' : i = cl.length := by simp at hi; omega
            subst hik'
            rw [List.getElem_append_right (Nat.le_refl _)] at hu
            simp at hu
            rw [h1]
            exact hyc j u (by simpa using hu)
    obtain ⟨cl, h1, h2, h3⟩ := hall len (Nat.le_refl _)
    have hd : d = .slice ((List.range len).map D) ((List.range (m - len)).map fun j => D (len + j)) := by
      simp only [Prod.mk.injEq] at hx
      exact hx.1
    have h2' : ∀ y ∈ cl, y.Ok W ∧ y.W3 (d.weights P t) := by
      intro y hy
      obtain ⟨a1, a2⟩ := h2 y hy
      obtain ⟨i, hi, a2⟩ := a2
      refine ⟨a1, a2.mono fun q hq => ?_⟩
      rw [hd]
      simp only [DataW.weights, ht]
      refine List.mem_cons.2 (.inr (List.mem_append.2 (.inl (weights_all ?_ hq))))
      exact List.mem_map.2 ⟨i, List.mem_range.2 hi, rfl⟩
    refine ⟨cl, h1, hl, hm, h2', fun h0 => ⟨x, rfl, ?_⟩, fun i hi j u hu => ⟨x, rfl, h3 i hi j u hu⟩⟩
    have := World.block_lt_of_cell? _ _ (h3 0 (by omega) 0 _ rfl)
    rwa [addr_block] at this
end


open Go.Lib
/-- the calls lie in w, below block B -/
structure CallsIn3 (w : World) (B : Nat) (A : Option Addr) (cl : List Cl3) : Prop where
  lo : 0 < cl.length → ∃ ad, A = some ad ∧ ad.block < B
  cell : ∀ i (hi : i < cl.length) j u, (ccell3 cl[i])[j]? = some u → ∃ ad, A = some ad ∧ w.cell? (ad.add (i * 5 + j)) = some u
  rd : ∀ x ∈ cl, Rd w B x.A x.n (cells x.data)
  rdl : ∀ x ∈ cl, Rd w B x.LA x.xs.length (vals x.xs)
  sls : ∀ x ∈ cl, SlsIn w B x.xs
  isb : ∀ x ∈ cl, IsBytes x.data ∧ ∀ y ∈ x.xs, IsBytes y.l
  num : ∀ x ∈ cl, x.n ≤ x.c ∧ x.c ≤ maxLen ∧ x.xs.length ≤ x.lc ∧ x.lc ≤ maxLen ∧ (-9223372036854775808 ≤ x.what ∧ x.what ≤ 9223372036854775807) ∧ (-9223372036854775808 ≤ x.keep ∧ x.keep ≤ 9223372036854775807) ∧ (-9223372036854775808 ≤ x.torn ∧ x.torn ≤ 9223372036854775807) ∧ x.n ≤ 140737488351232 ∧ ∀ y ∈ x.xs, y.n ≤ 140737488351232
theorem CallsIn3.below {w w' : World} {B C : Nat} {A : Option Addr} {cl : List Cl3} (h : CallsIn3 w B A cl) (hb : Below C w w') (hC : B ≤ C) : CallsIn3 w' B A cl := by
  refine ⟨h.lo, fun i hi j u hu => ?_, fun x hx => (h.rd x hx).below hb hC, fun x hx => (h.rdl x hx).below hb hC, fun x hx => (h.sls x hx).below hb hC, h.isb, h.num⟩
  obtain ⟨ad, rfl, hc⟩ := h.cell i hi j u hu
  obtain ⟨ad', e, hlt⟩ := h.lo (by omega)
  obtain rfl := Option.some.inj e
  exact ⟨ad, rfl, (hb.cell (p := ad.add (i * 5 + j)) (by rw [addr_block]; omega)).trans hc⟩
theorem addr_field (a : Addr) {j : Nat} (hj : 0 < j) : (⟨a.block, a.off + j, none⟩ : Addr) = a.add j := by unfold Addr.add; rw [if_neg (by omega)]
theorem CallsIn3.at_ {w : World} {B : Nat} {A : Option Addr} {cl : List Cl3} (h : CallsIn3 w B A cl) {i : Nat} (hi : i < cl.length) : ∃ ad, A = some ad ∧ ad.block < B ∧ w.cell? (ad.add (i * 5)) = some (.int .i64 cl[i].what) ∧
    w.cell? ⟨(ad.add (i * 5)).block, (ad.add (i * 5)).off + 1, none⟩ = some (.int .i64 cl[i].keep) ∧ w.cell? ⟨(ad.add (i * 5)).block, (ad.add (i * 5)).off + 2, none⟩ = some (.int .i64 cl[i].torn) ∧
    w.cell? ⟨(ad.add (i * 5)).block, (ad.add (i * 5)).off + 3, none⟩ = some (.slice cl[i].A cl[i].n cl[i].c) ∧ w.cell? ⟨(ad.add (i * 5)).block, (ad.add (i * 5)).off + 4, none⟩ = some (.slice cl[i].LA cl[i].xs.length cl[i].lc) := by
  obtain ⟨ad, rfl, hlt⟩ := h.lo (by omega)
  have get : ∀ j u, (ccell3 cl[i])[j]? = some u → w.cell? (ad.add (i * 5 + j)) = some u := fun j u hu => by
    obtain ⟨ad', e, hc⟩ := h.cell i hi j u hu
    obtain rfl := Option.some.inj e
    exact hc
  refine ⟨ad, rfl, hlt, get 0 _ rfl, ?_, ?_, ?_, ?_⟩
  · rw [addr_field _ (by omega), addr_add]; exact get 1 _ rfl
  · rw [addr_field _ (by omega), addr_add]; exact get 2 _ rfl
  · rw [addr_field _ (by omega), addr_add]; exact get 3 _ rfl
  · rw [addr_field _ (by omega), addr_add]; exact get 4 _ rfl
theorem CallsIn3.of {P : Program} {H : Type} {W : World} {a : Option Addr} {cl : List Cl3} {t : TypeId} {d : DataW H} (o : ∀ x ∈ cl, x.Ok W ∧ x.W3 (d.weights P t)) (q : 0 < cl.length → ∃ ad, a = some ad ∧ ad.block < W.heap.size)
    (r : ∀ i (hi : i < cl.length) j u, (ccell3 cl[i])[j]? = some u → ∃ ad, a = some ad ∧ W.cell? (ad.add (i * 5 + j)) = some u) (sz : ∀ y ∈ d.weights P t, y ≤ reachBytes) : CallsIn3 W W.heap.size a cl := by
  have lim : ∀ n : Nat, (n = 0 ∨ ∃ q ∈ d.weights P t, n ≤ q) → n ≤ 140737488351232 := by
    rintro n (h | ⟨y, hy, hle⟩)
    · omega
    · have := sz y hy
      unfold reachBytes at this
      omega
  exact ⟨q, r, fun x hx => (o x hx).1.1, fun x hx => (o x hx).1.2.2.2.2.1, fun x hx => (o x hx).1.2.2.2.2.2.1, fun x hx => ⟨(o x hx).1.2.2.2.1, (o x hx).1.2.2.2.2.2.2.1⟩, fun x hx => by
    obtain ⟨⟨_, h2, h3, _, _, _, _, h4, h5, h6, h7, h8⟩, h9, h10⟩ := o x hx
    exact ⟨h2, h3, h4, h5, h6, h7, h8, lim _ h9, fun y hy => lim _ (h10 y hy)⟩⟩
end Go.Proofs.Ytehghjakggdnpaa

namespace Go.Proofs.Ytehghjakggdnpaa
open Go.RowKit Go.Lib

theorem wri3 {x : Int} (h0 : -4611686018427387904 ≤ x) (h1 : x < 4611686018427387904) : IntKind.i64.wrap x = x := by
  unfold IntKind.wrap; simp [IntKind.bits, IntKind.signed]; omega
def WeighRet2 (xs : List Sl) (most : Nat) (w : World) (e : Ending) (w' : World) : Prop :=
  w = w' ∧ ∃ m : Nat, e = .returned (.int .i64 (m : Int)) ∧ m ≤ most + 140737488355329 ∧ (m ≤ most → weighM xs = m)
set_option maxRecDepth 100000 in
set_option maxHeartbeats 1600000 in
theorem weigh_any2 (A : Option Addr) (c : Nat) (xs : List Sl) (most : Nat) (hmost : most ≤ 100000) (w : World) (hr : Rd w w.heap.size A xs.length (vals xs)) (hs : SlsIn w w.heap.size xs) (hb : ∀ x ∈ xs, x.n ≤ 140737488355328) :
    Calls Try.prog 33 #[.slice A xs.length c, .int .i64 most] w (WeighRet2 xs most w) := by
  by_cases h0 : most < xs.length
  · have hi : (most : Int) < (xs.length : Int) := by omega
    go_enter Try.func33, Try.ntmps33
    go_wp2
    go_ret
    exact ⟨rfl, most + 1, by rfl, by omega, fun h => by omega⟩
  · have hi : ¬ ((most : Int) < (xs.length : Int)) := by omega
    have HR := Lib.hid (And.intro hr (And.intro hs hb))
    have hln : xs.length ≤ 100000 := by omega
    clear hr hs hb
    go_enter Try.func33, Try.ntmps33
    go_wp2_with fail
    go_loopw [5, 6] (fun n i wr => WgRel xs most w n i wr) (fun _ i _ => xs.length - (intOf i).toNat)
    case atStart => exact ⟨0, by omega, rfl, rfl, rfl, by simp [weighM]⟩
    case round =>
      obtain ⟨k, hk, rfl, rfl, rfl, hw⟩ := hrel
      by_cases hlt : k < xs.length
      · obtain ⟨ad, v, rfl, _, hv, hc⟩ := HR.out.1.at_ hlt
        obtain ⟨x, hx⟩ : ∃ x, x = xs[k]'hlt := ⟨_, rfl⟩
        have hxv : v = .slice x.A x.n x.c := by
          simp only [vals, List.getElem?_map, List.getElem?_eq_getElem hlt, Option.map_some, Option.some.injEq] at hv
          rw [← hv, hx]; rfl
        subst hxv
        have hxn : x.n ≤ 140737488355328 := by rw [hx]; exact HR.out.2.2 _ (List.getElem_mem _)
        have htk : weighM (xs.take (k + 1)) = weighM (xs.take k) + (1 + x.n) := by
          rw [List.take_succ_eq_append_getElem hlt, weighM_append, ← hx]; rfl
        obtain ⟨m, hm⟩ : ∃ m, m = weighM (xs.take k) := ⟨_, rfl⟩
        rw [← hm] at hw htk ⊢
        have HT := Lib.hid (And.intro htk hm)
        have hk0 : (0 : Int) ≤ (k : Int) := Int.natCast_nonneg _
        have hk1 : (k : Int) < (xs.length : Int) := by omega
        clear hv hx htk hm
        by_cases hle : m ≤ most
        · have hlei : (m : Int) ≤ (most : Int) := by omega
          go_wp2
          go_roundw
          case rel => exact ⟨k + 1, by omega, by rw [HT.out.1]; go_num, by go_num, rfl, by rw [HT.out.1]; omega⟩
          case measure => simp [intOf]; omega
        · have hlei : ¬ ((m : Int) ≤ (most : Int)) := by omega
          go_wp2
          go_ret
          exact ⟨rfl, m, rfl, by omega, fun h => by omega⟩
      · have hkn : ¬ ((k : Int) < (xs.length : Int)) := by omega
        go_wp2
        go_ret
        exact ⟨rfl, _, rfl, hw, fun _ => by rw [List.take_of_length_le (by omega)]⟩

/-- true, or false and the calls are few -/
def GreatRet3 (cl : List Cl3) (w : World) (e : Ending) (w' : World) : Prop :=
  (∃ p, w' = w.drewN p) ∧ (e = .returned (.bool true) ∨ (e = .returned (.bool false) ∧ cl.length ≤ 60 ∧ ∀ x ∈ cl, x.n ≤ 20000 ∧ weighM x.xs ≤ 20000))
def GtRel3 (cl : List Cl3) (w : World) (m i : Value) (wr : World) : Prop :=
  ∃ k q p : Nat, k ≤ cl.length ∧ i = .int .i64 k ∧ m = .int .i64 q ∧ q ≤ 20000 ∧ wr = w.drewN p ∧ ∀ j (h : j < cl.length), j < k → cl[j].n ≤ 20000 ∧ weighM cl[j].xs ≤ 20000

set_option maxRecDepth 100000 in
set_option maxHeartbeats 1600000 in
theorem great_any3 (A : Option Addr) (c : Nat) (cl : List Cl3) (w : World) (h : CallsIn3 w w.heap.size A cl) (hm : cl.length ≤ maxLen) :
    Calls Try.prog 9 #[.slice A cl.length c] w (GreatRet3 cl w) := by
  unfold maxLen at hm
  have HC := Lib.hid h
  clear h
  by_cases h60 : 60 < cl.length
  · have h60i : (60 : Int) < (cl.length : Int) := by omega
    go_enter Try.func9, Try.ntmps9
    go_wp2
    go_ret
    exact ⟨⟨0, rfl⟩, .inl rfl⟩
  · have h60i : ¬ (60 : Int) < (cl.length : Int) := by omega
    go_enter Try.func9, Try.ntmps9
    go_wp2
    go_loopw [3, 4] (fun m i wr => GtRel3 cl w m i wr) (fun _ i _ => cl.length - (intOf i).toNat)
    case atStart => exact ⟨0, 0, 0, by omega, rfl, rfl, by omega, rfl, fun j _ hj => absurd hj (by omega)⟩
    case round =>
      obtain ⟨k, q, p, hk, rfl, rfl, hq, rfl, hall⟩ := hrel
      have HA := Lib.hid hall
      clear hall
      by_cases hlt : k < cl.length
      · have hk0 : (0 : Int) ≤ (k : Int) := Int.natCast_nonneg _
        have hk1 : (k : Int) < (cl.length : Int) := by omega
        obtain ⟨wq, hwq⟩ : ∃ wq, wq = w.drewN p := ⟨_, rfl⟩
        have hC : CallsIn3 wq wq.heap.size A cl := by rw [hwq]; exact HC.out.below (C := w.heap.size) ⟨rfl, rfl, rfl, Nat.le_refl _, fun _ _ => rfl⟩ (Nat.le_refl _)
        rw [← hwq]
        obtain ⟨ad, rfl, _, c0, c1, c2, c3, c4⟩ := hC.at_ hlt
        have hmem := List.getElem_mem hlt
        have hn := hC.num cl[k] hmem
        have hn6 := hn.2.2.2.2.2.2.2.1
        have HX0 := Lib.hid (And.intro (hC.rdl cl[k] hmem) (And.intro (hC.sls cl[k] hmem) hn.2.2.2.2.2.2.2.2))
        obtain ⟨x, hx⟩ : ∃ x, x = cl[k] := ⟨_, rfl⟩
        rw [← hx] at c3 c4 hn6 HX0
        have HX := Lib.hid hx
        have HWQ := Lib.hid hwq
        clear hn hx c0 c1 c2 hwq hC hmem
        go_wp2_with fail
        have HE := Lib.hid (show wq.cell? ⟨(ad.add (k * 5)).block, (ad.add (k * 5)).off + 3, none⟩ = some (.slice x.A x.n x.c) ∧ wq.cell? ⟨(ad.add (k * 5)).block, (ad.add (k * 5)).off + 4, none⟩ = some (.slice x.LA x.xs.length x.lc) from ⟨c3, c4⟩)
        go_region_held3 (fun w' => w'.cell? ⟨(ad.add (k * 5)).block, (ad.add (k * 5)).off + 3, none⟩ = some (.slice x.A x.n x.c) ∧ w'.cell? ⟨(ad.add (k * 5)).block, (ad.add (k * 5)).off + 4, none⟩ = some (.slice x.LA x.xs.length x.lc))
          (first | exact HE.out | exact ⟨c3, c4⟩ | go_keep)
          (first | (go_at_call 33; refine (weigh_any2 x.LA x.lc x.xs 20000 (by omega) _ (by exact HX0.out.1) (by exact HX0.out.2.1) (fun y hy => by have := HX0.out.2.2 y hy; omega)).mono ?_; rintro e w5 ⟨rfl, m, rfl, hmb, hwm⟩; have HWM := Lib.hid hwm; clear hwm))
        have q1 : IntKind.i64.wrap ((x.n : Int) + (m : Int)) = (x.n : Int) + (m : Int) := wri3 (by omega) (by omega)
        have q2 : IntKind.i64.wrap ((q : Int) + ((x.n : Int) + (m : Int))) = (q : Int) + ((x.n : Int) + (m : Int)) := wri3 (by omega) (by omega)
        have HF : ¬ 20000 < q + (x.n + m) → ∀ p', GtRel3 cl w (.int .i64 ((q : Int) + ((x.n : Int) + (m : Int)))) (.int .i64 ((k : Int) + 1)) (wq.drewN p') := by
          intro hle p'
          refine ⟨k + 1, q + (x.n + m), p + p', by omega, by congr 1, by congr 1, by omega, ?_, ?_⟩
          · rw [HWQ.out]; unfold World.drewN; simp only [Nat.add_assoc]
          · intro j hj hjk
            rcases Nat.lt_or_ge j k with h | h
            · exact HA.out j hj h
            · obtain rfl : j = k := by omega
              have hxx := HX.out
              rw [← hxx]
              exact ⟨by omega, by rw [HWM.out (by omega)]; omega⟩
        have HF2 := Lib.hid HF
        clear HF
        rw [q1, q2]
        by_cases hbig : 20000 < q + (x.n + m)
        · have hbi : (20000 : Int) < (q : Int) + ((x.n : Int) + (m : Int)) := by omega
          have hd : ∃ p', wq.drew = w.drewN p' := ⟨p + 1, by rw [HWQ.out]; unfold World.drewN World.drew; simp only [Nat.add_assoc]⟩
          have HD := Lib.hid hd
          clear hd
          go_wp2
          go_ret
          exact ⟨HD.out, .inl rfl⟩
        · have hbi : ¬ (20000 : Int) < (q : Int) + ((x.n : Int) + (m : Int)) := by omega
          have HF3 := Lib.hid (HF2.out hbig)
          go_wp2
          go_roundw
          case rel => exact HF3.out 1
          case measure => simp [intOf]; omega
      · go_wp2
        go_ret
        exact ⟨⟨_, rfl⟩, .inr ⟨rfl, by omega, fun x hx => by
          obtain ⟨j, hj, rfl⟩ := List.mem_iff_getElem.1 hx
          exact HA.out j hj (by omega)⟩⟩
end Go.Proofs.Ytehghjakggdnpaa
