/-
  Arguments opened: a slice of bytes, a slice of calls, as the cells that they hold.
-/
import Derived.Test.YtbfgnjkkelknmaaAlive
import Derived.ProofKit
import Derived.OpenShut
import Derived.ChangeOld
import Derived.Deep.Slices
import Derived.SizedLaws
namespace Go.Proofs.Ytbfgnjkkelknmaa
open Go.ChangeShapes Go.WideShapes Go.ChangeAt Go.RowKit

theorem own : ownKnob Try.prog.godebug = none := by kernel_rfl
theorem laidOut : laidOutB Try.prog = true := by kernel_rfl

/-- a call, as it came in: its numbers, its bytes and where they lie -/
structure Cl where
  what : Int
  at' : Int
  torn : Int
  A : Option Addr
  n : Nat
  c : Nat
  data : List Int
def ccell (x : Cl) : List Value := [.int .i64 x.what, .int .i64 x.at', .int .i64 x.torn, .slice x.A x.n x.c]
/-- its bytes lie in w -/
def Cl.Ok (w : World) (x : Cl) : Prop :=
  Rd w w.heap.size x.A x.n (cells x.data) ∧ x.n ≤ x.c ∧ x.c ≤ maxLen ∧ (-9223372036854775808 ≤ x.what ∧ x.what ≤ 9223372036854775807) ∧ (-9223372036854775808 ≤ x.at' ∧ x.at' ≤ 9223372036854775807) ∧ (-9223372036854775808 ≤ x.torn ∧ x.torn ≤ 9223372036854775807)

section
variable {P : Program} {H : Type} {enc : TypeId × Value → H} {W : World} {B : Nat}
theorem rd_of_ints {t e : TypeId} {k : IntKind} {a : Option Addr} {len cap : Nat} {d : DataW H} {p : List MemPlace} (ht : P.underlying t = some (.slice e)) (he : P.underlying e = some (.int k)) (hc : P.cellsOf e = 1)
    (h : DataW.Trod enc P W B (fun _ => true) true t (.slice a len cap) d p) :
    ∃ zs : List Int, Rd W W.heap.size a len (zs.map (Value.int k)) ∧ (∀ z ∈ zs, (Lit.int k z).wf = true) ∧ zs.length = len ∧ len ≤ cap ∧ cap ≤ maxLen := by
  obtain ⟨fuel, hf⟩ := h
  rcases open_ints ht he hc hf with ⟨hcs, _⟩ | ⟨x, l, c, zs, hcs, _, hl, hm, hz, _, hcell, hwz⟩
  · simp [Value.cells] at hcs
    obtain ⟨rfl, rfl, rfl⟩ := hcs
    exact ⟨[], Rd.empty, fun z hz => by simp at hz, rfl, Nat.le_refl _, by simp [maxLen]⟩
  · simp [Value.cells] at hcs
    obtain ⟨rfl, rfl, rfl⟩ := hcs
    have hzl : zs.length = cap := by simpa using hz
    refine ⟨zs.take len, ⟨by simp; omega, fun h0 => ⟨x, rfl, ?_, ?_⟩⟩, fun z hz => hwz z (List.mem_of_mem_take hz), by simp; omega, hl, hm⟩
    · have h1 := World.block_lt_of_cell? _ _ (hcell 0 (by omega))
      rwa [addr_block] at h1
    · intro j u hu
      have hj : j < len := by
        have := (List.getElem?_eq_some_iff.1 hu).1
        simp at this
        omega
      have hjz : j < zs.length := by omega
      rw [hcell j hjz]
      simp only [List.getElem?_map, List.getElem?_take, if_pos hj, List.getElem?_eq_getElem hjz] at hu
      simpa [List.getD, hjz] using hu

theorem i64_of_wf {n : Int} (h : (Lit.int .i64 n).wf = true) : -9223372036854775808 ≤ n ∧ n ≤ 9223372036854775807 := bounds_i64 h

theorem bytes_of_trod {fuel : Nat} {t e : TypeId} {cs : List Value} {x : DataW H × List MemPlace} (ht : P.underlying t = some (.slice e)) (he : P.underlying e = some (.int .u8)) (hc : P.cellsOf e = 1)
    (hby : P.bytesOf e = 1) (h : DataW.trod enc P W B (fun _ => true) true fuel t cs = some x) : ∃ A n c zs, cs = [.slice A n c] ∧ Rd W W.heap.size A n (cells zs) ∧ n ≤ c ∧ c ≤ maxLen ∧ (n = 0 ∨ ∃ q ∈ x.1.weights P t, n ≤ q) := by
  rcases open_ints ht he hc h with ⟨rfl, _⟩ | ⟨a, l, c, zs, rfl, _, hlc, _, hzs, hx, _⟩
  · exact ⟨none, 0, 0, [], rfl, Rd.empty, Nat.le_refl _, by simp [maxLen], .inl rfl⟩
  · have hw : l ≤ zs.length := by simp at hzs; omega
    have hq : l = 0 ∨ ∃ q ∈ x.1.weights P t, l ≤ q := by
      refine .inr ⟨zs.length, ?_, hw⟩
      rw [hx]
      simp only [DataW.weights, ht, hby, Nat.mul_one]
      refine List.mem_cons.2 (.inl ?_)
      simp [lits]; omega
    obtain ⟨zs', h1, _, _, h4, h5⟩ := rd_of_ints (a := some a) (len := l) (cap := c) (d := x.1) (p := x.2) ht he hc ⟨fuel, by simpa [Value.cells] using h⟩
    exact ⟨some a, l, c, zs', rfl, h1, h4, h5, hq⟩

theorem weights_all {e : TypeId} {d : DataW H} {q : Nat} : ∀ {l : List (DataW H)}, d ∈ l → q ∈ d.weights P e → q ∈ DataW.weightsAll P e l := by
  intro l
  induction l with
  | nil => intro h; simp at h
  | cons x l ih =>
    intro h hq
    simp only [DataW.weightsAll]
    rcases List.mem_cons.1 h with rfl | h
    · exact List.mem_append.2 (.inl hq)
    · exact List.mem_append.2 (.inr (ih h hq))

theorem rd_of_calls {t e : TypeId} {f0 f1 f2 f3 : Field} {eb : TypeId} {a : Option Addr} {len cap : Nat} {d : DataW H} {p : List MemPlace} (ht : P.underlying t = some (.slice e)) (he : P.underlying e = some (.struct #[f0, f1, f2, f3])) (hc : P.cellsOf e = 4)
    (o0 : f0.offset = 0 ∧ P.cellsOf f0.type = 1 ∧ P.underlying f0.type = some (.int .i64)) (o1 : f1.offset = 1 ∧ P.cellsOf f1.type = 1 ∧ P.underlying f1.type = some (.int .i64)) (o2 : f2.offset = 2 ∧ P.cellsOf f2.type = 1 ∧ P.underlying f2.type = some (.int .i64))
    (o3 : f3.offset = 3 ∧ P.cellsOf f3.type = 1 ∧ P.underlying f3.type = some (.slice eb)) (hb : P.underlying eb = some (.int .u8)) (hcb : P.cellsOf eb = 1) (hby : P.bytesOf eb = 1)
    (h : DataW.Trod enc P W B (fun _ => true) true t (.slice a len cap) d p) :
    ∃ cl : List Cl, cl.length = len ∧ len ≤ cap ∧ cap ≤ maxLen ∧ (∀ x ∈ cl, x.Ok W ∧ (x.n = 0 ∨ ∃ q ∈ d.weights P t, x.n ≤ q)) ∧ (0 < len → ∃ ad, a = some ad ∧ ad.block < W.heap.size) ∧
      ∀ i (hi : i < cl.length) j u, (ccell cl[i])[j]? = some u → ∃ ad, a = some ad ∧ W.cell? (ad.add (i * 4 + j)) = some u := by
  obtain ⟨fuel, hf⟩ := h
  rcases Go.Deep.open_slice ht hf with ⟨hcs, _⟩ | ⟨x, l, c, m, n, D, Pl, hcs, _, hl, hm, hmm, hx, hel⟩
  · simp [Value.cells] at hcs
    obtain ⟨rfl, rfl, rfl⟩ := hcs
    exact ⟨[], rfl, Nat.le_refl _, by simp [maxLen], fun x hx => by simp at hx, fun h => absurd h (by omega), fun i hi => by simp at hi⟩
  · simp [Value.cells] at hcs
    obtain ⟨rfl, rfl, rfl⟩ := hcs
    obtain rfl : m = cap := by simpa using hmm
    -- one call
    have hone : ∀ i, i < len → ∃ y : Cl, (y.Ok W ∧ (y.n = 0 ∨ ∃ q ∈ (D i).weights P e, y.n ≤ q)) ∧ ∀ j u, (ccell y)[j]? = some u → W.cell? (x.add (i * 4 + j)) = some u := by
      intro i hi
      obtain ⟨cs', hc', ht'⟩ := hel i (by omega)
      rw [hc] at hc'
      obtain ⟨_, hcl, hat⟩ := World.cells?_some hc'
      obtain ⟨ys, n', _, hD, hlen, _, hfl⟩ := DataW.trod_struct he ht'
      simp only [Prod.mk.injEq] at hD
      match cs', hcl with
      | [u0, u1, u2, u3], _ =>
        have g0 := hfl 0 f0 rfl
        have g1 := hfl 1 f1 rfl
        have g2 := hfl 2 f2 rfl
        have g3 := hfl 3 f3 rfl
        rw [o0.1, o0.2.1] at g0
        rw [o1.1, o1.2.1] at g1
        rw [o2.1, o2.2.1] at g2
        rw [o3.1, o3.2.1] at g3
        have some_of : ∀ {k : Nat} {α : Type} {l : List α}, k < l.length → ∃ y, l[k]? = some y := fun h => ⟨_, List.getElem?_eq_getElem h⟩
        have hys : ys.length = 4 := by assumption
        obtain ⟨y0, e0⟩ := some_of (k := 0) (l := ys) (by omega)
        obtain ⟨y1, e1⟩ := some_of (k := 1) (l := ys) (by omega)
        obtain ⟨y2, e2⟩ := some_of (k := 2) (l := ys) (by omega)
        obtain ⟨y3, e3⟩ := some_of (k := 3) (l := ys) (by omega)
        obtain ⟨z0, hz0, _, w0⟩ := DataW.trod_int o0.2.2 (g0.trans e0)
        obtain ⟨z1, hz1, _, w1⟩ := DataW.trod_int o1.2.2 (g1.trans e1)
        obtain ⟨z2, hz2, _, w2⟩ := DataW.trod_int o2.2.2 (g2.trans e2)
        obtain ⟨A, k, c3, zs, hz3, r1, r2, r3, r4⟩ := bytes_of_trod o3.2.2 hb hcb hby (g3.trans e3)
        have r5 : k = 0 ∨ ∃ q ∈ (D i).weights P e, k ≤ q := by
          rcases r4 with r4 | ⟨q, hq, hkq⟩
          · exact .inl r4
          · refine .inr ⟨q, ?_, hkq⟩
            rw [hD.1]
            simp only [DataW.weights, he]
            exact DataW.weights_mem_each (j := 3) (t := f3.type) (d := y3.1) rfl (by rw [List.getElem?_map, e3]; rfl) q hq
        simp at hz0 hz1 hz2 hz3
        subst hz0 hz1 hz2 hz3
        refine ⟨⟨z0, z1, z2, A, k, c3, zs⟩, ⟨⟨r1, r2, r3, i64_of_wf w0, i64_of_wf w1, i64_of_wf w2⟩, r5⟩, fun j u hu => ?_⟩
        have hj : j < 4 := by have := (List.getElem?_eq_some_iff.1 hu).1; simpa [ccell] using this
        rw [← addr_add, hat j hj]
        exact hu
    have hall : ∀ k, k ≤ len → ∃ cl : List Cl, cl.length = k ∧ (∀ y ∈ cl, y.Ok W ∧ (y.n = 0 ∨ ∃ i, i < len ∧ ∃ q ∈ (D i).weights P e, y.n ≤ q)) ∧ ∀ i (hi : i < cl.length) j u, (ccell cl[i])[j]? = some u → W.cell? (x.add (i * 4 + j)) = some u := by
      intro k
      induction k with
      | zero => exact fun _ => ⟨[], rfl, fun y hy => by simp at hy, fun i hi => by simp at hi⟩
      | succ k ih =>
        intro hk
        obtain ⟨cl, h1, h2, h3⟩ := ih (by omega)
        obtain ⟨y, hy, hyc⟩ := hone k (by omega)
        refine ⟨cl ++ [y], by simp [h1], fun z hz => ?_, fun i hi j u hu => ?_⟩
        · rcases List.mem_append.1 hz with hz | hz
          · exact h2 z hz
          · rw [List.mem_singleton.1 hz]; exact ⟨hy.1, hy.2.imp id fun h => ⟨k, by omega, h⟩⟩
        · by_cases hik : i < cl.length
          · rw [List.getElem_append_left hik] at hu
            exact h3 i hik j u hu
          · have hik' : i = cl.length := by simp at hi; omega
            subst hik'
            rw [List.getElem_append_right (Nat.le_refl _)] at hu
            simp at hu
            rw [h1]
            exact hyc j u (by simpa using hu)
    obtain ⟨cl, h1, h2, h3⟩ := hall len (Nat.le_refl _)
    have hd : d = .slice ((List.range len).map D) ((List.range (m - len)).map fun j => D (len + j)) := by
      simp only [Prod.mk.injEq] at hx
      exact hx.1
    have h2' : ∀ y ∈ cl, y.Ok W ∧ (y.n = 0 ∨ ∃ q ∈ d.weights P t, y.n ≤ q) := by
      intro y hy
      obtain ⟨a1, a2⟩ := h2 y hy
      refine ⟨a1, a2.imp id fun ⟨i, hi, q, hq, hle⟩ => ⟨q, ?_, hle⟩⟩
      rw [hd]
      simp only [DataW.weights, ht]
      refine List.mem_cons.2 (.inr (List.mem_append.2 (.inl (weights_all ?_ hq))))
      exact List.mem_map.2 ⟨i, List.mem_range.2 hi, rfl⟩
    refine ⟨cl, h1, hl, hm, h2', fun h0 => ⟨x, rfl, ?_⟩, fun i hi j u hu => ⟨x, rfl, h3 i hi j u hu⟩⟩
    have := World.block_lt_of_cell? _ _ (h3 0 (by omega) 0 _ rfl)
    rwa [addr_block] at this
end

/-- the calls lie in w, below block B -/
structure CallsIn (w : World) (B : Nat) (A : Option Addr) (cl : List Cl) : Prop where
  lo : 0 < cl.length → ∃ ad, A = some ad ∧ ad.block < B
  cell : ∀ i (hi : i < cl.length) j u, (ccell cl[i])[j]? = some u → ∃ ad, A = some ad ∧ w.cell? (ad.add (i * 4 + j)) = some u
  rd : ∀ x ∈ cl, Rd w B x.A x.n (cells x.data)
  num : ∀ x ∈ cl, x.n ≤ x.c ∧ x.c ≤ maxLen ∧ (-9223372036854775808 ≤ x.what ∧ x.what ≤ 9223372036854775807) ∧ (-9223372036854775808 ≤ x.at' ∧ x.at' ≤ 9223372036854775807) ∧ (-9223372036854775808 ≤ x.torn ∧ x.torn ≤ 9223372036854775807) ∧ x.n ≤ 140737488351232
theorem CallsIn.below {w w' : World} {B C : Nat} {A : Option Addr} {cl : List Cl} (h : CallsIn w B A cl) (hb : Below C w w') (hC : B ≤ C) : CallsIn w' B A cl := by
  refine ⟨h.lo, fun i hi j u hu => ?_, fun x hx => (h.rd x hx).below hb hC, h.num⟩
  obtain ⟨ad, rfl, hc⟩ := h.cell i hi j u hu
  obtain ⟨ad', e, hlt⟩ := h.lo (by omega)
  obtain rfl := Option.some.inj e
  exact ⟨ad, rfl, (hb.cell (p := ad.add (i * 4 + j)) (by rw [addr_block]; omega)).trans hc⟩
theorem addr_field (a : Addr) {j : Nat} (hj : 0 < j) : (⟨a.block, a.off + j, none⟩ : Addr) = a.add j := by unfold Addr.add; rw [if_neg (by omega)]
/-- call number i, its cells, at the addresses of its fields -/
theorem CallsIn.at_ {w : World} {B : Nat} {A : Option Addr} {cl : List Cl} (h : CallsIn w B A cl) {i : Nat} (hi : i < cl.length) : ∃ ad, A = some ad ∧ ad.block < B ∧ w.cell? (ad.add (i * 4)) = some (.int .i64 cl[i].what) ∧
    w.cell? ⟨(ad.add (i * 4)).block, (ad.add (i * 4)).off + 1, none⟩ = some (.int .i64 cl[i].at') ∧ w.cell? ⟨(ad.add (i * 4)).block, (ad.add (i * 4)).off + 2, none⟩ = some (.int .i64 cl[i].torn) ∧
    w.cell? ⟨(ad.add (i * 4)).block, (ad.add (i * 4)).off + 3, none⟩ = some (.slice cl[i].A cl[i].n cl[i].c) := by
  obtain ⟨ad, rfl, hlt⟩ := h.lo (by omega)
  have get : ∀ j u, (ccell cl[i])[j]? = some u → w.cell? (ad.add (i * 4 + j)) = some u := fun j u hu => by
    obtain ⟨ad', e, hc⟩ := h.cell i hi j u hu
    obtain rfl := Option.some.inj e
    exact hc
  refine ⟨ad, rfl, hlt, get 0 _ rfl, ?_, ?_, ?_⟩
  · rw [addr_field _ (by omega), addr_add]; exact get 1 _ rfl
  · rw [addr_field _ (by omega), addr_add]; exact get 2 _ rfl
  · rw [addr_field _ (by omega), addr_add]; exact get 3 _ rfl

/-- how the answer of great is used: true, or false and the calls are few -/
def GreatRet (cl : List Cl) (w : World) (e : Ending) (w' : World) : Prop :=
  w = w' ∧ (e = .returned (.bool true) ∨ (e = .returned (.bool false) ∧ cl.length ≤ 200 ∧ ∀ x ∈ cl, x.n ≤ 20000))
def GrRel (cl : List Cl) (m i : Value) : Prop :=
  ∃ k q : Nat, k ≤ cl.length ∧ i = .int .i64 k ∧ m = .int .i64 q ∧ q ≤ 20000 ∧ ∀ j (h : j < cl.length), j < k → cl[j].n ≤ 20000

set_option maxRecDepth 100000 in
set_option maxHeartbeats 800000 in
theorem great_any (A : Option Addr) (c : Nat) (cl : List Cl) (w : World) (B : Nat) (h : CallsIn w B A cl) (hm : cl.length ≤ maxLen) :
    Calls Try.prog 10 #[.slice A cl.length c] w (GreatRet cl w) := by
  unfold maxLen at hm
  have HC := Lib.hid h
  clear h
  by_cases h200 : 200 < cl.length
  · go_enter Try.func10, Try.ntmps10
    go_wp2
    go_ret
    exact ⟨rfl, .inl rfl⟩
  · go_enter Try.func10, Try.ntmps10
    go_wp2
    go_loop [3, 4] (fun m i => GrRel cl m i) (fun _ i => cl.length - (intOf i).toNat)
    case atStart => exact ⟨0, 0, by omega, rfl, rfl, by omega, fun j _ hj => absurd hj (by omega)⟩
    case round =>
      obtain ⟨k, q, hk, rfl, rfl, hq, hall⟩ := hrel
      have HA := Lib.hid hall
      clear hall
      by_cases hlt : k < cl.length
      · obtain ⟨ad, rfl, _, c0, c1, c2, c3⟩ := HC.out.at_ hlt
        have hn := HC.out.num cl[k] (List.getElem_mem hlt)
        have hn6 := hn.2.2.2.2.2
        obtain ⟨xn, hxn⟩ : ∃ xn, xn = cl[k].n := ⟨_, rfl⟩
        rw [← hxn] at c3 hn6
        have HX := Lib.hid hxn
        clear hn hxn
        by_cases hbig : 20000 < q + xn
        · go_wp2
          go_ret
          exact ⟨rfl, .inl rfl⟩
        · go_wp2
          go_round
          case rel => exact ⟨k + 1, q + xn, by omega, by go_num, by go_num, by omega, fun j hj hjk => by
            rcases Nat.lt_or_ge j k with h | h
            · exact HA.out j hj h
            · obtain rfl : j = k := by omega
              have := HX.out
              omega⟩
          case measure => simp [intOf]; omega
      · go_wp2
        go_ret
        exact ⟨rfl, .inr ⟨rfl, by omega, fun x hx => by
          obtain ⟨j, hj, rfl⟩ := List.mem_iff_getElem.1 hx
          exact HA.out j hj (by omega)⟩⟩

theorem CallsIn.of {P : Program} {H : Type} {W : World} {a : Option Addr} {cl : List Cl} {t : TypeId} {d : DataW H} (o : ∀ x ∈ cl, x.Ok W ∧ (x.n = 0 ∨ ∃ q ∈ d.weights P t, x.n ≤ q)) (q : 0 < cl.length → ∃ ad, a = some ad ∧ ad.block < W.heap.size)
    (r : ∀ i (hi : i < cl.length) j u, (ccell cl[i])[j]? = some u → ∃ ad, a = some ad ∧ W.cell? (ad.add (i * 4 + j)) = some u) (sz : ∀ y ∈ d.weights P t, y ≤ reachBytes) : CallsIn W W.heap.size a cl :=
  ⟨q, r, fun x hx => (o x hx).1.1, fun x hx => by
    obtain ⟨⟨_, h2, h3, h4, h5, h6⟩, h7⟩ := o x hx
    refine ⟨h2, h3, h4, h5, h6, ?_⟩
    rcases h7 with h7 | ⟨y, hy, hle⟩
    · omega
    · have := sz y hy
      unfold reachBytes at this
      omega⟩

/-! ### a disk that the call has made -/
/-- a disk of the call's own: nothing that was there at w0 has turned -/
structure Live (w0 w : World) (g : Nat) (F : Nat → Prop) (s : DS) : Prop where
  d : DiskAt w g F s
  lo : ∀ k, F k → w0.heap.size ≤ k
  b : Below w0.heap.size w0 w
section
variable {w0 w w' : World} {g : Nat} {F : Nat → Prop} {s s' : DS}
theorem Live.step (h : Live w0 w g F s) (hd : DiskAt w' g (Ext F w w') s') (hc : Chg F w w') : Live w0 w' g (Ext F w w') s' :=
  ⟨hd, fun k hk => hk.elim (h.lo k) fun h1 => by have := h.b.size; omega, h.b.trans (hc.below h.lo h.b.size)⟩
theorem Live.below (h : Live w0 w g F s) (hb : Below w.heap.size w w') : Live w0 w' g F s := ⟨h.d.below hb, h.lo, h.b.trans (hb.mono h.b.size)⟩
theorem Live.new (hb0 : Below w0.heap.size w0 w) (hd : DiskAt w' g (Ext Non w w') s) (hb : Below w.heap.size w w') : Live w0 w' g (Ext Non w w') s :=
  ⟨hd, fun k hk => hk.elim (fun h => h.elim) fun h => by have := hb0.size; omega, hb0.trans (hb.mono hb0.size)⟩
theorem Live.drew (h : Live w0 w g F s) : Live w0 w.drew g F s := ⟨h.d, h.lo, h.b.drew⟩
end

/-- a write of whatever bytes to whatever sector: what is answered, and what the disk is then -/
def DS.tryWrite (s : DS) (k : Int) (b : List Int) : Int × DS := if 0 ≤ k ∧ k < s.last.length then (if b.length = 64 then (0, s.write k.toNat b) else (41, s)) else (40, s)
theorem tryWrite_last (s : DS) (k : Int) (b : List Int) : (s.tryWrite k b).2.last = s.last := by unfold DS.tryWrite; split <;> (try split) <;> rfl
theorem tryWrite_few (s : DS) (k : Int) (b : List Int) : (s.tryWrite k b).2.wr.length ≤ s.wr.length + 1 := by unfold DS.tryWrite; split <;> (try split) <;> simp [DS.write]
def TryRet (g : Nat) (F : Nat → Prop) (s : DS) (k : Int) (b : List Int) (w : World) (e : Ending) (w' : World) : Prop :=
  e = .returned (.int .i64 (s.tryWrite k b).1) ∧ DiskAt w' g (Ext F w w') (s.tryWrite k b).2 ∧ Chg F w w'
theorem DiskAt.ext {w : World} {g : Nat} {F G : Nat → Prop} {s : DS} (h : DiskAt w g F s) (hF : ∀ k, F k → G k) (hG : ∀ k, G k → k < w.heap.size) : DiskAt w g G s := by
  obtain ⟨gl, gm, W, h1, h2, h3, h4, f1, f2, f3, f4, f5, h6⟩ := h
  exact ⟨gl, gm, W, h1, h2, h3, h4, hF _ f1, hF _ f2, hF _ f3, fun k hk => hF _ (f4 k hk), hG, h6⟩
theorem DiskAt.same_ext {w : World} {g : Nat} {F : Nat → Prop} {s : DS} (h : DiskAt w g F s) : DiskAt w g (Ext F w w) s :=
  h.ext (fun _ hk => .inl hk) fun k hk => hk.elim (h.foot k) fun h => h.2
theorem write_any {w : World} {g : Nat} {F : Nat → Prop} {s : DS} (h : DiskAt w g F s) (k : Int) (A : Option Addr) (n c : Nat) (b : List Int) (hr : Rd w w.heap.size A n (cells b)) (few : s.wr.length < 1000000) :
    Calls Try.prog 19 #[.pointer (some ⟨g, 0, none⟩), .int .i64 k, .slice A n c] w (TryRet g F s k b w) := by
  have hn : b.length = n := by have := hr.len; rwa [cells_len] at this
  subst hn
  by_cases hk : 0 ≤ k ∧ k < s.last.length
  · obtain ⟨m, rfl⟩ : ∃ m : Nat, k = m := ⟨k.toNat, by omega⟩
    have hm : m < s.last.length := by omega
    by_cases hb : b.length = 64
    · rw [hb] at hr ⊢
      refine (write_yes h m hm A c b hr few).mono fun e w' ⟨h1, h2, h3⟩ => ?_
      have e1 : s.tryWrite (m : Int) b = (0, s.write m b) := by unfold DS.tryWrite; rw [if_pos hk, if_pos hb]; rfl
      unfold TryRet
      rw [e1]
      exact ⟨h1, h2, h3⟩
    · refine (write_len h m hm A b.length c hb).mono fun e w' ⟨h1, h2⟩ => ?_
      have e1 : s.tryWrite (m : Int) b = (41, s) := by unfold DS.tryWrite; rw [if_pos hk, if_neg hb]
      unfold TryRet
      rw [e1]
      subst h2
      exact ⟨h1, h.same_ext, Chg.refl _ _⟩
  · refine (write_no h k hk A b.length c).mono fun e w' ⟨h1, h2⟩ => ?_
    have e1 : s.tryWrite k b = (40, s) := by unfold DS.tryWrite; rw [if_neg hk]
    unfold TryRet
    rw [e1]
    subst h2
    exact ⟨h1, h.same_ext, Chg.refl _ _⟩

/-! ### a row of calls, the writes alone -/
def stepW (s : DS) (x : Cl) : DS := if x.what = 1 then (s.tryWrite x.at' x.data).2 else s
def runW (s : DS) (cl : List Cl) : DS := cl.foldl stepW s
theorem runW_next {s : DS} {cl : List Cl} {k : Nat} (h : k < cl.length) : runW s (cl.take (k + 1)) = stepW (runW s (cl.take k)) cl[k] := by
  rw [List.take_succ_eq_append_getElem h, runW, List.foldl_append]; rfl
theorem runW_last (s : DS) (cl : List Cl) : (runW s cl).last = s.last := by
  refine snoc_ind (P := fun cl => (runW s cl).last = s.last) rfl ?_ cl
  intro l x ih
  rw [runW, List.foldl_append, List.foldl_cons, List.foldl_nil]
  show (stepW (runW s l) x).last = _
  unfold stepW
  split
  · rw [tryWrite_last, ih]
  · exact ih
theorem runW_few (s : DS) (cl : List Cl) : (runW s cl).wr.length ≤ s.wr.length + cl.length := by
  refine snoc_ind (P := fun cl => (runW s cl).wr.length ≤ s.wr.length + cl.length) (Nat.le_refl _) ?_ cl
  intro l x ih
  rw [runW, List.foldl_append, List.foldl_cons, List.foldl_nil, List.length_append, List.length_singleton]
  show (stepW (runW s l) x).wr.length ≤ _
  unfold stepW
  split
  · have := tryWrite_few (runW s l) x.at' x.data
    omega
  · omega
/-- what is read is what would last -/
theorem read_lay (L : List (List Int)) (wr : List (Nat × List Int)) {k : Nat} (hk : k < L.length) : (⟨L, wr⟩ : DS).read k = (lay L wr).getD k [] := by
  refine snoc_ind (P := fun wr => (⟨L, wr⟩ : DS).read k = (lay L wr).getD k []) rfl ?_ wr
  intro l p ih
  unfold DS.read at ih ⊢
  simp only [lastWr_snoc, lay_snoc] at ih ⊢
  by_cases hp : p.1 = k
  · rw [if_pos hp, Option.getD_some, getD_lt (by rw [List.length_set, lay_len]; exact hk)]
    subst hp
    rw [List.getElem_set_self]
  · rw [if_neg hp, ih, getD_lt (by rw [lay_len]; exact hk), getD_lt (by rw [List.length_set, lay_len]; exact hk), List.getElem_set_ne hp]

end Go.Proofs.Ytbfgnjkkelknmaa
