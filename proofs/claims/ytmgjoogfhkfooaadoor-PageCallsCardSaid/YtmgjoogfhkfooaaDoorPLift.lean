/-
  Arguments opened: a slice of bytes, a slice of calls, as the cells that they hold; great; SameBytes and CopyBytes.
-/
import Derived.Test.YtmgjoogfhkfooaaDoorFnF
import Derived.ProofKit
import Derived.OpenShut
import Derived.ChangeOld
import Derived.Deep.Slices
import Derived.SizedLaws
import Derived.Handed
import Derived.Shelf.Vars
import Derived.Deep.QuietTactic
import Derived.BigQuiet
namespace Go.Proofs.YtmgjoogfhkfooaaDoor
open Go.ChangeShapes Go.WideShapes Go.ChangeAt Go.RowKit

theorem own : ownKnob Tryd.prog.godebug = none := by kernel_rfl
theorem laidOut : laidOutB Tryd.prog = true := by kernel_rfl

/-- a call, as it came in: its numbers, its bytes and where they lie -/
structure Cl where
  what : Int
  slot : Int
  A : Option Addr
  n : Nat
  c : Nat
  data : List Int
def ccell (x : Cl) : List Value := [.int .i64 x.what, .int .i64 x.slot, .slice x.A x.n x.c]
/-- its bytes lie in w -/
def Cl.Ok (w : World) (x : Cl) : Prop :=
  Rd w w.heap.size x.A x.n (cells x.data) ∧ IsBytes x.data ∧ x.n ≤ x.c ∧ x.c ≤ maxLen ∧ (-9223372036854775808 ≤ x.what ∧ x.what ≤ 9223372036854775807) ∧ (-9223372036854775808 ≤ x.slot ∧ x.slot ≤ 9223372036854775807)
theorem bytes_wf {l : List Int} (h : ∀ z ∈ l, (Lit.int .u8 z).wf = true) : IsBytes l := fun x hx => by
  have := bounds_u8 (h x hx)
  omega

section
variable {P : Program} {H : Type} {enc : TypeId × Value → H} {W : World} {B : Nat}
theorem rd_of_ints {t e : TypeId} {k : IntKind} {a : Option Addr} {len cap : Nat} {d : DataW H} {p : List MemPlace} (ht : P.underlying t = some (.slice e)) (he : P.underlying e = some (.int k)) (hc : P.cellsOf e = 1)
    (h : DataW.Trod enc P W B (fun _ => true) true t (.slice a len cap) d p) :
    ∃ zs : List Int, Rd W W.heap.size a len (zs.map (Value.int k)) ∧ (∀ z ∈ zs, (Lit.int k z).wf = true) ∧ zs.length = len ∧ len ≤ cap ∧ cap ≤ maxLen := by
  obtain ⟨fuel, hf⟩ := h
  rcases open_ints ht he hc hf with ⟨hcs, _⟩ | ⟨x, l, c, zs, hcs, _, hl, hm, hz, _, hcell, hwz⟩
  · simp [Value.cells] at hcs
    obtain ⟨rfl, rfl, rfl⟩ := hcs
    exact ⟨[], Rd.empty, fun z hz => by simp at hz, rfl, Nat.le_refl _, by simp [maxLen]⟩
  · simp [Value.cells] at hcs
    obtain ⟨rfl, rfl, rfl⟩ := hcs
    have hzl : zs.length = cap := by simpa using hz
    refine ⟨zs.take len, ⟨by simp; omega, fun h0 => ⟨x, rfl, ?_, ?_⟩⟩, fun z hz => hwz z (List.mem_of_mem_take hz), by simp; omega, hl, hm⟩
    · have h1 := World.block_lt_of_cell? _ _ (hcell 0 (by omega))
      rwa [addr_block] at h1
    · intro j u hu
      have hj : j < len := by
        have := (List.getElem?_eq_some_iff.1 hu).1
        simp at this
        omega
      have hjz : j < zs.length := by omega
      rw [hcell j hjz]
      simp only [List.getElem?_map, List.getElem?_take, if_pos hj, List.getElem?_eq_getElem hjz] at hu
      simpa [List.getD, hjz] using hu

theorem bytes_of_trod {fuel : Nat} {t e : TypeId} {cs : List Value} {x : DataW H × List MemPlace} (ht : P.underlying t = some (.slice e)) (he : P.underlying e = some (.int .u8)) (hc : P.cellsOf e = 1)
    (h : DataW.trod enc P W B (fun _ => true) true fuel t cs = some x) : ∃ A n c zs, cs = [.slice A n c] ∧ Rd W W.heap.size A n (cells zs) ∧ IsBytes zs ∧ n ≤ c ∧ c ≤ maxLen := by
  rcases open_ints ht he hc h with ⟨rfl, _⟩ | ⟨a, l, c, zs, rfl, _, hlc, _, hzs, hx, _⟩
  · exact ⟨none, 0, 0, [], rfl, Rd.empty, .nil, Nat.le_refl _, by simp [maxLen]⟩
  · obtain ⟨zs', h1, h2, _, h4, h5⟩ := rd_of_ints (a := some a) (len := l) (cap := c) (d := x.1) (p := x.2) ht he hc ⟨fuel, by simpa [Value.cells] using h⟩
    exact ⟨some a, l, c, zs', rfl, h1, bytes_wf h2, h4, h5⟩

theorem rd_of_calls {t e : TypeId} {f0 f1 f2 : Field} {eb : TypeId} {a : Option Addr} {len cap : Nat} {d : DataW H} {p : List MemPlace} (ht : P.underlying t = some (.slice e)) (he : P.underlying e = some (.struct #[f0, f1, f2])) (hc : P.cellsOf e = 3)
    (o0 : f0.offset = 0 ∧ P.cellsOf f0.type = 1 ∧ P.underlying f0.type = some (.int .i64)) (o1 : f1.offset = 1 ∧ P.cellsOf f1.type = 1 ∧ P.underlying f1.type = some (.int .i64))
    (o2 : f2.offset = 2 ∧ P.cellsOf f2.type = 1 ∧ P.underlying f2.type = some (.slice eb)) (hb : P.underlying eb = some (.int .u8)) (hcb : P.cellsOf eb = 1)
    (h : DataW.Trod enc P W B (fun _ => true) true t (.slice a len cap) d p) :
    ∃ cl : List Cl, cl.length = len ∧ len ≤ cap ∧ cap ≤ maxLen ∧ (∀ x ∈ cl, x.Ok W) ∧ (0 < len → ∃ ad, a = some ad ∧ ad.block < W.heap.size) ∧
      ∀ i (hi : i < cl.length) j u, (ccell cl[i])[j]? = some u → ∃ ad, a = some ad ∧ W.cell? (ad.add (i * 3 + j)) = some u := by
  obtain ⟨fuel, hf⟩ := h
  rcases Go.Deep.open_slice ht hf with ⟨hcs, _⟩ | ⟨x, l, c, m, n, D, Pl, hcs, _, hl, hm, hmm, hx, hel⟩
  · simp [Value.cells] at hcs
    obtain ⟨rfl, rfl, rfl⟩ := hcs
    exact ⟨[], rfl, Nat.le_refl _, by simp [maxLen], fun x hx => by simp at hx, fun h => absurd h (by omega), fun i hi => by simp at hi⟩
  · simp [Value.cells] at hcs
    obtain ⟨rfl, rfl, rfl⟩ := hcs
    obtain rfl : m = cap := by simpa using hmm
    -- one call
    have hone : ∀ i, i < len → ∃ y : Cl, y.Ok W ∧ ∀ j u, (ccell y)[j]? = some u → W.cell? (x.add (i * 3 + j)) = some u := by
      intro i hi
      obtain ⟨cs', hc', ht'⟩ := hel i (by omega)
      rw [hc] at hc'
      obtain ⟨_, hcl, hat⟩ := World.cells?_some hc'
      obtain ⟨ys, n', _, hD, hlen, _, hfl⟩ := DataW.trod_struct he ht'
      simp only [Prod.mk.injEq] at hD
      match cs', hcl with
      | [u0, u1, u2], _ =>
        have g0 := hfl 0 f0 rfl
        have g1 := hfl 1 f1 rfl
        have g2 := hfl 2 f2 rfl
        rw [o0.1, o0.2.1] at g0
        rw [o1.1, o1.2.1] at g1
        rw [o2.1, o2.2.1] at g2
        have some_of : ∀ {k : Nat} {α : Type} {l : List α}, k < l.length → ∃ y, l[k]? = some y := fun h => ⟨_, List.getElem?_eq_getElem h⟩
        have hys : ys.length = 3 := by assumption
        obtain ⟨y0, e0⟩ := some_of (k := 0) (l := ys) (by omega)
        obtain ⟨y1, e1⟩ := some_of (k := 1) (l := ys) (by omega)
        obtain ⟨y2, e2⟩ := some_of (k := 2) (l := ys) (by omega)
        obtain ⟨z0, hz0, _, w0⟩ := DataW.trod_int o0.2.2 (g0.trans e0)
        obtain ⟨z1, hz1, _, w1⟩ := DataW.trod_int o1.2.2 (g1.trans e1)
        obtain ⟨A, k, c3, zs, hz2, r1, r0, r2, r3⟩ := bytes_of_trod o2.2.2 hb hcb (g2.trans e2)
        simp at hz0 hz1 hz2
        subst hz0 hz1 hz2
        refine ⟨⟨z0, z1, A, k, c3, zs⟩, ⟨r1, r0, r2, r3, bounds_i64 w0, bounds_i64 w1⟩, fun j u hu => ?_⟩
        have hj : j < 3 := by have := (List.getElem?_eq_some_iff.1 hu).1; simpa [ccell] using this
        rw [← addr_add, hat j hj]
        exact hu
    have hall : ∀ k, k ≤ len → ∃ cl : List Cl, cl.length = k ∧ (∀ y ∈ cl, y.Ok W) ∧ ∀ i (hi : i < cl.length) j u, (ccell cl[i])[j]? = some u → W.cell? (x.add (i * 3 + j)) = some u := by
      intro k
      induction k with
      | zero => exact fun _ => ⟨[], rfl, fun y hy => by simp at hy, fun i hi => by simp at hi⟩
      | succ k ih =>
        intro hk
        obtain ⟨cl, h1, h2, h3⟩ := ih (by omega)
        obtain ⟨y, hy, hyc⟩ := hone k (by omega)
        refine ⟨cl ++ [y], by simp [h1], fun z hz => ?_, fun i hi j u hu => ?_⟩
        · rcases List.mem_append.1 hz with hz | hz
          · exact h2 z hz
          · rw [List.mem_singleton.1 hz]; exact hy
        · by_cases hik : i < cl.length
          · rw [List.getElem_append_left hik] at hu
            exact h3 i hik j u hu
          · have hik' : i = cl.length := by simp at hi; omega
            subst hik'
            rw [List.getElem_append_right (Nat.le_refl _)] at hu
            simp at hu
            rw [h1]
            exact hyc j u (by simpa using hu)
    obtain ⟨cl, h1, h2, h3⟩ := hall len (Nat.le_refl _)
    refine ⟨cl, h1, hl, hm, h2, fun h0 => ⟨x, rfl, ?_⟩, fun i hi j u hu => ⟨x, rfl, h3 i hi j u hu⟩⟩
    have := World.block_lt_of_cell? _ _ (h3 0 (by omega) 0 _ rfl)
    rwa [addr_block] at this
end

/-- the calls lie in w, below block B -/
structure CallsIn (w : World) (B : Nat) (A : Option Addr) (cl : List Cl) : Prop where
  lo : 0 < cl.length → ∃ ad, A = some ad ∧ ad.block < B
  cell : ∀ i (hi : i < cl.length) j u, (ccell cl[i])[j]? = some u → ∃ ad, A = some ad ∧ w.cell? (ad.add (i * 3 + j)) = some u
  rd : ∀ x ∈ cl, Rd w B x.A x.n (cells x.data)
  num : ∀ x ∈ cl, IsBytes x.data ∧ x.n ≤ x.c ∧ x.c ≤ maxLen ∧ (-9223372036854775808 ≤ x.what ∧ x.what ≤ 9223372036854775807) ∧ (-9223372036854775808 ≤ x.slot ∧ x.slot ≤ 9223372036854775807)
theorem CallsIn.below {w w' : World} {B C : Nat} {A : Option Addr} {cl : List Cl} (h : CallsIn w B A cl) (hb : Below C w w') (hC : B ≤ C) : CallsIn w' B A cl := by
  refine ⟨h.lo, fun i hi j u hu => ?_, fun x hx => (h.rd x hx).below hb hC, h.num⟩
  obtain ⟨ad, rfl, hc⟩ := h.cell i hi j u hu
  obtain ⟨ad', e, hlt⟩ := h.lo (by omega)
  obtain rfl := Option.some.inj e
  exact ⟨ad, rfl, (hb.cell (p := ad.add (i * 3 + j)) (by rw [addr_block]; omega)).trans hc⟩
theorem addr_field (a : Addr) {j : Nat} (hj : 0 < j) : (⟨a.block, a.off + j, none⟩ : Addr) = a.add j := by unfold Addr.add; rw [if_neg (by omega)]
/-- call number i, its cells, at the addresses of its fields -/
theorem CallsIn.at_ {w : World} {B : Nat} {A : Option Addr} {cl : List Cl} (h : CallsIn w B A cl) {i : Nat} (hi : i < cl.length) : ∃ ad, A = some ad ∧ ad.block < B ∧ w.cell? (ad.add (i * 3)) = some (.int .i64 cl[i].what) ∧
    w.cell? ⟨(ad.add (i * 3)).block, (ad.add (i * 3)).off + 1, none⟩ = some (.int .i64 cl[i].slot) ∧
    w.cell? ⟨(ad.add (i * 3)).block, (ad.add (i * 3)).off + 2, none⟩ = some (.slice cl[i].A cl[i].n cl[i].c) := by
  obtain ⟨ad, rfl, hlt⟩ := h.lo (by omega)
  have get : ∀ j u, (ccell cl[i])[j]? = some u → w.cell? (ad.add (i * 3 + j)) = some u := fun j u hu => by
    obtain ⟨ad', e, hc⟩ := h.cell i hi j u hu
    obtain rfl := Option.some.inj e
    exact hc
  refine ⟨ad, rfl, hlt, get 0 _ rfl, ?_, ?_⟩
  · rw [addr_field _ (by omega), addr_add]; exact get 1 _ rfl
  · rw [addr_field _ (by omega), addr_add]; exact get 2 _ rfl

theorem CallsIn.of {W : World} {a : Option Addr} {cl : List Cl} (o : ∀ x ∈ cl, x.Ok W) (q : 0 < cl.length → ∃ ad, a = some ad ∧ ad.block < W.heap.size)
    (r : ∀ i (hi : i < cl.length) j u, (ccell cl[i])[j]? = some u → ∃ ad, a = some ad ∧ W.cell? (ad.add (i * 3 + j)) = some u) : CallsIn W W.heap.size a cl :=
  ⟨q, r, fun x hx => (o x hx).1, fun x hx => (o x hx).2⟩

/-- how the answer of great is used: true, or false and the calls are few -/
def GreatRet (cl : List Cl) (w : World) (e : Ending) (w' : World) : Prop :=
  w = w' ∧ (e = .returned (.bool true) ∨ (e = .returned (.bool false) ∧ cl.length ≤ 100 ∧ ∀ x ∈ cl, x.n ≤ 1000))
def GrRel (cl : List Cl) (i : Value) : Prop :=
  ∃ k : Nat, k ≤ cl.length ∧ i = .int .i64 k ∧ ∀ j (h : j < cl.length), j < k → cl[j].n ≤ 1000

set_option maxRecDepth 100000 in
set_option maxHeartbeats 800000 in
theorem great_any (A : Option Addr) (c : Nat) (cl : List Cl) (w : World) (B : Nat) (h : CallsIn w B A cl) (hm : cl.length ≤ maxLen) :
    Calls Tryd.prog 12 #[.slice A cl.length c] w (GreatRet cl w) := by
  unfold maxLen at hm
  have HC := Lib.hid h
  clear h
  by_cases h200 : 100 < cl.length
  · go_enter Tryd.func12, Tryd.ntmps12
    go_wp2
    go_ret
    exact ⟨rfl, .inl rfl⟩
  · go_enter Tryd.func12, Tryd.ntmps12
    go_wp2
    go_loop [3] (fun i => GrRel cl i) (fun i => cl.length - (intOf i).toNat)
    case atStart => exact ⟨0, by omega, rfl, fun j _ hj => absurd hj (by omega)⟩
    case round =>
      obtain ⟨k, hk, rfl, hall⟩ := hrel
      have HA := Lib.hid hall
      clear hall
      by_cases hlt : k < cl.length
      · obtain ⟨ad, rfl, _, c0, c1, c2⟩ := HC.out.at_ hlt
        have hn := HC.out.num cl[k] (List.getElem_mem hlt)
        have hn6 := hn.2.1
        have hn7 := hn.2.2.1
        unfold maxLen at hn7
        obtain ⟨xn, hxn⟩ : ∃ xn, xn = cl[k].n := ⟨_, rfl⟩
        rw [← hxn] at c2 hn6
        have HX := Lib.hid hxn
        clear hn hxn
        by_cases hbig : 1000 < xn
        · go_wp2
          go_ret
          exact ⟨rfl, .inl rfl⟩
        · go_wp2
          go_round
          case rel => exact ⟨k + 1, by omega, by go_num, fun j hj hjk => by
            rcases Nat.lt_or_ge j k with h | h
            · exact HA.out j hj h
            · obtain rfl : j = k := by omega
              have := HX.out
              omega⟩
          case measure => simp [intOf]; omega
      · go_wp2
        go_ret
        exact ⟨rfl, .inr ⟨rfl, by omega, fun x hx => by
          obtain ⟨j, hj, rfl⟩ := List.mem_iff_getElem.1 hx
          exact HA.out j hj (by omega)⟩⟩

/-- a bool is answered, nothing is turned -/
def BoolQuiet (b : Bool) (w : World) (e : Ending) (w' : World) : Prop := e = .returned (.bool b) ∧ ∃ d, w' = w.drewN d
/-- so far they are equal -/
def EqRel {α : Type} (l l' : List α) (w : World) (n : Nat) (i : Value) (wr : World) : Prop := ∃ k d : Nat, k ≤ n ∧ i = .int .i64 k ∧ wr = w.drewN d ∧ l.take k = l'.take k
theorem take_more {α : Type} {l l' : List α} {k : Nat} (h : k < l.length) (h' : k < l'.length) (ht : l.take k = l'.take k) (e : l[k]'h = l'[k]'h') : l.take (k + 1) = l'.take (k + 1) := by
  rw [List.take_succ_eq_append_getElem h, List.take_succ_eq_append_getElem h', ht, e]
theorem ne_at {α : Type} {l l' : List α} {k : Nat} (h : k < l.length) (h' : k < l'.length) (e : l[k]'h ≠ l'[k]'h') : l ≠ l' := fun hl => e (by subst hl; rfl)

set_option maxRecDepth 100000 in
set_option maxHeartbeats 800000 in
theorem sameBytes_dec (A A' : Option Addr) (n n' c c' : Nat) (l l' : List Int) (w : World) (B B' : Nat) (hr : Rd w B A n (cells l)) (hr' : Rd w B' A' n' (cells l')) (hn : n ≤ 140000000000000) :
    Calls Tryd.prog 11 #[.slice A n c, .slice A' n' c'] w (BoolQuiet (decide (l = l')) w) := by
  have hlen : l.length = n := by have := hr.len; rwa [cells_len] at this
  have hlen' : l'.length = n' := by have := hr'.len; rwa [cells_len] at this
  subst hlen
  by_cases hnn : l.length = n'
  · subst hnn
    go_enter Tryd.func11, Tryd.ntmps11
    go_wp2
    go_loopw [5] (fun i wr => EqRel l l' w l.length i wr) (fun i _ => l.length - (intOf i).toNat)
    case atStart => exact ⟨0, 0, by omega, rfl, rfl, rfl⟩
    case round =>
      obtain ⟨k, d, hk, rfl, hw, hpre⟩ := hrel
      have HP := Lib.hid hpre
      clear hpre
      have h1 : Rd wr B A l.length (cells l) := by rw [hw]; exact hr.drewN d
      have h2 : Rd wr B' A' l.length (cells l') := by rw [hw]; exact hr'.drewN d
      have HW := Lib.hid hw
      have HL := Lib.hid hlen'
      clear hw hr hr' hlen'
      by_cases hlt : k < l.length
      · have hlt' : k < l'.length := by have := HL.out; omega
        obtain ⟨ad, u, rfl, _, hu, hc⟩ := h1.at_ hlt
        obtain ⟨ad', u', rfl, _, hu', hc'⟩ := h2.at_ hlt
        rw [cells_at hlt] at hu
        rw [cells_at hlt'] at hu'
        obtain rfl := Option.some.inj hu
        obtain rfl := Option.some.inj hu'
        obtain ⟨x, hx⟩ : ∃ x, x = l[k]'hlt := ⟨_, rfl⟩
        obtain ⟨y, hy⟩ : ∃ y, y = l'[k]'hlt' := ⟨_, rfl⟩
        rw [← hx] at hc
        rw [← hy] at hc'
        by_cases hxy : x = y
        · have HM := Lib.hid (take_more hlt hlt' HP.out (by rw [← hx, ← hy, hxy]))
          clear hu hu' h1 h2 hx hy hlt'
          subst hxy
          go_wp2
          go_quiet (fail)
          go_wp2
          go_roundw
          case rel => exact ⟨k + 1, _, by omega, by go_num, by rw [HW.out]; exact World.drewN_drewN _ _ _, HM.out⟩
          case measure => simp [intOf]; omega
        · have HM := Lib.hid (ne_at hlt hlt' (by rw [← hx, ← hy]; exact hxy))
          clear hu hu' h1 h2 hx hy hlt'
          have e1 : (x != y) = true := by simp [hxy]
          have e2 : (x == y) = false := by simp [hxy]
          have e3 : decide (x = y) = false := by simp [hxy]
          go_wp2
          go_quiet (fail)
          go_wp2
          go_ret
          exact ⟨by rw [decide_eq_false HM.out]; rfl, _, by rw [HW.out]; exact World.drewN_drewN _ _ _⟩
      · have HE := Lib.hid (show l = l' from by
          have h3 := HP.out
          rwa [List.take_of_length_le (by omega), List.take_of_length_le (by have := HL.out; omega)] at h3)
        go_wp2
        go_ret
        exact ⟨by rw [decide_eq_true HE.out]; rfl, d, HW.out⟩
  · have hi : ¬ ((l.length : Int) = (n' : Int)) := by omega
    have e1 : ((l.length : Int) != (n' : Int)) = true := by simp; omega
    have e2 : ((l.length : Int) == (n' : Int)) = false := by simp; omega
    have HE := Lib.hid (show l ≠ l' from fun e => by subst e; omega)
    clear hlen' hr hr'
    go_enter Tryd.func11, Tryd.ntmps11
    go_wp2
    go_ret
    exact ⟨by rw [decide_eq_false HE.out]; rfl, 0, rfl⟩

theorem drewN_below {w w' : World} {d : Nat} (h : w' = w.drewN d) : Below w.heap.size w w' := by
  subst h
  exact ⟨rfl, rfl, rfl, Nat.le_refl _, fun _ _ => rfl⟩
theorem same_any (A A' : Option Addr) (n n' c c' : Nat) (l l' : List Int) (w : World) (hr : Rd w w.heap.size A n (cells l)) (hr' : Rd w w.heap.size A' n' (cells l')) (hn : n ≤ 140000000000000) :
    Calls Tryd.prog 11 #[.slice A n c, .slice A' n' c'] w fun e w' => e = .returned (.bool (decide (l = l'))) ∧ Below w.heap.size w w' :=
  (sameBytes_dec A A' n n' c c' l l' w _ _ hr hr' hn).mono fun e w' h => ⟨h.1, by obtain ⟨d, hd⟩ := h.2; exact drewN_below hd⟩

set_option maxRecDepth 100000 in
set_option maxHeartbeats 1600000 in
theorem copyBytes_any (w : World) (A : Option Addr) (m c : Nat) (l : List Int) (hl : l.length = m) (hm : m ≤ 1000000) (hr : Rd w w.heap.size A m (cells l)) :
    Calls Tryd.prog 9 #[.slice A m c] w (OwnRet w.heap.size l w) := by
  obtain ⟨i0, hi, hz0, hz1, hz2⟩ := info_parts Tryd.dkinfo5
  have hlw := own_lit0 w
  have hb := (Below.refl w.heap.size w).alloc (Nat.le_refl _) (.cells #[] 5)
  obtain ⟨w1, hw1⟩ : ∃ w1, w1 = w.alloc (.cells #[] 5) := ⟨_, rfl⟩
  rw [← hw1] at hb hlw
  have HW := Lib.hid hw1
  have H := Lib.hid (And.intro hlw (And.intro hb (hr.below hb (Nat.le_refl _))))
  clear hw1 hb hlw hr
  go_enter Tryd.func9, Tryd.ntmps9
  go_wp2_with (at_builtin; rw [← HW.out]; refine wpList_append_rd _ rfl (.tmp 5) (.tmp 6) 22 rfl w.heap.size 5 i0 (.int .u8 0) 1 Tryd.underlying22 hi hz0 hz1 hz2 rfl _ _ _ rfl H.out.1 w.heap.size _ m c _ rfl H.out.2.2 (cells_one _) ?c3 ?c4 ?c5 ?_)
  case c3 => simp [maxLen]; omega
  case c4 => simp; omega
  case c5 => exact H.out.2.1.size
  intro v' w2 hown hgrow
  have HF := Lib.hid (show OwnRet w.heap.size l w (.returned v') w2 from ⟨v', rfl, by rw [hl]; simpa using hown, H.out.2.1.trans (below_own H.out.1 hgrow H.out.2.1.size)⟩)
  clear hown hgrow
  go_wp2
  go_ret
  exact HF.out
end Go.Proofs.YtmgjoogfhkfooaaDoor
