/-
  Arguments opened: rows of entries, rows of calls; great.
-/
import Derived.Test.YtiaclfldgagalaaM19
import Derived.ProofKit
import Derived.OpenShut
import Derived.ChangeOld
import Derived.Deep.Slices
import Derived.SizedLaws
namespace Go.Proofs.Ytiaclfldgagalaa
open Go.ChangeShapes Go.WideShapes Go.ChangeAt Go.RowKit

theorem own : ownKnob Try.prog.godebug = none := by kernel_rfl
theorem laidOut : laidOutB Try.prog = true := by kernel_rfl

theorem addr_field (a : Addr) {j : Nat} (hj : 0 < j) : (⟨a.block, a.off + j, none⟩ : Addr) = a.add j := by unfold Addr.add; rw [if_neg (by omega)]
section
variable {P : Program} {H : Type} {enc : TypeId × Value → H} {W : World} {B : Nat}
theorem rows_of_trod {α : Type} (cell : α → List Value) (In : α → Prop) (S : Nat) (hS : ∀ y, (cell y).length = S) (h0S : 0 < S) {t e : TypeId} {a : Option Addr} {len cap : Nat} {d : DataW H} {p : List MemPlace} (ht : P.underlying t = some (.slice e)) (hc : P.cellsOf e = S)
    (one : ∀ fuel cs (x : DataW H × List MemPlace), cs.length = S → DataW.trod enc P W B (fun _ => true) true fuel e cs = some x → ∃ y, In y ∧ cs = cell y)
    (h : DataW.Trod enc P W B (fun _ => true) true t (.slice a len cap) d p) : ∃ vs : List α, vs.length = len ∧ len ≤ cap ∧ cap ≤ maxLen ∧ (∀ x ∈ vs, In x) ∧ RowG cell S W W.heap.size a vs := by
  obtain ⟨fuel, hf⟩ := h
  rcases Go.Deep.open_slice ht hf with ⟨hcs, _⟩ | ⟨x, l, c, m, n, D, Pl, hcs, _, hl, hm, hmm, hx, hel⟩
  · simp [Value.cells] at hcs
    obtain ⟨rfl, rfl, rfl⟩ := hcs
    exact ⟨[], rfl, Nat.le_refl _, by simp [maxLen], fun x hx => by simp at hx, fun h => absurd h (by simp), fun i hi => by simp at hi⟩
  · simp [Value.cells] at hcs
    obtain ⟨rfl, rfl, rfl⟩ := hcs
    obtain rfl : m = cap := by simpa using hmm
    have hone : ∀ i, i < len → ∃ y : α, In y ∧ ∀ j u, (cell y)[j]? = some u → W.cell? (x.add (i * S + j)) = some u := by
      intro i hi
      obtain ⟨cs', hc', ht'⟩ := hel i (by omega)
      rw [hc] at hc'
      obtain ⟨_, hcl, hat⟩ := World.cells?_some hc'
      obtain ⟨y, hy, rfl⟩ := one _ _ _ hcl ht'
      refine ⟨y, hy, fun j u hu => ?_⟩
      have hj : j < S := by have := (List.getElem?_eq_some_iff.1 hu).1; rwa [hS] at this
      rw [← addr_add, hat j hj]
      exact hu
    refine ⟨(List.finRange len).map fun i => Classical.choose (hone i.1 i.2), by simp, hl, hm, fun y hy => ?_, fun h0 => ⟨x, rfl, ?_⟩, fun i hi j u hu => ⟨x, rfl, ?_⟩⟩
    · obtain ⟨i, _, rfl⟩ := List.mem_map.1 hy
      exact (Classical.choose_spec (hone i.1 i.2)).1
    · have h0' : 0 < len := by simpa using h0
      obtain ⟨u, hu⟩ : ∃ u, (cell (Classical.choose (hone 0 h0')))[0]? = some u := ⟨_, List.getElem?_eq_getElem (by rw [hS]; exact h0S)⟩
      have h1 := World.block_lt_of_cell? _ _ ((Classical.choose_spec (hone 0 h0')).2 0 _ hu)
      rwa [addr_block] at h1
    · have hi' : i < len := by simpa using hi
      simp only [List.getElem_map, List.getElem_finRange] at hu
      exact (Classical.choose_spec (hone i hi')).2 j u hu
def En.In (e : En) : Prop := e.s.size ≤ maxLen ∧ (Lit.int .i64 e.p).wf = true ∧ (Lit.int .i64 e.k).wf = true
theorem en_of_trod {fuel : Nat} {e : TypeId} {f0 f1 g0 g1 : Field} {cs : List Value} {x : DataW H × List MemPlace} (he : P.underlying e = some (.struct #[f0, f1])) (hlen : cs.length = 3)
    (o0 : f0.offset = 0 ∧ P.cellsOf f0.type = 1 ∧ P.underlying f0.type = some .string) (o1 : f1.offset = 1 ∧ P.cellsOf f1.type = 2 ∧ P.underlying f1.type = some (.struct #[g0, g1]))
    (q0 : g0.offset = 0 ∧ P.cellsOf g0.type = 1 ∧ P.underlying g0.type = some (.int .i64)) (q1 : g1.offset = 1 ∧ P.cellsOf g1.type = 1 ∧ P.underlying g1.type = some (.int .i64))
    (h : DataW.trod enc P W B (fun _ => true) true fuel e cs = some x) : ∃ y : En, y.In ∧ cs = y.vs := by
  obtain ⟨ys, n', _, hD, _, _, hfl⟩ := DataW.trod_struct he h
  match cs, hlen with
  | [u0, u1, u2], _ =>
    have k0 := hfl 0 f0 rfl
    have k1 := hfl 1 f1 rfl
    rw [o0.1, o0.2.1] at k0
    rw [o1.1, o1.2.1] at k1
    have some_of : ∀ {k : Nat} {α : Type} {l : List α}, k < l.length → ∃ y, l[k]? = some y := fun h => ⟨_, List.getElem?_eq_getElem h⟩
    have hys : ys.length = 2 := by assumption
    obtain ⟨y0, e0⟩ := some_of (k := 0) (l := ys) (by omega)
    obtain ⟨y1, e1⟩ := some_of (k := 1) (l := ys) (by omega)
    obtain ⟨s, hs, _, ws⟩ := DataW.trod_string o0.2.2 (k0.trans e0)
    obtain ⟨vs, n2, _, hD2, hl2, _, hfl2⟩ := DataW.trod_struct o1.2.2 (k1.trans e1)
    have m0 := hfl2 0 g0 rfl
    have m1 := hfl2 1 g1 rfl
    rw [q0.1, q0.2.1] at m0
    rw [q1.1, q1.2.1] at m1
    have hvs : vs.length = 2 := by assumption
    obtain ⟨v0, d0⟩ := some_of (k := 0) (l := vs) (by omega)
    obtain ⟨v1, d1⟩ := some_of (k := 1) (l := vs) (by omega)
    obtain ⟨z4, hz4, _, w4⟩ := DataW.trod_int q0.2.2 (m0.trans d0)
    obtain ⟨z5, hz5, _, w5⟩ := DataW.trod_int q1.2.2 (m1.trans d1)
    simp at hs hz4 hz5
    subst hs hz4 hz5
    exact ⟨⟨s, z4, z5⟩, ⟨ws, w4, w5⟩, rfl⟩
theorem En.In.num {e : En} (h : e.In) : NumOk e := ⟨(bounds_i64 h.2.1).1, (bounds_i64 h.2.2).1⟩
def C8.In (x : C8) : Prop := x.e.s.size ≤ maxLen ∧ x.t.size ≤ maxLen ∧ NumOk x.e
theorem call8_of_trod {fuel : Nat} {e : TypeId} {f0 f1 f2 f3 h0 h1 g0 g1 : Field} {cs : List Value} {x : DataW H × List MemPlace} (he : P.underlying e = some (.struct #[f0, f1, f2, f3])) (hlen : cs.length = 6)
    (o0 : f0.offset = 0 ∧ P.cellsOf f0.type = 1 ∧ P.underlying f0.type = some (.int .i64)) (o1 : f1.offset = 1 ∧ P.cellsOf f1.type = 1 ∧ P.underlying f1.type = some (.int .i64))
    (o2 : f2.offset = 2 ∧ P.cellsOf f2.type = 3 ∧ P.underlying f2.type = some (.struct #[h0, h1])) (o3 : f3.offset = 5 ∧ P.cellsOf f3.type = 1 ∧ P.underlying f3.type = some .string)
    (p0 : h0.offset = 0 ∧ P.cellsOf h0.type = 1 ∧ P.underlying h0.type = some .string) (p1 : h1.offset = 1 ∧ P.cellsOf h1.type = 2 ∧ P.underlying h1.type = some (.struct #[g0, g1]))
    (q0 : g0.offset = 0 ∧ P.cellsOf g0.type = 1 ∧ P.underlying g0.type = some (.int .i64)) (q1 : g1.offset = 1 ∧ P.cellsOf g1.type = 1 ∧ P.underlying g1.type = some (.int .i64))
    (h : DataW.trod enc P W B (fun _ => true) true fuel e cs = some x) : ∃ y : C8, y.In ∧ cs = c8cell y := by
  obtain ⟨ys, n', _, hD, _, _, hfl⟩ := DataW.trod_struct he h
  match cs, hlen with
  | [u0, u1, u2, u3, u4, u5], _ =>
    have k0 := hfl 0 f0 rfl
    have k1 := hfl 1 f1 rfl
    have k2 := hfl 2 f2 rfl
    have k3 := hfl 3 f3 rfl
    rw [o0.1, o0.2.1] at k0
    rw [o1.1, o1.2.1] at k1
    rw [o2.1, o2.2.1] at k2
    rw [o3.1, o3.2.1] at k3
    have some_of : ∀ {k : Nat} {α : Type} {l : List α}, k < l.length → ∃ y, l[k]? = some y := fun h => ⟨_, List.getElem?_eq_getElem h⟩
    have hys : ys.length = 4 := by assumption
    obtain ⟨y0, e0⟩ := some_of (k := 0) (l := ys) (by omega)
    obtain ⟨y1, e1⟩ := some_of (k := 1) (l := ys) (by omega)
    obtain ⟨y2, e2⟩ := some_of (k := 2) (l := ys) (by omega)
    obtain ⟨y3, e3⟩ := some_of (k := 3) (l := ys) (by omega)
    obtain ⟨z0, hz0, _, _⟩ := DataW.trod_int o0.2.2 (k0.trans e0)
    obtain ⟨z1, hz1, _, _⟩ := DataW.trod_int o1.2.2 (k1.trans e1)
    obtain ⟨y, hy, hyc⟩ := en_of_trod o2.2.2 (by rfl) p0 p1 q0 q1 (k2.trans e2)
    obtain ⟨s, hs, _, ws⟩ := DataW.trod_string o3.2.2 (k3.trans e3)
    simp [En.vs] at hz0 hz1 hs hyc
    obtain ⟨rfl, rfl, rfl⟩ := hyc
    subst hz0 hz1 hs
    exact ⟨⟨z0, z1, y, s⟩, ⟨hy.1, ws, hy.num⟩, rfl⟩
end
/-- an entry of a row that came in -/
theorem RowG.en {w : World} {B : Nat} {A : Option Addr} {vs : List En} (h : RowG En.vs 3 w B A vs) {i : Nat} (hi : i < vs.length) : ∃ ad, A = some ad ∧ ad.block < B ∧ w.cell? (ad.add (i * 3)) = some (.string vs[i].s) ∧
    w.cell? ⟨(ad.add (i * 3)).block, (ad.add (i * 3)).off + 1, none⟩ = some (.int .i64 vs[i].p) ∧ w.cell? ⟨(ad.add (i * 3)).block, (ad.add (i * 3)).off + 2, none⟩ = some (.int .i64 vs[i].k) := by
  obtain ⟨ad, rfl, hlt⟩ := h.lo (by omega)
  have get : ∀ j u, (En.vs vs[i])[j]? = some u → w.cell? (ad.add (i * 3 + j)) = some u := fun j u hu => by
    obtain ⟨ad', e, hc⟩ := h.cell i hi j u hu
    obtain rfl := Option.some.inj e
    exact hc
  refine ⟨ad, rfl, hlt, get 0 _ rfl, ?_, ?_⟩
  · rw [addr_field _ (by omega), addr_add]; exact get 1 _ rfl
  · rw [addr_field _ (by omega), addr_add]; exact get 2 _ rfl
/-- a call of a row that came in -/
theorem RowG.c8 {w : World} {B : Nat} {A : Option Addr} {vs : List C8} (h : RowG c8cell 6 w B A vs) {i : Nat} (hi : i < vs.length) : ∃ ad, A = some ad ∧ ad.block < B ∧ w.cell? (ad.add (i * 6)) = some (.int .i64 vs[i].what) ∧
    w.cell? ⟨(ad.add (i * 6)).block, (ad.add (i * 6)).off + 1, none⟩ = some (.int .i64 vs[i].nn) ∧ w.cell? ⟨(ad.add (i * 6)).block, (ad.add (i * 6)).off + 2, none⟩ = some (.string vs[i].e.s) ∧
    w.cell? ⟨(ad.add (i * 6)).block, (ad.add (i * 6)).off + 3, none⟩ = some (.int .i64 vs[i].e.p) ∧ w.cell? ⟨(ad.add (i * 6)).block, (ad.add (i * 6)).off + 4, none⟩ = some (.int .i64 vs[i].e.k) ∧ w.cell? ⟨(ad.add (i * 6)).block, (ad.add (i * 6)).off + 5, none⟩ = some (.string vs[i].t) := by
  obtain ⟨ad, rfl, hlt⟩ := h.lo (by omega)
  have get : ∀ j u, (c8cell vs[i])[j]? = some u → w.cell? (ad.add (i * 6 + j)) = some u := fun j u hu => by
    obtain ⟨ad', e, hc⟩ := h.cell i hi j u hu
    obtain rfl := Option.some.inj e
    exact hc
  refine ⟨ad, rfl, hlt, get 0 _ rfl, ?_, ?_, ?_, ?_, ?_⟩
  · rw [addr_field _ (by omega), addr_add]; exact get 1 _ rfl
  · rw [addr_field _ (by omega), addr_add]; exact get 2 _ rfl
  · rw [addr_field _ (by omega), addr_add]; exact get 3 _ rfl
  · rw [addr_field _ (by omega), addr_add]; exact get 4 _ rfl
  · rw [addr_field _ (by omega), addr_add]; exact get 5 _ rfl

def Great8 (cl : List C8) (w : World) (e : Ending) (w' : World) : Prop :=
  w' = w ∧ (e = .returned (.bool true) ∨ (e = .returned (.bool false) ∧ cl.length ≤ 300 ∧ ∀ x ∈ cl, x.e.s.size ≤ 500 ∧ x.t.size ≤ 500))
open Go.Lib in
set_option maxRecDepth 100000 in
set_option maxHeartbeats 1600000 in
theorem great8_any (A : Option Addr) (c : Nat) (cl : List C8) (w : World) (B : Nat) (h : RowG c8cell 6 w B A cl) (hin : ∀ x ∈ cl, x.In) :
    Calls Try.prog 10 #[.slice A cl.length c] w (Great8 cl w) := by
  have HC := Lib.hid (And.intro h hin)
  clear h hin
  by_cases h80 : 300 < cl.length
  · have h80i : (300 : Int) < (cl.length : Int) := by omega
    go_enter Try.func10, Try.ntmps10
    go_wp2_with fail
    go_ret
    exact ⟨rfl, .inl rfl⟩
  · have h80i : ¬ (300 : Int) < (cl.length : Int) := by omega
    obtain ⟨n, hn⟩ : ∃ n, n = cl.length := ⟨_, rfl⟩
    rw [← hn] at h80 h80i ⊢
    have HN := Lib.hid hn
    clear hn
    go_enter Try.func10, Try.ntmps10
    go_wp2_with fail
    go_loop [3] (fun i => ∃ k : Nat, k ≤ n ∧ i = .int .i64 k ∧ ∀ j (h : j < cl.length), j < k → cl[j].e.s.size ≤ 500 ∧ cl[j].t.size ≤ 500) (fun i => n - (intOf i).toNat)
    case atStart => exact ⟨0, by omega, rfl, fun j _ hj => absurd hj (by omega)⟩
    case round =>
      obtain ⟨k, hk, rfl, hall⟩ := hrel
      have HA := Lib.hid hall
      have hk0 : (0 : Int) ≤ (k : Int) := Int.natCast_nonneg _
      clear hall
      by_cases hlt : k < n
      · have hlt1 : (k : Int) < (n : Int) := by omega
        have hkl : k < cl.length := by rw [← HN.out]; exact hlt
        obtain ⟨ad, rfl, _, d0, d1, d2, d3, d4, d5⟩ := HC.out.1.c8 hkl
        obtain ⟨x, hx⟩ : ∃ x, x = cl[k] := ⟨_, rfl⟩
        have hxi := HC.out.2 x (by rw [hx]; exact List.getElem_mem hkl)
        rw [← hx] at d2 d5
        have HX := Lib.hid (And.intro hx hxi)
        clear hx hxi d0 d1 d3 d4
        by_cases g1 : 500 < x.e.s.size
        · have g1i : (500 : Int) < (x.e.s.size : Int) := by omega
          have g1d : decide ((500 : Int) < (x.e.s.size : Int)) = true := decide_eq_true g1i
          go_wp2_with fail
          go_ret
          exact ⟨rfl, .inl rfl⟩
        · have g1i : ¬ (500 : Int) < (x.e.s.size : Int) := by omega
          have g1d : decide ((500 : Int) < (x.e.s.size : Int)) = false := decide_eq_false g1i
          by_cases g2 : 500 < x.t.size
          · have g2i : (500 : Int) < (x.t.size : Int) := by omega
            have g2d : decide ((500 : Int) < (x.t.size : Int)) = true := decide_eq_true g2i
            go_wp2_with fail
            go_ret
            exact ⟨rfl, .inl rfl⟩
          · have g2i : ¬ (500 : Int) < (x.t.size : Int) := by omega
            have g2d : decide ((500 : Int) < (x.t.size : Int)) = false := decide_eq_false g2i
            have HF := Lib.hid (show ∀ j (h : j < cl.length), j < k + 1 → cl[j].e.s.size ≤ 500 ∧ cl[j].t.size ≤ 500 from fun j hj hjk => by
              rcases Nat.lt_or_ge j k with h1 | h1
              · exact HA.out j hj h1
              · obtain rfl : j = k := by omega
                rw [← HX.out.1]; omega)
            go_wp2_with fail
            go_round
            case rel => exact ⟨k + 1, by omega, by go_num, HF.out⟩
            case measure => simp [intOf]; omega
      · have hlt1 : ¬ (k : Int) < (n : Int) := by omega
        have HF := Lib.hid (show cl.length ≤ 300 ∧ ∀ x ∈ cl, x.e.s.size ≤ 500 ∧ x.t.size ≤ 500 from ⟨by rw [← HN.out]; omega, fun x hx => by
          obtain ⟨j, hj, rfl⟩ := List.mem_iff_getElem.1 hx
          exact HA.out j hj (by rw [← HN.out] at hj; omega)⟩)
        go_wp2_with fail
        go_ret
        exact ⟨rfl, .inr ⟨rfl, HF.out⟩⟩
end Go.Proofs.Ytiaclfldgagalaa

/-
  BtreeCalls over a contract of the program's tree.
-/
namespace Go.Proofs.Ytiaclfldgagalaa
open Go.RowKit Go.Lib

theorem RtV.made {B : Nat} (w : World) (hB : B ≤ w.heap.size) : RtV B (fun k => k = w.heap.size) (w.alloc (.cells #[.slice none 0 0] 30)) w.heap.size [] :=
  ⟨none, 0, 0, Blk.new _ _ _, World.ownsRow_nil _ _ _ _, rfl, rfl, fun k hk => by (cases hk), fun k hk => by subst hk; exact ⟨hB, by simp⟩⟩
theorem count_n {T : TrP} (I : Impl 1000 T) {B : Nat} {D : Nat → Prop} {w : World} {tb n : Nat} {l : List En} (h : T B D w tb l) (hs : Small l) (hn : l.length = n) : Calls Try.prog 17 #[.pointer (some ⟨tb, 0, none⟩)] w fun r w' => r = .returned (.int .i64 n) ∧ Below w.heap.size w w' := by
  subst hn
  exact I.count h hs
/-- calls that have been told so far -/
def BcRel (T : TrP) (w0 : World) (tb rb : Nat) (n : Nat) (i : Value) (wr : World) : Prop :=
  ∃ (k : Nat) (D E : Nat → Prop) (l : List En), k ≤ n ∧ i = .int .i64 k ∧ Tq T w0 wr tb rb D E l l ∧ Sm l k

set_option maxRecDepth 100000 in
set_option maxHeartbeats 12800000 in
theorem bcalls_walk {T : TrP} (I : Impl 1000 T) (A : Option Addr) (c : Nat) (cl : List C8) (w : World) (hc : RowG c8cell 6 w w.heap.size A cl) (hin : ∀ x ∈ cl, x.In) (hl : cl.length ≤ c) (hm : c ≤ maxLen) :
    Calls Try.prog 3 #[.slice A cl.length c] w (YesB w) := by
  have H := Lib.hid (And.intro hc (And.intro hin (Nat.le_trans hl hm)))
  clear hc hin hl hm
  go_enter Try.func3, Try.ntmps3
  go_wp2_with fail
  refine (alive8_any I (Nat.le_refl _) w).mono ?_
  rintro e w1 ⟨rfl, h1⟩
  have H1 := Lib.hid h1
  clear h1
  go_wp2_with fail
  refine (great8_any A c cl w1 w.heap.size (H.out.1.below H1.out (Nat.le_refl _)) H.out.2.1).mono ?_
  rintro e w1' ⟨rfl, rfl | ⟨rfl, hfew, hsm⟩⟩
  · go_wp2_with fail
    go_ret
    exact ⟨rfl, H1.out⟩
  have HSM := Lib.hid hsm
  clear hsm
  go_wp2_with fail
  refine (I.new w1' w.heap.size H1.out.size).mono ?_
  rintro e w2 ⟨tb, D, rfl, ht2, hD2, hb2⟩
  have hlow2 := H1.out.trans (hb2.mono H1.out.size)
  obtain ⟨w3, hw3⟩ : ∃ w3, w3 = w2.alloc (.cells #[.slice none 0 0] 30) := ⟨_, rfl⟩
  have hb3 : Below w2.heap.size w2 w3 := by rw [hw3]; exact (Below.refl _ w2).alloc (Nat.le_refl _) _
  have hr3 := RtV.made (B := w.heap.size) w2 hlow2.size
  rw [← hw3] at hr3
  obtain ⟨n, hn⟩ : ∃ n, n = cl.length := ⟨_, rfl⟩
  have H3 := Lib.hid (show BcRel T w tb w2.heap.size n (.int .i64 0) w3 from
    ⟨0, D, _, [], Nat.zero_le _, rfl, ⟨I.below ht2 hb3, hr3, fun k hk he => by subst he; exact absurd (I.foot ht2 hk).2 (Nat.lt_irrefl _), hlow2.trans (hb3.mono hlow2.size)⟩, Sm.nil 0⟩)
  have HW3 := Lib.hid hw3
  rw [← hn] at hfew ⊢
  have HN := Lib.hid hn
  have hn0 : (0 : Int) ≤ (n : Int) := Int.natCast_nonneg _
  clear ht2 hD2 hb2 hlow2 hw3 hb3 hr3 hn
  go_wp2_with fail
  rw [← HW3.out]
  obtain ⟨rb, hrb⟩ : ∃ rb, rb = w2.heap.size := ⟨_, rfl⟩
  rw [← hrb] at H3 ⊢
  clear hrb HW3
  go_loopw [5] (fun i wr => BcRel T w tb rb n i wr) (fun i _ => n - (intOf i).toNat)
  case atStart => exact H3.out
  case round =>
    obtain ⟨k, D, E, l, hk, rfl, hT, hS⟩ := hrel
    have hk0 : (0 : Int) ≤ (k : Int) := Int.natCast_nonneg _
    have HR := Lib.hid (And.intro hT hS)
    clear hT hS
    by_cases hlt : k < n
    · have hlt1 : (k : Int) < (n : Int) := by omega
      have hkl : k < cl.length := by rw [← HN.out]; exact hlt
      have hcr := H.out.1.below HR.out.1.low (Nat.le_refl _)
      obtain ⟨ad, rfl, _, d0, d1, d2, d3, d4, d5⟩ := hcr.c8 hkl
      have hmem := List.getElem_mem (l := cl) hkl
      obtain ⟨x, hx⟩ : ∃ x, x = cl[k] := ⟨_, rfl⟩
      rw [← hx] at d0 d1 d2 d3 d4 d5 hmem
      have HTO := Lib.hid (told8_any I HR.out.1 HR.out.2 (by omega) x (HSM.out x hmem).1 (HSM.out x hmem).2 (H.out.2.1 x hmem).2.2)
      unfold c8arg at HTO
      clear hcr hx hmem
      go_wp2_with fail
      refine HTO.out.mono ?_
      rintro e w5 ⟨rfl, D5, E5, l5, ht5, hs5⟩
      have HF := Lib.hid (show BcRel T w tb rb n (.int .i64 ((k : Int) + 1)) w5 from ⟨k + 1, D5, E5, l5, by omega, by go_num, ht5, hs5⟩)
      clear ht5 hs5 d0 d1 d2 d3 d4 d5
      go_wp2_with fail
      go_roundw
      case rel => exact HF.out
      case measure => simp [intOf]; omega
    · have hlt1 : ¬ ((k : Int) < (n : Int)) := by omega
      have hsm := HR.out.2.small (by omega)
      have HTW := Lib.hid (I.twice HR.out.1.t hsm)
      have HS := Lib.hid hsm
      clear hsm
      obtain ⟨ow, how⟩ : ∃ ow, ow = twL l := ⟨_, rfl⟩
      rw [← how] at HTW
      have HOW := Lib.hid how
      clear how
      have hfin : ∀ (s : ByteArray) (q : Bool), twRes ow = .tuple #[.string s, .bool q] → True := fun _ _ _ => trivial
      clear hfin
      obtain ⟨s, q, hsq⟩ : ∃ s q, twRes ow = .tuple #[.string s, .bool q] := by cases ow <;> exact ⟨_, _, rfl⟩
      have HSQ := Lib.hid hsq
      rw [hsq] at HTW
      clear hsq
      go_wp2_with fail
      refine HTW.out.mono ?_
      rintro e w4 ⟨rfl, hb4⟩
      have H4 := Lib.hid (HR.out.1.below I hb4)
      have hrt := rtwice_any H4.out.r HS.out
      rw [← HOW.out, HSQ.out] at hrt
      have HRT := Lib.hid hrt
      clear hb4 HTW hrt
      go_wp2_with fail
      refine HRT.out.mono ?_
      rintro e w5 ⟨rfl, hb5⟩
      have H5 := Lib.hid (H4.out.below I hb5)
      clear hb5 HRT
      obtain ⟨Ar, nr, cr, hXr⟩ := H5.out.r
      have hl5 := hXr.cell
      have hrlen := hXr.len
      have HX5 := Lib.hid (And.intro hXr hrlen)
      have e1 : (s.toList == s.toList) = true := by rw [str_beq]; simp
      have hlen' : (nr : Int) = (l.length : Int) := by omega
      have HLL := Lib.hid hlen'
      clear hXr hrlen hlen'
      obtain ⟨ll, hll⟩ : ∃ ll, ll = l.length := ⟨_, rfl⟩
      go_wp2_with fail
      go_region_held3 (fun w' => w'.cell? ⟨rb, 0, none⟩ = some (.slice Ar nr cr))
        (first
          | exact (H8.out.1)
          | exact (H7.out.1)
          | exact (H6.out.1)
          | exact hl5
          | exact ‹_›)
        (first
          | (go_at_call 16; refine (I.all (H5.out.below I (below_dN (Below.refl _ _) 1)).t HS.out).mono ?_; rintro e w6 ⟨A6, c6, n6, rfl, hn6, ho6, hb6⟩; have H6 := Lib.hid (And.intro ((HX5.out.1.below (below_dN (Below.refl _ _) 1)).below hb6).cell (And.intro ((H5.out.below I (below_dN (Below.refl _ _) 1)).below I hb6) (And.intro hn6 (And.intro ho6 ((HX5.out.1.below (below_dN (Below.refl _ _) 1)).below hb6))))); clear ho6 hb6 hn6)
          | (go_at_call 15; refine (sameE_yes H6.out.2.2.1 HX5.out.2 H6.out.2.2.2.1 H6.out.2.2.2.2.own HS.out.few).mono ?_; rintro e w7 ⟨rfl, hb7⟩; have H7 := Lib.hid (And.intro (H6.out.2.2.2.2.below hb7).cell (And.intro (H6.out.2.1.below I hb7) (H6.out.2.2.2.2.below hb7))); clear hb7)
          | (go_at_call 17; refine (count_n I H7.out.2.1.t HS.out HX5.out.2.symm).mono ?_; rintro e w8 ⟨rfl, hb8⟩; have H8 := Lib.hid (And.intro (H7.out.2.2.below hb8).cell (H7.out.2.1.below I hb8)); clear hb8))
      go_wp2_with fail
      go_ret
      exact ⟨rfl, H8.out.2.low⟩
end Go.Proofs.Ytiaclfldgagalaa

/-
  Keys that are told twice: plain mathematics; BtreeTwice over a contract of the program's tree.
-/
namespace Go.Proofs.Ytiaclfldgagalaa
open Go.RowKit Go.Lib

theorem less_lex : ∀ a b : List UInt8, Op.bytesLess a b = decide (compareBytes a b < 0)
  | [], [] => by simp [Op.bytesLess, compareBytes]
  | [], _ :: _ => by simp [Op.bytesLess, compareBytes]
  | _ :: _, [] => by simp [Op.bytesLess, compareBytes]
  | x :: l, y :: m => by
    have ih := less_lex l m
    unfold compareBytes
    by_cases h1 : x < y
    · simp [Op.bytesLess, h1]
    · by_cases h2 : y < x
      · have h3 : ¬ x = y := fun e => by subst e; exact h1 h2
        simp [Op.bytesLess, h1, h2, h3]
      · have h3 : x = y := by
          rw [← UInt8.toNat_inj]
          rw [UInt8.lt_iff_toNat_lt] at h1 h2
          omega
        subst h3
        simp [Op.bytesLess, ih, h1]
theorem less_cmp (s t : ByteArray) : Op.bytesLess s.toList t.toList = decide (cmpS s t < 0) := by
  rw [ByteArray.toList_eq, ByteArray.toList_eq, less_lex]
  rfl
def cntS (s : ByteArray) (l : List En) : Nat := (fndL s l).length
theorem cnt_cons (s : ByteArray) (a : En) (l : List En) : cntS s (a :: l) = (if a.s = s then 1 else 0) + cntS s l := by
  unfold cntS fndL
  rw [List.filter_cons]
  by_cases h : a.s = s
  · simp [h]; omega
  · simp [h]
/-- a key below: the keys rise -/
theorem ord_key {a b : En} (h : ordE a b < 0) : cmpS a.s b.s ≤ 0 := by
  unfold ordE at h
  by_cases h1 : cmpS a.s b.s = 0
  · omega
  · rw [if_pos h1] at h; omega
theorem cnt_none {a b : En} {r : List En} (h : Srt (a :: b :: r)) (hne : ¬ b.s = a.s) : cntS a.s (b :: r) = 0 := by
  have g := good_cmpS
  unfold cntS fndL
  rw [List.length_eq_zero_iff, List.filter_eq_nil_iff]
  intro x hx hxs
  have hxs : x.s = a.s := of_decide_eq_true hxs
  have h1 := List.pairwise_cons.1 h
  have h2 := List.pairwise_cons.1 h1.2
  have k1 := ord_key (h1.1 b (by simp))
  rcases List.mem_cons.1 hx with rfl | hx
  · exact hne hxs
  · have k2 := ord_key (h2.1 x hx)
    rw [hxs] at k2
    have e := g.anti a.s b.s
    have : cmpS b.s a.s = 0 := by omega
    exact hne ((g.zero _ _).1 this)
theorem tw_first : ∀ (l : List En), Srt l → ∀ i (h : i < l.length), (∀ j (hj : j < l.length), j < i → cntS l[j].s l ≤ 1) → 2 ≤ cntS l[i].s l → twL l = some l[i].s
  | [], _, i, h, _, _ => by simp at h
  | [a], _, i, h, _, h2 => by
    have : i = 0 := by simp at h; omega
    subst this
    simp [cntS, fndL] at h2
  | a :: b :: r, hs, i, h, hlo, h2 => by
    have hsr : Srt (b :: r) := (List.pairwise_cons.1 hs).2
    rw [twL]
    by_cases e : b.s = a.s
    · rw [if_pos e]
      match i with
      | 0 => simp [e]
      | i + 1 =>
        exfalso
        have h1 := hlo 0 (by simp) (by omega)
        simp only [List.getElem_cons_zero] at h1
        rw [cnt_cons, cnt_cons, if_pos rfl, if_pos e] at h1
        omega
    · rw [if_neg e]
      have hz := cnt_none hs e
      match i with
      | 0 =>
        exfalso
        simp only [List.getElem_cons_zero] at h2
        rw [cnt_cons, if_pos rfl, hz] at h2
        omega
      | i + 1 =>
        have hi : i < (b :: r).length := by simpa using h
        have hx : ∀ j (hj : j < (b :: r).length), cntS (b :: r)[j].s (a :: b :: r) = cntS (b :: r)[j].s (b :: r) := fun j hj => by
          rw [cnt_cons]
          by_cases ea : a.s = (b :: r)[j].s
          · exfalso
            have : 0 < cntS a.s (b :: r) := by
              unfold cntS fndL
              exact List.length_pos_of_mem (List.mem_filter.2 ⟨List.getElem_mem hj, by simp [ea]⟩)
            omega
          · rw [if_neg ea, Nat.zero_add]
        have ih := tw_first (b :: r) hsr i hi (fun j hj hji => by
          rw [← hx j hj]
          have := hlo (j + 1) (by simpa using hj) (by omega)
          simpa using this) (by rw [← hx i hi]; simpa using h2)
        rw [ih]
        rfl
theorem tw_some : ∀ (l : List En) (s : ByteArray), twL l = some s → 2 ≤ cntS s l ∧ ∃ e ∈ l, e.s = s
  | [], s, h => by simp [twL] at h
  | [a], s, h => by simp [twL] at h
  | a :: b :: r, s, h => by
    rw [twL] at h
    by_cases e : b.s = a.s
    · rw [if_pos e] at h
      injection h with h
      subst h
      exact ⟨by rw [cnt_cons, cnt_cons, if_pos e.symm, if_pos rfl]; omega, b, by simp, rfl⟩
    · rw [if_neg e] at h
      obtain ⟨h1, x, hx, h2⟩ := tw_some (b :: r) s h
      exact ⟨by rw [cnt_cons]; omega, x, List.mem_cons_of_mem _ hx, h2⟩

/-- entries inserted so far -/
def InRel (T : TrP) (w0 : World) (tb : Nat) (n : Nat) (i : Value) (wr : World) : Prop :=
  ∃ (k : Nat) (D : Nat → Prop) (l : List En), k ≤ n ∧ i = .int .i64 k ∧ Tn T w0 wr tb D l ∧ Sm l k
set_option maxRecDepth 100000 in
set_option maxHeartbeats 12800000 in
theorem btwice_walk {T : TrP} (I : Impl 1000 T) (A : Option Addr) (c : Nat) (es : List En) (w : World) (hc : RowG En.vs 3 w w.heap.size A es) (hin : ∀ x ∈ es, x.In) (_hl : es.length ≤ c) (_hm : c ≤ maxLen) :
    Calls Try.prog 7 #[.slice A es.length c] w (YesB w) := by
  obtain ⟨n, hn⟩ : ∃ n, n = es.length := ⟨_, rfl⟩
  have H := Lib.hid (And.intro hc (And.intro hin hn))
  rw [← hn]
  have hn0 : (0 : Int) ≤ (n : Int) := Int.natCast_nonneg _
  clear hc hin hn _hl _hm
  go_enter Try.func7, Try.ntmps7
  go_wp2_with fail
  refine (alive8_any I (Nat.le_refl _) w).mono ?_
  rintro e w1 ⟨rfl, h1⟩
  have H1 := Lib.hid h1
  clear h1
  by_cases hbig : 300 < n
  · have hbi : (300 : Int) < (n : Int) := by omega
    go_wp2_with fail
    go_ret
    exact ⟨rfl, H1.out⟩
  have hbi : ¬ (300 : Int) < (n : Int) := by omega
  go_wp2_with fail
  refine (I.new w1 w.heap.size H1.out.size).mono ?_
  rintro e w2 ⟨tb, D, rfl, ht2, _, hb2⟩
  have H2 := Lib.hid (show InRel T w tb n (.int .i64 0) w2 from ⟨0, D, [], Nat.zero_le _, rfl, ⟨ht2, H1.out.trans (hb2.mono H1.out.size)⟩, Sm.nil 0⟩)
  clear ht2 hb2
  go_wp2_with fail
  go_loopw [4] (fun i wr => InRel T w tb n i wr) (fun i _ => n - (intOf i).toNat)
  case atStart => exact H2.out
  case round =>
    obtain ⟨k, D, l, hk, rfl, hT, hS⟩ := hrel
    have hk0 : (0 : Int) ≤ (k : Int) := Int.natCast_nonneg _
    have HR := Lib.hid (And.intro hT hS)
    clear hT hS
    by_cases hlt : k < n
    · have hlt1 : (k : Int) < (n : Int) := by omega
      have hkl : k < es.length := by rw [← H.out.2.2]; exact hlt
      obtain ⟨ad, rfl, _, d0, d1, d2⟩ := (H.out.1.below HR.out.1.low (Nat.le_refl _)).en hkl
      obtain ⟨x, hx⟩ : ∃ x, x = es[k] := ⟨_, rfl⟩
      rw [← hx] at d0 d1 d2
      have HNX := Lib.hid (show NumOk x by rw [hx]; exact (H.out.2.1 _ (List.getElem_mem hkl)).num)
      clear hx
      by_cases hx5 : 500 < x.s.size
      · have hx5i : (500 : Int) < (x.s.size : Int) := by omega
        go_wp2_with fail
        go_ret
        exact ⟨rfl, HR.out.1.low⟩
      have hx5i : ¬ (500 : Int) < (x.s.size : Int) := by omega
      have HIN := Lib.hid (I.ins x HR.out.1.t (HR.out.2.small (by omega)).few HR.out.1.low.size (by omega) HNX.out)
      unfold En.val at HIN
      go_wp2_with fail
      refine HIN.out.mono ?_
      rintro e w5 ⟨rfl, ht5, hc5⟩
      have HF := Lib.hid (show InRel T w tb n (.int .i64 ((k : Int) + 1)) w5 from ⟨k + 1, _, _, by omega, by go_num, HR.out.1.step I ht5 hc5, HR.out.2.ins (by omega)⟩)
      clear ht5 hc5 d0 d1 d2
      go_wp2_with fail
      go_roundw
      case rel => exact HF.out
      case measure => simp [intOf]; omega
    · have hlt1 : ¬ ((k : Int) < (n : Int)) := by omega
      have hsm := HR.out.2.small (by omega)
      have hsrt := I.srt HR.out.1.t
      have HTW := Lib.hid (I.twice HR.out.1.t hsm)
      have HS := Lib.hid (And.intro hsm hsrt)
      clear hsm hsrt
      obtain ⟨ow, how⟩ : ∃ ow, ow = twL l := ⟨_, rfl⟩
      rw [← how] at HTW
      have HOW := Lib.hid how
      clear how
      have hafter : True := trivial
      cases ow with
      | some s =>
        obtain ⟨q1, e, he, hes⟩ := tw_some l s HOW.out.symm
        have hsk : s.size ≤ 1000 := by rw [← hes]; exact HR.out.2.key e he
        have HQ := Lib.hid (And.intro q1 hsk)
        clear q1 he hes hsk
        have HFD := Lib.hid (fun (v : World) (h : T w.heap.size D v tb l) => I.find s h HS.out.1 HQ.out.2)
        unfold twRes at HTW
        go_wp2_with fail
        refine HTW.out.mono ?_
        rintro e w4 ⟨rfl, hb4⟩
        have H4 := Lib.hid (HR.out.1.below I hb4)
        clear hb4 HTW
        go_wp2_with fail
        refine (HFD.out _ H4.out.t).mono ?_
        rintro e w5 ⟨A5, c5, n5, rfl, hn5, _, hb5⟩
        have hn5b : ¬ (n5 : Int) < 2 := by have := HQ.out.1; unfold cntS at this; omega
        have hn5d : decide ((n5 : Int) < 2) = false := decide_eq_false hn5b
        have H5 := Lib.hid (H4.out.below I hb5)
        have HAL := Lib.hid (I.all H5.out.t HS.out.1)
        clear hb5 hn5
        go_wp2_with fail
        refine HAL.out.mono ?_
        rintro e w6 ⟨A6, c6, n6, rfl, hn6, ho6, hb6⟩
        have H6 := Lib.hid (And.intro (H5.out.below I hb6) (And.intro hn6 ho6))
        have hn6b : n6 ≤ 1000000 := by have := HS.out.1.few; omega
        clear hb6 hn6 ho6 HAL
        go_wp2_with fail
        go_loopw [8] (fun i wr => ∃ j : Nat, j ≤ n6 ∧ i = .int .i64 j ∧ Below w6.heap.size w6 wr ∧ ∀ q (h : q < l.length), q < j → cntS l[q].s l ≤ 1) (fun i _ => n6 - (intOf i).toNat)
        case atStart => exact ⟨0, Nat.zero_le _, rfl, Below.refl _ _, fun q _ h => by omega⟩
        case round =>
          rename_i wx
          obtain ⟨j, hj, rfl, hbj, hlo⟩ := hrel
          have hj0 : (0 : Int) ≤ (j : Int) := Int.natCast_nonneg _
          have HJ := Lib.hid (And.intro hbj hlo)
          by_cases hjn : j < n6
          · have hjn1 : (j : Int) < (n6 : Int) := by omega
            have hjl : j < l.length := by rw [← H6.out.2.1]; exact hjn
            obtain ⟨g, cap, hv, _, hgl⟩ := H6.out.2.2.form (by omega)
            injection hv with v1 v2 v3
            clear v2 v3
            subst v1
            obtain ⟨a1, a2, a3⟩ := ecs_at hjl
            have d0 : wr.cell? ⟨g, j * 3, none⟩ = some (.string l[j].s) := by rw [hbj.cell (p := ⟨g, j * 3, none⟩) hgl, H6.out.2.2.cellAt _ (by omega)]; exact a1
            obtain ⟨x, hx⟩ : ∃ x, x = l[j] := ⟨_, rfl⟩
            rw [← hx] at d0
            have hxk : x.s.size ≤ 1000 := HR.out.2.key x (by rw [hx]; exact List.getElem_mem hjl)
            have HX := Lib.hid (And.intro hx (And.intro hjl hxk))
            have HTJ := Lib.hid (H6.out.1.below I hbj)
            have HFJ := Lib.hid (I.find x.s HTJ.out.t HS.out.1 hxk)
            clear hbj hlo a1 a2 a3 hx hxk
            go_wp2_with fail
            refine HFJ.out.mono ?_
            rintro e w8 ⟨A8, c8, n8, rfl, hn8, _, hb8⟩
            have HB8 := Lib.hid (And.intro (HJ.out.1.trans (hb8.mono HJ.out.1.size)) (HTJ.out.below I hb8))
            have d8 : w8.cell? ⟨g, j * 3, none⟩ = some (.string x.s) := (hb8.cell (World.block_lt_of_cell? _ _ d0)).trans d0
            clear hb8
            by_cases g1 : 1 < n8
            · have g1i : (1 : Int) < (n8 : Int) := by omega
              have hf := tw_first l HS.out.2 j HX.out.2.1 HJ.out.2 (by rw [← HX.out.1]; unfold cntS; omega)
              rw [← HOW.out, ← HX.out.1] at hf
              injection hf with hf
              have e1 : (s.toList == x.s.toList) = true := by rw [str_beq]; exact decide_eq_true hf
              clear hf hn8
              go_wp2_with fail
              go_ret
              exact ⟨rfl, HB8.out.2.low⟩
            · have g1i : ¬ (1 : Int) < (n8 : Int) := by omega
              have HF := Lib.hid (show ∀ q (h : q < l.length), q < j + 1 → cntS l[q].s l ≤ 1 from fun q hq hqj => by
                rcases Nat.lt_or_ge q j with h1 | h1
                · exact HJ.out.2 q hq h1
                · obtain rfl : q = j := by omega
                  rw [← HX.out.1]; unfold cntS; omega)
              clear hn8 d0 d8
              go_wp2_with fail
              go_roundw
              case rel => exact ⟨j + 1, by omega, by go_num, HB8.out.1, HF.out⟩
              case measure => simp [intOf]; omega
          · exfalso
            obtain ⟨q1, e, he, hes⟩ := tw_some l s HOW.out.symm
            obtain ⟨q, hq, rfl⟩ := List.mem_iff_getElem.1 he
            have h1 := HJ.out.2 q hq (by have := H6.out.2.1; omega)
            rw [hes] at h1
            omega
      | none =>
        unfold twRes at HTW
        go_wp2_with fail
        refine HTW.out.mono ?_
        rintro e w4 ⟨rfl, hb4⟩
        have H4 := Lib.hid (HR.out.1.below I hb4)
        have HAL := Lib.hid (I.all H4.out.t HS.out.1)
        clear hb4 HTW
        go_wp2_with fail
        refine HAL.out.mono ?_
        rintro e w6 ⟨A6, c6, n6, rfl, hn6, ho6, hb6⟩
        have H6 := Lib.hid (And.intro (H4.out.below I hb6) (And.intro hn6 ho6))
        have hn6b : n6 ≤ 1000000 := by have := HS.out.1.few; omega
        clear hb6 hn6 ho6 HAL
        go_wp2_with fail
        go_loopw [8] (fun i wr => ∃ j : Nat, j ≤ n6 ∧ i = .int .i64 j ∧ Below w6.heap.size w6 wr ∧ ∀ q (h : q < l.length), q < j → cntS l[q].s l ≤ 1) (fun i _ => n6 - (intOf i).toNat)
        case atStart => exact ⟨0, Nat.zero_le _, rfl, Below.refl _ _, fun q _ h => by omega⟩
        case round =>
          rename_i wx
          obtain ⟨j, hj, rfl, hbj, hlo⟩ := hrel
          have hj0 : (0 : Int) ≤ (j : Int) := Int.natCast_nonneg _
          have HJ := Lib.hid (And.intro hbj hlo)
          by_cases hjn : j < n6
          · have hjn1 : (j : Int) < (n6 : Int) := by omega
            have hjl : j < l.length := by rw [← H6.out.2.1]; exact hjn
            obtain ⟨g, cap, hv, _, hgl⟩ := H6.out.2.2.form (by omega)
            injection hv with v1 v2 v3
            clear v2 v3
            subst v1
            obtain ⟨a1, a2, a3⟩ := ecs_at hjl
            have d0 : wr.cell? ⟨g, j * 3, none⟩ = some (.string l[j].s) := by rw [hbj.cell (p := ⟨g, j * 3, none⟩) hgl, H6.out.2.2.cellAt _ (by omega)]; exact a1
            obtain ⟨x, hx⟩ : ∃ x, x = l[j] := ⟨_, rfl⟩
            rw [← hx] at d0
            have hxk : x.s.size ≤ 1000 := HR.out.2.key x (by rw [hx]; exact List.getElem_mem hjl)
            have HX := Lib.hid (And.intro hx (And.intro hjl hxk))
            have HTJ := Lib.hid (H6.out.1.below I hbj)
            have HFJ := Lib.hid (I.find x.s HTJ.out.t HS.out.1 hxk)
            clear hbj hlo a1 a2 a3 hx hxk
            go_wp2_with fail
            refine HFJ.out.mono ?_
            rintro e w8 ⟨A8, c8, n8, rfl, hn8, _, hb8⟩
            have HB8 := Lib.hid (And.intro (HJ.out.1.trans (hb8.mono HJ.out.1.size)) (HTJ.out.below I hb8))
            clear hb8
            have g1 : ¬ 1 < n8 := fun g1 => by
              have hf := tw_first l HS.out.2 j HX.out.2.1 HJ.out.2 (by rw [← HX.out.1]; unfold cntS; omega)
              rw [← HOW.out] at hf
              cases hf
            have g1i : ¬ (1 : Int) < (n8 : Int) := by omega
            have HF := Lib.hid (show ∀ q (h : q < l.length), q < j + 1 → cntS l[q].s l ≤ 1 from fun q hq hqj => by
              rcases Nat.lt_or_ge q j with h1 | h1
              · exact HJ.out.2 q hq h1
              · obtain rfl : q = j := by omega
                rw [← HX.out.1]; unfold cntS; omega)
            clear hn8 d0 g1
            go_wp2_with fail
            go_roundw
            case rel => exact ⟨j + 1, by omega, by go_num, HB8.out.1, HF.out⟩
            case measure => simp [intOf]; omega
          · have hjn1 : ¬ (j : Int) < (n6 : Int) := by omega
            have HL := Lib.hid (H6.out.1.below I hbj)
            have e1 : ((⟨#[]⟩ : ByteArray).toList == (⟨#[]⟩ : ByteArray).toList) = true := by rw [str_beq]; simp
            clear hbj hlo
            go_wp2_with fail
            go_ret
            exact ⟨rfl, HL.out.low⟩
end Go.Proofs.Ytiaclfldgagalaa

/-
  BtreeRanges over a contract of the program's tree.
-/
namespace Go.Proofs.Ytiaclfldgagalaa
open Go.RowKit Go.Lib

theorem geq_str (t : TypeId) (a b : ByteArray) : binOp .geq t (.string a) (.string b) = pure (.bool (decide (0 ≤ cmpS a b))) := by
  have h : binOp .geq t (.string a) (.string b) = pure (.bool (!Op.bytesLess a.toList b.toList)) := by simp [binOp, Op.stringOp]
  rw [h, less_cmp]
  congr 2
  rw [← decide_not]
  congr 1
  simp
theorem lss_str (t : TypeId) (a b : ByteArray) : binOp .lss t (.string a) (.string b) = pure (.bool (decide (cmpS a b < 0))) := by
  have h : binOp .lss t (.string a) (.string b) = pure (.bool (Op.bytesLess a.toList b.toList)) := by simp [binOp, Op.stringOp]
  rw [h, less_cmp]
theorem rng_step {f t : ByteArray} {most : Int} {l : List En} {i : Nat} (h : i < l.length) :
    rngL f t most (l.take (i + 1)) = if inR f t l[i] = true ∧ ((rngL f t most (l.take i)).length : Int) < most then rngL f t most (l.take i) ++ [l[i]] else rngL f t most (l.take i) := by
  unfold rngL
  rw [List.take_add_one, List.getElem?_eq_getElem h, List.filter_append]
  by_cases hb : inR f t l[i] = true
  · have e : List.filter (inR f t) [l[i]] = [l[i]] := by simp [hb]
    rw [show (some l[i]).toList = [l[i]] from rfl, e, List.length_take]
    obtain ⟨L, hL⟩ : ∃ L, L = List.filter (inR f t) (l.take i) := ⟨_, rfl⟩
    rw [← hL]
    by_cases hm : ((min most.toNat L.length : Nat) : Int) < most
    · rw [if_pos ⟨hb, hm⟩, List.take_of_length_le (l := L ++ [l[i]]) (by simp; omega), List.take_of_length_le (l := L) (by omega)]
    · rw [if_neg (fun hh => hm hh.2), List.take_append_of_le_length (by omega)]
  · have e : List.filter (inR f t) [l[i]] = [] := by simp [hb]
    rw [show (some l[i]).toList = [l[i]] from rfl, e, List.append_nil, if_neg (fun hh => hb hh.1)]
theorem rng_len (f t : ByteArray) (most : Int) (l : List En) : (rngL f t most l).length ≤ most.toNat := by
  unfold rngL
  rw [List.length_take]
  omega
theorem rng_len2 (f t : ByteArray) (most : Int) (l : List En) : (rngL f t most l).length ≤ l.length := by
  unfold rngL
  rw [List.length_take]
  have := List.length_filter_le (inR f t) l
  omega
theorem rng_same (f : ByteArray) (most : Int) (l : List En) : rngL f f most l = [] := by
  unfold rngL
  rw [show List.filter (inR f f) l = [] from List.filter_eq_nil_iff.2 fun x _ hx => by
    unfold inR at hx
    rw [Bool.and_eq_true, decide_eq_true_eq, decide_eq_true_eq] at hx
    omega]
  exact List.take_nil
set_option maxRecDepth 100000 in
set_option maxHeartbeats 12800000 in
theorem branges_walk {T : TrP} (I : Impl 1000 T) (A : Option Addr) (c : Nat) (es : List En) (f t : ByteArray) (most : Int) (w : World) (hc : RowG En.vs 3 w w.heap.size A es) (hin : ∀ x ∈ es, x.In) (_hl : es.length ≤ c) (_hm : c ≤ maxLen) :
    Calls Try.prog 6 #[.slice A es.length c, .string f, .string t, .int .i64 most] w (YesB w) := by
  obtain ⟨i0, hi, hz0, hz1, hz2⟩ := info_parts Try.infoent
  obtain ⟨n, hn⟩ : ∃ n, n = es.length := ⟨_, rfl⟩
  have H := Lib.hid (And.intro hc (And.intro hin hn))
  rw [← hn]
  have hn0 : (0 : Int) ≤ (n : Int) := Int.natCast_nonneg _
  clear hc hin hn _hl _hm
  go_enter Try.func6, Try.ntmps6
  go_wp2_with fail
  refine (alive8_any I (Nat.le_refl _) w).mono ?_
  rintro e w1 ⟨rfl, h1⟩
  have H1 := Lib.hid h1
  clear h1
  by_cases hbig : 300 < n
  · have hbi : (300 : Int) < (n : Int) := by omega
    have hbd : decide ((300 : Int) < (n : Int)) = true := decide_eq_true hbi
    go_wp2_with fail
    go_ret
    exact ⟨rfl, H1.out⟩
  have hbi : ¬ (300 : Int) < (n : Int) := by omega
  have hbd : decide ((300 : Int) < (n : Int)) = false := decide_eq_false hbi
  by_cases hf5 : 500 < f.size
  · have hfi : (500 : Int) < (f.size : Int) := by omega
    have hfd : decide ((500 : Int) < (f.size : Int)) = true := decide_eq_true hfi
    go_wp2_with fail
    go_ret
    exact ⟨rfl, H1.out⟩
  have hfi : ¬ (500 : Int) < (f.size : Int) := by omega
  have hfd : decide ((500 : Int) < (f.size : Int)) = false := decide_eq_false hfi
  by_cases ht5 : 500 < t.size
  · have hti : (500 : Int) < (t.size : Int) := by omega
    have htd : decide ((500 : Int) < (t.size : Int)) = true := decide_eq_true hti
    go_wp2_with fail
    go_ret
    exact ⟨rfl, H1.out⟩
  have hti : ¬ (500 : Int) < (t.size : Int) := by omega
  have htd : decide ((500 : Int) < (t.size : Int)) = false := decide_eq_false hti
  go_wp2_with fail
  refine (I.new w1 w.heap.size H1.out.size).mono ?_
  rintro e w2 ⟨tb, D, rfl, ht2, _, hb2⟩
  have H2 := Lib.hid (show InRel T w tb n (.int .i64 0) w2 from ⟨0, D, [], Nat.zero_le _, rfl, ⟨ht2, H1.out.trans (hb2.mono H1.out.size)⟩, Sm.nil 0⟩)
  clear ht2 hb2
  go_wp2_with fail
  go_loopw [10] (fun i wr => InRel T w tb n i wr) (fun i _ => n - (intOf i).toNat)
  case atStart => exact H2.out
  case round =>
    obtain ⟨k, D, l, hk, rfl, hT, hS⟩ := hrel
    have hk0 : (0 : Int) ≤ (k : Int) := Int.natCast_nonneg _
    have HR := Lib.hid (And.intro hT hS)
    clear hT hS
    by_cases hlt : k < n
    · have hlt1 : (k : Int) < (n : Int) := by omega
      have hkl : k < es.length := by rw [← H.out.2.2]; exact hlt
      obtain ⟨ad, rfl, _, d0, d1, d2⟩ := (H.out.1.below HR.out.1.low (Nat.le_refl _)).en hkl
      obtain ⟨x, hx⟩ : ∃ x, x = es[k] := ⟨_, rfl⟩
      rw [← hx] at d0 d1 d2
      have HNX := Lib.hid (show NumOk x by rw [hx]; exact (H.out.2.1 _ (List.getElem_mem hkl)).num)
      clear hx
      by_cases hx5 : 500 < x.s.size
      · have hx5i : (500 : Int) < (x.s.size : Int) := by omega
        go_wp2_with fail
        go_ret
        exact ⟨rfl, HR.out.1.low⟩
      have hx5i : ¬ (500 : Int) < (x.s.size : Int) := by omega
      have HIN := Lib.hid (I.ins x HR.out.1.t (HR.out.2.small (by omega)).few HR.out.1.low.size (by omega) HNX.out)
      unfold En.val at HIN
      go_wp2_with fail
      refine HIN.out.mono ?_
      rintro e w5 ⟨rfl, ht5, hc5⟩
      have HF := Lib.hid (show InRel T w tb n (.int .i64 ((k : Int) + 1)) w5 from ⟨k + 1, _, _, by omega, by go_num, HR.out.1.step I ht5 hc5, HR.out.2.ins (by omega)⟩)
      clear ht5 hc5 d0 d1 d2
      go_wp2_with fail
      go_roundw
      case rel => exact HF.out
      case measure => simp [intOf]; omega
    · have hlt1 : ¬ ((k : Int) < (n : Int)) := by omega
      have hsm := HR.out.2.small (by omega)
      have HAL := Lib.hid (I.all HR.out.1.t hsm)
      have HS := Lib.hid (And.intro hsm (show l.length ≤ 300 by have := HR.out.2.few; omega))
      clear hsm
      go_wp2_with fail
      refine HAL.out.mono ?_
      rintro e w6 ⟨A6, c6, n6, rfl, hn6, ho6, hb6⟩
      have H6 := Lib.hid (And.intro (HR.out.1.below I hb6) (And.intro hn6 ho6))
      have hn6b : n6 ≤ 300 := by have := HS.out.2; omega
      have H0 := Lib.hid (OutE.nil 35 3 ecs rfl w6)
      clear hb6 hn6 ho6 HAL
      go_wp2_with fail
      go_loopw [12, 13] (fun o i wr => ∃ j : Nat, j ≤ n6 ∧ i = .int .i64 j ∧ OutE 35 3 ecs w6.heap.size w6 (rngL f t most (l.take j)) o wr) (fun _ i _ => n6 - (intOf i).toNat)
      case atStart => exact ⟨0, Nat.zero_le _, rfl, by simpa [rngL] using H0.out⟩
      case round =>
        rename_i wx
        obtain ⟨j, hj, rfl, A1, c1, n1, rfl, hn1, hown1, hb1, hs1⟩ := hrel
        have hj0 : (0 : Int) ≤ (j : Int) := Int.natCast_nonneg _
        have hn10 : (0 : Int) ≤ (n1 : Int) := Int.natCast_nonneg _
        have HK := Lib.hid (And.intro hn1 (And.intro hown1 (And.intro hb1 hs1)))
        have hn1k : n1 ≤ 1000000 := by
          rw [hn1]
          have h1 := rng_len2 f t most (l.take j)
          rw [List.length_take] at h1
          omega
        by_cases hjn : j < n6
        · have hjn1 : (j : Int) < (n6 : Int) := by omega
          have hjl : j < l.length := by rw [← H6.out.2.1]; exact hjn
          obtain ⟨g, cap, hv, _, hgl⟩ := H6.out.2.2.form (by omega)
          injection hv with v1 v2 v3
          clear v2 v3
          subst v1
          obtain ⟨a1, a2, a3⟩ := ecs_at hjl
          have d0 : wr.cell? ⟨g, j * 3, none⟩ = some (.string l[j].s) := by rw [hb1.cell (p := ⟨g, j * 3, none⟩) hgl, H6.out.2.2.cellAt _ (by omega)]; exact a1
          have d1 : wr.cell? ⟨g, j * 3 + 1, none⟩ = some (.int .i64 l[j].p) := by rw [hb1.cell (p := ⟨g, j * 3 + 1, none⟩) hgl, H6.out.2.2.cellAt _ (by omega)]; exact a2
          have d2 : wr.cell? ⟨g, j * 3 + 2, none⟩ = some (.int .i64 l[j].k) := by rw [hb1.cell (p := ⟨g, j * 3 + 2, none⟩) hgl, H6.out.2.2.cellAt _ (by omega)]; exact a3
          have hstep := rng_step (f := f) (t := t) (most := most) hjl
          rw [← hn1] at hstep
          obtain ⟨x, hx⟩ : ∃ x, x = l[j] := ⟨_, rfl⟩
          rw [← hx] at d0 d1 d2 hstep
          have hge := geq_str 9 x.s f
          have hls := lss_str 9 x.s t
          obtain ⟨o1, ho1⟩ : ∃ o, o = cmpS x.s f := ⟨_, rfl⟩
          obtain ⟨o2, ho2⟩ : ∃ o, o = cmpS x.s t := ⟨_, rfl⟩
          have hin : inR f t x = (decide (0 ≤ o1) && decide (o2 < 0)) := by rw [ho1, ho2]; rfl
          rw [← ho1] at hge
          rw [← ho2] at hls
          rw [hin] at hstep
          have HST := Lib.hid hstep
          clear hn1 hown1 hb1 hs1 a1 a2 a3 hstep hx ho1 ho2 hin
          have hno : (decide (0 ≤ o1) && decide (o2 < 0)) = false ∨ ¬ (n1 : Int) < most → ∃ j' : Nat, j' ≤ n6 ∧ Value.int .i64 ((j : Int) + 1) = .int .i64 j' ∧ OutE 35 3 ecs w6.heap.size w6 (rngL f t most (l.take j')) (.slice A1 n1 c1) wr := fun hh => by
            refine ⟨j + 1, by omega, by go_num, ?_⟩
            rw [HST.out, if_neg (fun h2 => by
              rcases hh with hh | hh
              · rw [h2.1] at hh; cases hh
              · exact hh h2.2)]
            exact ⟨A1, c1, n1, rfl, HK.out.1, HK.out.2.1, HK.out.2.2.1, HK.out.2.2.2⟩
          have HNO := Lib.hid hno
          clear hno
          by_cases g1 : 0 ≤ o1
          · have dg1 : decide (0 ≤ o1) = true := decide_eq_true g1
            by_cases g2 : o2 < 0
            · have dg2 : decide (o2 < 0) = true := decide_eq_true g2
              by_cases g3 : (n1 : Int) < most
              · have dg3 : decide ((n1 : Int) < most) = true := decide_eq_true g3
                have HS2 := Lib.hid (show rngL f t most (l.take (j + 1)) = rngL f t most (l.take j) ++ [x] by rw [HST.out, if_pos ⟨by rw [dg1, dg2]; rfl, g3⟩])
                go_wp2_with (at_builtin; refine wpList_append_own _ rfl (.tmp 80) (.tmp 85) 28 rfl w6.heap.size 35 i0 (.agg #[.string ⟨#[]⟩, .int .i64 0, .int .i64 0]) 3 32 Try.underlying28 hi hz0 hz1 hz2 rfl (by decide) _ n1 _ rfl (HK.out.2.1.alloc _) ⟨wr.heap.size, 0, none⟩ 1 1 [.string x.s, .int .i64 x.p, .int .i64 x.k] rfl rfl (World.news_of_block (heap_alloc_new wr _)) ?c2 ?c3 ?c4 ?c5 ?_)
                case c2 => first | (intro u hu; simp at hu; rcases hu with rfl | rfl | rfl <;> rfl) | (refine ⟨?_, ?_, ?_⟩ <;> rfl)
                case c3 => first | (unfold maxLen; omega) | (simp [maxLen]; omega)
                case c4 => first | omega | (simp; omega)
                case c5 => have h2 := HK.out.2.2.2; simp; omega
                intro v5 w5 hown5 hgr5 _
                rw [ecs_more] at hown5
                have HF := Lib.hid (show OutE 35 3 ecs w6.heap.size w6 (rngL f t most (l.take (j + 1))) v5 w5 from by
                  rw [HS2.out]
                  exact OutE.more HK.out.1 HK.out.2.1 HK.out.2.2.1 HK.out.2.2.2 ((Below.refl _ wr).alloc (Nat.le_refl _) _) hown5 hgr5)
                clear hown5 hgr5
                go_wp2_with fail
                go_roundw
                case rel => exact ⟨j + 1, by omega, by go_num, HF.out⟩
                case measure => simp [intOf]; omega
              · have dg3 : decide ((n1 : Int) < most) = false := decide_eq_false g3
                have HF := Lib.hid (HNO.out (.inr g3))
                go_wp2_with fail
                go_roundw
                case rel => exact HF.out
                case measure => simp [intOf]; omega
            · have dg2 : decide (o2 < 0) = false := decide_eq_false g2
              have HF := Lib.hid (HNO.out (.inl (by rw [dg2, Bool.and_false])))
              go_wp2_with fail
              go_roundw
              case rel => exact HF.out
              case measure => simp [intOf]; omega
          · have dg1 : decide (0 ≤ o1) = false := decide_eq_false g1
            have HF := Lib.hid (HNO.out (.inl (by rw [dg1, Bool.false_and])))
            go_wp2_with fail
            go_roundw
            case rel => exact HF.out
            case measure => simp [intOf]; omega
        · have hjn1 : ¬ (j : Int) < (n6 : Int) := by omega
          have htk : l.take j = l := List.take_of_length_le (by have := H6.out.2.1; omega)
          rw [htk] at hn1 hown1
          have HT := Lib.hid (H6.out.1.below I hb1)
          have HW := Lib.hid (And.intro hn1 hown1)
          have HR1 := Lib.hid (I.range f t most HT.out.t HS.out.1 (by omega) (by omega))
          clear hn1 hown1 hb1 hs1 htk
          go_wp2_with fail
          refine HR1.out.mono ?_
          rintro e w7 ⟨A7, c7, n7, rfl, hn7, ho7, hb7⟩
          have hw7 := own_chg HW.out.2 (F := Non) (Chg.of_below hb7) (fun _ _ hf => hf)
          have HSM := Lib.hid (sameE_yes hn7 HW.out.1 ho7 hw7 (by have h1 := rng_len2 f t most l; have := HS.out.2; omega))
          have H7 := Lib.hid (HT.out.below I hb7)
          clear hn7 ho7 hb7 hw7 HR1
          go_wp2_with fail
          refine HSM.out.mono ?_
          rintro e w8 ⟨rfl, hb8⟩
          have H8 := Lib.hid (H7.out.below I hb8)
          have HR2 := Lib.hid (I.range t f most H8.out.t HS.out.1 (by omega) (by omega))
          clear hb8 HSM
          go_wp2_with fail
          refine HR2.out.mono ?_
          rintro e w9 ⟨A9, c9, n9, rfl, hn9, _, hb9⟩
          have hle : (n9 : Int) ≤ (if 0 > most then 0 else most) := by
            have h1 := rng_len t f most l
            rw [← hn9] at h1
            split <;> omega
          have hle9 : (n9 : Int) ≤ (if most < 0 then 0 else most) := hle
          obtain ⟨mx, hmx⟩ : ∃ mx, mx = (if most < 0 then 0 else most) := ⟨_, rfl⟩
          have H9 := Lib.hid (H8.out.below I hb9)
          have HR3 := Lib.hid (I.range f f 9 H9.out.t HS.out.1 (by omega) (by omega))
          rw [rng_same] at HR3
          clear hb9 hn9 HR2
          by_cases m0 : most < 0
          · have hle1 : (n9 : Int) ≤ 0 := by rw [if_pos m0] at hle9; exact hle9
            have hld : decide ((n9 : Int) ≤ 0) = true := decide_eq_true hle1
            clear hle hle9 hmx
            go_wp2_with fail
            refine HR3.out.mono ?_
            rintro e w10 ⟨A10, c10, n10, rfl, hn10, _, hb10⟩
            have hn10' : n10 = 0 := hn10
            clear hn10
            subst hn10'
            have H10 := Lib.hid (H9.out.below I hb10)
            clear hb10
            go_wp2_with fail
            go_ret
            exact ⟨rfl, H10.out.low⟩
          · have hle1 : (n9 : Int) ≤ most := by rw [if_neg m0] at hle9; exact hle9
            have hld : decide ((n9 : Int) ≤ most) = true := decide_eq_true hle1
            clear hle hle9 hmx
            go_wp2_with fail
            refine HR3.out.mono ?_
            rintro e w10 ⟨A10, c10, n10, rfl, hn10, _, hb10⟩
            have hn10' : n10 = 0 := hn10
            clear hn10
            subst hn10'
            have H10 := Lib.hid (H9.out.below I hb10)
            clear hb10
            go_wp2_with fail
            go_ret
            exact ⟨rfl, H10.out.low⟩
end Go.Proofs.Ytiaclfldgagalaa
