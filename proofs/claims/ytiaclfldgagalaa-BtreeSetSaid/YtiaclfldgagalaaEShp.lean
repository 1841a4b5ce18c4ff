/-
  shape: a tree's pages are such as there may be.
-/
import Derived.Test.YtiaclfldgagalaaEDeep
import Derived.Deep.DeepCutAuto
namespace Go.Proofs.Ytiaclfldgagalaa
open Go.RowKit Go.Lib

def oL : Option En → List En
  | none => []
  | some e => [e]
/-- a bound, as it is handed on: a slice of none or one -/
structure BdIn (w : World) (A : Option Addr) (n : Nat) (o : Option En) : Prop where
  len : n = (oL o).length
  row : RowG En.vs 3 w w.heap.size A (oL o)
  key : ∀ e, o = some e → e.s.size ≤ 1000
theorem BdIn.none' (w : World) : BdIn w none 0 none := ⟨rfl, ⟨fun h => absurd h (by simp [oL]), fun i hi => absurd hi (by simp [oL])⟩, fun e h => by cases h⟩
theorem BdIn.below {w w' : World} {A : Option Addr} {n : Nat} {o : Option En} (h : BdIn w A n o) (hb : Below w.heap.size w w') : BdIn w' A n o := ⟨h.len, (h.row.below hb (Nat.le_refl _)).more hb.size, h.key⟩
/-- a bound that is there, where it is read -/
theorem BdIn.at_ {w : World} {A : Option Addr} {n : Nat} {e : En} (h : BdIn w A n (some e)) : n = 1 ∧ ∃ ad, A = some ad ∧ w.cell? ad = some (.string e.s) ∧ w.cell? ⟨ad.block, ad.off + 1, none⟩ = some (.int .i64 e.p) ∧ w.cell? ⟨ad.block, ad.off + 2, none⟩ = some (.int .i64 e.k) := by
  obtain ⟨ad, rfl, _, h0, h1, h2⟩ := h.row.en (i := 0) (by simp [oL])
  exact ⟨h.len, ad, rfl, h0, h1, h2⟩
theorem srt_at {l : List En} (h : Srt l) {i : Nat} (hi : i + 1 < l.length) : ordE (l[i]'(by omega)) l[i + 1] < 0 := List.pairwise_iff_getElem.1 h i (i + 1) (by omega) hi (by omega)
/-- keys as far as they have been looked at -/
def KyRel (n : Nat) (w1 : World) (i : Value) (wr : World) : Prop := ∃ j : Nat, j ≤ n ∧ i = .int .i64 j ∧ Below w1.heap.size w1 wr
/-- what shape answers -/
def ShRet (es : List En) (dp : Int) (w : World) (e : Ending) (w' : World) : Prop :=
  ∃ A n c, e = .returned (.tuple #[.slice A n c, .int .i64 dp, .bool true]) ∧ n = es.length ∧ RowG En.vs 3 w' w'.heap.size A es ∧ Below w.heap.size w w'
theorem shp_page {ps : List Tp} {d : Nat} {root : Bool} {lo hi : Option En} {at' : Nat} {es : List En} {sz : Nat} (h : Shp ps d root lo hi at' es sz) : ∃ x, ps[at']? = some x ∧ x.leaf = decide (d = 0) ∧ KeysOk root x.leaf lo hi x.keys ∧ (d = 0 → x.kids = [] ∧ x.keys = es) := by
  cases d with
  | zero =>
    obtain ⟨x, h1, h2, h3, rfl, h5, _⟩ := h
    exact ⟨x, h1, by rw [h2]; rfl, by rw [h2]; exact h5, fun _ => ⟨h3, rfl⟩⟩
  | succ d =>
    obtain ⟨x, _, _, h1, h2, _, _, _, h3, _⟩ := h
    exact ⟨x, h1, by rw [h2]; simp, by rw [h2]; exact h3, fun h => by omega⟩
/-- the comparing of two entries, by its answer -/
theorem order_o {a b : En} {o : Int} (ho : o = ordE a b) (ha : a.s.size ≤ 1000) (hb : b.s.size ≤ 1000) (w : World) :
    Calls Try.prog 23 #[.agg #[.string a.s, .int .i64 a.p, .int .i64 a.k], .agg #[.string b.s, .int .i64 b.p, .int .i64 b.k]] w fun e w' => e = .returned (.int .i64 o) ∧ Below w.heap.size w w' := by
  rw [ho]
  exact refOrderE_any a b w (by omega) (by omega)

theorem BdIn.cases {w : World} {A : Option Addr} {n : Nat} {o : Option En} (h : BdIn w A n o) : (o = none ∧ n = 0) ∨ ∃ e ad, o = some e ∧ n = 1 ∧ e.s.size ≤ 1000 ∧ A = some ad ∧ w.cell? ad = some (.string e.s) ∧ w.cell? ⟨ad.block, ad.off + 1, none⟩ = some (.int .i64 e.p) ∧ w.cell? ⟨ad.block, ad.off + 2, none⟩ = some (.int .i64 e.k) := by
  cases o with
  | none => exact .inl ⟨rfl, h.len⟩
  | some e =>
    obtain ⟨h1, ad, h2, h3⟩ := h.at_
    exact .inr ⟨e, ad, rfl, h1, h.key e rfl, h2, h3⟩

theorem RowG.to_ecs {w : World} {B : Nat} {A : Option Addr} {l : List En} (h : RowG En.vs 3 w B A l) : ∀ ad, A = some ad → ∀ j u, (ecs l)[j]? = some u → w.cell? (ad.add j) = some u := by
  intro ad hA j u hu
  have hj : j < l.length * 3 := by rw [← ecs_len]; exact (List.getElem?_eq_some_iff.1 hu).1
  have hi : j / 3 < l.length := by omega
  obtain ⟨a0, a1, a2⟩ := ecs_at hi
  have get : ∀ r u', (En.vs l[j / 3])[r]? = some u' → w.cell? (ad.add (j / 3 * 3 + r)) = some u' := fun r u' hr => by
    obtain ⟨ad', e, hc⟩ := h.cell (j / 3) hi r u' hr
    obtain rfl : ad = ad' := Option.some.inj (hA.symm.trans e)
    exact hc
  have h3 : j % 3 = 0 ∨ j % 3 = 1 ∨ j % 3 = 2 := by omega
  rcases h3 with h3 | h3 | h3
  · have e : j = j / 3 * 3 := by omega
    rw [e, a0] at hu
    rw [e]
    cases hu
    exact get 0 _ rfl
  · have e : j = j / 3 * 3 + 1 := by omega
    rw [e, a1] at hu
    rw [e]
    cases hu
    exact get 1 _ rfl
  · have e : j = j / 3 * 3 + 2 := by omega
    rw [e, a2] at hu
    rw [e]
    cases hu
    exact get 2 _ rfl
theorem RowG.of_own {w : World} {base : Nat} {A : Option Addr} {n c : Nat} {l : List En} (h : w.ownsRow base 35 3 (.slice A n c) n (ecs l)) (hn : n = l.length) : RowG En.vs 3 w w.heap.size A l := by
  refine ⟨fun h0 => ?_, fun i hi j u hu => ?_⟩
  · obtain ⟨g, cap, hv, _, hgl⟩ := h.form (by omega)
    injection hv with v1 v2 v3
    exact ⟨_, v1, hgl⟩
  · obtain ⟨g, cap, hv, _, hgl⟩ := h.form (by omega)
    injection hv with v1 v2 v3
    subst v1
    have hj : j < 3 := by
      have := (List.getElem?_eq_some_iff.1 hu).1
      simpa [En.vs] using this
    refine ⟨_, rfl, ?_⟩
    have e : (⟨g, 0, none⟩ : Addr).add (i * 3 + j) = ⟨g, i * 3 + j, none⟩ := by
      unfold Addr.add
      split
      · rename_i h0; rw [h0]
      · simp
    rw [e, h.cellAt _ (by first | omega | (rw [ecs_len]; omega))]
    obtain ⟨a0, a1, a2⟩ := ecs_at hi
    match j, hj, hu with
    | 0, _, hu => exact a0.trans hu
    | 1, _, hu => exact a1.trans hu
    | 2, _, hu => exact a2.trans hu
/-- a row that has grown by some -/
theorem OutE.rows {base n m : Nat} {w0 wr w5 : World} {l xs : List En} {A : Option Addr} {c : Nat} {v5 : Value} (hn : n = l.length) (hm : m = xs.length) (hown : wr.ownsRow base 35 3 (.slice A n c) n (ecs l)) (hb : Below base w0 wr) (hs : base ≤ wr.heap.size)
    (hown5 : w5.ownsRow base 35 3 v5 (n + m) (ecs l ++ ecs xs)) (hgr : wr.grownBy w5 (Value.slice A n c).ownBlock) : OutE 35 3 ecs base w0 (l ++ xs) v5 w5 := by
  obtain ⟨A5, c5, rfl, _, _⟩ := own_shapeN hown5
  have hc35 : Chg (fun q => (Value.slice A n c).ownBlock = some q) wr w5 := (Chg.of_below (Below.refl _ wr)).grown hgr (fun q hq _ => hq)
  have s5 := hc35.size
  exact ⟨A5, c5, n + m, rfl, by rw [List.length_append, ← hn, ← hm], by rw [ecs_append]; exact hown5, hb.trans (hc35.below (fun q hq => (hown.lt q hq).1) hs), by omega⟩
/-- the parts of a page that have been told -/
def PtRel (parts : List (List En)) (m : Nat) (dp : Int) (B : Nat) (wl : World) (o dv iv : Value) (ws : World) : Prop :=
  ∃ i : Nat, i ≤ m ∧ iv = .int .i64 i ∧ (∃ dq : Int, dv = .int .i64 dq ∧ (0 < i → dq = dp)) ∧ OutE 35 3 ecs B wl (parts.take i).flatten o ws
theorem take_flat {parts : List (List En)} {i : Nat} (h : i < parts.length) : (parts.take (i + 1)).flatten = (parts.take i).flatten ++ parts[i] := by
  rw [List.take_add_one, List.getElem?_eq_getElem h, List.flatten_append]
  simp
theorem flat_le {parts : List (List En)} {i : Nat} (h : i < parts.length) : ((parts.take i).flatten).length + parts[i].length ≤ parts.flatten.length := by
  have h1 : parts = parts.take (i + 1) ++ parts.drop (i + 1) := (List.take_append_drop _ _).symm
  have h2 : parts.flatten.length = ((parts.take (i + 1)).flatten).length + ((parts.drop (i + 1)).flatten).length := by
    rw [← List.length_append, ← List.flatten_append, List.take_append_drop]
  rw [take_flat h, List.length_append] at h2
  omega
/-- one key as a bound -/
theorem BdIn.key_at {w : World} {ad : Addr} {ks : List En} (h : RowG En.vs 3 w w.heap.size (some ad) ks) {i : Nat} (hi : i < ks.length) (hk : ks[i].s.size ≤ 1000) : BdIn w (some (ad.add (i * 3))) 1 (ks[i]?) := by
  rw [List.getElem?_eq_getElem hi]
  refine ⟨rfl, ⟨fun _ => ⟨_, rfl, ?_⟩, fun j hj t u hu => ?_⟩, fun e he => by cases he; exact hk⟩
  · obtain ⟨ad', e, hlt⟩ := h.lo (by omega)
    obtain rfl := Option.some.inj e
    rw [addr_block]; exact hlt
  · have hj0 : j = 0 := by simp [oL] at hj; omega
    subst hj0
    obtain ⟨ad', e, hc⟩ := h.cell i hi t u (by simpa [oL] using hu)
    obtain rfl := Option.some.inj e
    refine ⟨_, rfl, ?_⟩
    rw [addr_add, Nat.zero_mul, Nat.zero_add]
    exact hc
theorem loOf_zero (lo : Option En) (ks : List En) : loOf lo ks 0 = lo := if_pos rfl
theorem loOf_succ (lo : Option En) (ks : List En) (j : Nat) : loOf lo ks (j + 1) = ks[j]? := by simp [loOf]
theorem hiOf_lt {hi : Option En} {ks : List En} {j : Nat} (h : j < ks.length) : hiOf hi ks j = ks[j]? := if_pos h
theorem hiOf_ge {hi : Option En} {ks : List En} {j : Nat} (h : ¬ j < ks.length) : hiOf hi ks j = hi := if_neg h
theorem BdIn.to {w : World} {A : Option Addr} {n : Nat} {o o' : Option En} (h : BdIn w A n o) (e : o' = o) : BdIn w A n o' := e ▸ h
theorem loOf_is {lo : Option En} {ks : List En} {i : Nat} (h : i = 0) : loOf lo ks i = lo := by rw [h]; exact loOf_zero lo ks
theorem loOf_at {lo : Option En} {ks : List En} {i j : Nat} (h : j + 1 = i) : loOf lo ks i = ks[j]? := by rw [← h]; exact loOf_succ lo ks j
theorem sh_ret {v : Value} {a b : Int} (h : a = b) : Ending.returned (.tuple #[v, .int .i64 a, .bool true]) = .returned (.tuple #[v, .int .i64 b, .bool true]) := by rw [h]
set_option maxRecDepth 100000 in
set_option maxHeartbeats 51200000 in
theorem shape_any (ps : List Tp) (hkey : ∀ x ∈ ps, ∀ e ∈ x.keys, e.s.size ≤ 1000) (hmany : ps.length ≤ 1000) (d : Nat) : ∀ (root : Bool) (lo hi : Option En) (at' : Nat) (es : List En) (sz : Nat) (w : World) (A : Option Addr) (c deep : Nat) (LA HA : Option Addr) (ln lc hn hc : Nat),
    Shp ps d root lo hi at' es sz → es.length ≤ 1000 → (root = true ↔ at' = 0) → deep + d ≤ 40 → PgsIn w A ps → BdIn w LA ln lo → BdIn w HA hn hi →
    Calls Try.prog 21 #[.slice A ps.length c, .int .i64 at', .int .i64 deep, .slice LA ln lc, .slice HA hn hc] w (ShRet es ((deep : Int) + d) w) := by
  induction d using Nat.strongRecOn with
  | ind d ih =>
  intro root lo hi at' es sz w A c deep LA HA ln lc hn hc hsh hesb hroot hdeep hin hlo hhi
  obtain ⟨i0, hinf, hz0, hz1, hz2⟩ := info_parts Try.infoent
  have hmx : Try.prog.follows .mixedOrders = true := by kernel_rfl
  obtain ⟨x, hx, hlf, hk, hleaf⟩ := shp_page hsh
  have hal : at' < ps.length := (List.getElem?_eq_some_iff.1 hx).1
  have hxe : ps[at'] = x := (List.getElem?_eq_some_iff.1 hx).2
  obtain ⟨ad, rfl, hadl, p0, p1, p2⟩ := hin.at_ hal
  rw [hxe] at p0 p1 p2
  have hxin := hin.pg x (List.mem_of_getElem? hx)
  have hxk := hkey x (List.mem_of_getElem? hx)
  obtain ⟨N, hN⟩ : ∃ N, N = ps.length := ⟨_, rfl⟩
  obtain ⟨n, hn'⟩ : ∃ n, n = x.keys.length := ⟨_, rfl⟩
  obtain ⟨m, hm'⟩ : ∃ m, m = x.kids.length := ⟨_, rfl⟩
  rw [← hn'] at p1
  rw [← hm'] at p2
  rw [← hN]
  have hatN : (at' : Int) < (N : Int) := by omega
  have hN1000 : N ≤ 1000 := by omega
  have hn4 : n ≤ 4 := by rw [hn']; exact hk.most
  have hat0 : (0 : Int) ≤ (at' : Int) := Int.natCast_nonneg _
  have hn0 : (0 : Int) ≤ (n : Int) := Int.natCast_nonneg _
  have hdp0 : (0 : Int) ≤ (deep : Int) := Int.natCast_nonneg _
  have hdp : (deep : Int) ≤ 40 := by omega
  obtain ⟨lf, hlf'⟩ : ∃ lf, lf = x.leaf := ⟨_, rfl⟩
  rw [← hlf'] at p0
  obtain ⟨w1, hw1⟩ : ∃ w1, w1 = w.alloc (.cells #[.bool lf, .slice x.KA n x.Kc, .slice x.IA m x.Ic] 50) := ⟨_, rfl⟩
  have hb1 : Below w.heap.size w w1 := by rw [hw1]; exact (Below.refl _ w).alloc (Nat.le_refl _) _
  have s1 : w1.heap.size = w.heap.size + 1 := by rw [hw1]; simp
  have k1 : Blk w1 w.heap.size 50 #[.bool lf, .slice x.KA n x.Kc, .slice x.IA m x.Ic] := by rw [hw1]; exact Blk.new _ _ _
  have H := Lib.hid (And.intro hsh (And.intro hroot (And.intro hdeep (And.intro (hin.below hb1) (And.intro (hlo.below hb1) (And.intro (hhi.below hb1) (And.intro (hxin.below hb1) hxk)))))))
  have HX := Lib.hid (And.intro hx (And.intro hlf (And.intro hk (And.intro hleaf (And.intro hn' (And.intro hm' (And.intro hlf' hN)))))))
  have HW1 := Lib.hid (And.intro hb1 (And.intro k1 hw1))
  have HLO := Lib.hid (And.intro hlo.len hhi.len)
  have KC0 := k1.cell 0
  have KC1 := k1.cell 1
  have KC2 := k1.cell 2
  simp only [List.getElem?_toArray, List.getElem?_cons_zero, List.getElem?_cons_succ] at KC0 KC1 KC2
  have hcz : (at' = 0 ∧ ((at' : Int) != 0) = false ∧ ((at' : Int) == 0) = true ∧ decide ((at' : Int) = 0) = true ∧ (lf = false → ¬ (n : Int) < 1)) ∨ (¬ at' = 0 ∧ ((at' : Int) != 0) = true ∧ ((at' : Int) == 0) = false ∧ decide ((at' : Int) = 0) = false ∧ ¬ (n : Int) < 2) := by
    by_cases h0 : at' = 0
    · exact .inl ⟨h0, by simp [h0], by simp [h0], by simp [h0], fun hb => by have := hk.one (by rw [← hlf']; exact hb); omega⟩
    · refine .inr ⟨h0, by simp [h0], by simp [h0], by simp [h0], ?_⟩
      have : root = false := by cases hr : root with
        | false => rfl
        | true => exact absurd (hroot.1 hr) h0
      have := hk.least this
      omega
  have hcz' : (True ∧ ((at' : Int) != 0) = false ∧ ((at' : Int) == 0) = true ∧ decide ((at' : Int) = 0) = true ∧ (lf = false → ¬ (n : Int) < 1)) ∨ (True ∧ ((at' : Int) != 0) = true ∧ ((at' : Int) == 0) = false ∧ decide ((at' : Int) = 0) = false ∧ ¬ (n : Int) < 2) := by
    rcases hcz with ⟨_, h⟩ | ⟨_, h⟩
    · exact .inl ⟨trivial, h⟩
    · exact .inr ⟨trivial, h⟩
  have g1 : ¬ (4 : Int) < (n : Int) := by omega
  have g1d : decide ((4 : Int) < (n : Int)) = false := decide_eq_false g1
  have a1 : ¬ (at' : Int) < 0 := by omega
  have a1d : decide ((at' : Int) < 0) = false := decide_eq_false a1
  have a2 : ¬ (N : Int) ≤ (at' : Int) := by omega
  have a2d : decide ((N : Int) ≤ (at' : Int)) = false := decide_eq_false a2
  have a3 : ¬ (40 : Int) < (deep : Int) := by omega
  have a3d : decide ((40 : Int) < (deep : Int)) = false := decide_eq_false a3
  clear hsh hroot hdeep hin hlo hhi hxin hxk hx hlf hk hleaf hn' hm' hlf' hN hxe hw1 hb1 k1 hcz hal
  go_enter Try.func21, Try.ntmps21
  have KW1 := KC1
  rw [HW1.out.2.2] at KW1
  go_upto_region 5 with fail
  rw [← HW1.out.2.2]
  clear KW1 p0 p1 p2 a1 a1d a2 a2d a3 a3d
  go_cut [65] (fun v wx => v = .bool false ∧ wx = w1)
  case first =>
    rcases hcz' with ⟨_, z1, z2, z3, z4⟩ | ⟨_, z1, z2, z3, z4⟩
    · cases lf with
      | true =>
        go_wp2_with fail
        go_meet
        case rel => exact ⟨rfl, rfl⟩
      | false =>
        have z5 := z4 rfl
        clear z4
        go_wp2_with fail
        go_meet
        case rel => exact ⟨rfl, rfl⟩
    · go_wp2_with fail
      go_meet
      case rel => exact ⟨rfl, rfl⟩
  case rest =>
    obtain ⟨rfl, hwc⟩ := hcut
    have hwc' := hwc.symm
    clear hwc
    subst hwc'
    clear hcz'
    go_wp2_with fail
    go_loopw [15] (fun i wr => KyRel n w1 i wr) (fun i _ => n - (intOf i).toNat)
    case atStart => exact ⟨0, Nat.zero_le _, rfl, Below.refl _ _⟩
    case round =>
      obtain ⟨j, hj, rfl, hbr⟩ := hrel
      have hj0 : (0 : Int) ≤ (j : Int) := Int.natCast_nonneg _
      have R0 := (hbr.cell (p := ⟨w.heap.size, 0, none⟩) (by show w.heap.size < w1.heap.size; omega)).trans KC0
      have R1 := (hbr.cell (p := ⟨w.heap.size, 1, none⟩) (by show w.heap.size < w1.heap.size; omega)).trans KC1
      have R2 := (hbr.cell (p := ⟨w.heap.size, 2, none⟩) (by show w.heap.size < w1.heap.size; omega)).trans KC2
      have HB := Lib.hid hbr
      clear hbr
      by_cases hlt : j < n
      · have hlt1 : (j : Int) < (n : Int) := by omega
        have HL1 := Lib.hid H.out.2.2.2.2.1.cases
        have HH1 := Lib.hid H.out.2.2.2.2.2.1.cases
        go_upto_region 10 with fail
        go_cut [121] (fun v wx => v = .bool false ∧ Below w1.heap.size w1 wx)
        case first =>
          have hjl : j < x.keys.length := by rw [← HX.out.2.2.2.2.1]; exact hlt
          have HRW := Lib.hid (H.out.2.2.2.2.2.2.1.keys.below HB.out (Nat.le_refl _))
          obtain ⟨adk, hKA, _, b0, b1, b2⟩ := HRW.out.en hjl
          obtain ⟨e, he⟩ : ∃ e, e = x.keys[j] := ⟨_, rfl⟩
          rw [← he] at b0 b1 b2
          rw [hKA] at R1
          have heb : e.s.size ≤ 1000 := by rw [he]; exact H.out.2.2.2.2.2.2.2 _ (List.getElem_mem hjl)
          have hem : e ∈ x.keys := by rw [he]; exact List.getElem_mem hjl
          have HE := Lib.hid (And.intro he hem)
          clear he hem
          have q1 := BelowBy.cell R1
          have qb0 := BelowBy.cell b0
          have qb1 := BelowBy.cell b1
          have qb2 := BelowBy.cell b2
          have HKA := Lib.hid hKA
          clear hKA
          rcases Nat.eq_zero_or_pos j with h0 | h0
          · have hp1 : ¬ (0 : Int) < (j : Int) := by omega
            have hp2 : decide ((0 : Int) < (j : Int)) = false := decide_eq_false hp1
            have hp3 : ¬ 0 < j := by omega
            have hp4 : decide (0 < j) = false := decide_eq_false hp3
            clear h0
            rcases HL1.out with ⟨hl0, rfl⟩ | ⟨lo0, adl, hlo0, rfl, hlob, hLA, l0, l1, l2⟩
            · clear hl0
              rcases HH1.out with ⟨hh0, rfl⟩ | ⟨hi0, adh, hhi0, rfl, hhib, hHA, m0, m1, m2⟩
              · clear hh0
                refine wp_region_below hmx (by kernel_rfl) ?_
                repeat (go_big_quiet_step (fail))
                refine wpQuiet_nil ?_
                intro _ hw'
                obtain ⟨pq, hw''⟩ := hw'
                subst hw''
                have HB3 := Lib.hid (HB.out.trans (pq.h.mono HB.out.size))
                go_wp2
                go_meet
                case rel => exact ⟨rfl, HB3.out⟩
              · obtain ⟨o3, ho3⟩ : ∃ o3, o3 = ordE e hi0 := ⟨_, rfl⟩
                have ho3n : ¬ 0 ≤ o3 := by rw [ho3]; have := HX.out.2.2.1.high _ HE.out.2 _ hhi0; omega
                have ho3d : decide (0 ≤ o3) = false := decide_eq_false ho3n
                have HO3 := Lib.hid (fun w0 => order_o ho3 heb hhib w0)
                have qm0 := BelowBy.cell ((HB.out.cell (World.block_lt_of_cell? _ _ m0)).trans m0)
                have qm1 := BelowBy.cell ((HB.out.cell (World.block_lt_of_cell? _ _ m1)).trans m1)
                have qm2 := BelowBy.cell ((HB.out.cell (World.block_lt_of_cell? _ _ m2)).trans m2)
                subst hHA
                clear ho3 hhi0
                refine wp_region_below hmx (by kernel_rfl) ?_
                repeat (go_big_quiet_step (first | (go_at_call 23; with_reducible exact calls_below (HO3.out _))))
                refine wpQuiet_nil ?_
                intro _ hw'
                obtain ⟨pq, hw''⟩ := hw'
                subst hw''
                have HB3 := Lib.hid (HB.out.trans (pq.h.mono HB.out.size))
                go_wp2
                go_meet
                case rel => exact ⟨rfl, HB3.out⟩
            · obtain ⟨o2, ho2⟩ : ∃ o2, o2 = ordE e lo0 := ⟨_, rfl⟩
              have ho2n : ¬ o2 < 0 := by rw [ho2]; exact HX.out.2.2.1.low _ HE.out.2 _ hlo0
              have ho2d : decide (o2 < 0) = false := decide_eq_false ho2n
              have HO2 := Lib.hid (fun w0 => order_o ho2 heb hlob w0)
              have ql0 := BelowBy.cell ((HB.out.cell (World.block_lt_of_cell? _ _ l0)).trans l0)
              have ql1 := BelowBy.cell ((HB.out.cell (World.block_lt_of_cell? _ _ l1)).trans l1)
              have ql2 := BelowBy.cell ((HB.out.cell (World.block_lt_of_cell? _ _ l2)).trans l2)
              subst hLA
              clear ho2 hlo0
              rcases HH1.out with ⟨hh0, rfl⟩ | ⟨hi0, adh, hhi0, rfl, hhib, hHA, m0, m1, m2⟩
              · clear hh0
                refine wp_region_below hmx (by kernel_rfl) ?_
                repeat (go_big_quiet_step (first | (go_at_call 23; with_reducible exact calls_below (HO2.out _))))
                refine wpQuiet_nil ?_
                intro _ hw'
                obtain ⟨pq, hw''⟩ := hw'
                subst hw''
                have HB3 := Lib.hid (HB.out.trans (pq.h.mono HB.out.size))
                go_wp2
                go_meet
                case rel => exact ⟨rfl, HB3.out⟩
              · obtain ⟨o3, ho3⟩ : ∃ o3, o3 = ordE e hi0 := ⟨_, rfl⟩
                have ho3n : ¬ 0 ≤ o3 := by rw [ho3]; have := HX.out.2.2.1.high _ HE.out.2 _ hhi0; omega
                have ho3d : decide (0 ≤ o3) = false := decide_eq_false ho3n
                have HO3 := Lib.hid (fun w0 => order_o ho3 heb hhib w0)
                have qm0 := BelowBy.cell ((HB.out.cell (World.block_lt_of_cell? _ _ m0)).trans m0)
                have qm1 := BelowBy.cell ((HB.out.cell (World.block_lt_of_cell? _ _ m1)).trans m1)
                have qm2 := BelowBy.cell ((HB.out.cell (World.block_lt_of_cell? _ _ m2)).trans m2)
                subst hHA
                clear ho3 hhi0
                refine wp_region_below hmx (by kernel_rfl) ?_
                repeat (go_big_quiet_step (first | (go_at_call 23; with_reducible exact calls_below (HO2.out _)) | (go_at_call 23; with_reducible exact calls_below (HO3.out _))))
                refine wpQuiet_nil ?_
                intro _ hw'
                obtain ⟨pq, hw''⟩ := hw'
                subst hw''
                have HB3 := Lib.hid (HB.out.trans (pq.h.mono HB.out.size))
                go_wp2
                go_meet
                case rel => exact ⟨rfl, HB3.out⟩
          · have hp1 : (0 : Int) < (j : Int) := by omega
            have hp2 : decide ((0 : Int) < (j : Int)) = true := decide_eq_true hp1
            obtain ⟨jp, hjp⟩ : ∃ jp, jp + 1 = j := ⟨j - 1, by omega⟩
            have hjp1 : (j : Int) - 1 = (jp : Int) := by omega
            have hjp2 : (jp : Int) < (n : Int) := by omega
            have hjp0 : (0 : Int) ≤ (jp : Int) := Int.natCast_nonneg _
            obtain ⟨adk', hKA', _, a0, a1, a2⟩ := HRW.out.en (i := jp) (by omega)
            obtain rfl : adk = adk' := Option.some.inj (HKA.out.symm.trans hKA')
            obtain ⟨e', he'⟩ : ∃ e', e' = x.keys[jp]'(by omega) := ⟨_, rfl⟩
            rw [← he'] at a0 a1 a2
            have heb' : e'.s.size ≤ 1000 := by rw [he']; exact H.out.2.2.2.2.2.2.2 _ (List.getElem_mem _)
            obtain ⟨o1, ho1⟩ : ∃ o1, o1 = ordE e' e := ⟨_, rfl⟩
            have ho1n : o1 < 0 := by
              rw [ho1, he', HE.out.1]
              have := srt_at HX.out.2.2.1.srt (i := jp) (by omega)
              simpa only [hjp] using this
            have ho1g : ¬ (0 : Int) ≤ o1 := by omega
            have ho1d : decide ((0 : Int) ≤ o1) = false := decide_eq_false ho1g
            have HO1 := Lib.hid (fun w0 => order_o ho1 heb' heb w0)
            have qa0 := BelowBy.cell a0
            have qa1 := BelowBy.cell a1
            have qa2 := BelowBy.cell a2
            clear ho1 he' hKA'
            rcases HL1.out with ⟨hl0, rfl⟩ | ⟨lo0, adl, hlo0, rfl, hlob, hLA, l0, l1, l2⟩
            · clear hl0
              rcases HH1.out with ⟨hh0, rfl⟩ | ⟨hi0, adh, hhi0, rfl, hhib, hHA, m0, m1, m2⟩
              · clear hh0
                refine wp_region_below hmx (by kernel_rfl) ?_
                repeat (go_big_quiet_step (first | (go_at_call 23; with_reducible exact calls_below (HO1.out _))))
                refine wpQuiet_nil ?_
                intro _ hw'
                obtain ⟨pq, hw''⟩ := hw'
                subst hw''
                have HB3 := Lib.hid (HB.out.trans (pq.h.mono HB.out.size))
                go_wp2
                go_meet
                case rel => exact ⟨rfl, HB3.out⟩
              · obtain ⟨o3, ho3⟩ : ∃ o3, o3 = ordE e hi0 := ⟨_, rfl⟩
                have ho3n : ¬ 0 ≤ o3 := by rw [ho3]; have := HX.out.2.2.1.high _ HE.out.2 _ hhi0; omega
                have ho3d : decide (0 ≤ o3) = false := decide_eq_false ho3n
                have HO3 := Lib.hid (fun w0 => order_o ho3 heb hhib w0)
                have qm0 := BelowBy.cell ((HB.out.cell (World.block_lt_of_cell? _ _ m0)).trans m0)
                have qm1 := BelowBy.cell ((HB.out.cell (World.block_lt_of_cell? _ _ m1)).trans m1)
                have qm2 := BelowBy.cell ((HB.out.cell (World.block_lt_of_cell? _ _ m2)).trans m2)
                subst hHA
                clear ho3 hhi0
                refine wp_region_below hmx (by kernel_rfl) ?_
                repeat (go_big_quiet_step (first | (go_at_call 23; with_reducible exact calls_below (HO1.out _)) | (go_at_call 23; with_reducible exact calls_below (HO3.out _))))
                refine wpQuiet_nil ?_
                intro _ hw'
                obtain ⟨pq, hw''⟩ := hw'
                subst hw''
                have HB3 := Lib.hid (HB.out.trans (pq.h.mono HB.out.size))
                go_wp2
                go_meet
                case rel => exact ⟨rfl, HB3.out⟩
            · obtain ⟨o2, ho2⟩ : ∃ o2, o2 = ordE e lo0 := ⟨_, rfl⟩
              have ho2n : ¬ o2 < 0 := by rw [ho2]; exact HX.out.2.2.1.low _ HE.out.2 _ hlo0
              have ho2d : decide (o2 < 0) = false := decide_eq_false ho2n
              have HO2 := Lib.hid (fun w0 => order_o ho2 heb hlob w0)
              have ql0 := BelowBy.cell ((HB.out.cell (World.block_lt_of_cell? _ _ l0)).trans l0)
              have ql1 := BelowBy.cell ((HB.out.cell (World.block_lt_of_cell? _ _ l1)).trans l1)
              have ql2 := BelowBy.cell ((HB.out.cell (World.block_lt_of_cell? _ _ l2)).trans l2)
              subst hLA
              clear ho2 hlo0
              rcases HH1.out with ⟨hh0, rfl⟩ | ⟨hi0, adh, hhi0, rfl, hhib, hHA, m0, m1, m2⟩
              · clear hh0
                refine wp_region_below hmx (by kernel_rfl) ?_
                repeat (go_big_quiet_step (first | (go_at_call 23; with_reducible exact calls_below (HO1.out _)) | (go_at_call 23; with_reducible exact calls_below (HO2.out _))))
                refine wpQuiet_nil ?_
                intro _ hw'
                obtain ⟨pq, hw''⟩ := hw'
                subst hw''
                have HB3 := Lib.hid (HB.out.trans (pq.h.mono HB.out.size))
                go_wp2
                go_meet
                case rel => exact ⟨rfl, HB3.out⟩
              · obtain ⟨o3, ho3⟩ : ∃ o3, o3 = ordE e hi0 := ⟨_, rfl⟩
                have ho3n : ¬ 0 ≤ o3 := by rw [ho3]; have := HX.out.2.2.1.high _ HE.out.2 _ hhi0; omega
                have ho3d : decide (0 ≤ o3) = false := decide_eq_false ho3n
                have HO3 := Lib.hid (fun w0 => order_o ho3 heb hhib w0)
                have qm0 := BelowBy.cell ((HB.out.cell (World.block_lt_of_cell? _ _ m0)).trans m0)
                have qm1 := BelowBy.cell ((HB.out.cell (World.block_lt_of_cell? _ _ m1)).trans m1)
                have qm2 := BelowBy.cell ((HB.out.cell (World.block_lt_of_cell? _ _ m2)).trans m2)
                subst hHA
                clear ho3 hhi0
                refine wp_region_below hmx (by kernel_rfl) ?_
                repeat (go_big_quiet_step (first | (go_at_call 23; with_reducible exact calls_below (HO1.out _)) | (go_at_call 23; with_reducible exact calls_below (HO2.out _)) | (go_at_call 23; with_reducible exact calls_below (HO3.out _))))
                refine wpQuiet_nil ?_
                intro _ hw'
                obtain ⟨pq, hw''⟩ := hw'
                subst hw''
                have HB3 := Lib.hid (HB.out.trans (pq.h.mono HB.out.size))
                go_wp2
                go_meet
                case rel => exact ⟨rfl, HB3.out⟩
        case rest =>
          obtain ⟨rfl, hbc⟩ := hcut
          have HF := Lib.hid (show KyRel n w1 (.int .i64 ((j : Int) + 1)) wc from ⟨j + 1, by omega, by go_num, hbc⟩)
          clear hbc
          go_wp2_with fail
          go_roundw
          case rel => exact HF.out
          case measure => simp [intOf]; omega
      · have hlt1 : ¬ (j : Int) < (n : Int) := by omega
        cases lf with
        | true =>
          have hd0 : d = 0 := by
            have h1 := HX.out.2.1
            rw [← HX.out.2.2.2.2.2.2.1] at h1
            exact of_decide_eq_true h1.symm
          obtain ⟨hk0, hke⟩ := HX.out.2.2.2.1 hd0
          have hm0 : m = 0 := by rw [HX.out.2.2.2.2.2.1, hk0]; rfl
          have hRW : RowG En.vs 3 wr wr.heap.size x.KA es := by
            rw [← hke]
            exact (H.out.2.2.2.2.2.2.1.keys.below HB.out (Nat.le_refl _)).more HB.out.size
          have HRET := Lib.hid (show ∀ d' : Nat, ShRet es ((deep : Int) + d) w (.returned (.tuple #[.slice x.KA n x.Kc, .int .i64 deep, .bool true])) (wr.drewN d') from fun d' =>
            ⟨x.KA, n, x.Kc, sh_ret (by rw [hd0]; simp), by rw [HX.out.2.2.2.2.1, hke], (hRW.below (below_dN (Below.refl _ wr) d') (Nat.le_refl _)).more (below_dN (Below.refl wr.heap.size wr) d').size, below_dN (HW1.out.1.trans (HB.out.mono HW1.out.1.size)) d'⟩)
          clear hke hk0 hRW hd0
          subst hm0
          go_wp2_with fail
          go_quiet (fail)
          go_wp2_with fail
          go_ret3
          exact HRET.out _
        | false =>
          have hd0 : d ≠ 0 := by
            intro h0
            have h1 := HX.out.2.1
            rw [← HX.out.2.2.2.2.2.2.1, h0] at h1
            cases h1
          obtain ⟨d', rfl⟩ : ∃ d', d = d' + 1 := ⟨d - 1, by omega⟩
          obtain ⟨x', parts, szs, hx', _, hkl, hpl, hsl, hko, hes, _, hjj⟩ := H.out.1
          obtain rfl : x = x' := Option.some.inj (HX.out.1.symm.trans hx')
          have hmn : m = n + 1 := by rw [HX.out.2.2.2.2.2.1, HX.out.2.2.2.2.1]; exact hkl
          have hmnb : ((m : Int) != (n : Int) + 1) = false := by simp; omega
          have hmnd : decide ((m : Int) = (n : Int) + 1) = true := decide_eq_true (by omega)
          have hm5 : m ≤ 5 := by omega
          have hmn1 : (n : Int) < (m : Int) := by omega
          obtain ⟨wl, hwl⟩ : ∃ wl, wl = wr := ⟨_, rfl⟩
          subst hwl
          have HO0 := Lib.hid (OutE.nil 35 3 ecs rfl wl)
          have HND := Lib.hid (And.intro hkl (And.intro hpl (And.intro hsl (And.intro hes (And.intro hjj (And.intro hmn (hko.one rfl)))))))
          have HIH := Lib.hid (fun root lo hi at' es sz w A c deep LA HA ln lc hn hc => ih d' (by omega) root lo hi at' es sz w A c deep LA HA ln lc hn hc)
          have HXM := Lib.hid (And.intro (List.mem_of_getElem? HX.out.1) (show n = x.keys.length ∧ m = x.kids.length from ⟨HX.out.2.2.2.2.1, HX.out.2.2.2.2.2.1⟩))
          clear hx' hkl hpl hsl hko hes hjj hmn ih hd0
          go_wp2_with fail
          go_loopw [16, 17, 18] (fun o dv iv ws => PtRel parts m ((deep : Int) + 1 + d') wl.heap.size wl o dv iv ws) (fun _ _ iv _ => m - (intOf iv).toNat)
          case atStart => exact ⟨0, Nat.zero_le _, rfl, ⟨0, rfl, fun h => absurd h (Nat.lt_irrefl 0)⟩, HO0.out⟩
          case round =>
            obtain ⟨i, him, rfl, ⟨dq, rfl, hdq⟩, A1, c1, n1, rfl, hn1, hown1, hb1, hs1⟩ := hrel
            have hi0 : (0 : Int) ≤ (i : Int) := Int.natCast_nonneg _
            have swl := HB.out.size
            have S1 := (hb1.cell (p := ⟨w.heap.size, 1, none⟩) (by show w.heap.size < wl.heap.size; omega)).trans R1
            have S2 := (hb1.cell (p := ⟨w.heap.size, 2, none⟩) (by show w.heap.size < wl.heap.size; omega)).trans R2
            have HBS := Lib.hid (HB.out.trans (hb1.mono HB.out.size))
            have HO1 := Lib.hid (And.intro hn1 (And.intro hown1 (And.intro hb1 hs1)))
            have HDQ := Lib.hid hdq
            clear hn1 hown1 hb1 hs1 hdq
            by_cases hin : i ≤ n
            · have hin1 : (i : Int) ≤ (n : Int) := by omega
              have HRW := Lib.hid ((H.out.2.2.2.2.2.2.1.keys.below HBS.out (Nat.le_refl _)).more HBS.out.size)
              have hpl := HND.out.2.2.2.2.2.1
              have hil : i < x.kids.length := by rw [← HXM.out.2.2]; omega
              have hip : i < parts.length := by rw [HND.out.2.1]; exact hil
              have his : i < szs.length := by rw [HND.out.2.2.1]; exact hil
              clear hpl
              have HIN := Lib.hid (And.intro hil (And.intro hip his))
              have hkc := H.out.2.2.2.2.2.2.1.kcap
              rw [← HXM.out.2.1] at hkc
              have hkc1 : (n : Int) ≤ (x.Kc : Int) := by omega
              have hikc : (i : Int) ≤ (x.Kc : Int) := by omega
              have hkcm : x.Kc ≤ maxLen := hkc.2
              unfold maxLen at hkcm
              clear hil hip his hkc
              go_upto_if 146 with fail
              go_cut [19] (fun v wx => wx = wr ∧ ∃ A n c, v = .slice A n c ∧ BdIn wr A n (loOf lo x.keys i))
              case first =>
                rcases Nat.eq_zero_or_pos i with h0 | h0
                · have hp1 : ¬ (0 : Int) < (i : Int) := by omega
                  have hp2 : decide ((0 : Int) < (i : Int)) = false := decide_eq_false hp1
                  have hp3 : ¬ 0 < i := by omega
                  have hp4 : decide (0 < i) = false := decide_eq_false hp3
                  have HBD := Lib.hid (show BdIn wr LA ln (loOf lo x.keys i) from (H.out.2.2.2.2.1.below HBS.out).to (loOf_is h0))
                  clear h0
                  go_wp2_with fail
                  go_meet
                  case rel => exact ⟨rfl, _, _, _, rfl, HBD.out⟩
                · have hp1 : (0 : Int) < (i : Int) := by omega
                  have hp2 : decide ((0 : Int) < (i : Int)) = true := decide_eq_true hp1
                  obtain ⟨ip, hip⟩ : ∃ ip, ip + 1 = i := ⟨i - 1, by omega⟩
                  have hip1 : (i : Int) - 1 = (ip : Int) := by omega
                  have hip0 : (0 : Int) ≤ (ip : Int) := Int.natCast_nonneg _
                  have hip2 : (ip : Int) ≤ (i : Int) := by omega
                  have hip3 : (i : Int) - (ip : Int) = 1 := by omega
                  have hip4 : i - ip = 1 := by omega
                  have hipk : ip < x.keys.length := by rw [← HXM.out.2.1]; omega
                  obtain ⟨adk, hKA, _⟩ := HRW.out.lo (by omega)
                  have HRW2 := HRW.out
                  rw [hKA] at S1 HRW2
                  have HBD := Lib.hid (show BdIn wr (some (adk.add (ip * 3))) 1 (loOf lo x.keys i) from
                    (BdIn.key_at HRW2 hipk (H.out.2.2.2.2.2.2.2 _ (List.getElem_mem hipk))).to (loOf_at hip))
                  have HIP := Lib.hid hip
                  clear hip hipk hKA HRW2 h0
                  go_wp2_with fail
                  go_meet
                  case rel => exact ⟨rfl, _, _, _, rfl, HBD.out⟩
              case rest =>
                obtain ⟨hwx, LA2, ln2, lc2, hv, hbd⟩ := hcut
                have hwx' := hwx.symm
                clear hwx
                subst hwx'
                subst hv
                have HBL := Lib.hid hbd
                clear hbd
                go_upto_if 155 with fail
                go_cut [20] (fun v wx => wx = wr ∧ ∃ A n c, v = .slice A n c ∧ BdIn wr A n (hiOf hi x.keys i))
                case first =>
                  by_cases hine : i < n
                  · have hp1 : (i : Int) < (n : Int) := by omega
                    have hp2 : decide ((i : Int) < (n : Int)) = true := decide_eq_true hp1
                    have hp3 : (i : Int) ≤ (i : Int) + 1 := by omega
                    have hp4 : (i : Int) + 1 ≤ (x.Kc : Int) := by omega
                    have hp5 : (i : Int) + 1 - (i : Int) = 1 := by omega
                    have hik : i < x.keys.length := by rw [← HXM.out.2.1]; exact hine
                    obtain ⟨adk, hKA, _⟩ := HRW.out.lo (by omega)
                    have HRW2 := HRW.out
                    rw [hKA] at S1 HRW2
                    have HBD := Lib.hid (show BdIn wr (some (adk.add (i * 3))) 1 (hiOf hi x.keys i) from
                      (BdIn.key_at HRW2 hik (H.out.2.2.2.2.2.2.2 _ (List.getElem_mem hik))).to (hiOf_lt hik))
                    clear hik hKA HRW2
                    go_wp2_with fail
                    go_meet
                    case rel => exact ⟨rfl, _, _, _, rfl, HBD.out⟩
                  · have hp1 : ¬ (i : Int) < (n : Int) := by omega
                    have hp2 : decide ((i : Int) < (n : Int)) = false := decide_eq_false hp1
                    have HBD := Lib.hid (show BdIn wr HA hn (hiOf hi x.keys i) from (H.out.2.2.2.2.2.1.below HBS.out).to (hiOf_ge (by rw [← HXM.out.2.1]; exact hine)))
                    go_wp2_with fail
                    go_meet
                    case rel => exact ⟨rfl, _, _, _, rfl, HBD.out⟩
                case rest =>
                  obtain ⟨hwx, HA2, hn2, hc2, hv, hbd⟩ := hcut
                  have hwx' := hwx.symm
                  clear hwx
                  subst hwx'
                  subst hv
                  have HBH := Lib.hid hbd
                  clear hbd
                  obtain ⟨adi, hIA, _, q0⟩ := kid_at ((H.out.2.2.2.2.2.2.1.kids.below HBS.out (Nat.le_refl _)).more HBS.out.size) HIN.out.1
                  obtain ⟨kd, hkd⟩ : ∃ kd, kd = x.kids[i]'HIN.out.1 := ⟨_, rfl⟩
                  rw [← hkd] at q0
                  rw [hIA] at S2
                  obtain ⟨hat, hshk⟩ := HND.out.2.2.2.2.1 i HIN.out.1 HIN.out.2.1 HIN.out.2.2
                  rw [← hkd] at hat hshk
                  have hk1 : ¬ (kd : Int) ≤ (at' : Int) := by omega
                  have hk2 : decide ((kd : Int) ≤ (at' : Int)) = false := decide_eq_false hk1
                  have him1 : (i : Int) < (m : Int) := by omega
                  obtain ⟨pt, hpt⟩ : ∃ pt, pt = parts[i]'HIN.out.2.1 := ⟨_, rfl⟩
                  rw [← hpt] at hshk
                  have hfl : ((parts.take i).flatten).length + pt.length ≤ es.length := by
                    rw [hpt, HND.out.2.2.2.1]
                    exact flat_le HIN.out.2.1
                  have hpn : n1 + pt.length ≤ 1000 := by have := HO1.out.1; omega
                  have hdpd : deep + 1 + d' ≤ 40 := by have := H.out.2.2.1; omega
                  have HC := Lib.hid (HIH.out false (loOf lo x.keys i) (hiOf hi x.keys i) kd pt (szs[i]'HIN.out.2.2) wr (some ad) c (deep + 1) LA2 HA2 ln2 lc2 hn2 hc2 hshk (by omega) ⟨fun h => (by cases h), fun h => absurd h (by omega)⟩ hdpd (H.out.2.2.2.1.below HBS.out) HBL.out HBH.out)
                  have hN1 := HX.out.2.2.2.2.2.2.2
                  rw [← hN1, show ((deep + 1 : Nat) : Int) = (deep : Int) + 1 from rfl] at HC
                  have HPT := Lib.hid (And.intro hpt hkd)
                  clear hat hshk hpt hkd hfl hdpd hN1 hIA
                  go_wp2_with fail
                  refine HC.out.mono ?_
                  rintro e w5 ⟨A5, n5, c5, rfl, hn5, hrow5, hb5⟩
                  have H5 := Lib.hid (And.intro hn5 (And.intro hrow5 hb5))
                  have hn5b : n1 + n5 ≤ 1000 := by omega
                  clear hn5 hrow5 hb5 HC
                  go_upto_region 30 with fail
                  go_cut [194] (fun v wx => v = .bool false ∧ wx = w5)
                  case first =>
                    rcases Nat.eq_zero_or_pos i with h0 | h0
                    · have hp1 : ¬ (0 : Int) < (i : Int) := by omega
                      have hp2 : decide ((0 : Int) < (i : Int)) = false := decide_eq_false hp1
                      have hp3 : ¬ 0 < i := by omega
                      have hp4 : decide (0 < i) = false := decide_eq_false hp3
                      clear h0
                      go_wp2_with fail
                      go_meet
                      case rel => exact ⟨rfl, rfl⟩
                    · have hp1 : (0 : Int) < (i : Int) := by omega
                      have hp2 : decide ((0 : Int) < (i : Int)) = true := decide_eq_true hp1
                      have hdqe := HDQ.out h0
                      have hpp : (((deep : Int) + 1 + (d' : Int)) != dq) = false := by rw [hdqe]; simp
                      clear hdqe
                      go_wp2_with fail
                      go_meet
                      case rel => exact ⟨rfl, rfl⟩
                  case rest =>
                    obtain ⟨rfl, hwx⟩ := hcut
                    have hwx' := hwx.symm
                    clear hwx
                    subst hwx'
                    have HO5 := Lib.hid (own_chg HO1.out.2.1 (F := Non) (Chg.of_below H5.out.2.2) (fun _ _ hf => hf))
                    have HB5 := Lib.hid (HO1.out.2.2.1.trans (H5.out.2.2.mono HO1.out.2.2.1.size))
                    have hs5 : wl.heap.size ≤ w5.heap.size := HB5.out.size
                    go_wp2_with (at_builtin; refine wpList_append_rs _ rfl (.tmp 196) (.tmp 197) 28 rfl wl.heap.size 35 i0 (.agg #[.string ⟨#[]⟩, .int .i64 0, .int .i64 0]) 3 32 Try.underlying28 hinf hz0 hz1 hz2 rfl (by decide) _ n1 _ rfl HO5.out A5 n5 c5 (ecs pt) rfl ?sq1 ?sq2 ?sq3 ?sq4 ?sq5 ?sq6 ?sq7 ?_)
                    case sq1 => rw [ecs_len, ← H5.out.1]
                    case sq2 =>
                      intro ha
                      rcases Nat.eq_zero_or_pos n5 with h0 | h0
                      · exact h0
                      · obtain ⟨ad5, e5, _⟩ := H5.out.2.1.lo (by rw [← H5.out.1]; exact h0)
                        rw [ha] at e5
                        cases e5
                    case sq3 => exact H5.out.2.1.to_ecs
                    case sq4 => exact ecs_one _
                    case sq5 => unfold maxLen; omega
                    case sq6 => omega
                    case sq7 => exact hs5
                    intro v6 w6 ho6 hg6
                    have HF := Lib.hid (show PtRel parts m ((deep : Int) + 1 + d') wl.heap.size wl v6 (.int .i64 ((deep : Int) + 1 + d')) (.int .i64 ((i : Int) + 1)) w6 from
                      ⟨i + 1, by omega, by go_num, ⟨_, rfl, fun _ => rfl⟩, by
                        rw [take_flat HIN.out.2.1, ← HPT.out.1]
                        exact OutE.rows HO1.out.1 H5.out.1 HO5.out HB5.out hs5 ho6 hg6⟩)
                    clear ho6 hg6
                    go_wp2_with fail
                    go_roundw
                    case rel => exact HF.out
                    case measure => simp [intOf]; omega
            · have hin1 : ¬ (i : Int) ≤ (n : Int) := by omega
              have hie : i = m := by have := HND.out.2.2.2.2.2.1; omega
              have HRET := Lib.hid (show ShRet es ((deep : Int) + ((d' + 1 : Nat) : Int)) w (.returned (.tuple #[.slice A1 n1 c1, .int .i64 dq, .bool true])) wr from by
                have htk : (parts.take i).flatten = es := by
                  rw [List.take_of_length_le (by rw [hie, HXM.out.2.2, HND.out.2.1]; exact Nat.le_refl _)]
                  exact HND.out.2.2.2.1.symm
                have ho := HO1.out.2.1
                have hn := HO1.out.1
                rw [htk] at ho hn
                exact ⟨A1, n1, c1, sh_ret (by rw [HDQ.out (by omega)]; push_cast; omega), hn, RowG.of_own ho hn, HW1.out.1.trans (HBS.out.mono HW1.out.1.size)⟩)
              clear hie
              go_wp2_with fail
              go_ret3
              exact HRET.out
end Go.Proofs.Ytiaclfldgagalaa
