/-
  A map of places beside a heap.
-/
import Derived.Test.YtdnegfjddpdmhaaDoorHpS
import Derived.Maps.RangeWalk
import Derived.DeepKeys4
namespace Go.Proofs.YtdnegfjddpdmhaaDoor
open Go.RowKit Go.Lib Go.Maps

/-! ### places as keys -/
theorem Tryd.deepRid : Tryd.prog.keyTypeAt 3 32 = true := by kernel_rfl
theorem Tryd.keyRid : Tryd.prog.keyType 32 = true := by kernel_rfl
theorem Tryd.rowRid : (32 : TypeId) < Tryd.prog.types.size := of_decide_eq_true (by kernel_rfl)
theorem Tryd.cellsRid : Tryd.prog.cellsOf 32 = 2 := by kernel_rfl
theorem Tryd.cellsI : Tryd.prog.cellsOf 3 = 1 := by kernel_rfl
theorem Tryd.wideRid : (match Tryd.prog.underlying 32 with | some (.array _ _) | some (.struct _) => true | _ => false) = true := by kernel_rfl
set_option maxRecDepth 100000 in
theorem ridK : Keyed Tryd.prog 32 := Keyed.of_law (deep_law_laid laidOut (m := 3) (by omega) Tryd.rowRid Tryd.deepRid Tryd.wideRid)
def plV (x : Int × Int) : Value := .agg #[.int .i64 x.1, .int .i64 x.2]
theorem plV_inj {x y : Int × Int} (h : plV x = plV y) : x = y := by
  obtain ⟨a, b⟩ := x
  obtain ⟨c, d⟩ := y
  simp [plV] at h
  rw [h.1, h.2]
set_option maxRecDepth 100000 in
theorem lit_int {m : Nat} {c : Value} {L : List Lit} (h : Tryd.prog.keyLits (m + 1) 3 [c] = some L) : ∃ n : Int, c = .int .i64 n := by
  unfold Program.keyLits at h
  rw [Tryd.underlying3] at h
  cases c <;> simp at h
  exact ⟨_, by rw [h.1.1]⟩
set_option maxRecDepth 100000 in
theorem rid_inv (key : Value) (kl : Lit) (h : keyOf Tryd.prog 32 key = some kl) : ∃ x : Int × Int, key = plV x := by
  obtain ⟨xs, L, rfl, h1, _⟩ := keyOf_top Tryd.wideRid h
  unfold Program.keyLits at h1
  rw [Tryd.underlying32] at h1
  simp only at h1
  split at h1
  · rename_i hc
    have h2 := hc.1
    rw [Tryd.cellsRid] at h2
    obtain ⟨l⟩ := xs
    match l, h2 with
    | [c, d], _ =>
      simp [List.mapM_cons, List.mapM_nil, Tryd.cellsI] at h1
      generalize ha : Program.keyLits _ _ _ [c] = U at h1
      generalize hb : Program.keyLits _ _ _ [d] = V at h1
      cases U with
      | none => cases h1
      | some u =>
        cases V with
        | none => cases h1
        | some v =>
          obtain ⟨n1, rfl⟩ := lit_int ha
          obtain ⟨n2, rfl⟩ := lit_int hb
          exact ⟨(n1, n2), rfl⟩
  · cases h1
set_option maxRecDepth 100000 in
theorem rid_key (x : Int × Int) (h1 : (Lit.int .i64 x.1).wf = true) (h2 : (Lit.int .i64 x.2).wf = true) : ∃ kl, keyOf Tryd.prog 32 (plV x) = some kl := by
  have hf : (plV x).formed Tryd.prog 32 = true := by
    unfold plV
    simp [Value.formed, Tryd.underlying32, Tryd.cellsRid]
  have hl : ∃ L, Tryd.prog.keyLits (Tryd.prog.types.size + 1) 32 (plV x).cells.toList = some L := by
    obtain ⟨m, hm⟩ : ∃ m, Tryd.prog.types.size + 1 = m + 2 := by obtain ⟨k, hk⟩ := Nat.exists_eq_add_of_lt Tryd.rowRid; exact ⟨32 + k, by rw [hk]⟩
    rw [hm]
    unfold Program.keyLits
    rw [Tryd.underlying32]
    simp only
    rw [if_pos (by rw [Tryd.cellsRid]; exact ⟨rfl, by kernel_rfl⟩)]
    have e1 : Tryd.prog.keyLits (m + 1) 3 [.int .i64 x.1] = some [.int .i64 x.1] := by
      unfold Program.keyLits
      rw [Tryd.underlying3]
      simp [h1]
    have e2 : Tryd.prog.keyLits (m + 1) 3 [.int .i64 x.2] = some [.int .i64 x.2] := by
      unfold Program.keyLits
      rw [Tryd.underlying3]
      simp [h2]
    simp [List.mapM_cons, List.mapM_nil, Tryd.cellsI, plV, Value.cells, e1, e2]
  obtain ⟨L, hL⟩ := hl
  obtain ⟨fs, hu⟩ : ∃ fs, Tryd.prog.underlying 32 = some (.struct fs) := ⟨_, Tryd.underlying32⟩
  refine ⟨.string (keyBytes L), ?_⟩
  unfold keyOf
  rw [hu]
  simp only
  rw [Tryd.keyRid, hf, hL]
  rfl
/-- one key, one place -/
theorem rid_one {x y : Int × Int} {kl : Lit} (h1 : keyOf Tryd.prog 32 (plV x) = some kl) (h2 : keyOf Tryd.prog 32 (plV y) = some kl) : x = y := plV_inj (ridK.inj h1 h2)
theorem rid_lit {x : Int × Int} {kl : Lit} (h : keyOf Tryd.prog 32 (plV x) = some kl) : WideAt.IsKeyLit kl := ridK.key h

/-! ### how many rows a heap has -/
def tk (s : List Slot) (i : Nat) : Bool := ((s[i]?).getD none).isSome
theorem count_one {f g : Nat → Bool} {k : Nat} (hf : f k = false) (hg : g k = true) (ho : ∀ i, i ≠ k → g i = f i) : ∀ N, ((List.range N).filter g).length = ((List.range N).filter f).length + (if k < N then 1 else 0) := by
  intro N
  induction N with
  | zero => simp
  | succ N ih =>
    rw [List.range_succ, List.filter_append, List.filter_append, List.length_append, List.length_append, ih]
    by_cases hk : N = k
    · subst hk
      simp [hf, hg]
    · rw [show List.filter g [N] = List.filter f [N] by simp [List.filter_cons, ho N hk]]
      by_cases h1 : k < N
      · rw [if_pos h1, if_pos (by omega)]; omega
      · rw [if_neg h1, if_neg (by omega)]; omega
theorem slotsN_len (s : List Slot) (N : Nat) : (slotsN s N).length = ((List.range N).filter (tk s)).length := by
  simp only [slotsN, List.length_map]
  rfl
theorem cnt_more (s : List Slot) (N : Nat) (h : s.length ≤ N) : ((List.range N).filter (tk s)).length = (slotsN s s.length).length := by
  rw [slotsN_len]
  induction N with
  | zero => rw [show s.length = 0 by omega]
  | succ N ih =>
    rcases Nat.lt_or_ge N s.length with h1 | h1
    · rw [show s.length = N + 1 by omega]
    · rw [List.range_succ, List.filter_append, List.length_append, ih h1]
      have : tk s N = false := by simp [tk, List.getElem?_eq_none h1]
      simp [this]
/-- a free slot that is put counts one more -/
theorem cnt_put {s : List Slot} {k : Nat} {b : List Int} (hf : (s[k]?).getD none = none) : (slotsN (setP s k (some b)) (setP s k (some b)).length).length = (slotsN s s.length).length + 1 := by
  have h1 := cnt_more s (max s.length (k + 1)) (by omega)
  rw [slotsN_len, set_len, ← h1]
  have h2 := count_one (f := tk s) (g := tk (setP s k (some b))) (k := k) (by simp [tk, hf]) (by simp [tk, set_at]) (fun i hi => by unfold tk; rw [set_far _ _ _ _ hi]) (max s.length (k + 1))
  rw [h2, if_pos (by omega)]
theorem up_put {ps : Pgs} {q : Nat} {s : List Slot} (h : (slotsN s s.length).length = (slotsN (pgAt ps q) (pgAt ps q).length).length + 1) : ∀ N, (upH (setH ps q s) N).length = (upH ps N).length + (if q < N then 1 else 0) := by
  intro N
  induction N with
  | zero => simp [upH]
  | succ N ih =>
    rw [upH_succ, upH_succ, List.length_append, List.length_append, ih, List.length_map, List.length_map]
    by_cases hq : N = q
    · subst hq
      rw [pgAt_set, h]
      simp
      omega
    · rw [pgAt_far _ _ _ hq]
      by_cases h1 : q < N
      · rw [if_pos h1, if_pos (by omega)]; omega
      · rw [if_neg h1, if_neg (by omega)]; omega
theorem up_more (ps : Pgs) : ∀ N, ps.length ≤ N → (upH ps N).length = (allH ps).length := by
  intro N
  induction N with
  | zero => intro h; rw [List.length_eq_zero_iff.1 (Nat.le_zero.1 h)]; rfl
  | succ N ih =>
    intro h
    rcases Nat.lt_or_ge N ps.length with h1 | h1
    · rw [show allH ps = upH ps (N + 1) by rw [show N + 1 = ps.length by omega]; rfl]
    · rw [upH_succ, List.length_append, ih h1, pgAt_ge h1]
      simp [slotsN]
theorem add_free {ps : Pgs} {b : List Int} (h : addE ps b = 0) : ((pgAt ps (fitH b ps))[ffP (pgAt ps (fitH b ps))]?).getD none = none := ff_free _
theorem all_add {ps : Pgs} {b : List Int} (h : addE ps b = 0) : (allH (addN ps b)).length = (allH ps).length + 1 := by
  obtain ⟨_, _, _, _, e⟩ := add_done h
  rw [e]
  have h1 := up_put (ps := ps) (q := fitH b ps) (cnt_put (b := b) (ff_free (pgAt ps (fitH b ps)))) (max ps.length (fitH b ps + 1))
  rw [if_pos (by omega), up_more ps _ (by omega), up_more _ _ (by rw [setH_len]; omega)] at h1
  exact h1
/-- what stands at a place -/
theorem getH_eq (ps : Pgs) (p k : Int) : getH ps p k = if 0 ≤ p ∧ 0 ≤ k then ((pgAt ps p.toNat)[k.toNat]?).getD none else none := by
  by_cases h0 : 0 ≤ p ∧ 0 ≤ k
  · rw [if_pos h0]
    obtain ⟨⟨q, rfl⟩, ⟨j, rfl⟩⟩ := (⟨Int.eq_ofNat_of_zero_le h0.1, Int.eq_ofNat_of_zero_le h0.2⟩ : (∃ q : Nat, p = q) ∧ ∃ j : Nat, k = j)
    rw [Int.toNat_natCast, Int.toNat_natCast]
    cases hh : ((pgAt ps q)[j]?).getD none with
    | some b =>
      refine getH_is ?_ hh
      rcases Nat.lt_or_ge q ps.length with h1 | h1
      · exact h1
      · rw [pgAt_ge h1] at hh; cases hh
    | none =>
      unfold getH
      split
      · rw [Int.toNat_natCast]
        have h9 : takenP (pgAt ps q) (j : Int) = false := by rw [taken_is, hh]; rfl
        simp only [getP]
        rw [if_neg (by rw [h9]; decide)]
      · rfl
  · rw [if_neg h0]
    unfold getH
    split
    · simp only [getP]
      have : takenP (pgAt ps p.toNat) k = false := by
        unfold takenP
        rw [show decide (0 ≤ k) = false by simp; omega]
        rfl
      rw [if_neg (by rw [this]; decide)]
    · rfl
theorem add_get {ps : Pgs} {b : List Int} (h : addE ps b = 0) (p k : Int) : getH (addN ps b) p k = if (p, k) = (addPg ps b, addSl ps b) then some b else getH ps p k := by
  by_cases hx : (p, k) = (addPg ps b, addSl ps b)
  · rw [if_pos hx]
    injection hx with h1 h2
    rw [h1, h2]
    exact add_got h
  · rw [if_neg hx]
    obtain ⟨_, _, e1, e2, e⟩ := add_done h
    rw [e, getH_eq, getH_eq]
    split
    · rename_i h0
      by_cases hq : p.toNat = fitH b ps
      · rw [hq, pgAt_set, set_far]
        intro hk
        apply hx
        rw [e1, e2, ← hk, ← hq]
        simp
        omega
      · rw [pgAt_far _ _ _ hq]
    · rfl
theorem add_none {ps : Pgs} {b : List Int} (h : addE ps b = 0) : getH ps (addPg ps b) (addSl ps b) = none := by
  obtain ⟨_, _, e1, e2, _⟩ := add_done h
  rw [e1, e2, getH_eq, if_pos (by omega), Int.toNat_natCast, Int.toNat_natCast]
  exact ff_free _

/-! ### the map of places -/
abbrev KeyR (x : Int × Int) (kl : Lit) : Prop := keyOf Tryd.prog 32 (plV x) = some kl
/-- the map has just the heap's rows, each by the number of its bytes -/
structure KD (D : DataW Value) (ps : Pgs) (ls : List (List Int)) (m : Nat) : Prop where
  has : ∀ x kl, KeyR x kl → Maps.has D kl = (getH ps x.1 x.2).isSome
  at_ : ∀ x kl, KeyR x kl → Maps.has D kl = true → ∃ i : Nat, i < m ∧ (∀ z, D.atKey kl z = .lit (.int .i64 i)) ∧ ∃ l, ls[i]? = some l ∧ getH ps x.1 x.2 = some l
  size : Maps.size D = (allH ps).length
theorem KD.nil (ls : List (List Int)) : KD (.map []) [] ls 0 :=
  ⟨fun x kl _ => by rw [getH_eq]; simp [Maps.has, pgAt], fun x kl _ h => by simp [Maps.has] at h, rfl⟩
section
variable {D : DataW Value} {ps : Pgs} {ls : List (List Int)} {m : Nat} {b : List Int} {kl : Lit}
theorem KD.free (h : KD D ps ls m) (ha : addE ps b = 0) (hk : KeyR (addPg ps b, addSl ps b) kl) : Maps.has D kl = false := by
  rw [h.has _ _ hk, add_none ha]; rfl
theorem KD.more (h : KD D ps ls m) : KD D ps ls (m + 1) := ⟨h.has, fun x kl hx hh => by obtain ⟨i, hi, h1⟩ := h.at_ x kl hx hh; exact ⟨i, by omega, h1⟩, h.size⟩
theorem KD.put (h : KD D ps ls m) (hT : Tidy D) (ha : addE ps b = 0) (hk : KeyR (addPg ps b, addSl ps b) kl) (hl : ls[m]? = some b) : KD (D.put kl (.lit (.int .i64 m))) (addN ps b) ls (m + 1) := by
  have hlit := rid_lit hk
  refine ⟨fun x kx hx => ?_, fun x kx hx hh => ?_, ?_⟩
  · rw [add_get ha]
    by_cases hxe : x = (addPg ps b, addSl ps b)
    · rw [if_pos hxe]
      subst hxe
      have e : kx = kl := Option.some.inj (hx.symm.trans hk)
      rw [e, has_put_same hT.isMap hlit]
      rfl
    · rw [if_neg hxe, has_put_other (fun e => hxe (rid_one hx (by rw [e]; exact hk)))]
      exact h.has x kx hx
  · by_cases hxe : x = (addPg ps b, addSl ps b)
    · subst hxe
      have e : kx = kl := Option.some.inj (hx.symm.trans hk)
      refine ⟨m, by omega, fun z => by rw [e]; exact atKey_put_same hT.isMap hlit _ _, b, hl, ?_⟩
      rw [add_get ha, if_pos rfl]
    · have hne : kx ≠ kl := fun e => hxe (rid_one hx (by rw [e]; exact hk))
      rw [has_put_other hne] at hh
      obtain ⟨i, hi, h1, l, h2, h3⟩ := h.at_ x kx hx hh
      refine ⟨i, by omega, fun z => by rw [atKey_put_other hne]; exact h1 z, l, h2, ?_⟩
      rw [add_get ha, if_neg hxe]
      exact h3
  · rw [size_put hT, h.free ha hk, all_add ha, h.size]
    rfl
theorem KD.cut (h : KD D ps ls m) (hT : Tidy D) (ha : addE ps b = 0) (hk : KeyR (addPg ps b, addSl ps b) kl) (d : DataW Value) : KD ((D.put kl d).del kl) ps ls (m + 1) := by
  have hlit := rid_lit hk
  have hfr := h.free ha hk
  have hT2 : Tidy (D.put kl d) := hT.put hlit d
  refine ⟨fun x kx hx => ?_, fun x kx hx hh => ?_, ?_⟩
  · by_cases e : kx = kl
    · subst e
      rw [has_del_same, ← h.has x kx hx, hfr]
    · rw [has_del_other e, has_put_other e]
      exact h.has x kx hx
  · by_cases e : kx = kl
    · subst e
      rw [has_del_same] at hh
      cases hh
    · rw [has_del_other e, has_put_other e] at hh
      obtain ⟨i, hi, h1, h2⟩ := h.at_ x kx hx hh
      exact ⟨i, by omega, fun z => by rw [atKey_del_other e, atKey_put_other e]; exact h1 z, h2⟩
  · have h1 := size_del (k := kl) hT2
    rw [has_put_same hT.isMap hlit, size_put hT, hfr] at h1
    simp at h1
    rw [h1, h.size]
end

theorem chg_ranges {P : Program} {k : TypeId} {R : Value → Option (DataW Value × List MemPlace)} {w w' : World} {F : Nat → Prop} {b r n cnt : Nat} {D : DataW Value} {left : Lit → Bool} (h : w.ranges P k R b r n D left cnt) (hc : Below w.heap.size w w') : w'.ranges P k R b r n D left cnt :=
  h.kept (row := none) ⟨hc.os, hc.tape, hc.output, hc.size, fun i hi _ => hc.block i hi⟩ (by simp) (by simp)
theorem chg_map {P : Program} {k : TypeId} {R : Value → Option (DataW Value × List MemPlace)} {w w' : World} {F : Nat → Prop} {b n : Nat} {D : DataW Value} (h : w.ownsMap P k R b n D) (hc : Chg F w w') (hb : ¬ F b) : w'.ownsMap P k R b n D := by
  have hlt := h.lt
  obtain ⟨es, clock, hb', rest⟩ := h
  exact ⟨es, clock, (hc.block b hlt hb).trans hb', rest⟩
theorem HS.chgT {w0 w w' : World} {D F : Nat → Prop} {hb : Nat} {ps : Pgs} (h : HS w0 D w hb ps) (hc : Chg F w w') (hd : ∀ k, D k → ¬ F k) (hl : ∀ k, F k → w0.heap.size ≤ k) : HS w0 D w' hb ps :=
  ⟨h.hp.chg hc hd, h.ok, h.low.trans (hc.below hl h.low.size)⟩
theorem zero_int (w : World) : (zeroValue 3).run Tryd.prog w = .ok (.int .i64 0) w := by kernel_rfl
noncomputable abbrev RI : Value → Option (DataW Value × List MemPlace) := plainElem Tryd.prog 3
abbrev OwnM (w : World) (b n : Nat) (D : DataW Value) : Prop := w.ownsMap Tryd.prog 32 RI b n D
section
variable (w : World) {ops : Array Oper} {rest : List Oper} {o : Oper} {a : Act} {Q : Exit → Act → World → Prop}
/-- a look-up of a place that has no row -/
theorem at_lookup_free (hg : o.guard = none) (m x : Operand) (hop : o.op = Op.lookup 54 m x true) (b n : Nat) (D : DataW Value) (hm : a.eval m = .map (some b)) (hown : OwnM w b n D) (p q : Int) (kl : Lit)
    (hx : a.eval x = .agg #[.int .i64 p, .int .i64 q]) (hkey : KeyR (p, q) kl) (hfree : Maps.has D kl = false)
    (hK : wpList Tryd.prog ops Q rest (a.put o.dst (.tuple #[.int .i64 0, .bool false])) w) : wpList Tryd.prog ops Q (o :: rest) a w := by
  refine wpList_lookup_own_ok_int w hg m x _ hop 32 3 .i64 ridK Tryd.underlying54 Tryd.underlying3 (zero_int w) b n D hm hown _ kl hx hkey ?_
  intro c hat _
  rw [atKey_of_not_has hfree] at hat
  injection hat with hat
  injection hat with _ hat
  rw [← hat, hfree]
  exact hK
theorem wf_nat {i : Nat} (h : i ≤ 4611686018427387904) : (Lit.int .i64 (i : Int)).wf = true := by
  have h1 : IntKind.i64.min ≤ (i : Int) := Int.le_trans (by decide) (Int.natCast_nonneg i)
  have h2 : (i : Int) ≤ IntKind.i64.max := Int.le_trans (b := 4611686018427387904) (by omega) (by decide)
  show (decide (IntKind.i64.min ≤ (i : Int)) && decide ((i : Int) ≤ IntKind.i64.max)) = true
  rw [decide_eq_true h1, decide_eq_true h2]
  rfl
/-- a number stored at a place -/
theorem at_store (hg : o.guard = none) (m x v : Operand) (hop : o.op = Op.mapUpdate 54 m x v) (b n : Nat) (D : DataW Value) (hm : a.eval m = .map (some b)) (hown : OwnM w b n D) (hn : n < maxLen) (p q : Int) (kl : Lit)
    (hx : a.eval x = .agg #[.int .i64 p, .int .i64 q]) (hkey : KeyR (p, q) kl) (i : Nat) (hi : i ≤ 4611686018427387904) (hv : a.eval v = .int .i64 i)
    (hK : ∀ w', OwnM w' b (n + 1) (D.put kl (.lit (.int .i64 i))) → w.grownBy w' (some b) → wpList Tryd.prog ops Q rest (a.put o.dst undef) w') : wpList Tryd.prog ops Q (o :: rest) a w :=
  wpList_mapUpdate_own w hg m x v _ hop 32 3 ridK Tryd.underlying54 RI b n D hm hown hn _ _ kl hx hv hkey _ [] (plainElem_int Tryd.underlying3 (wf_nat hi)) hK
theorem at_strike (hg : o.guard = none) (m x : Operand) (hop : o.op = Op.call { callee := Callee.builtin Builtin.delete, args := #[m, x], argTypes := #[54, 32] }) (b n : Nat) (D : DataW Value) (hm : a.eval m = .map (some b)) (hown : OwnM w b n D) (p q : Int) (kl : Lit)
    (hx : a.eval x = .agg #[.int .i64 p, .int .i64 q]) (hkey : KeyR (p, q) kl)
    (hK : ∀ w', OwnM w' b n (D.del kl) → w.grownBy w' (some b) → wpList Tryd.prog ops Q rest (a.put o.dst (.tuple #[])) w') : wpList Tryd.prog ops Q (o :: rest) a w :=
  wpList_delete_own w hg m x _ _ hop 3 ridK Tryd.underlying54 RI b n D hm hown _ kl hx hkey fun w' h1 h2 => hK w' h1 h2.grown
/-- a step over the places -/
theorem at_place (hg : o.guard = none) (it : Operand) (hop : o.op = Op.next it false) (b r n : Nat) (D : DataW Value) (left : Lit → Bool) (cnt : Nat) (ps : Pgs) (ls : List (List Int)) (m : Nat) (hkd : KD D ps ls m) (hll : ∀ kl, left kl = true → Maps.has D kl = true)
    (hit : a.eval it = .pointer (some ⟨r, 0, none⟩)) (h : w.ranges Tryd.prog 32 RI b r n D left cnt)
    (hDone : wpList Tryd.prog ops Q rest (a.put o.dst (.tuple #[.bool false])) w)
    (hMore : ∀ (p q : Int) (i : Nat) (l : List Int) (w' : World) (left' : Lit → Bool) (cnt' : Nat), i < m → ls[i]? = some l → getH ps p q = some l → w'.ranges Tryd.prog 32 RI b r n D left' cnt' → (∀ kl, left' kl = true → Maps.has D kl = true) → cnt' < cnt →
      w.grownBy w' (some r) → w'.heap.size = w.heap.size → (Instr.entry (.pointer (some ⟨r, 0, none⟩))).run Tryd.prog w' = .ok (.tuple #[.agg #[.int .i64 p, .int .i64 q], .int .i64 i]) w' → wpList Tryd.prog ops Q rest (a.put o.dst (.tuple #[.bool true, .agg #[.int .i64 p, .int .i64 q], .int .i64 i])) w') :
    wpList Tryd.prog ops Q (o :: rest) a w := by
  refine wpList_next_ranges w hg it hop 32 ridK RI plV (Value.int .i64) rid_inv (fun v y hv => by obtain ⟨c, rfl, _⟩ := plainElem_int_inv Tryd.underlying3 hv; exact ⟨c, rfl⟩) b r n D left cnt hit h (fun _ _ => hDone) ?_
  intro x c kl y w' cnt' hkey hlk hv hat hrg hlt hgr hsz hen
  obtain ⟨c', ec, hy, _⟩ := plainElem_int_inv Tryd.underlying3 hv
  cases ec
  obtain ⟨i, hi, h1, l, h2, h3⟩ := hkd.at_ x kl hkey (hll kl hlk)
  have e : (DataW.lit (.int .i64 (i : Int)) : DataW Value) = .lit (.int .i64 c) := by rw [← h1 .nil, hat .nil, hy]
  injection e with e
  injection e with _ e
  subst e
  exact hMore x.1 x.2 i l w' _ cnt' hi h2 h3 hrg (fun kz hz => hll kz (by simp at hz; exact hz.1)) hlt hgr hsz hen
end
end Go.Proofs.YtdnegfjddpdmhaaDoor
