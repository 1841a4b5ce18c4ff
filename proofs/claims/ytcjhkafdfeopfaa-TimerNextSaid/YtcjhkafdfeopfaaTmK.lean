/-
  Timers beside a map that tells of each id.
-/
import Derived.Test.YtcjhkafdfeopfaaTmC
import Derived.Maps.RangeWalk
namespace Go.Proofs.Ytcjhkafdfeopfaa
open Go.RowKit Go.Lib Go.Maps

theorem intK : Keyed Try.prog 3 := int_keyed Try.underlying3
abbrev kI (id : Int) : Lit := .int .i64 id
theorem NumI.wf {x : Int} (h : NumI x) : (Lit.int .i64 x).wf = true := by
  have h1 : IntKind.i64.min ≤ x := h.1
  have h2 : x ≤ IntKind.i64.max := h.2
  show (decide (IntKind.i64.min ≤ x) && decide (x ≤ IntKind.i64.max)) = true
  rw [decide_eq_true h1, decide_eq_true h2]
  rfl
theorem NumI.key {x : Int} (h : NumI x) : keyOf Try.prog 3 (.int .i64 x) = some (kI x) := keyOf_int_mk Try.underlying3 h.wf
theorem kI_inj {a b : Int} (h : kI a = kI b) : a = b := by injection h
theorem isKI (a : Int) : WideAt.IsKeyLit (kI a) := trivial
theorem atO_drop {l : List On} (h : OkO l) (id id' : Int) : atO id' (dropO id l) = if id' = id then none else atO id' l := by
  apply Option.ext
  intro t
  rw [atO_some (h.drop id).uni, mem_dropO h.uni]
  split
  · rename_i e
    simp [e]
  · rename_i e
    rw [atO_some h.uni]
    simp [e]
theorem atO_set {l : List On} (h : OkO l) (x : On) (id' : Int) : atO id' (setO x l) = if id' = x.i then some x.t else atO id' l := by
  apply Option.ext
  intro t
  rw [atO_some (h.set x).uni, mem_setO h]
  split
  · rename_i e
    constructor
    · rintro (h1 | h1)
      · exact absurd e h1.2
      · rw [← h1]
    · intro h1
      obtain rfl := Option.some.inj h1
      refine .inr ?_
      rw [e]
  · rename_i e
    rw [atO_some h.uni]
    constructor
    · rintro (h1 | h1)
      · exact h1.1
      · exact absurd (by rw [← h1]) e
    · intro h1
      exact .inl ⟨h1, e⟩
/-- the map tells of each id whether it is there, and f of its time -/
structure KD (f : Int → Lit) (D : DataW Value) (l : List On) : Prop where
  has : ∀ id, Maps.has D (kI id) = (atO id l).isSome
  at_ : ∀ id t, atO id l = some t → ∀ z, D.atKey (kI id) z = .lit (f t)
  size : Maps.size D = l.length
theorem KD.nil (f : Int → Lit) : KD f (.map []) [] := ⟨fun id => by simp [Maps.has, atO], fun id t h => (by cases h), by simp [Maps.size]⟩
theorem KD.set {f : Int → Lit} {D : DataW Value} {l : List On} (h : KD f D l) (ho : OkO l) (hT : Tidy D) (x : On) : KD f (D.put (kI x.i) (.lit (f x.t))) (setO x l) := by
  refine ⟨fun id => ?_, fun id t ht z => ?_, ?_⟩
  · rw [atO_set ho]
    by_cases e : id = x.i
    · rw [if_pos e, e, has_put_same hT.isMap (isKI _)]; rfl
    · rw [if_neg e, has_put_other (fun h1 => e (kI_inj h1)), h.has]
  · rw [atO_set ho] at ht
    by_cases e : id = x.i
    · rw [if_pos e] at ht
      obtain rfl := Option.some.inj ht
      rw [e, atKey_put_same hT.isMap (isKI _)]
    · rw [if_neg e] at ht
      rw [atKey_put_other (fun h1 => e (kI_inj h1)), h.at_ id t ht]
  · rw [size_put hT, h.has, h.size]
    have h1 := insO_len x (dropO x.i l)
    have h2 := dropO_len x.i l
    unfold setO
    rw [h1, h2]
    cases hb : (atO x.i l).isSome with
    | false => simp
    | true =>
      have : 0 < l.length := by
        cases l with
        | nil => simp [atO] at hb
        | cons a r => simp
      simp
      omega
theorem KD.drop {f : Int → Lit} {D : DataW Value} {l : List On} (h : KD f D l) (ho : OkO l) (hT : Tidy D) (id : Int) : KD f (D.del (kI id)) (dropO id l) := by
  refine ⟨fun id' => ?_, fun id' t ht z => ?_, ?_⟩
  · rw [atO_drop ho]
    by_cases e : id' = id
    · rw [if_pos e, e, has_del_same]; rfl
    · rw [if_neg e, has_del_other (fun h1 => e (kI_inj h1)), h.has]
  · rw [atO_drop ho] at ht
    by_cases e : id' = id
    · rw [if_pos e] at ht; cases ht
    · rw [if_neg e] at ht
      rw [atKey_del_other (fun h1 => e (kI_inj h1)), h.at_ id' t ht]
  · have h1 := size_del (k := kI id) hT
    have h2 := dropO_len id l
    rw [h.has, h.size] at h1
    rw [h2]
    cases hb : (atO id l).isSome with
    | false => rw [hb] at h1; simpa using h1
    | true => rw [hb] at h1; simp at h1 ⊢; omega
theorem chg_map {P : Program} {k : TypeId} {R : Value → Option (DataW Value × List MemPlace)} {w w' : World} {F : Nat → Prop} {b n : Nat} {D : DataW Value} (h : w.ownsMap P k R b n D) (hc : Chg F w w') (hb : ¬ F b) : w'.ownsMap P k R b n D := by
  have hlt := h.lt
  obtain ⟨es, clock, hb', rest⟩ := h
  exact ⟨es, clock, (hc.block b hlt hb).trans hb', rest⟩
noncomputable abbrev RE (e : TypeId) : Value → Option (DataW Value × List MemPlace) := plainElem Try.prog e
abbrev OwnI (e : TypeId) (w : World) (b n : Nat) (D : DataW Value) : Prop := w.ownsMap Try.prog 3 (RE e) b n D
/-- the program's timers, and the map beside them -/
structure Tm (T : TmP) (e : TypeId) (w0 w : World) (tb : Nat) (D : Nat → Prop) (l : List On) (mb n : Nat) (Dm : DataW Value) : Prop where
  q : Tn T w0 w tb D l
  map : OwnI e w mb n Dm
  md : ¬ D mb
  mlo : w0.heap.size ≤ mb
section
variable {T : TmP} (I : Impl T) {e : TypeId} {w0 w w' : World} {tb mb n n' : Nat} {D : Nat → Prop} {l l' : List On} {Dm Dm' : DataW Value}
include I
theorem Tm.below (h : Tm T e w0 w tb D l mb n Dm) (hb : Below w.heap.size w w') : Tm T e w0 w' tb D l mb n Dm := ⟨h.q.below I hb, chg_map h.map (F := Non) (Chg.of_below hb) id, h.md, h.mlo⟩
theorem Tm.drew (h : Tm T e w0 w tb D l mb n Dm) : Tm T e w0 w.drew tb D l mb n Dm := h.below I ⟨rfl, rfl, rfl, Nat.le_refl _, fun _ _ => rfl⟩
theorem Tm.step (h : Tm T e w0 w tb D l mb n Dm) (ht : T w0.heap.size (Ext D w w') w' tb l') (hc : Chg D w w') : Tm T e w0 w' tb (Ext D w w') l' mb n Dm :=
  ⟨h.q.step I ht hc, chg_map h.map hc h.md, fun hk => hk.elim h.md fun hf => (by have := h.map.lt; omega), h.mlo⟩
theorem Tm.tell (h : Tm T e w0 w tb D l mb n Dm) (hm : OwnI e w' mb n' Dm') (hg : w.grownBy w' (some mb)) : Tm T e w0 w' tb D l mb n' Dm' := by
  have hc : Chg (fun j => j = mb) w w' := (Chg.refl _ w).grown hg fun j hj _ => by cases hj; rfl
  exact ⟨⟨I.chg h.q.t hc fun k hk e => h.md (e ▸ hk), h.q.low.trans (hc.below (fun k hk => by rw [hk]; exact h.mlo) h.q.low.size)⟩, hm, h.md, h.mlo⟩
end
theorem zero_bool (w : World) : (zeroValue 4).run Try.prog w = .ok (.bool false) w := by kernel_rfl
theorem zero_int (w : World) : (zeroValue 3).run Try.prog w = .ok (.int .i64 0) w := by kernel_rfl
theorem rb_inv {v : Value} {z : DataW Value × List MemPlace} (h : RE 4 v = some z) : ∃ x : Bool, v = .bool x ∧ z = (.lit (.bool x), []) := by
  unfold RE plainElem at h
  rw [Try.underlying4] at h
  cases v <;> simp at h
  exact ⟨_, rfl, h.symm⟩
/-- what a map of ids to bools tells -/
theorem lookup_b {w : World} {b n : Nat} {D : DataW Value} {l : List On} (h : OwnI 4 w b n D) (hB : KD (fun _ => .bool true) D l) {id : Int} (hid : NumI id) : (Instr.lookup 44 (.map (some b)) (.int .i64 id) false).run Try.prog w = .ok (.bool (atO id l).isSome) w := by
  obtain ⟨v, ps, hrun, hv⟩ := h.lookup intK Try.underlying44 (zero_bool w) (plainElem_bool Try.underlying4 false) hid.key
  obtain ⟨x, rfl, hx⟩ := rb_inv hv
  simp only [Prod.mk.injEq] at hx
  have e1 : D.atKey (kI id) (.lit (.bool false)) = .lit (.bool (atO id l).isSome) := by
    have hh := hB.has id
    cases ho : atO id l with
    | none =>
      rw [ho] at hh
      rw [atKey_of_not_has hh]
      rfl
    | some t => rw [hB.at_ id t ho]; rfl
  rw [e1] at hx
  have e2 := hx.1
  injection e2 with e2
  injection e2 with e2
  rw [hrun, e2]
section
variable (w : World) {ops : Array Oper} {rest : List Oper} {o : Oper} {a : Act} {Q : Exit → Act → World → Prop}
theorem at_tell_b (hg : o.guard = none) (m x v : Operand) (hop : o.op = Op.mapUpdate 44 m x v) (b n : Nat) (D : DataW Value) (hm : a.eval m = .map (some b)) (hown : OwnI 4 w b n D) (hn : n < maxLen) (id : Int) (hid : NumI id)
    (hx : a.eval x = .int .i64 id) (t : Bool) (hv : a.eval v = .bool t)
    (hK : ∀ w', OwnI 4 w' b (n + 1) (D.put (kI id) (.lit (.bool t))) → w.grownBy w' (some b) → wpList Try.prog ops Q rest (a.put o.dst undef) w') : wpList Try.prog ops Q (o :: rest) a w :=
  wpList_mapUpdate_own w hg m x v _ hop 3 4 intK Try.underlying44 (RE 4) b n D hm hown hn _ _ (kI id) hx hv hid.key _ [] (plainElem_bool Try.underlying4 t) hK
theorem at_strike_b (hg : o.guard = none) (m x : Operand) (hop : o.op = Op.call { callee := Callee.builtin Builtin.delete, args := #[m, x], argTypes := #[44, 3] }) (b n : Nat) (D : DataW Value) (hm : a.eval m = .map (some b)) (hown : OwnI 4 w b n D) (id : Int) (hid : NumI id)
    (hx : a.eval x = .int .i64 id)
    (hK : ∀ w', OwnI 4 w' b n (D.del (kI id)) → w.grownBy w' (some b) → wpList Try.prog ops Q rest (a.put o.dst (.tuple #[])) w') : wpList Try.prog ops Q (o :: rest) a w :=
  wpList_delete_own w hg m x _ _ hop 4 intK Try.underlying44 (RE 4) b n D hm hown _ (kI id) hx hid.key fun w' h1 h2 => hK w' h1 h2.grown
theorem at_tell_i (hg : o.guard = none) (m x v : Operand) (hop : o.op = Op.mapUpdate 42 m x v) (b n : Nat) (D : DataW Value) (hm : a.eval m = .map (some b)) (hown : OwnI 3 w b n D) (hn : n < maxLen) (id : Int) (hid : NumI id)
    (hx : a.eval x = .int .i64 id) (t : Int) (ht : NumI t) (hv : a.eval v = .int .i64 t)
    (hK : ∀ w', OwnI 3 w' b (n + 1) (D.put (kI id) (.lit (.int .i64 t))) → w.grownBy w' (some b) → wpList Try.prog ops Q rest (a.put o.dst undef) w') : wpList Try.prog ops Q (o :: rest) a w :=
  wpList_mapUpdate_own w hg m x v _ hop 3 3 intK Try.underlying42 (RE 3) b n D hm hown hn _ _ (kI id) hx hv hid.key _ [] (plainElem_int Try.underlying3 ht.wf) hK
theorem at_strike_i (hg : o.guard = none) (m x : Operand) (hop : o.op = Op.call { callee := Callee.builtin Builtin.delete, args := #[m, x], argTypes := #[42, 3] }) (b n : Nat) (D : DataW Value) (hm : a.eval m = .map (some b)) (hown : OwnI 3 w b n D) (id : Int) (hid : NumI id)
    (hx : a.eval x = .int .i64 id)
    (hK : ∀ w', OwnI 3 w' b n (D.del (kI id)) → w.grownBy w' (some b) → wpList Try.prog ops Q rest (a.put o.dst (.tuple #[])) w') : wpList Try.prog ops Q (o :: rest) a w :=
  wpList_delete_own w hg m x _ _ hop 3 intK Try.underlying42 (RE 3) b n D hm hown _ (kI id) hx hid.key fun w' h1 h2 => hK w' h1 h2.grown
end
/-- what a map of ids to times tells -/
theorem lookup_i {w : World} {b n : Nat} {D : DataW Value} {l : List On} (h : OwnI 3 w b n D) (hB : KD (fun t => .int .i64 t) D l) {id t : Int} (hid : NumI id) (ha : atO id l = some t) : (Instr.lookup 42 (.map (some b)) (.int .i64 id) false).run Try.prog w = .ok (.int .i64 t) w := by
  obtain ⟨c, hrun, hat, _⟩ := h.lookup_int intK Try.underlying42 Try.underlying3 (zero_int w) hid.key
  rw [hB.at_ id t ha] at hat
  injection hat with hat
  injection hat with _ hat
  rw [hrun, hat]
end Go.Proofs.Ytcjhkafdfeopfaa
