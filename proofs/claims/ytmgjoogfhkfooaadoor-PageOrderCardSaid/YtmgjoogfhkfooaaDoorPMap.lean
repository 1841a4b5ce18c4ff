/-
  A map from numbers by its keys: look-up, store. What it means that slots are put, in whatever order.
-/
import Derived.Test.YtmgjoogfhkfooaaDoorPgK
import Derived.Maps.OwnSet
namespace Go.Proofs.YtmgjoogfhkfooaaDoor
open Go.RowKit Go.Lib Go.Maps

def HR (v : Value) : Option (DataW Value × List MemPlace) := some (.held v, [])
theorem HR_inv {v : Value} {d : DataW Value} {ps : List MemPlace} (h : HR v = some (d, ps)) : d = .held v := by
  simp only [HR, Option.some.injEq, Prod.mk.injEq] at h
  exact h.1.symm
def keyL (s : Int) : Lit := .int .i64 s
/-- block b is a map of at most n entries, whose element at key s is f s -/
def IMap (P : Program) (k : TypeId) (w : World) (b n : Nat) (f : Int → Option Value) : Prop :=
  ∃ D : DataW Value, w.ownsMap P k HR b n D ∧ Maps.IsMap D ∧ ∀ s z, D.atKey (keyL s) z = ((f s).map DataW.held).getD z ∧ Maps.has D (keyL s) = (f s).isSome
section
variable {P : Program} {k e t : TypeId} {w w' : World} {b n : Nat} {f : Int → Option Value}
theorem IMap.lt (h : IMap P k w b n f) : b < w.heap.size := by obtain ⟨D, h1, _⟩ := h; exact h1.lt
theorem IMap.keep (h : IMap P k w b n f) (hk : w'.heap[b]? = w.heap[b]?) : IMap P k w' b n f := by
  obtain ⟨D, ⟨es, clock, hb, rest⟩, h2⟩ := h
  exact ⟨D, ⟨es, clock, hk.trans hb, rest⟩, h2⟩
theorem IMap.made (w : World) : IMap P k (w.alloc (.map #[] 0)) w.heap.size 0 (fun _ => none) :=
  ⟨.map [], World.ownsMap_made w P k HR, ⟨[], rfl⟩, fun s z => by simp [DataW.atKey, Maps.has_eq]⟩
theorem IMap.get (h : IMap P k w b n f) (hk : P.underlying k = some (.int .i64)) (ht : P.underlying t = some (.map k e)) {z : Value} (hz : (zeroValue e).run P w = .ok z w) (s : Int) (hs : (Lit.int .i64 s).wf = true) :
    (Instr.lookup t (.map (some b)) (.int .i64 s) false).run P w = .ok ((f s).getD z) w := by
  obtain ⟨D, h1, h2, h3⟩ := h
  obtain ⟨v, ps, hrun, hv⟩ := h1.lookup (int_keyed hk) ht hz (zd := .held z) (zp := []) rfl (keyOf_int_mk hk hs)
  have h4 := HR_inv hv
  have h5 := (h3 s (.held z)).1
  unfold keyL at h5
  rw [h4] at h5
  rw [hrun]
  cases hf : f s with
  | none => rw [hf] at h5; simp at h5; simp [h5]
  | some u => rw [hf] at h5; simp at h5; simp [h5]
theorem IMap.store (h : IMap P k w b n f) (hk : P.underlying k = some (.int .i64)) (ht : P.underlying t = some (.map k e)) (hn : n < maxLen) (s : Int) (hs : (Lit.int .i64 s).wf = true) (v : Value) :
    ∃ w', (Instr.mapUpdate t (.map (some b)) (.int .i64 s) v).run P w = .ok () w' ∧ IMap P k w' b (n + 1) (fun x => if x = s then some v else f x) ∧ w.grownBy w' (some b) := by
  obtain ⟨D, h1, h2, h3⟩ := h
  have hkey := keyOf_int_mk hk hs
  have hkl := (int_keyed hk).key hkey
  obtain ⟨w', hrun, h5, h6⟩ := h1.store (int_keyed hk) ht hn hkey (val := v) (d := .held v) (ps := []) rfl
  refine ⟨w', hrun, ⟨_, h5, h2.put _ _, fun x z => ?_⟩, h6.grown⟩
  by_cases hx : x = s
  · subst hx
    simp only [if_pos, Option.map_some, Option.getD_some, Option.isSome_some]
    exact ⟨atKey_put_same h2 hkl _ _, has_put_same h2 hkl _⟩
  · have hne : keyL x ≠ Lit.int .i64 s := fun e => hx (by injection e)
    rw [atKey_put_other hne, has_put_other hne]
    simp only [if_neg hx]
    exact h3 x z
variable {ops : Array Oper} {rest : List Oper} {o : Oper} {a : Act} {Q : Exit → Act → World → Prop}
theorem wpList_store_imap (hgd : o.guard = none) (m x v : Operand) (hop : o.op = Op.mapUpdate t m x v)
    (hk : P.underlying k = some (.int .i64)) (ht : P.underlying t = some (.map k e)) (hm : a.eval m = .map (some b)) (h : IMap P k w b n f) (hn : n < maxLen) (s : Int) (hx : a.eval x = .int .i64 s) (hs : (Lit.int .i64 s).wf = true) (u : Value) (hv : a.eval v = u)
    (hK : ∀ w', IMap P k w' b (n + 1) (fun x => if x = s then some u else f x) → w.grownBy w' (some b) → wpList P ops Q rest (a.put o.dst undef) w') : wpList P ops Q (o :: rest) a w := by
  refine wpList_plain hgd fun K' hK' => ?_
  obtain ⟨w', hrun, r1, r2⟩ := h.store hk ht hn s hs u
  unfold Oper.wp
  simp [execOp, hop, hm, hx, hv, hrun, Result.andThen]
  exact hK' _ _ (hK w' r1 r2)
end

/-! ### slots that were put -/
/-- s has the bytes of just those calls that I tells -/
structure Has (cl : List Cl) (I : Nat → Prop) (s : List Slot) : Prop where
  yes : ∀ i (hi : i < cl.length), I i → 0 ≤ cl[i].slot ∧ (s[cl[i].slot.toNat]?).getD none = some cl[i].data
  no : ∀ m : Nat, (∀ i (hi : i < cl.length), I i → cl[i].slot ≠ (m : Int)) → (s[m]?).getD none = none
theorem Has.nil (cl : List Cl) : Has cl (fun _ => False) [] := ⟨fun _ _ h => h.elim, fun _ _ => rfl⟩
theorem Has.put {cl : List Cl} {I : Nat → Prop} {s : List Slot} (h : Has cl I s) {k : Nat} (hk : k < cl.length) (h0 : 0 ≤ cl[k].slot) (hd : ∀ i (hi : i < cl.length), I i → cl[i].slot ≠ cl[k].slot) :
    Has cl (fun i => I i ∨ i = k) (setP s cl[k].slot.toNat (some cl[k].data)) := by
  refine ⟨fun i hi hI => ?_, fun m hm => ?_⟩
  · rcases hI with hI | rfl
    · obtain ⟨h1, h2⟩ := h.yes i hi hI
      refine ⟨h1, ?_⟩
      rw [set_far _ _ _ _ (fun e => hd i hi hI (by omega))]
      exact h2
    · exact ⟨h0, by rw [set_at]; rfl⟩
  · have h1 := hm k hk (.inr rfl)
    rw [set_far _ _ _ _ (fun e => h1 (by omega))]
    exact h.no m fun i hi hI => hm i hi (.inl hI)
theorem Has.mono {cl : List Cl} {I J : Nat → Prop} {s : List Slot} (h : Has cl I s) (hIJ : ∀ i, i < cl.length → (I i ↔ J i)) : Has cl J s :=
  ⟨fun i hi hJ => h.yes i hi ((hIJ i hi).2 hJ), fun m hm => h.no m fun i hi hI => hm i hi ((hIJ i hi).1 hI)⟩
theorem trim_same {a b : List Slot} (ha : TrimP a) (hb : TrimP b) (h : ∀ j : Nat, (a[j]?).getD none = (b[j]?).getD none) : a = b := by
  have key : ∀ {a b : List Slot}, TrimP b → (∀ j : Nat, (a[j]?).getD none = (b[j]?).getD none) → b.length ≤ a.length := by
    intro a b hb h
    rcases Nat.lt_or_ge a.length b.length with hlt | hge
    · exfalso
      have h1 := h (b.length - 1)
      rw [List.getElem?_eq_none (by omega)] at h1
      apply hb
      rw [List.getLast?_eq_getElem?]
      cases ho : b[b.length - 1]? with
      | none => rw [List.getElem?_eq_none_iff] at ho; omega
      | some x => rw [ho] at h1; rw [← show none = x from h1]
    · exact hge
  have hl : a.length = b.length := Nat.le_antisymm (key ha fun j => (h j).symm) (key hb h)
  apply List.ext_getElem?
  intro j
  have h1 := h j
  rcases Nat.lt_or_ge j a.length with hlt | hge
  · rw [List.getElem?_eq_getElem hlt, List.getElem?_eq_getElem (by omega)] at h1 ⊢
    rw [Option.getD_some, Option.getD_some] at h1
    rw [h1]
  · rw [List.getElem?_eq_none hge, List.getElem?_eq_none (by omega)]
theorem Has.same {cl : List Cl} {s t : List Slot} (h : Has cl (fun _ => True) s) (h' : Has cl (fun _ => True) t) (hs : TrimP s) (ht : TrimP t) : s = t := by
  refine trim_same hs ht fun m => ?_
  by_cases hm : ∃ i, ∃ hi : i < cl.length, cl[i].slot = (m : Int)
  · obtain ⟨i, hi, e⟩ := hm
    have h1 := (h.yes i hi trivial).2
    have h2 := (h'.yes i hi trivial).2
    rw [e, Int.toNat_natCast] at h1 h2
    rw [h1, h2]
  · rw [h.no m fun i hi _ e => hm ⟨i, hi, e⟩, h'.no m fun i hi _ e => hm ⟨i, hi, e⟩]
end Go.Proofs.YtmgjoogfhkfooaaDoor
