/-
  What a step may have changed: blocks of a footprint, and new ones. Rows of blocks that are known whole; a map's entries by their keys. Imports nothing of the program.
-/
import Derived.Test.YtehghjakggdnpaaWords
import Derived.Deep.MidRow
import Derived.Laws.CopyOwn
import Derived.Deep.AppendLies
import Derived.Maps.OwnSet
import Derived.Lib.Hide
namespace Go.Proofs.Ytehghjakggdnpaa
open Go.RowKit Go.Lib

/-- but for the blocks of F, what was there is as it was -/
structure Chg (F : Nat → Prop) (w w' : World) : Prop where
  os : w'.os = w.os
  tape : w'.tape = w.tape
  output : w'.output = w.output
  size : w.heap.size ≤ w'.heap.size
  block : ∀ k, k < w.heap.size → ¬ F k → w'.heap[k]? = w.heap[k]?

/-- F, and what has been made since -/
def Ext (F : Nat → Prop) (w w' : World) (k : Nat) : Prop := F k ∨ (w.heap.size ≤ k ∧ k < w'.heap.size)
/-- no block at all -/
def Non (_ : Nat) : Prop := False

section
variable {F G : Nat → Prop} {w w' a b c : World} {B g : Nat}
theorem Chg.refl (F : Nat → Prop) (w : World) : Chg F w w := ⟨rfl, rfl, rfl, Nat.le_refl _, fun _ _ _ => rfl⟩
theorem Chg.mono (h : Chg F w w') (hF : ∀ k, k < w.heap.size → F k → G k) : Chg G w w' := ⟨h.os, h.tape, h.output, h.size, fun k hk hn => h.block k hk fun hf => hn (hF k hk hf)⟩
theorem Chg.trans' (h : Chg F a b) (k : Chg G b c) (hG : ∀ i, i < a.heap.size → G i → F i) : Chg F a c :=
  ⟨k.os.trans h.os, k.tape.trans h.tape, k.output.trans h.output, Nat.le_trans h.size k.size, fun i hi hn =>
    (k.block i (Nat.lt_of_lt_of_le hi h.size) fun hg => hn (hG i hi hg)).trans (h.block i hi hn)⟩
theorem Chg.trans (h : Chg F a b) (k : Chg F b c) : Chg F a c := h.trans' k fun _ _ x => x
theorem Chg.ext (h : Chg F a b) (k : Chg (Ext F a b) b c) : Chg F a c := h.trans' k fun i hi hx => hx.elim id fun h => absurd h.1 (by omega)
theorem Chg.of_below (h : Below w.heap.size w w') : Chg F w w' := ⟨h.os, h.tape, h.output, h.size, fun k hk _ => h.block k hk⟩
theorem Chg.below (h : Chg F w w') (hF : ∀ k, F k → B ≤ k) (hB : B ≤ w.heap.size) : Below B w w' := ⟨h.os, h.tape, h.output, h.size, fun k hk => h.block k (by omega) fun hf => by have := hF k hf; omega⟩
theorem Chg.non (h : Chg Non w w') : Below w.heap.size w w' := ⟨h.os, h.tape, h.output, h.size, fun k hk => h.block k hk id⟩
theorem Chg.drew (h : Chg F w w') : Chg F w w'.drew := ⟨h.os, h.tape, h.output, h.size, h.block⟩
theorem Chg.drewN (h : Chg F w w') (n : Nat) : Chg F w (w'.drewN n) := ⟨h.os, h.tape, h.output, h.size, h.block⟩
theorem Chg.alloc (h : Chg F a w) (o : Obj) : Chg F a (w.alloc o) :=
  h.trans' (G := Non) ⟨rfl, rfl, rfl, by simp, fun k hk _ => Below.heap_alloc _ _ _ hk⟩ fun _ _ x => x.elim
theorem Chg.setCell (h : Chg F a w) {p : Addr} (hp : p.block < a.heap.size → F p.block) (u : Value) : Chg F a (w.setCell p u) :=
  h.trans' (G := fun k => k = p.block) ⟨rfl, rfl, rfl, by simp [World.setCell], fun k _ hn => Below.heap_setCell _ _ _ _ hn⟩ fun _ hi x => by subst x; exact hp hi
theorem setCells_heap (w : World) (b o : Nat) : ∀ (cs : List Value) (k : Nat), k ≠ b → (w.setCells b o cs).heap[k]? = w.heap[k]? := by
  intro cs
  induction cs generalizing w o with
  | nil => intro k _; rfl
  | cons v cs ih =>
    intro k hk
    show ((w.setCell ⟨b, o, none⟩ v).setCells b (o + 1) cs).heap[k]? = _
    rw [ih _ _ k hk, Below.heap_setCell _ _ _ _ hk]
theorem setCells_size (w : World) (b o : Nat) (cs : List Value) : (w.setCells b o cs).heap.size = w.heap.size := by
  induction cs generalizing w o with
  | nil => rfl
  | cons v cs ih =>
    show ((w.setCell ⟨b, o, none⟩ v).setCells b (o + 1) cs).heap.size = _
    rw [ih]; simp [World.setCell]
theorem setCells_rest (w : World) (b o : Nat) (cs : List Value) : (w.setCells b o cs).os = w.os ∧ (w.setCells b o cs).tape = w.tape ∧ (w.setCells b o cs).output = w.output := by
  induction cs generalizing w o with
  | nil => exact ⟨rfl, rfl, rfl⟩
  | cons v cs ih => exact ih (w.setCell ⟨b, o, none⟩ v) (o + 1)
theorem Chg.setCells (h : Chg F a w) {b o : Nat} (hb : b < a.heap.size → F b) (cs : List Value) : Chg F a (w.setCells b o cs) := by
  obtain ⟨h1, h2, h3⟩ := setCells_rest w b o cs
  exact h.trans' (G := fun k => k = b) ⟨h1, h2, h3, Nat.le_of_eq (setCells_size w b o cs).symm, fun k _ hn => setCells_heap w b o cs k hn⟩ fun _ hi x => by subst x; exact hb hi
theorem Chg.grown (h : Chg F a w) {row : Option Nat} (hg : w.grownBy w' row) (hr : ∀ k, row = some k → k < a.heap.size → F k) : Chg F a w' :=
  h.trans' (G := fun k => row = some k) ⟨hg.os, hg.tape, hg.output, hg.size, fun k hk hn => hg.block k hk fun e => hn e.symm⟩ fun i hi x => hr i x hi
theorem Chg.setRow (h : Chg F a w) (hg : g < a.heap.size → F g) (cs : Array Value) : Chg F a (w.setRow g cs) :=
  h.trans' (G := fun k => k = g) ⟨rfl, rfl, rfl, by simp [World.setRow], fun k _ hn => setRow_other w g k cs hn⟩ fun _ hi x => by subst x; exact hg hi
theorem Chg.cell (h : Chg F w w') {p : Addr} (hp : p.block < w.heap.size) (hn : ¬ F p.block) : w'.cell? p = w.cell? p := World.cell?_of_block (h.block _ hp hn)

/-- a block stays -/
theorem Blk.chg {t : TypeId} {cs : Array Value} (h : Blk w g t cs) (hc : Chg F w w') (hn : ¬ F g) : Blk w' g t cs := (hc.block g h.lt hn).trans h
theorem Blk.ne {t t' : TypeId} {cs cs' : Array Value} {g' : Nat} (h : Blk w g t cs) (h' : Blk w g' t' cs') (ht : t ≠ t') : g ≠ g' := by
  rintro rfl
  unfold Blk at h h'
  rw [h] at h'
  injection h' with h'
  injection h' with _ h'
  exact ht h'
theorem Blk.same {t t' : TypeId} {cs cs' : Array Value} (h : Blk w g t cs) (h' : Blk w g t' cs') : cs = cs' ∧ t = t' := by
  unfold Blk at h h'
  rw [h] at h'
  injection h' with h'
  injection h' with h1 h2
  exact ⟨h1, h2⟩
theorem Blk.setRow {t : TypeId} {cs : Array Value} (h : Blk w g t cs) (cs' : Array Value) : Blk (w.setRow g cs') g t cs' := setRow_heap w g _ _ t _ h

theorem Blk.grown {t : TypeId} {cs : Array Value} {row : Option Nat} (h : Blk w g t cs) (hg : w.grownBy w' row) (hne : row ≠ some g) : Blk w' g t cs := (hg.block g h.lt (Ne.symm hne)).trans h
/-- a row of one's own stays -/
theorem own_keep {base : Nat} {e : TypeId} {size : Nat} {v : Value} {n : Nat} {xs : List Value} (h : w.ownsRow base e size v n xs) (hk : ∀ k, v.ownBlock = some k → w'.heap[k]? = w.heap[k]?) : w'.ownsRow base e size v n xs := by
  refine ⟨h.1, ?_⟩
  rcases h.2 with hn | ⟨g, cap, cur, rfl, hbg, hg, rest⟩
  · exact .inl hn
  · exact .inr ⟨g, cap, cur, rfl, hbg, (hk g rfl).trans hg, rest⟩
theorem own_chg {base : Nat} {e : TypeId} {size : Nat} {v : Value} {n : Nat} {xs : List Value} (h : w.ownsRow base e size v n xs) (hc : Chg F w w') (hk : ∀ k, v.ownBlock = some k → ¬ F k) : w'.ownsRow base e size v n xs :=
  own_keep h fun k hv => hc.block k (h.lt k hv).2 (hk k hv)
/-- the row's block -/
theorem own_blk {base : Nat} {e : TypeId} {size : Nat} {v : Value} {n : Nat} {xs : List Value} (h : w.ownsRow base e size v n xs) (k : Nat) (hk : v.ownBlock = some k) : ∃ cur, Blk w k e cur := by
  rcases h.2 with ⟨rfl, _⟩ | ⟨g, cap, cur, rfl, _, hg, _⟩
  · cases hk
  · cases hk; exact ⟨cur, hg⟩
theorem dkown_ne {base g' : Nat} {e t' : TypeId} {size : Nat} {v : Value} {n : Nat} {xs : List Value} {cs' : Array Value} (h : w.ownsRow base e size v n xs) (h' : Blk w g' t' cs') (ht : e ≠ t') : v.ownBlock ≠ some g' := by
  intro hv
  obtain ⟨cur, hb⟩ := own_blk h _ hv
  exact hb.ne h' ht rfl
theorem own_to {base base' : Nat} {e : TypeId} {size : Nat} {v : Value} {n : Nat} {xs : List Value} (h : w.ownsRow base e size v n xs) (hb : ∀ k, v.ownBlock = some k → base' ≤ k) : w.ownsRow base' e size v n xs := by
  refine ⟨h.1, ?_⟩
  rcases h.2 with hn | ⟨g, cap, cur, rfl, hbg, hg, rest⟩
  · exact .inl hn
  · exact .inr ⟨g, cap, cur, rfl, hb g rfl, hg, rest⟩

theorem Rd.chg {A : Option Addr} {n : Nat} {xs : List Value} (h : Rd w B A n xs) (hc : Chg F w w') (hB : B ≤ w.heap.size) (hn : ∀ k, k < B → ¬ F k) : Rd w' B A n xs :=
  h.keep fun p hp => hc.cell (by omega) (hn _ hp)
/-- the slice's cells, from an own row whose elements are one cell -/
theorem Rd.own {base : Nat} {e : TypeId} {n c : Nat} {A : Option Addr} {xs : List Value} (h : w.ownsRow base e 1 (.slice A n c) n xs) : Rd w w.heap.size A n xs := Rd.of_own h
end

/-! ### rows of elements of one size -/
/-- elements of k cells, one behind the other -/
def Rows' (L : List (List Value)) : List Value := L.flatten
theorem rows_len {k : Nat} : ∀ {L : List (List Value)}, (∀ x ∈ L, x.length = k) → (Rows' L).length = L.length * k := by
  intro L
  induction L with
  | nil => intro _; simp [Rows']
  | cons x L ih =>
    intro h
    have h1 := ih fun y hy => h y (by simp [hy])
    have h2 := h x (by simp)
    simp only [Rows', List.flatten_cons, List.length_append, List.length_cons] at h1 ⊢
    rw [h1, h2, Nat.add_mul]; omega
theorem rows_append (L M : List (List Value)) : Rows' (L ++ M) = Rows' L ++ Rows' M := by simp [Rows']
theorem rows_split {k i : Nat} {L : List (List Value)} (h : ∀ x ∈ L, x.length = k) (hi : i < L.length) : Rows' L = Rows' (L.take i) ++ (L[i] ++ Rows' (L.drop (i + 1))) ∧ (Rows' (L.take i)).length = i * k ∧ L[i].length = k := by
  refine ⟨?_, ?_, h _ (List.getElem_mem hi)⟩
  · have e : L = L.take i ++ ([L[i]] ++ L.drop (i + 1)) := by simp
    have e2 : (L.take i ++ ([L[i]] ++ L.drop (i + 1))).flatten = L.flatten := by rw [← e]
    exact e2.symm.trans (by simp only [List.flatten_append, List.flatten_cons, List.flatten_nil, List.append_nil, Rows'])
  · rw [rows_len fun x hx => h x (List.mem_of_mem_take hx)]
    simp; congr 1; omega
theorem rows_at {k i j : Nat} {L : List (List Value)} (h : ∀ x ∈ L, x.length = k) (hi : i < L.length) (hj : j < k) : (Rows' L)[i * k + j]? = L[i][j]? := by
  obtain ⟨h1, h2, h3⟩ := rows_split h hi
  rw [h1, List.getElem?_append_right (by omega), h2, List.getElem?_append_left (by omega)]
  congr 1; omega
theorem splice_mid {α : Type} (P R Q y : List α) (hy : y.length ≤ R.length) : splice (P ++ (R ++ Q)) P.length y = P ++ ((y ++ R.drop y.length) ++ Q) := by
  unfold splice
  have e1 : (P ++ (R ++ Q)).take P.length = P := by simp
  have e2 : (P ++ (R ++ Q)).drop (P.length + y.length) = R.drop y.length ++ Q := by
    rw [List.drop_append, List.drop_eq_nil_of_le (by omega), show P.length + y.length - P.length = y.length by omega, List.drop_append_of_le_length hy]
    simp
  rw [e1, e2]
  simp
theorem rows_put {i : Nat} {L : List (List Value)} (hi : i < L.length) (z : List Value) : Rows' (L.set i z) = Rows' (L.take i) ++ (z ++ Rows' (L.drop (i + 1))) := by
  have e : L.set i z = L.take i ++ ([z] ++ L.drop (i + 1)) := by
    apply List.ext_getElem?
    intro q
    by_cases hq : q = i
    · subst hq
      rw [List.getElem?_set_self hi, List.getElem?_append_right (by simp; omega)]
      simp [Nat.min_eq_left (Nat.le_of_lt hi)]
    · rw [List.getElem?_set_ne (Ne.symm hq)]
      by_cases hlt : q < i
      · rw [List.getElem?_append_left (by simp; omega), List.getElem?_take_of_lt hlt]
      · rw [List.getElem?_append_right (by simp; omega), List.getElem?_append_right (by simp; omega)]
        simp only [List.length_take, List.length_singleton, List.getElem?_drop]
        congr 1; omega
  rw [e]
  simp [Rows']
theorem rows_splice {k i : Nat} {L : List (List Value)} {y : List Value} (h : ∀ x ∈ L, x.length = k) (hi : i < L.length) (hy : y.length ≤ k) : splice (Rows' L) (i * k) y = Rows' (L.set i (y ++ L[i].drop y.length)) := by
  obtain ⟨h1, h2, h3⟩ := rows_split h hi
  rw [rows_put hi, h1, ← h2]
  exact splice_mid _ _ _ _ (by omega)
theorem rows_set {k i : Nat} {L : List (List Value)} {y : List Value} (h : ∀ x ∈ L, x.length = k) (hi : i < L.length) (hy : y.length = k) : splice (Rows' L) (i * k) y = Rows' (L.set i y) := by
  rw [rows_splice h hi (by omega), List.drop_eq_nil_of_le (by rw [h _ (List.getElem_mem hi)]; omega), List.append_nil]
/-- the cells of element i, in a block that is known whole -/
theorem rows_range {w : World} {g k i : Nat} {t : TypeId} {L : List (List Value)} (hb : Blk w g t (Rows' L).toArray) (h : ∀ x ∈ L, x.length = k) (hi : i < L.length) : w.rangeAt g (i * k) L[i] := by
  intro j v hv
  have hj : j < k := by have := (List.getElem?_eq_some_iff.1 hv).1; rw [h _ (List.getElem_mem hi)] at this; exact this
  rw [hb.cell]
  simp only [List.getElem?_toArray]
  rw [rows_at h hi hj, hv]
theorem rows_there {w : World} {g k i : Nat} {t : TypeId} {L : List (List Value)} (hb : Blk w g t (Rows' L).toArray) (h : ∀ x ∈ L, x.length = k) (hi : i < L.length) : w.there g (i * k) k := by
  intro j hj
  refine ⟨?_, hb.frozen _⟩
  rw [hb.cell]
  simp only [List.getElem?_toArray]
  rw [rows_at h hi hj]
  have hk : j < L[i].length := by rw [h _ (List.getElem_mem hi)]; exact hj
  simp [hk]
theorem own_range {w : World} {base g k i n c : Nat} {e : TypeId} {L : List (List Value)} (ho : w.ownsRow base e k (.slice (some ⟨g, 0, none⟩) n c) n (Rows' L)) (h : ∀ x ∈ L, x.length = k) (hi : i < L.length) : w.rangeAt g (i * k) L[i] := by
  intro j v hv
  have hj : j < k := by have := (List.getElem?_eq_some_iff.1 hv).1; rw [h _ (List.getElem_mem hi)] at this; exact this
  have h1 := ho.1
  rw [rows_len h] at h1
  have h4 : (i + 1) * k ≤ L.length * k := Nat.mul_le_mul_right k hi
  rw [Nat.add_mul] at h4
  rw [ho.cellAt _ (by omega), rows_at h hi hj, hv]

/-- cells stored into a block that is known whole: a splice -/
theorem Blk.setCells {g : Nat} {t : TypeId} (cs : List Value) : ∀ (cur : List Value) (w : World) (o : Nat), Blk w g t cur.toArray → o + cs.length ≤ cur.length → Blk (w.setCells g o cs) g t (splice cur o cs).toArray := by
  induction cs with
  | nil => intro cur w o h _; show Blk w g t _; simpa [splice] using h
  | cons v cs ih =>
    intro cur w o h hl
    simp only [List.length_cons] at hl
    have h1 := h.put o v
    rw [show (cur.toArray.setIfInBounds o v) = (cur.set o v).toArray by simp] at h1
    have h2 := ih (cur.set o v) (w.setCell ⟨g, o, none⟩ v) (o + 1) h1 (by simp; omega)
    show Blk ((w.setCell ⟨g, o, none⟩ v).setCells g (o + 1) cs) g t _
    rw [show splice cur o (v :: cs) = splice (cur.set o v) (o + 1) cs by
      unfold splice
      rw [List.take_set, List.drop_set_of_lt (by omega)]
      have e : (cur.take (o + 1)).set o v = cur.take o ++ [v] := by
        rw [List.take_succ_eq_append_getElem (by omega), List.set_append_right _ _ (by simp; omega)]
        simp [Nat.min_eq_left (show o ≤ cur.length by omega)]
      rw [e, List.length_cons, show o + (cs.length + 1) = o + 1 + cs.length by omega]
      simp]
    exact h2

/-! ### copy, with a footprint -/
section
variable {P : Program} {w : World} {ops : Array Oper} {rest : List Oper} {o : Oper} {a : Act} {Q : Exit → Act → World → Prop}
theorem wp_copy_chg {K : Act → World → Prop} (d s : Operand) (dT sT : TypeId)
    (ho : o.op = .call { callee := .builtin .copy, args := #[d, s], argTypes := #[dT, sT] }) (elem : TypeId) (hu : P.underlying dT = some (.slice elem)) (hsz : (P.info? elem).map (·.size) = some 1)
    (dp sp : Option Addr) (dLen dCap sLen sCap : Nat) (hd : a.eval d = .slice dp dLen dCap) (hs : a.eval s = .slice sp sLen sCap)
    (g off : Nat) (cur : List Value) (t : TypeId) (hg : Blk w g t cur.toArray) (cs : List Value) (hn : cs.length = Nat.min sLen dLen)
    (hpos : 0 < cs.length → dp = some ⟨g, off, none⟩ ∧ ∃ ad, sp = some ad ∧ ∀ j v, cs[j]? = some v → w.cell? (ad.add j) = some v)
    (hfit : off + cs.length ≤ cur.length) (h1 : ∀ v ∈ cs, v.oneCell' = true)
    (h : ∀ w', Blk w' g t (splice cur off cs).toArray → Chg (fun k => k = g) w w' → w'.heap.size = w.heap.size → K (a.put o.dst (goInt cs.length)) w') : o.wp P a w K Q := by
  by_cases h0 : cs.length = 0
  · obtain rfl : cs = [] := List.eq_nil_of_length_eq_zero h0
    have hrun := run_copy_none (P := P) w dT sT o.type elem dp sp dLen dCap sLen sCap hu hsz (by simpa using hn.symm)
    unfold Oper.wp
    simp [execOp, ho, resolve, invoke, builtin, hd, hs, hrun, Result.andThen]
    exact h w (show _ = _ by unfold Blk at hg; simpa [splice] using hg) (Chg.refl _ _) rfl
  · obtain ⟨rfl, ad, rfl, hsrc⟩ := hpos (by omega)
    have hrun := run_copy_row (P := P) w dT sT o.type elem g off dLen dCap ad sLen sCap cur.toArray t cs hu hsz hg hn hsrc (by simpa using hfit) h1
    unfold Oper.wp
    simp [execOp, ho, resolve, invoke, builtin, hd, hs, hrun, Result.andThen]
    exact h _ (show _ = _ by simpa [splice] using setRow_heap w g _ _ t _ hg) ((Chg.refl (fun k => k = g) w).setRow (fun _ => rfl) _) (by simp [World.setRow])
theorem wpList_copy_chg (hgd : o.guard = none) (d s : Operand) (dT sT : TypeId)
    (ho : o.op = .call { callee := .builtin .copy, args := #[d, s], argTypes := #[dT, sT] }) (elem : TypeId) (hu : P.underlying dT = some (.slice elem)) (hsz : (P.info? elem).map (·.size) = some 1)
    (dp sp : Option Addr) (dLen dCap sLen sCap : Nat) (hd : a.eval d = .slice dp dLen dCap) (hs : a.eval s = .slice sp sLen sCap)
    (g off : Nat) (cur : List Value) (t : TypeId) (hg : Blk w g t cur.toArray) (cs : List Value) (hn : cs.length = Nat.min sLen dLen)
    (hpos : 0 < cs.length → dp = some ⟨g, off, none⟩ ∧ ∃ ad, sp = some ad ∧ ∀ j v, cs[j]? = some v → w.cell? (ad.add j) = some v)
    (hfit : off + cs.length ≤ cur.length) (h1 : ∀ v ∈ cs, v.oneCell' = true)
    (h : ∀ w', Blk w' g t (splice cur off cs).toArray → Chg (fun k => k = g) w w' → w'.heap.size = w.heap.size → wpList P ops Q rest (a.put o.dst (goInt cs.length)) w') : wpList P ops Q (o :: rest) a w :=
  wpList_plain hgd fun _ hK => wp_copy_chg d s dT sT ho elem hu hsz dp sp dLen dCap sLen sCap hd hs g off cur t hg cs hn hpos hfit h1 fun w' a b c => hK _ _ (h w' a b c)
theorem step_copy_chg {K : Act → World → Prop} {E : Prop} (hgd : o.guard = none) (d s : Operand) (dT sT : TypeId)
    (ho : o.op = .call { callee := .builtin .copy, args := #[d, s], argTypes := #[dT, sT] }) (elem : TypeId) (hu : P.underlying dT = some (.slice elem)) (hsz : (P.info? elem).map (·.size) = some 1)
    (dp sp : Option Addr) (dLen dCap sLen sCap : Nat) (hd : a.eval d = .slice dp dLen dCap) (hs : a.eval s = .slice sp sLen sCap)
    (g off : Nat) (cur : List Value) (t : TypeId) (hg : Blk w g t cur.toArray) (cs : List Value) (hn : cs.length = Nat.min sLen dLen)
    (hpos : 0 < cs.length → dp = some ⟨g, off, none⟩ ∧ ∃ ad, sp = some ad ∧ ∀ j v, cs[j]? = some v → w.cell? (ad.add j) = some v)
    (hfit : off + cs.length ≤ cur.length) (h1 : ∀ v ∈ cs, v.oneCell' = true)
    (h : ∀ w', Blk w' g t (splice cur off cs).toArray → Chg (fun k => k = g) w w' → w'.heap.size = w.heap.size → K (a.put o.dst (goInt cs.length)) w') :
    if Region.wanted o (yielded ops a.tmps) = true then Oper.wp P o a w K Q else E := by
  have hw : Region.wanted o (yielded ops a.tmps) = true := by simp [Region.wanted, hgd]
  rw [if_pos hw]
  exact wp_copy_chg d s dT sT ho elem hu hsz dp sp dLen dCap sLen sCap hd hs g off cur t hg cs hn hpos hfit h1 h

/-- a whole array or struct stored into a block that is known whole -/
theorem wp_store_blk {K : Act → World → Prop} (ty : TypeId) (x y : Operand) (ho : o.op = .store ty x y)
    (g off : Nat) (cs : List Value) (hx : a.eval x = .pointer (some ⟨g, off, none⟩)) (hy : a.eval y = .agg cs.toArray)
    (cur : List Value) (t : TypeId) (hg : Blk w g t cur.toArray) (hfit : off + cs.length ≤ cur.length) (hi : (P.info? ty).map (·.size) = some cs.length) (h1 : ∀ v ∈ cs, v.oneCell' = true)
    (h : ∀ w', Blk w' g t (splice cur off cs).toArray → Chg (fun k => k = g) w w' → w'.heap.size = w.heap.size → K (a.put o.dst undef) w') : o.wp P a w K Q := by
  refine wp_store_mid ty x y ho g off cs.toArray hx hy ?_ (by simpa using hi) (by simpa using h1) ?_
  · intro j hj
    refine ⟨?_, hg.frozen _⟩
    rw [hg.cell]
    simp at hj
    simp; omega
  · exact h _ (Blk.setCells cs cur w off hg hfit) ((Chg.refl (fun k => k = g) w).setCells (fun _ => rfl) _) (setCells_size _ _ _ _)
theorem wpList_store_blk (hgd : o.guard = none) (ty : TypeId) (x y : Operand) (ho : o.op = .store ty x y)
    (g off : Nat) (cs : List Value) (hx : a.eval x = .pointer (some ⟨g, off, none⟩)) (hy : a.eval y = .agg cs.toArray)
    (cur : List Value) (t : TypeId) (hg : Blk w g t cur.toArray) (hfit : off + cs.length ≤ cur.length) (hi : (P.info? ty).map (·.size) = some cs.length) (h1 : ∀ v ∈ cs, v.oneCell' = true)
    (h : ∀ w', Blk w' g t (splice cur off cs).toArray → Chg (fun k => k = g) w w' → w'.heap.size = w.heap.size → wpList P ops Q rest (a.put o.dst undef) w') : wpList P ops Q (o :: rest) a w :=
  wpList_plain hgd fun _ hK => wp_store_blk ty x y ho g off cs hx hy cur t hg hfit hi h1 fun w' a b c => hK _ _ (h w' a b c)

theorem step_store_blk {K : Act → World → Prop} {E : Prop} (hgd : o.guard = none) (ty : TypeId) (x y : Operand) (ho : o.op = .store ty x y)
    (g off : Nat) (cs : List Value) (hx : a.eval x = .pointer (some ⟨g, off, none⟩)) (hy : a.eval y = .agg cs.toArray)
    (cur : List Value) (t : TypeId) (hg : Blk w g t cur.toArray) (hfit : off + cs.length ≤ cur.length) (hi : (P.info? ty).map (·.size) = some cs.length) (h1 : ∀ v ∈ cs, v.oneCell' = true)
    (h : ∀ w', Blk w' g t (splice cur off cs).toArray → Chg (fun k => k = g) w w' → w'.heap.size = w.heap.size → K (a.put o.dst undef) w') :
    if Region.wanted o (yielded ops a.tmps) = true then Oper.wp P o a w K Q else E := by
  have hw : Region.wanted o (yielded ops a.tmps) = true := by simp [Region.wanted, hgd]
  rw [if_pos hw]
  exact wp_store_blk ty x y ho g off cs hx hy cur t hg hfit hi h1 h
theorem wpList_max_int (hgd : o.guard = none) (x y : Operand) (t t' : TypeId) (ho : o.op = .call { callee := .builtin .max, args := #[x, y], argTypes := #[t, t'] }) (p q r : Int) (hx : a.eval x = .int .i64 p) (hy : a.eval y = .int .i64 q)
    (hr : (if q > p then q else p) = r) (h : wpList P ops Q rest (a.put o.dst (.int .i64 r)) w) : wpList P ops Q (o :: rest) a w := by
  refine wpList_plain hgd fun K hK => ?_
  unfold Oper.wp
  simp [execOp, ho, resolve, invoke, builtin, hx, hy, run_max_int2, Result.andThen]
  have hr' : (if p < q then q else p) = r := hr
  rw [hr']
  exact hK _ _ h
theorem wpList_min_int (hgd : o.guard = none) (x y : Operand) (t t' : TypeId) (ho : o.op = .call { callee := .builtin .min, args := #[x, y], argTypes := #[t, t'] }) (p q r : Int) (hx : a.eval x = .int .i64 p) (hy : a.eval y = .int .i64 q)
    (hr : (if q < p then q else p) = r) (h : wpList P ops Q rest (a.put o.dst (.int .i64 r)) w) : wpList P ops Q (o :: rest) a w := by
  refine wpList_plain hgd fun K hK => ?_
  unfold Oper.wp
  simp [execOp, ho, resolve, invoke, builtin, hx, hy, run_min_int2, Result.andThen]
  rw [hr]
  exact hK _ _ h

/-- 'x[k:]' on a slice that reads as xs: what is left reads as the rest -/
theorem wpList_slice_lo (hgd : o.guard = none) (t e : TypeId) (x lo : Operand) (ho : o.op = .slice t x (some lo) none none) (ht : P.underlying t = some (.slice e)) (hsz : (P.info? e).map (·.size) = some 1)
    (A : Option Addr) (n c k : Nat) (hx : a.eval x = .slice A n c) (q : Int) (hlo : a.eval lo = .int .i64 q) (hq : q = k) (B : Nat) (xs : List Value) (hr : Rd w B A n xs) (hk : k ≤ n) (hc : n ≤ c) (hm : c ≤ maxLen)
    (h : ∀ A' c', Rd w B A' (n - k) (xs.drop k) → n - k ≤ c' → c' ≤ maxLen → wpList P ops Q rest (a.put o.dst (.slice A' (n - k) c')) w) : wpList P ops Q (o :: rest) a w := by
  subst hq
  refine wpList_plain hgd fun K hK => ?_
  cases hi : P.info? e with
  | none => simp [hi] at hsz
  | some i =>
    have hs : i.size = 1 := by simpa [hi] using hsz
    have hrun : (Instr.slice t (.slice A n c) (some (.int .i64 (k : Int))) none none).run P w = .ok (.slice (if c = k then A else A.map (·.add k)) (n - k) (c - k)) w := by
      have h0 : (k : Int) ≤ n := by omega
      simp [Instr.slice, run_underlying ht, Instr.sliceBounds, sizeOf, typeInfo, hi, hs, run_sliceBound w .i64 (k : Int) n _ (by omega) h0]
    unfold Oper.wp
    simp [execOp, ho, hx, hlo, Instr.sliceAt, run_underlying ht, hrun, Result.andThen]
    exact hK _ _ (h _ _ (hr.cutl hk hc) (by omega) (by omega))
end

/-! ### a map by its keys -/
/-- how an element of whatever kind reads: as itself -/
def HR (v : Value) : Option (DataW Value × List MemPlace) := some (.held v, [])
theorem HR_inv {v : Value} {d : DataW Value} {ps : List MemPlace} (h : HR v = some (d, ps)) : d = .held v := by
  simp only [HR, Option.some.injEq, Prod.mk.injEq] at h
  exact h.1.symm
def keyL (s : Int) : Lit := .int .i64 s
/-- block b is a map of at most n entries, whose element at key s is f s -/
def IMap (P : Program) (k : TypeId) (w : World) (b n : Nat) (f : Int → Option Value) : Prop :=
  ∃ D : DataW Value, w.ownsMap P k HR b n D ∧ Maps.IsMap D ∧ ∀ s z, D.atKey (keyL s) z = ((f s).map DataW.held).getD z ∧ Maps.has D (keyL s) = (f s).isSome

section
variable {P : Program} {k e t : TypeId} {w w' : World} {b n : Nat} {f : Int → Option Value} {F : Nat → Prop}
theorem IMap.lt (h : IMap P k w b n f) : b < w.heap.size := by obtain ⟨D, h1, _⟩ := h; exact h1.lt
theorem IMap.keep (h : IMap P k w b n f) (hk : w'.heap[b]? = w.heap[b]?) : IMap P k w' b n f := by
  obtain ⟨D, ⟨es, clock, hb, rest⟩, h2⟩ := h
  exact ⟨D, ⟨es, clock, hk.trans hb, rest⟩, h2⟩
theorem IMap.chg (h : IMap P k w b n f) (hc : Chg F w w') (hn : ¬ F b) : IMap P k w' b n f := h.keep (hc.block b h.lt hn)
theorem IMap.made (w : World) : IMap P k (w.alloc (.map #[] 0)) w.heap.size 0 (fun _ => none) :=
  ⟨.map [], World.ownsMap_made w P k HR, ⟨[], rfl⟩, fun s z => by simp [DataW.atKey, Maps.has_eq]⟩
theorem IMap.ne {g : Nat} {t' : TypeId} {cs : Array Value} (h : IMap P k w b n f) (h' : Blk w g t' cs) : b ≠ g := by
  rintro rfl
  obtain ⟨D, ⟨es, clock, hb, _⟩, _⟩ := h
  unfold Blk at h'
  rw [hb] at h'
  cases h'
theorem IMap.none_of (h : IMap P k w b n f) : ∃ es clock, w.heap[b]? = some (.map es clock) := by
  obtain ⟨D, ⟨es, clock, hb, _⟩, _⟩ := h
  exact ⟨es, clock, hb⟩
end
#print axioms IMap.made
end Go.Proofs.Ytehghjakggdnpaa
