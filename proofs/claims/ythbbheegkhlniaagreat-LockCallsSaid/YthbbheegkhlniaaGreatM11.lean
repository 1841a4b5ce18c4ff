/-
  The library's sorts over rows of one's own.
-/
import Derived.Test.YthbbheegkhlniaaGreatM10
import Derived.Shelf.SortM.Plain
import Derived.Shelf.SortM.SortNone
import Derived.Shelf.SlicesG.CompactI
namespace Go.Proofs.YthbbheegkhlniaaGreat
open Go.RowKit Go.Lib Go.Shelf Go.Sort

section
variable {α : Type} [Inhabited α]
theorem putCells_list (enc : α → Value) (d : Array α) (cur : List Value) (h : d.size ≤ cur.length) : (putCells enc 0 d cur.toArray).toList = d.toList.map enc ++ cur.drop d.size := by
  refine List.ext_getElem (by simp [putCells]; omega) fun j h1 h2 => ?_
  have hj : j < cur.length := by simpa [putCells] using h1
  simp only [putCells, Array.getElem_toList, Array.getElem_mapIdx, Nat.zero_add, Nat.zero_le, true_and, Nat.sub_zero, List.getElem_toArray]
  by_cases e : j < d.size
  · rw [if_pos e, List.getElem_append_left (by simpa using e)]
    simp [e]
  · rw [if_neg e, List.getElem_append_right (by simpa using e)]
    simp [show d.size + (j - d.size) = j by omega]
/-- a row's cells laid anew, draws and blocks behind -/
theorem put_lay (enc : α → Value) {w w' : World} {B : Nat} {e : TypeId} {s n c g q : Nat} {xs : List Value} {d : Array α} {os : Array Obj} (h : w.ownsRow B e s (.slice (some ⟨g, 0, none⟩) n c) n xs) (hd : d.size = n * s) (hW : w' = grow (putRow enc (Sort.ahead w q) g 0 d) os) :
    Chg (fun k => k = g) w w' ∧ ∀ m ys, m ≤ n → ys = (d.toList.map enc).take (m * s) → w'.ownsRow B e s (.slice (some ⟨g, 0, none⟩) m c) m ys := by
  obtain ⟨cur, hg, hb, hnc, hcm, hl, ht, hxs⟩ := own_cur h
  have hlt : g < w.heap.size := (Array.getElem?_eq_some_iff.1 hg).1
  have hns : n * s ≤ c * s := Nat.mul_le_mul_right _ hnc
  have hsz : (putRow enc (Sort.ahead w q) g 0 d).heap.size = w.heap.size := by simp [putRow, mapBlock, Sort.ahead]
  have hblk : ∀ k, k < w.heap.size → w'.heap[k]? = if k = g then some (.cells (putCells enc 0 d cur.toArray) e (0, 0)) else w.heap[k]? := fun k hk => by
    rw [hW, heap_grow_old _ _ (by rw [hsz]; exact hk)]
    show (w.heap.modify g (onCells (putCells enc 0 d)))[k]? = _
    rw [Array.getElem?_modify]
    by_cases ek : k = g
    · subst ek
      rw [if_pos rfl, if_pos rfl, hg]
      rfl
    · rw [if_neg (fun e => ek e.symm), if_neg ek]
  refine ⟨⟨by rw [hW]; rfl, by rw [hW]; rfl, by rw [hW]; rfl, by rw [hW, size_grow, hsz]; omega, fun k hk hn => by rw [hblk k hk, if_neg hn]⟩, fun m ys hm hy => ?_⟩
  have hg' := hblk g hlt
  rw [if_pos rfl] at hg'
  have hms : m * s ≤ n * s := Nat.mul_le_mul_right _ hm
  have e1 := putCells_list enc d cur (by rw [hl, hd]; omega)
  refine own_of_cur (cur := d.toList.map enc ++ cur.drop d.size) (by rw [hg', ← e1]) hb (by omega) hcm (by simp [hl, hd]; omega) ys ?_
  rw [List.take_append_of_le_length (by simp [hd]; exact hms), hy]
end
/-! ### things -/
instance : Inhabited Th := ⟨⟨0, ⟨#[]⟩, ⟨#[]⟩⟩⟩
theorem ths_len (l : List Th) : (ths l).length = l.length * 3 := by
  induction l with
  | nil => rfl
  | cons a l ih =>
    show (thC a ++ ths l).length = _
    rw [List.length_append, ih, List.length_cons]
    show 3 + _ = _
    omega
theorem thC_one : ∀ x : Th, ∀ v ∈ thC x, v.oneCell' = true := fun x v hv => by
  simp [thC] at hv
  rcases hv with rfl | rfl | rfl <;> rfl
theorem flatK_ths (l : List Th) : flatK thC 3 l.toArray = (ths l).toArray := by
  refine ext_get! (by simp [ths_len]) fun t ht => ?_
  have ht' : t < l.length * 3 := by simpa using ht
  rw [get_flatK _ _ _ _ (by simpa using ht')]
  have h1 := flat_cell (cell := thC) (S := 3) (fun _ => rfl) l (t / 3) (t % 3) (by omega) (by omega)
  rw [show t / 3 * 3 + t % 3 = t by omega] at h1
  have h2 : (ths l)[t]? = (thC l[t / 3])[t % 3]? := h1
  have e1 : (ths l).toArray[t]! = (ths l)[t]! := by simp
  have e2 : l.toArray[t / 3]! = l[t / 3] := by simp [getElem!_pos, show t / 3 < l.length by omega]
  rw [e1, e2]
  simp only [List.getElem!_eq_getElem?_getD]
  rw [h2]
theorem cmpLays_order (blk off size : Nat) (w : World) : CmpLays Tryz.prog 48 #[] thC 3 ordT blk off size w := fun _ _ _ _ x y => order_any x y _
theorem eg_order : ∀ args w, (callFunc 48 args).run Tryz.prog w = .ok (.enter 48 args) w := enters_of Tryz.func48 (by kernel_rfl) rfl
theorem sortT_len (l : List Th) : (sortT l).length = l.length := (sortT_perm l).length_eq
/-- slices.SortFunc(row, order) -/
theorem sortF_any {w : World} {B n c : Nat} {A : Option Addr} {l : List Th} (h : w.ownsRow B 32 3 (.slice A n c) n (ths l)) (hn : n = l.length) (hl : l.length ≤ 1000000) :
    Calls Tryz.prog 47 #[.slice A n c, .func (.func 48) #[] #[]] w fun e w' => e = .returned (.tuple #[]) ∧ RowTo B 32 3 (.slice A n c) w (.slice A n c) n (ths (sortT l)) w' := by
  rcases own_form2 h with ⟨rfl, rfl, rfl, h0⟩ | ⟨g, rfl⟩
  · obtain rfl : l = [] := List.eq_nil_of_length_eq_zero hn.symm
    refine (AnyF.slices_SortFunc_none Tryz.sortTh none 0 (.func (.func 48) #[] #[]) w).mono fun e w' ⟨he, hw⟩ => ⟨he, ?_⟩
    subst hw
    have e : sortT [] = [] := by simp [sortT]
    rw [e]
    exact RowTo.same h
  · obtain ⟨cur, hg, hb, hnc, hcm, hcl, ht, hxs⟩ := own_cur h
    have hlt : g < w.heap.size := (Array.getElem?_eq_some_iff.1 hg).1
    have hH : HoldsK thC 3 w g 0 l.toArray := fun j hj => by
      rw [flatK_ths] at hj ⊢
      have hj' : j < (ths l).length := by simpa using hj
      refine ⟨?_, h.frozenAt _⟩
      have h1 := h.cells (g := g) rfl j ((ths l)[j]) (List.getElem?_eq_getElem hj')
      have e : (⟨g, 0, none⟩ : Addr).add j = ⟨g, 0 + j, none⟩ := by
        unfold Addr.add
        split
        · rename_i h0; subst h0; rfl
        · rfl
      rw [e] at h1
      rw [h1]
      simp [hj']
    have hcon := AnyQ.slices_SortFunc_total Tryz.sortTh 3 Tryz.isAgg32 Tryz.sizeOf32 thC (fun _ => rfl) thC_one ordT swo_ordT 48 #[] g 0 c l.toArray w eg_order (cmpLays_order _ _ _ _) hH hlt (by simp; omega) tot_ordT
    have e1 : l.toArray.size = n := by simp [hn]
    rw [e1] at hcon
    refine hcon.mono fun e w' ⟨he, q, os, hw⟩ => ⟨he, ?_⟩
    have e2 : (l.toArray.toList.mergeSort fun x y => !(ltOf ordT) y x) = sortT l := by simp [sortT]
    rw [e2] at hw
    obtain ⟨hc, ho⟩ := put_lay id (d := flatK thC 3 (sortT l).toArray) (os := os) (q := q) h (by simp [sortT_len, hn]) hw
    refine ⟨ho n _ (Nat.le_refl _) ?_, fun k hk => .inl hk, hc.mono fun k _ hk => by rw [hk]; rfl⟩
    rw [flatK_ths, List.map_id, List.take_of_length_le (by simp [ths_len, sortT_len, hn])]
/-! ### numbers -/
def sortI (l : List Int) : List Int := l.mergeSort fun x y => decide (x ≤ y)
theorem sortI_len (l : List Int) : (sortI l).length = l.length := (List.mergeSort_perm l _).length_eq
theorem holds_ints {w : World} {B n c g : Nat} {l : List Int} (h : w.ownsRow B 3 1 (.slice (some ⟨g, 0, none⟩) n c) n (intsV l)) : Holds (Value.int .i64) w g 0 l.toArray := fun j hj => by
  have hj' : j < l.length := by simpa using hj
  refine ⟨?_, h.frozenAt _⟩
  have h1 := h.cells (g := g) rfl j (.int .i64 l[j]) (by simp [intsV, hj'])
  have e : (⟨g, 0, none⟩ : Addr).add j = ⟨g, 0 + j, none⟩ := by
    unfold Addr.add
    split
    · rename_i h0; subst h0; rfl
    · rfl
  rw [e] at h1
  rw [h1]
  simp [hj']
theorem sortI_any {w : World} {B n c : Nat} {A : Option Addr} {l : List Int} (h : w.ownsRow B 3 1 (.slice A n c) n (intsV l)) (hn : n = l.length) (hl : l.length ≤ 1000000) :
    Calls Tryz.prog 54 #[.slice A n c] w fun e w' => e = .returned (.tuple #[]) ∧ RowTo B 3 1 (.slice A n c) w (.slice A n c) n (intsV (sortI l)) w' := by
  rcases own_form2 h with ⟨rfl, rfl, rfl, h0⟩ | ⟨g, rfl⟩
  · obtain rfl : l = [] := List.eq_nil_of_length_eq_zero hn.symm
    refine (AnyM.slices_Sort_int_none Tryz.sortI none 0 w).mono fun e w' ⟨he, hw⟩ => ⟨he, ?_⟩
    subst hw
    have e : sortI [] = [] := by simp [sortI]
    rw [e]
    exact RowTo.same h
  · obtain ⟨cur, hg, _⟩ := own_cur h
    have hlt : g < w.heap.size := (Array.getElem?_eq_some_iff.1 hg).1
    have hcon := AnyM.slices_Sort_int Tryz.sortI g 0 c l w (holds_ints h) hlt (by omega)
    rw [← hn] at hcon
    refine hcon.mono fun e w' ⟨he, q, os, hw⟩ => ⟨he, ?_⟩
    obtain ⟨hc, ho⟩ := put_lay (Value.int .i64) (d := (sortI l).toArray) (os := os) (q := q) h (by simp [sortI_len, hn]) hw
    refine ⟨ho n _ (Nat.le_refl _) ?_, fun k hk => .inl hk, hc.mono fun k _ hk => by rw [hk]; rfl⟩
    rw [List.take_of_length_le (by simp [sortI_len, hn])]
    rfl
theorem compactI_any {w : World} {B n c : Nat} {A : Option Addr} {l : List Int} (h : w.ownsRow B 3 1 (.slice A n c) n (intsV l)) (hn : n = l.length) (hl : l.length ≤ 1000000) :
    Calls Tryz.prog 55 #[.slice A n c] w fun e w' => ∃ m, e = .returned (.slice A m c) ∧ m = (Lib.compact l).length ∧ RowTo B 3 1 (.slice A n c) w (.slice A m c) m (intsV (Lib.compact l)) w' := by
  rcases own_form2 h with ⟨rfl, rfl, rfl, h0⟩ | ⟨g, rfl⟩
  · obtain rfl : l = [] := List.eq_nil_of_length_eq_zero hn.symm
    refine (AnyG.slices_Compact_int_empty Tryz.compactI none 0 w).mono fun e w' ⟨he, hw⟩ => ⟨0, he, rfl, ?_⟩
    subst hw
    exact RowTo.same h
  · obtain ⟨cur, hg, hb, hnc, hcm, hcl, ht, hxs⟩ := own_cur h
    have hcon := AnyG.slices_Compact_int Tryz.compactI g 0 c l w (holds_ints h) (by omega) (by omega)
    rw [← hn] at hcon
    have hle : (Lib.compact l).length ≤ n := by
      unfold Lib.compact Lib.compactUpTo
      rw [List.length_map]
      refine Nat.le_trans (List.length_filter_le _ _) (by simp [hn])
    refine hcon.mono fun e w' ⟨he, q, hw⟩ => ⟨_, he, rfl, ?_⟩
    obtain ⟨hc, ho⟩ := put_lay (Value.int .i64) (d := (Lib.compact l ++ List.replicate (n - (Lib.compact l).length) 0).toArray) (w' := w') (os := #[]) (q := q) h (by simp; omega) (by rw [grow_empty]; exact hw)
    refine ⟨ho _ _ hle ?_, fun k hk => .inl hk, hc.mono fun k _ hk => by rw [hk]; rfl⟩
    rw [Nat.mul_one, List.map_append, List.take_append_of_le_length (by simp), List.take_of_length_le (by simp)]
    rfl
end Go.Proofs.YthbbheegkhlniaaGreat

/-
  slices.DeleteFunc over a row of locks.
-/
namespace Go.Proofs.YthbbheegkhlniaaGreat
open Go.RowKit Go.Lib Go.Shelf

theorem heldV_len (l : List Hd) : (heldV l).length = l.length * 3 := by
  induction l with
  | nil => rfl
  | cons a l ih =>
    show (heldC a ++ heldV l).length = _
    rw [List.length_append, ih, List.length_cons]
    show 3 + _ = _
    omega
theorem heldC_one (x : Hd) : ∀ v ∈ heldC x, v.oneCell' = true := fun v hv => by
  simp [heldC] at hv
  rcases hv with rfl | rfl | rfl <;> rfl
theorem heldV_append (k l : List Hd) : heldV (k ++ l) = heldV k ++ heldV l := by simp [heldV]
theorem heldV_take (l : List Hd) : ∀ n, (heldV l).take (n * 3) = heldV (l.take n) := by
  induction l with
  | nil => intro n; simp [heldV]
  | cons a l ih =>
    intro n
    cases n with
    | zero => simp [heldV]
    | succ n =>
      show (heldC a ++ heldV l).take ((n + 1) * 3) = heldC a ++ heldV (l.take n)
      have e : (n + 1) * 3 = (heldC a).length + n * 3 := by show _ = 3 + n * 3; omega
      rw [e, List.take_length_add_append, ih]
theorem heldV_set (x : Hd) : ∀ (l : List Hd) (i : Nat), i < l.length → splice (heldV l) (i * 3) (heldC x) = heldV (l.set i x)
  | a :: l, 0, _ => by
    show splice (heldC a ++ heldV l) 0 (heldC x) = heldC x ++ heldV l
    unfold splice
    simp [heldC]
  | a :: l, i + 1, h => by
    have ih := heldV_set x l i (by simpa using h)
    show splice (heldC a ++ heldV l) ((i + 1) * 3) (heldC x) = heldC a ++ heldV (l.set i x)
    rw [← ih]
    have e : (i + 1) * 3 = (heldC a).length + i * 3 := by show _ = 3 + i * 3; omega
    unfold splice
    rw [e, List.take_length_add_append, show (heldC a).length + i * 3 + (heldC x).length = (heldC a).length + (i * 3 + (heldC x).length) by omega, List.drop_length_add_append]
    simp
theorem splice_append {a b cs : List Value} {o : Nat} (h : o + cs.length ≤ a.length) : splice (a ++ b) o cs = splice a o cs ++ b := by
  unfold splice
  rw [List.take_append_of_le_length (by omega), List.drop_append_of_le_length (by omega)]
  simp
theorem splice_length {a cs : List Value} {o : Nat} (h : o + cs.length ≤ a.length) : (splice a o cs).length = a.length := by
  unfold splice
  simp only [List.length_append, List.length_take, List.length_drop]
  omega
theorem splice_take {cur cs : List Value} {o k : Nat} (h : o + cs.length ≤ k) (hk : k ≤ cur.length) : (splice cur o cs).take k = splice (cur.take k) o cs := by
  have e : cur = cur.take k ++ cur.drop k := (List.take_append_drop k cur).symm
  have hl : (cur.take k).length = k := by rw [List.length_take]; omega
  have h2 : (splice (cur.take k) o cs).length = k := by rw [splice_length (by rw [hl]; exact h), hl]
  conv => lhs; rw [e]
  rw [splice_append (by rw [hl]; exact h)]
  rw [List.take_append_of_le_length (by rw [h2]; omega), List.take_of_length_le (by omega)]
/-- the predicate whatever the row holds meanwhile -/
def PredChg (g : Nat) (lb : Array Value) (p : Hd → Bool) (F : Nat → Prop) (w : World) : Prop :=
  ∀ (W : World) (x : Hd), Chg F w W → Calls Tryz.prog g (#[encH x] ++ lb) W fun e w' => e = .returned (.bool (p x)) ∧ Below W.heap.size W w'
theorem PredChg.below {g : Nat} {lb : Array Value} {p : Hd → Bool} {F : Nat → Prop} {w : World} (h : PredChg g lb p F w) : PredBelow Tryz.prog g lb encH p w :=
  fun W x hb => (h W x (Chg.of_below hb)).mono fun _ _ ⟨he, h2⟩ => ⟨he, hb.trans (h2.mono hb.size)⟩
theorem of_predC {x : Int} {b : Nat} {w : World} {F : Nat → Prop} (hb : b < w.heap.size) (hn : ¬ F b) (hc : w.cell? ⟨b, 0, none⟩ = some (.int .i64 x)) : PredChg 67 #[pt b] (ofP x) F w := fun W h hC =>
  of_pred (w := W) (Nat.lt_of_lt_of_le hb hC.size) ((hC.cell (p := ⟨b, 0, none⟩) hb hn).trans hc) W h (Below.refl _ _)
theorem addr0 (g k : Nat) : (⟨g, 0, none⟩ : Addr).add k = ⟨g, k, none⟩ := by
  unfold Addr.add
  split
  · rename_i h; subst h; rfl
  · simp
/-- a deletion under way: j are seen, i stay -/
structure DelS (B c g n : Nat) (l : List Hd) (p : Hd → Bool) (i j : Nat) (w wr : World) (cur : List Value) (l2 : List Hd) : Prop where
  chg : Chg (fun k => k = g) w wr
  blk : Blk wr g 62 cur.toArray
  len : cur.length = c * 3
  row : cur.take (n * 3) = heldV l2
  n2 : l2.length = n
  done : l2.take i = (l.take j).filter fun x => !p x
  todo : l2.drop j = l.drop j
  ile : i = ((l.take j).filter fun x => !p x).length
  lt : i < j
  jn : j ≤ n
section
variable {B c g n i j : Nat} {l l2 : List Hd} {p : Hd → Bool} {w wr w' : World} {cur : List Value}
theorem DelS.below (h : DelS B c g n l p i j w wr cur l2) (hb : Below wr.heap.size wr w') : DelS B c g n l p i j w w' cur l2 :=
  ⟨h.chg.trans' (Chg.of_below (F := fun k => k = g) hb) fun _ _ hk => hk, h.blk.below hb h.blk.lt, h.len, h.row, h.n2, h.done, h.todo, h.ile, h.lt, h.jn⟩
theorem DelS.at_ (h : DelS B c g n l p i j w wr cur l2) (hB : B ≤ g) (hnc : n ≤ c) (hcm : c ≤ maxLen) (hl : n = l.length) (hj : j < n) :
    wr.cell? ((⟨g, 0, none⟩ : Addr).add (j * 3)) = some (.int .i64 (l[j]'(by omega)).1) ∧ wr.cell? ⟨((⟨g, 0, none⟩ : Addr).add (j * 3)).block, ((⟨g, 0, none⟩ : Addr).add (j * 3)).off + 1, none⟩ = some (.int .i64 (l[j]'(by omega)).2.1) ∧ wr.cell? ⟨((⟨g, 0, none⟩ : Addr).add (j * 3)).block, ((⟨g, 0, none⟩ : Addr).add (j * 3)).off + 2, none⟩ = some (.bool (l[j]'(by omega)).2.2) := by
  have ho := own_of_cur h.blk hB hnc hcm h.len (heldV l2) h.row
  have h2 := h.n2
  obtain ⟨ad, e, _, a0, a1, a2⟩ := hdI_at (RowG.of_rows (fun _ => rfl) ho h2.symm) (i := j) (by omega)
  obtain rfl := Option.some.inj e
  have e2 : l2[j]'(by omega) = l[j]'(by omega) := by
    have h3 := congrArg (fun k => k[0]?) h.todo
    simpa [List.getElem?_drop, show j < l2.length by omega, show j < l.length by omega] using h3
  rw [e2] at a0 a1 a2
  exact ⟨a0, a1, a2⟩
theorem take_filter_succ {j : Nat} (hj : j < l.length) : (l.take (j + 1)).filter (fun x => !p x) = (l.take j).filter (fun x => !p x) ++ (if p l[j] = true then [] else [l[j]]) := by
  rw [List.take_succ_eq_append_getElem hj, List.filter_append]
  congr 1
  cases h : p l[j] <;> simp [h]
theorem DelS.skip (h : DelS B c g n l p i j w wr cur l2) (hl : n = l.length) (hj : j < n) (hp : p (l[j]'(by omega)) = true) : DelS B c g n l p i (j + 1) w wr cur l2 := by
  have e := take_filter_succ (l := l) (p := p) (j := j) (by omega)
  rw [if_pos hp, List.append_nil] at e
  refine ⟨h.chg, h.blk, h.len, h.row, h.n2, by rw [e]; exact h.done, ?_, by rw [e]; exact h.ile, by have := h.lt; omega, by omega⟩
  have := congrArg (List.drop 1) h.todo
  simpa [List.drop_drop] using this
theorem DelS.keep (h : DelS B c g n l p i j w wr cur l2) (hl : n = l.length) (hj : j < n) (hp : p (l[j]'(by omega)) = false) (hnc : n ≤ c) (hb : Blk w' g 62 (splice cur (i * 3) (heldC (l[j]'(by omega)))).toArray) (hc : Chg (fun k => k = g) wr w') :
    DelS B c g n l p (i + 1) (j + 1) w w' (splice cur (i * 3) (heldC (l[j]'(by omega)))) (l2.set i (l[j]'(by omega))) := by
  have e := take_filter_succ (l := l) (p := p) (j := j) (by omega)
  rw [if_neg (by rw [hp]; decide)] at e
  have h1 := h.lt
  have h2 := h.n2
  have h3 := h.len
  have hle : (i + 1) * 3 ≤ n * 3 := Nat.mul_le_mul_right _ (by omega)
  have hle2 : n * 3 ≤ c * 3 := Nat.mul_le_mul_right _ hnc
  have h9 : (heldC (l[j]'(by omega))).length = 3 := rfl
  refine ⟨h.chg.trans' hc fun _ _ hk => hk, hb, ?_, ?_, by simpa using h2, ?_, ?_, by rw [e, List.length_append, ← h.ile]; rfl, by omega, by omega⟩
  · rw [splice_length (by rw [h9, h3]; omega), h3]
  · rw [← heldV_set _ _ _ (by omega), ← h.row, splice_take (by rw [h9]; omega) (by omega)]
  · rw [e, ← h.done, List.take_succ_eq_append_getElem (by simp; omega)]
    rw [List.take_set_of_le (by omega)]
    simp
  · have h5 := congrArg (List.drop 1) h.todo
    rw [List.drop_drop, List.drop_drop] at h5
    rw [List.drop_set_of_lt (by omega)]
    exact h5
end
theorem idxL_some {p : Hd → Bool} : ∀ {l : List Hd} {k : Nat}, idxL p l = some k → ∃ hk : k < l.length, p l[k] = true ∧ (l.take k).filter (fun x => !p x) = l.take k
  | a :: r, k, h => by
    rw [idxL] at h
    split at h
    · rename_i ha
      injection h with h
      subst h
      exact ⟨by simp, by simpa using ha, rfl⟩
    · rename_i ha
      cases hr : idxL p r with
      | none => rw [hr] at h; cases h
      | some j =>
        rw [hr] at h
        injection h with h
        subst h
        obtain ⟨h1, h2, h3⟩ := idxL_some hr
        refine ⟨by simpa using h1, by simpa using h2, ?_⟩
        rw [List.take_succ_cons, List.filter_cons, h3]
        simp [ha]
theorem idxL_none {p : Hd → Bool} : ∀ {l : List Hd}, idxL p l = none → l.filter (fun x => !p x) = l
  | [], _ => rfl
  | a :: r, h => by
    rw [idxL] at h
    split at h
    · cases h
    · rename_i ha
      cases hr : idxL p r with
      | none => rw [List.filter_cons, idxL_none hr]; simp [ha]
      | some j => rw [hr] at h; cases h
theorem Tryz.infohd2 : (Tryz.prog.info? 62).map (fun i => (i.zero, i.size, i.bytes)) = some (some (.agg #[.int .i64 0, .int .i64 0, .bool false]), 3, 24) := by kernel_rfl
set_option maxRecDepth 100000 in
set_option maxHeartbeats 12800000 in
theorem delF_any {w : World} {B n c : Nat} {A : Option Addr} {l : List Hd} (h : w.ownsRow B 62 3 (.slice A n c) n (heldV l)) (hn : n = l.length) (hl : l.length ≤ 1000000) {g : Nat} {lb : Array Value} {p : Hd → Bool} (eg : ∀ args w, (callFunc g args).run Tryz.prog w = .ok (.enter g args) w) (hp : PredChg g lb p (fun k => (Value.slice A n c).ownBlock = some k) w) :
    Calls Tryz.prog 42 #[.slice A n c, .func (.func g) #[] lb] w fun e w' => ∃ m, e = .returned (.slice A m c) ∧ m = (l.filter fun x => !p x).length ∧ RowTo B 62 3 (.slice A n c) w (.slice A m c) m (heldV (l.filter fun x => !p x)) w' := by
  have hidx := idx_any (c := c) (RowG.of_rows (fun _ => rfl) h hn) (Nat.le_refl _) hn hl eg hp.below
  cases hi : idxL p l with
  | none =>
    rw [hi] at hidx
    have e := idxL_none hi
    have H := Lib.hid (And.intro hidx (And.intro h (And.intro hn e)))
    clear hidx h hn hl hp hi e
    go_enter Tryz.func42, Tryz.ntmps42
    go_wp2_with (go_at_call 52; refine H.out.1.mono ?_; rintro e w2 ⟨he, hb⟩; rw [show idxI none = -1 from rfl] at he; subst he; have H2 := Lib.hid hb; clear hb)
    go_ret
    refine ⟨n, rfl, by rw [H.out.2.2.2]; exact H.out.2.2.1, ?_⟩
    rw [H.out.2.2.2]
    exact ⟨own_chg H.out.2.1 (F := Non) (Chg.of_below H2.out) fun _ _ hf => hf, fun k hk => .inl hk, Chg.of_below H2.out⟩
  | some k0 =>
    rw [hi] at hidx
    obtain ⟨hk0, hpk, hfk⟩ := idxL_some hi
    obtain ⟨gb, rfl⟩ := own_form' h (by omega)
    obtain ⟨cur, hg, hb, hnc, hcm, hcl, ht, hxs⟩ := own_cur h
    have hn0 : (0 : Int) ≤ (n : Int) := Int.natCast_nonneg _
    have hnl : n ≤ 1000000 := by omega
    have hknd : k0 < n := by omega
    have hc0 : c ≤ 9223372036854775807 := by unfold maxLen at hcm; omega
    have hne1 : ((k0 : Int) == -1) = false := beq_eq_false_iff_ne.2 (by omega)
    have HD := Lib.hid (show ∀ w', Below w.heap.size w w' → ∃ cur l2, DelS B c gb n l p k0 (k0 + 1) w w' cur l2 from fun w' hb' => by
      have e := take_filter_succ (l := l) (p := p) (j := k0) hk0
      rw [if_pos hpk, List.append_nil, hfk] at e
      have hD : DelS B c gb n l p k0 (k0 + 1) w w cur l := ⟨Chg.refl _ _, hg, hcl, ht, hn.symm, by rw [e], rfl, by rw [e]; simp; omega, by omega, by omega⟩
      exact ⟨cur, l, hD.below hb'⟩)
    have H := Lib.hid (And.intro hidx (And.intro hn (And.intro hp (And.intro hb (And.intro hnc hcm)))))
    obtain ⟨i0, hi0, hz0, hz1, hz2⟩ := info_parts Tryz.infohd2
    have HI := Lib.hid (And.intro hi0 (And.intro hz0 (And.intro hz1 hz2)))
    clear hidx h hn hl hp hi hpk hfk hk0 hg hb hnc hcm hcl ht hxs hi0 hz0 hz1 hz2
    go_enter Tryz.func42, Tryz.ntmps42
    go_wp2_with (go_at_call 52; refine H.out.1.mono ?_; rintro e w2 ⟨he, hb⟩; rw [show idxI (some k0) = (k0 : Int) from rfl] at he; subst he; have H2 := Lib.hid hb; clear hb)
    go_loopw [5, 6, 7] (fun iv jv _ wr => ∃ (i j : Nat) (cur : List Value) (l2 : List Hd), iv = .int .i64 i ∧ jv = .int .i64 j ∧ DelS B c gb n l p i j w wr cur l2) (fun _ jv _ _ => n - (intOf jv).toNat)
    case atStart =>
      obtain ⟨cur, l2, h9⟩ := HD.out _ H2.out
      exact ⟨k0, k0 + 1, cur, l2, rfl, by go_num, h9⟩
    case round =>
      obtain ⟨i, j, cur, l2, rfl, rfl, hS⟩ := hrel
      have hjn := hS.jn
      have hij := hS.lt
      have HS := Lib.hid hS
      have hi0' : (0 : Int) ≤ (i : Int) := Int.natCast_nonneg _
      have hj0' : (0 : Int) ≤ (j : Int) := Int.natCast_nonneg _
      clear hS
      by_cases hlt : j < n
      · have hltz : (j : Int) < (n : Int) := by omega
        have hjl : j < l.length := by rw [← H.out.2.1]; exact hlt
        obtain ⟨a0, a1, a2⟩ := HS.out.at_ H.out.2.2.2.1 H.out.2.2.2.2.1 H.out.2.2.2.2.2 H.out.2.1 hlt
        obtain ⟨y, hy⟩ : ∃ y, y = l[j] := ⟨_, rfl⟩
        rw [← hy] at a0 a1 a2
        have b0 := a0
        rw [addr0] at a1 a2 b0
        simp only at a1 a2
        have hcall := H.out.2.2.1 (wr.alloc (.cells #[.int .i64 y.1, .int .i64 y.2.1, .bool y.2.2] 62)) y ((HS.out.chg.alloc _).mono fun _ _ hk => by rw [hk]; rfl)
        unfold encH heldC at hcall
        have HY := Lib.hid hy
        clear hy
        cases hq : p y with
        | true =>
          rw [hq] at hcall
          have HC := Lib.hid hcall
          clear hcall
          go_wp2_with (go_at_fn g; refine HC.out.mono ?_; rintro e w3 ⟨rfl, hb3⟩; have H3 := Lib.hid hb3; clear hb3)
          go_roundw
          case rel =>
            have hb9 : Below wr.heap.size wr w3 := ((Below.refl _ wr).alloc (Nat.le_refl _) _).trans (H3.out.mono (by simp))
            exact ⟨i, j + 1, cur, l2, rfl, by go_num, (HS.out.skip H.out.2.1 hlt (by rw [← HY.out]; exact hq)).below hb9⟩
          case measure => simp [intOf]; omega
        | false =>
          rw [hq] at hcall
          have HC := Lib.hid hcall
          clear hcall
          go_upto_region 9 with (go_at_fn g; refine HC.out.mono ?_; rintro e w3 ⟨rfl, hb3⟩; have H3 := Lib.hid hb3; clear hb3)
          have hb9 : Below wr.heap.size wr w3 := ((Below.refl _ wr).alloc (Nat.le_refl _) _).trans (H3.out.mono (by simp))
          obtain ⟨d0, d1, d2⟩ := (HdAt.new wr y).below H3.out (by simp)
          have HSB := Lib.hid (HS.out.below hb9)
          have hfit : i * 3 + 3 ≤ cur.length := by
            rw [HS.out.len]
            have h1 := Nat.mul_le_mul_right 3 (show i + 1 ≤ c by have := H.out.2.2.2.2.1; omega)
            omega
          clear hb9
          go_wp2_with (refine wpList_store_blk rfl 62 _ _ rfl gb (i * 3) [.int .i64 y.1, .int .i64 y.2.1, .bool y.2.2] (by simp [Act.eval]) (by simp [Act.eval]) cur 62 HSB.out.blk hfit (by rw [HI.out.1]; simp [HI.out.2.2.1]) (heldC_one y) ?_; intro w4 hb4 hc4 hs4; have H4 := Lib.hid (And.intro hb4 hc4); clear hb4 hc4 hs4)
          go_roundw
          case rel =>
            have h9 := HSB.out.keep (w' := w4) H.out.2.1 hlt (by rw [← HY.out]; exact hq) H.out.2.2.2.2.1 (by rw [← HY.out]; exact H4.out.1) H4.out.2
            exact ⟨i + 1, j + 1, _, _, by go_num, by go_num, h9⟩
          case measure => simp [intOf]; omega
      · obtain rfl : j = n := by omega
        have hltz : ¬ (j : Int) < (j : Int) := by omega
        have hin : i * 3 + (j - i) * 3 ≤ cur.length := by
          rw [HS.out.len, ← Nat.add_mul]
          exact Nat.mul_le_mul_right 3 (by have := H.out.2.2.2.2.1; omega)
        obtain ⟨cs, hcs, hrun⟩ := run_clear_k (P := Tryz.prog) wr 46 62 62 i0 (.agg #[.int .i64 0, .int .i64 0, .bool false]) 3 Tryz.underlying46 HI.out.1 HI.out.2.1 rfl (by intro v hv; simp [Value.cells] at hv; rcases hv with rfl | rfl | rfl <;> rfl) gb (i * 3) (j - i) (c - i) (by omega) cur HS.out.blk hin
        have HR := Lib.hid (And.intro hcs hin)
        clear hcs hin
        have hjc : j ≤ c := H.out.2.2.2.2.1
        have hjc' : (j : Int) ≤ (c : Int) := by omega
        have hic : (i : Int) ≤ (c : Int) := by omega
        have hij' : (i : Int) ≤ (j : Int) := by omega
        have hne2 : i ≠ c := by omega
        have hne3 : ¬ c = i := by omega
        go_wp2_with fail
        go_ret
        have hlen := HS.out.len
        have hcm3 : i * 3 ≤ c * 3 := Nat.mul_le_mul_right _ (by omega)
        have e1 : l.take j = l := List.take_of_length_le (by have := H.out.2.1; omega)
        have e2 : (heldV l2).take (i * 3) = heldV (l.filter fun x => !p x) := by rw [heldV_take, HS.out.done, e1]
        refine ⟨i, rfl, by rw [HS.out.ile, e1], own_of_cur (cur := splice cur (i * 3) cs) (HS.out.blk.setRow _) H.out.2.2.2.1 (by omega) H.out.2.2.2.2.2 ?_ _ ?_, fun k hk => .inl hk, (HS.out.chg.setRow (fun _ => rfl) _).mono fun k _ hk => by rw [hk]; rfl⟩
        · rw [splice_length (by rw [HR.out.1]; exact HR.out.2), hlen]
        · rw [← e2, ← HS.out.row, List.take_take, Nat.min_eq_left (by omega)]
          unfold splice
          rw [List.take_append_of_le_length (by rw [List.length_take]; omega), List.take_take, Nat.min_eq_left (Nat.le_refl _)]
end Go.Proofs.YthbbheegkhlniaaGreat

/-
  slices.Compact over a row of things.
-/
namespace Go.Proofs.YthbbheegkhlniaaGreat
open Go.RowKit Go.Lib Go.Shelf

theorem ths_take (l : List Th) : ∀ n, (ths l).take (n * 3) = ths (l.take n) := by
  induction l with
  | nil => intro n; simp [ths]
  | cons a l ih =>
    intro n
    cases n with
    | zero => simp [ths]
    | succ n =>
      show (thC a ++ ths l).take ((n + 1) * 3) = thC a ++ ths (l.take n)
      have e : (n + 1) * 3 = (thC a).length + n * 3 := by show _ = 3 + n * 3; omega
      rw [e, List.take_length_add_append, ih]
theorem ths_set (x : Th) : ∀ (l : List Th) (i : Nat), i < l.length → splice (ths l) (i * 3) (thC x) = ths (l.set i x)
  | a :: l, 0, _ => by
    show splice (thC a ++ ths l) 0 (thC x) = thC x ++ ths l
    unfold splice
    simp [thC]
  | a :: l, i + 1, h => by
    have ih := ths_set x l i (by simpa using h)
    show splice (thC a ++ ths l) ((i + 1) * 3) (thC x) = thC a ++ ths (l.set i x)
    rw [← ih]
    have e : (i + 1) * 3 = (thC a).length + i * 3 := by show _ = 3 + i * 3; omega
    unfold splice
    rw [e, List.take_length_add_append, show (thC a).length + i * 3 + (thC x).length = (thC a).length + (i * 3 + (thC x).length) by omega, List.drop_length_add_append]
    simp
def cU (l : List Th) (m : Nat) : List Th := Lib.compactUpTo l.toArray m
theorem arr_at {l : List Th} {m : Nat} (h : m < l.length) : l.toArray[m]! = l[m] := by simp [getElem!_pos, h]
theorem cU_keep {l : List Th} {m : Nat} (hm : m < l.length) (h0 : 0 < m) (h : l[m] ≠ l[m - 1]'(by omega)) : cU l (m + 1) = cU l m ++ [l[m]] := by
  unfold cU
  rw [Lib.compactUpTo_succ, Lib.keeps_pos (by rw [arr_at hm, arr_at (by omega)]; exact h), if_pos rfl, arr_at hm]
theorem cU_drop {l : List Th} {m : Nat} (hm : m < l.length) (h0 : 0 < m) (h : l[m] = l[m - 1]'(by omega)) : cU l (m + 1) = cU l m := by
  unfold cU
  rw [Lib.compactUpTo_succ, Lib.keeps_neg h0 (by rw [arr_at hm, arr_at (by omega)]; exact h)]
  simp
theorem cU_all {l : List Th} : ∀ {k : Nat}, k ≤ l.length → (∀ j (hj : j < l.length), 0 < j → j < k → l[j] ≠ l[j - 1]'(by omega)) → cU l k = l.take k
  | 0, _, _ => by simp [cU, Lib.compactUpTo]
  | 1, h, _ => by
    unfold cU
    rw [Lib.compactUpTo_succ, Lib.keeps_lt_one _ 0 (by omega), if_pos rfl, arr_at (by omega)]
    cases l with
    | nil => simp at h
    | cons a r => simp [Lib.compactUpTo]
  | k + 2, h, hh => by
    rw [cU_keep (m := k + 1) (by omega) (by omega) (hh _ (by omega) (by omega) (by omega)), cU_all (k := k + 1) (by omega) fun j hj h0 hjk => hh j hj h0 (by omega)]
    rw [← List.take_succ_eq_append_getElem]
theorem compact_cU (l : List Th) : Lib.compact l = cU l l.length := rfl
/-- a compaction under way: j are seen, i stay -/
structure CmS (B c g n : Nat) (l : List Th) (i j : Nat) (w wr : World) (cur : List Value) (l2 : List Th) : Prop where
  chg : Chg (fun k => k = g) w wr
  blk : Blk wr g 32 cur.toArray
  len : cur.length = c * 3
  row : cur.take (n * 3) = ths l2
  n2 : l2.length = n
  done : l2.take i = cU l j
  todo : l2.drop (j - 1) = l.drop (j - 1)
  ile : i = (cU l j).length
  lt : i < j
  j0 : 0 < j
  jn : j ≤ n
/-- a thing of a row -/
theorem thing_at {w : World} {B : Nat} {A : Option Addr} {l : List Th} (h : RowG thC 3 w B A l) {i : Nat} (hi : i < l.length) : ∃ ad, A = some ad ∧ ad.block < B ∧ w.cell? (ad.add (i * 3)) = some (.int .i64 l[i].k) ∧ w.cell? ⟨(ad.add (i * 3)).block, (ad.add (i * 3)).off + 1, none⟩ = some (.string l[i].t) ∧ w.cell? ⟨(ad.add (i * 3)).block, (ad.add (i * 3)).off + 2, none⟩ = some (.string l[i].y) := by
  obtain ⟨ad, rfl, hlt⟩ := h.lo (by omega)
  have get : ∀ j u, (thC l[i])[j]? = some u → w.cell? (ad.add (i * 3 + j)) = some u := fun j u hu => by
    obtain ⟨ad', e, hc⟩ := h.cell i hi j u hu
    obtain rfl := Option.some.inj e
    exact hc
  have addr_field : ∀ (a : Addr) (j : Nat), 0 < j → (⟨a.block, a.off + j, none⟩ : Addr) = a.add j := fun a j hj => by unfold Addr.add; rw [if_neg (by omega)]
  refine ⟨ad, rfl, hlt, get 0 _ rfl, ?_, ?_⟩
  · rw [addr_field _ _ (by omega), addr_add]; exact get 1 _ rfl
  · rw [addr_field _ _ (by omega), addr_add]; exact get 2 _ rfl
/-- a thing's cells at a place of a block -/
structure ThAt (w : World) (g o : Nat) (x : Th) : Prop where
  k : w.cell? ⟨g, o, none⟩ = some (.int .i64 x.k)
  t : w.cell? ⟨g, o + 1, none⟩ = some (.string x.t)
  y : w.cell? ⟨g, o + 2, none⟩ = some (.string x.y)
theorem own_thing {w : World} {B g n c : Nat} {l : List Th} (h : w.ownsRow B 32 3 (.slice (some ⟨g, 0, none⟩) n c) n (ths l)) (hn : n = l.length) {i : Nat} (hi : i < l.length) : ThAt w g (i * 3) l[i] := by
  obtain ⟨ad, e, _, a0, a1, a2⟩ := thing_at (RowG.of_rows (fun _ => rfl) h hn) hi
  obtain rfl := Option.some.inj e
  rw [addr0] at a0 a1 a2
  exact ⟨a0, a1, a2⟩
section
variable {B c g n i j : Nat} {l l2 : List Th} {w wr w' : World} {cur : List Value}
theorem CmS.drewN (h : CmS B c g n l i j w wr cur l2) (d : Nat) : CmS B c g n l i j w (wr.drewN d) cur l2 :=
  ⟨h.chg.drewN d, h.blk, h.len, h.row, h.n2, h.done, h.todo, h.ile, h.lt, h.j0, h.jn⟩
theorem CmS.get (h : CmS B c g n l i j w wr cur l2) (hl : n = l.length) {k : Nat} (hk : j - 1 ≤ k) (hkn : k < n) : l2[k]'(by rw [h.n2]; exact hkn) = l[k]'(by omega) := by
  have h2 := h.n2
  have h3 := congrArg (fun q => q[k - (j - 1)]?) h.todo
  simp only [List.getElem?_drop] at h3
  rw [show j - 1 + (k - (j - 1)) = k by omega, List.getElem?_eq_getElem (by omega), List.getElem?_eq_getElem (by omega)] at h3
  exact Option.some.inj h3
theorem CmS.at_ (h : CmS B c g n l i j w wr cur l2) (hB : B ≤ g) (hnc : n ≤ c) (hcm : c ≤ maxLen) (hl : n = l.length) {k : Nat} (hk : j - 1 ≤ k) (hkn : k < n) : ThAt wr g (k * 3) (l[k]'(by omega)) := by
  have ho := own_of_cur h.blk hB hnc hcm h.len (ths l2) h.row
  have h2 := h.n2
  have h9 := own_thing ho h2.symm (i := k) (by omega)
  rw [h.get hl hk hkn] at h9
  exact h9
theorem CmS.skip (h : CmS B c g n l i j w wr cur l2) (hl : n = l.length) (hj : j < n) (hp : (l[j]'(by omega)) = l[j - 1]'(by omega)) : CmS B c g n l i (j + 1) w wr cur l2 := by
  have h0 := h.j0
  have e := cU_drop (l := l) (m := j) (by omega) (by omega) hp
  refine ⟨h.chg, h.blk, h.len, h.row, h.n2, by rw [e]; exact h.done, ?_, by rw [e]; exact h.ile, by have := h.lt; omega, by omega, by omega⟩
  have := congrArg (List.drop 1) h.todo
  rw [List.drop_drop, List.drop_drop] at this
  rw [show j + 1 - 1 = j - 1 + 1 by omega]
  exact this
theorem CmS.keep (h : CmS B c g n l i j w wr cur l2) (hl : n = l.length) (hj : j < n) (hp : (l[j]'(by omega)) ≠ l[j - 1]'(by omega)) (hnc : n ≤ c) (hb : Blk w' g 32 (splice cur (i * 3) (thC (l[j]'(by omega)))).toArray) (hc : Chg (fun k => k = g) wr w') :
    CmS B c g n l (i + 1) (j + 1) w w' (splice cur (i * 3) (thC (l[j]'(by omega)))) (l2.set i (l[j]'(by omega))) := by
  have h0 := h.j0
  have e := cU_keep (l := l) (m := j) (by omega) (by omega) hp
  have h1 := h.lt
  have h2 := h.n2
  have h3 := h.len
  have hle : (i + 1) * 3 ≤ n * 3 := Nat.mul_le_mul_right _ (by omega)
  have hle2 : n * 3 ≤ c * 3 := Nat.mul_le_mul_right _ hnc
  have h9 : (thC (l[j]'(by omega))).length = 3 := rfl
  refine ⟨h.chg.trans' hc fun _ _ hk => hk, hb, ?_, ?_, by simpa using h2, ?_, ?_, by rw [e, List.length_append, ← h.ile]; rfl, by omega, by omega, by omega⟩
  · rw [splice_length (by rw [h9, h3]; omega), h3]
  · rw [← ths_set _ _ _ (by omega), ← h.row, splice_take (by rw [h9]; omega) (by omega)]
  · rw [e, ← h.done, List.take_succ_eq_append_getElem (by simp; omega)]
    rw [List.take_set_of_le (by omega)]
    simp
  · have h5 := congrArg (List.drop 1) h.todo
    rw [List.drop_drop, List.drop_drop] at h5
    rw [show j + 1 - 1 = j - 1 + 1 by omega, List.drop_set_of_lt (by omega)]
    exact h5
end
theorem Tryz.infothing : (Tryz.prog.info? 32).map (fun i => (i.zero, i.size, i.bytes)) = some (some (.agg #[.int .i64 0, .string ⟨#[]⟩, .string ⟨#[]⟩]), 3, 40) := by kernel_rfl
set_option maxRecDepth 100000 in
set_option maxHeartbeats 12800000 in
theorem compactT_any {w : World} {B n c : Nat} {A : Option Addr} {l : List Th} (h : w.ownsRow B 32 3 (.slice A n c) n (ths l)) (hn : n = l.length) (hl : l.length ≤ 1000000) :
    Calls Tryz.prog 49 #[.slice A n c] w fun e w' => ∃ m, e = .returned (.slice A m c) ∧ m = (Lib.compact l).length ∧ RowTo B 32 3 (.slice A n c) w (.slice A m c) m (ths (Lib.compact l)) w' := by
  have hn0 : (0 : Int) ≤ (n : Int) := Int.natCast_nonneg _
  have hnl : n ≤ 1000000 := by omega
  by_cases hsm : n < 2
  · have hsm' : (n : Int) < 2 := by omega
    have e : Lib.compact l = l := by
      rw [compact_cU, cU_all (Nat.le_refl _) (fun j hj h0 hjk => by omega), List.take_length]
    have H := Lib.hid (And.intro h (And.intro hn e))
    clear h hn hl e
    go_enter Tryz.func49, Tryz.ntmps49
    go_wp2_with fail
    go_ret
    rw [H.out.2.2]
    exact ⟨n, rfl, H.out.2.1, RowTo.same H.out.1⟩
  · have hsm' : ¬ (n : Int) < 2 := by omega
    obtain ⟨g, rfl⟩ := own_form' h (by omega)
    obtain ⟨cur, hg, hb, hnc, hcm, hcl, ht, hxs⟩ := own_cur h
    have hc0 : c ≤ 9223372036854775807 := by unfold maxLen at hcm; omega
    have H := Lib.hid (And.intro h (And.intro hn (And.intro hb (And.intro hnc (And.intro hcm (And.intro hg (And.intro hcl ht)))))))
    obtain ⟨i0, hi0, hz0, hz1, hz2⟩ := info_parts Tryz.infothing
    have HI := Lib.hid (And.intro hi0 (And.intro hz0 (And.intro hz1 hz2)))
    clear h hn hl hg hb hcl ht hxs hi0 hz0 hz1 hz2 hcm
    go_enter Tryz.func49, Tryz.ntmps49
    go_wp2_with fail
    go_loopw [3, 4, 5] (fun kv _ _ wr => ∃ (k d : Nat), kv = .int .i64 k ∧ 0 < k ∧ k ≤ n ∧ wr = w.drewN d ∧ ∀ j (hj : j < l.length), 0 < j → j < k → l[j] ≠ l[j - 1]'(by omega)) (fun kv _ _ _ => n - (intOf kv).toNat)
    case atStart => exact ⟨1, 0, rfl, by omega, by omega, rfl, fun j _ h0 h1 => by omega⟩
    case round =>
      obtain ⟨k, d, rfl, hk1, hkn, hw, hall⟩ := hrel
      obtain ⟨q, hq⟩ : ∃ q, k = q + 1 := ⟨k - 1, by omega⟩
      have hkq : (k : Int) - 1 = (q : Int) := by omega
      have hk0 : (0 : Int) ≤ (k : Int) := Int.natCast_nonneg _
      have hq0 : (0 : Int) ≤ (q : Int) := Int.natCast_nonneg _
      have HA := Lib.hid (And.intro hall (And.intro hw (And.intro hk1 hq)))
      by_cases hlt : k < n
      · have hltz : (k : Int) < (n : Int) := by omega
        have hqn : q < n := by omega
        have hqz : (q : Int) < (n : Int) := by omega
        have hkl : k < l.length := by rw [← H.out.2.1]; exact hlt
        have hql : q < l.length := by omega
        obtain ⟨a0, a1, a2⟩ := own_thing H.out.1 H.out.2.1 hkl
        obtain ⟨b0, b1, b2⟩ := own_thing H.out.1 H.out.2.1 hql
        obtain ⟨x, hx⟩ : ∃ x, x = l[k] := ⟨_, rfl⟩
        obtain ⟨y, hy⟩ : ∃ y, y = l[q] := ⟨_, rfl⟩
        rw [← hx] at a0 a1 a2
        rw [← hy] at b0 b1 b2
        have hcw : ∀ a, wr.cell? a = w.cell? a := fun a => by rw [hw]; rfl
        have a0 := (hcw _).trans a0
        have a1 := (hcw _).trans a1
        have a2 := (hcw _).trans a2
        have b0 := (hcw _).trans b0
        have b1 := (hcw _).trans b1
        have b2 := (hcw _).trans b2
        have HXY := Lib.hid (And.intro hx hy)
        clear hcw hall hw hq hx hy
        cases hr : decide (x = y) with
        | false =>
          have he := eqTh_run x y false hr
          have HR := Lib.hid hr
          clear hr
          go_upto_region 6 with fail
          go_quiet (fail)
          go_wp2_with fail
          go_roundw
          case rel =>
            refine ⟨k + 1, _, by go_num, by omega, by omega, by rw [HA.out.2.1]; exact World.drewN_drewN _ _ _, fun j hj h0 hjk => ?_⟩
            by_cases e : j = k
            · subst e
              have h9 := of_decide_eq_false HR.out
              rw [HXY.out.1, HXY.out.2] at h9
              have e2 : q = j - 1 := by have := HA.out.2.2.2; omega
              subst e2
              exact h9
            · exact HA.out.1 j hj h0 (by omega)
          case measure => simp [intOf]; omega
        | true =>
          have he := eqTh_run x y true hr
          have HR := Lib.hid hr
          clear hr
          go_upto_region 6 with fail
          go_quiet (fail)
          have HD := Lib.hid (show ∀ d', CmS B c g n l k (k + 1) w (w.drewN d') cur l from fun d' => by
            have h9 := of_decide_eq_true HR.out
            rw [HXY.out.1, HXY.out.2] at h9
            have e2 : q = k - 1 := by have := HA.out.2.2.2; omega
            subst e2
            have e := cU_drop (l := l) (m := k) hkl hk1 h9
            rw [cU_all (by omega) HA.out.1] at e
            exact ⟨(Chg.refl _ _).drewN _, H.out.2.2.2.2.2.1, H.out.2.2.2.2.2.2.1, H.out.2.2.2.2.2.2.2, H.out.2.1.symm, by rw [e], rfl, by rw [e]; simp; omega, by omega, by omega, by omega⟩)
          clear he a0 a1 a2 b0 b1 b2
          go_wp2_with fail
          go_loopw [3, 5] (fun iv mv wx => ∃ (i m : Nat) (cur : List Value) (l2 : List Th), iv = .int .i64 i ∧ mv = .int .i64 m ∧ 0 < m ∧ CmS B c g n l i (k + m) w wx cur l2) (fun _ mv _ => n - (intOf mv).toNat)
          case atStart =>
            refine ⟨k, 1, cur, l, rfl, rfl, by omega, ?_⟩
            rw [HA.out.2.1]
            first | exact (HD.out d).drewN _ | exact HD.out _
          case round =>
            obtain ⟨i, m, cur2, l2, rfl, rfl, hm1, hS⟩ := hrel
            obtain ⟨r, hr⟩ : ∃ r, m = r + 1 := ⟨m - 1, by omega⟩
            have hmr : (m : Int) - 1 = (r : Int) := by omega
            have hm0 : (0 : Int) ≤ (m : Int) := Int.natCast_nonneg _
            have hr0 : (0 : Int) ≤ (r : Int) := Int.natCast_nonneg _
            have hi0 : (0 : Int) ≤ (i : Int) := Int.natCast_nonneg _
            have hjn := hS.jn
            have hij := hS.lt
            have HS := Lib.hid (And.intro hS hr)
            clear hS hr
            by_cases hlt2 : m < n - k
            · have hlt2z : (m : Int) < ((n - k : Nat) : Int) := by omega
              have hlt2y : (m : Int) < (n : Int) - (k : Int) := by omega
              have hr2 : (r : Int) < ((n - k : Nat) : Int) := by omega
              have hr2y : (r : Int) < (n : Int) - (k : Int) := by omega
              have hjn2 : k + m < n := by omega
              have A1 := HS.out.1.at_ H.out.2.2.1 hnc H.out.2.2.2.2.1 H.out.2.1 (k := k + m) (by omega) hjn2
              have A2 := HS.out.1.at_ H.out.2.2.1 hnc H.out.2.2.2.2.1 H.out.2.1 (k := k + r) (by have := HS.out.2; omega) (by omega)
              rw [Nat.add_mul] at A1 A2
              obtain ⟨a0, a1, a2⟩ := A1
              obtain ⟨b0, b1, b2⟩ := A2
              obtain ⟨x2, hx2⟩ : ∃ x2, x2 = l[k + m]'(by have := H.out.2.1; omega) := ⟨_, rfl⟩
              obtain ⟨y2, hy2⟩ : ∃ y2, y2 = l[k + r]'(by have := H.out.2.1; omega) := ⟨_, rfl⟩
              rw [← hx2] at a0 a1 a2
              rw [← hy2] at b0 b1 b2
              have HXY2 := Lib.hid (And.intro hx2 hy2)
              clear hx2 hy2
              cases hr2' : decide (x2 = y2) with
              | true =>
                have he := neTh_run x2 y2 true hr2'
                have HR2 := Lib.hid hr2'
                clear hr2'
                go_upto_region 11 with fail
                go_quiet (fail)
                go_wp2_with fail
                go_roundw
                case rel =>
                  refine ⟨i, m + 1, cur2, l2, rfl, by go_num, by omega, ?_⟩
                  have h9 := of_decide_eq_true HR2.out
                  rw [HXY2.out.1, HXY2.out.2] at h9
                  have e2 : r = m - 1 := by have := HS.out.2; omega
                  subst e2
                  have h8 := HS.out.1.skip H.out.2.1 hjn2 (by rw [h9]; congr 1; omega)
                  first | exact h8.drewN _ | exact h8
                case measure => simp [intOf]; omega
              | false =>
                have he := neTh_run x2 y2 false hr2'
                have HR2 := Lib.hid hr2'
                clear hr2'
                go_upto_region 11 with fail
                go_quiet (fail)
                have hilt : i < n := by omega
                have hiltz : (i : Int) < (n : Int) := by omega
                have hfit : i * 3 + 3 ≤ cur2.length := by
                  rw [HS.out.1.len]
                  have h1 := Nat.mul_le_mul_right 3 (show i + 1 ≤ c by omega)
                  omega
                clear he b0 b1 b2
                go_wp2_with (refine wpList_store_blk rfl 32 _ _ rfl g (i * 3) [.int .i64 x2.k, .string x2.t, .string x2.y] (by simp [Act.eval]) (by simp [Act.eval]) cur2 32 (HS.out.1.drewN _).blk hfit (by rw [HI.out.1]; simp [HI.out.2.2.1]) (thC_one x2) ?_; intro w4 hb4 hc4 hs4; have H4 := Lib.hid (And.intro hb4 hc4); clear hb4 hc4 hs4)
                go_roundw
                case rel =>
                  have h9 := of_decide_eq_false HR2.out
                  rw [HXY2.out.1, HXY2.out.2] at h9
                  have e2 : r = m - 1 := by have := HS.out.2; omega
                  subst e2
                  have h8 := (HS.out.1.drewN _).keep (w' := w4) H.out.2.1 hjn2 (by intro e; apply h9; rw [e]; congr 1; omega) hnc (by rw [← HXY2.out.1]; exact H4.out.1) H4.out.2
                  exact ⟨i + 1, m + 1, _, _, by go_num, by go_num, by omega, h8⟩
                case measure => simp [intOf]; omega
            · have hjn3 : k + m = n := by omega
              have hlt2z : ¬ (m : Int) < ((n - k : Nat) : Int) := by omega
              have hlt2y : ¬ (m : Int) < (n : Int) - (k : Int) := by omega
              have hin : i * 3 + (n - i) * 3 ≤ cur2.length := by
                rw [HS.out.1.len, ← Nat.add_mul]
                exact Nat.mul_le_mul_right 3 (by omega)
              obtain ⟨cs, hcs, hrun⟩ := run_clear_k (P := Tryz.prog) wr 49 32 32 i0 (.agg #[.int .i64 0, .string ⟨#[]⟩, .string ⟨#[]⟩]) 3 Tryz.underlying49 HI.out.1 HI.out.2.1 rfl (by intro v hv; simp [Value.cells] at hv; rcases hv with rfl | rfl | rfl <;> rfl) g (i * 3) (n - i) (c - i) (by omega) cur2 HS.out.1.blk hin
              have HRC := Lib.hid (And.intro hcs hin)
              clear hcs hin
              have hjc' : (n : Int) ≤ (c : Int) := by omega
              have hic : (i : Int) ≤ (c : Int) := by omega
              have hij' : (i : Int) ≤ (n : Int) := by omega
              have hne2 : i ≠ c := by omega
              have hne3 : ¬ c = i := by omega
              go_wp2_with fail
              go_ret
              have hlen := HS.out.1.len
              have hcm3 : i * 3 ≤ c * 3 := Nat.mul_le_mul_right _ (by omega)
              have hdone := HS.out.1.done
              have hile := HS.out.1.ile
              rw [hjn3, H.out.2.1, ← compact_cU] at hdone hile
              have e2 : (ths l2).take (i * 3) = ths (Lib.compact l) := by rw [ths_take, hdone]
              refine ⟨i, rfl, hile, own_of_cur (cur := splice cur2 (i * 3) cs) (HS.out.1.blk.setRow _) H.out.2.2.1 (by omega) H.out.2.2.2.2.1 ?_ _ ?_, fun k hk => .inl hk, (HS.out.1.chg.setRow (fun _ => rfl) _).mono fun k _ hk => by rw [hk]; rfl⟩
              · rw [splice_length (by rw [HRC.out.1]; exact HRC.out.2), hlen]
              · rw [← e2, ← HS.out.1.row, List.take_take, Nat.min_eq_left (by omega)]
                unfold splice
                rw [List.take_append_of_le_length (by rw [List.length_take]; omega), List.take_take, Nat.min_eq_left (Nat.le_refl _)]
      · clear hw hq hkq
        obtain rfl : k = n := by omega
        have hltz : ¬ (k : Int) < (k : Int) := by omega
        go_wp2_with fail
        go_ret
        have e : Lib.compact l = l := by
          rw [compact_cU, cU_all (Nat.le_refl _) (fun j hj h0 hjk => HA.out.1 j hj h0 (by have := H.out.2.1; omega)), List.take_length]
        rw [e]
        refine ⟨_, rfl, H.out.2.1, ?_⟩
        have hb : Below w.heap.size w wr := by rw [HA.out.2.1]; exact below_dN (Below.refl _ _) _
        exact ⟨own_chg H.out.1 (F := Non) (Chg.of_below hb) fun _ _ hf => hf, fun k hk => .inl hk, Chg.of_below hb⟩
end Go.Proofs.YthbbheegkhlniaaGreat
