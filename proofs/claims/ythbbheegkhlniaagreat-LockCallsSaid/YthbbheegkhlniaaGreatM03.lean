/-
  Rows of one's own, elements of any size: what a step on a row leaves; append, copy, clear as runs. Imports nothing of the program.
-/
import Derived.Test.YthbbheegkhlniaaGreatM00
import Derived.Laws.CopyOwn
import Derived.Laws.OwnMore
import Derived.Lib.AppendZerosOnto
import Derived.Lib.Overlaps
import Derived.Test.YthbbheegkhlniaaGreatRows
import Derived.Test.YthbbheegkhlniaaGreatChecked
import Derived.WalkSpells
import Derived.WalkLawsBesides
import Derived.Lib.Hide
import Derived.Laws.StructEq
import Derived.Deep.QuietTactic
import Derived.BigQuiet
namespace Go.Proofs.YthbbheegkhlniaaGreat
open Go.RowKit Go.Lib

/-- what a step on a row of one's own leaves: the row, in its block or a new one; nothing else is turned -/
structure RowTo (B : Nat) (e : TypeId) (s : Nat) (v : Value) (w : World) (v' : Value) (n' : Nat) (xs' : List Value) (w' : World) : Prop where
  own : w'.ownsRow B e s v' n' xs'
  blk : ∀ k, v'.ownBlock = some k → v.ownBlock = some k ∨ w.heap.size ≤ k
  chg : Chg (fun k => v.ownBlock = some k) w w'

section
variable {w w' : World} {B : Nat} {e : TypeId} {s n : Nat} {v : Value} {xs : List Value}
theorem own_to_lt (h : w.ownsRow B e s v n xs) {C : Nat} (hC : C ≤ B) : w.ownsRow C e s v n xs := own_to h fun k hk => by have := (h.lt k hk).1; omega
/-- the first elements of a row -/
theorem own_first {g c : Nat} (h : w.ownsRow B e s (.slice (some ⟨g, 0, none⟩) n c) n xs) {i : Nat} (hi : i ≤ n) : w.ownsRow B e s (.slice (some ⟨g, 0, none⟩) i c) i (xs.take (i * s)) := by
  rcases h.2 with ⟨h', _⟩ | ⟨g', cap', cur, h', hb, hg, hnc, hcm, hcs, htake⟩
  · cases h'
  · injection h' with h1 _ h3
    injection h1 with h1
    injection h1 with h1
    subst h1; subst h3
    have hl := h.1
    have hm : i * s ≤ n * s := Nat.mul_le_mul_right _ hi
    refine ⟨by rw [List.length_take, hl]; omega, .inr ⟨g, c, cur, rfl, hb, hg, by omega, hcm, hcs, ?_⟩⟩
    rw [← htake, List.take_take, Nat.min_eq_left hm]
/-- a row, known whole -/
theorem own_cur {g c : Nat} (h : w.ownsRow B e s (.slice (some ⟨g, 0, none⟩) n c) n xs) : ∃ cur : List Value, w.heap[g]? = some (.cells cur.toArray e (0, 0)) ∧ B ≤ g ∧ n ≤ c ∧ c ≤ maxLen ∧ cur.length = c * s ∧ cur.take (n * s) = xs ∧ xs.length = n * s := by
  rcases h.2 with ⟨h', _⟩ | ⟨g', cap', cur, h', hb, hg, hnc, hcm, hcs, htake⟩
  · cases h'
  · injection h' with h1 _ h3
    injection h1 with h1
    injection h1 with h1
    subst h1; subst h3
    exact ⟨cur.toList, by simpa using hg, hb, hnc, hcm, by simpa using hcs, htake, h.1⟩
theorem own_of_cur {g c m : Nat} {cur : List Value} (hg : w.heap[g]? = some (.cells cur.toArray e (0, 0))) (hb : B ≤ g) (hnc : m ≤ c) (hcm : c ≤ maxLen) (hl : cur.length = c * s) (ys : List Value) (hy : cur.take (m * s) = ys) : w.ownsRow B e s (.slice (some ⟨g, 0, none⟩) m c) m ys := by
  have hm : m * s ≤ c * s := Nat.mul_le_mul_right _ hnc
  exact ⟨by rw [← hy, List.length_take, hl]; omega, .inr ⟨g, c, cur.toArray, rfl, hb, hg, hnc, hcm, by simpa using hl, by simpa using hy⟩⟩
theorem cur_cell {g : Nat} {cur : List Value} (hg : w.heap[g]? = some (.cells cur.toArray e (0, 0))) (j : Nat) : w.cell? ⟨g, j, none⟩ = cur[j]? := by
  rw [cell_of_row w g j _ e (0, 0) hg]; simp
theorem chg_setRow (w : World) (g : Nat) (cs : Array Value) : Chg (fun k => some g = some k) w (w.setRow g cs) := (Chg.refl (fun k => some g = some k) w).setRow (fun _ => rfl) cs
/-- an element -/
theorem own_form' {A : Option Addr} {c : Nat} (h : w.ownsRow B e s (.slice A n c) n xs) (hn : 0 < n) : ∃ g, A = some ⟨g, 0, none⟩ := by
  rcases h.2 with ⟨h', h0⟩ | ⟨g', cap', cur, h', _⟩
  · omega
  · injection h' with h1 _ _
    exact ⟨g', h1⟩
theorem own_nil {c : Nat} (h : w.ownsRow B e s (.slice none n c) n xs) : n = 0 ∧ c = 0 ∧ xs = [] := by
  rcases h.2 with ⟨h', h0⟩ | ⟨g', cap', cur, h', _⟩
  · injection h' with _ h1 h2
    exact ⟨h0, h2, List.eq_nil_of_length_eq_zero (by rw [h.1, h0, Nat.zero_mul])⟩
  · injection h' with h1 _ _
    cases h1
theorem own_form2 {A : Option Addr} {c : Nat} (h : w.ownsRow B e s (.slice A n c) n xs) : (A = none ∧ n = 0 ∧ c = 0 ∧ xs = []) ∨ ∃ g, A = some ⟨g, 0, none⟩ := by
  rcases h.2 with ⟨h', h0⟩ | ⟨g', cap', cur, h', _⟩
  · injection h' with h1 _ h2
    exact .inl ⟨h1, h0, h2, List.eq_nil_of_length_eq_zero (by rw [h.1, h0, Nat.zero_mul])⟩
  · injection h' with h1 _ _
    exact .inr ⟨g', h1⟩
theorem own_caps {A : Option Addr} {c : Nat} (h : w.ownsRow B e s (.slice A n c) n xs) : n ≤ c ∧ c ≤ maxLen := by
  rcases h.2 with ⟨h', h0⟩ | ⟨g', cap', cur, h', _, _, h1, h2, _⟩
  · injection h' with _ _ h2
    subst h2
    exact ⟨by omega, Nat.zero_le _⟩
  · injection h' with _ _ h3
    subst h3
    exact ⟨h1, h2⟩
theorem RowTo.same (h : w.ownsRow B e s v n xs) : RowTo B e s v w v n xs w := ⟨h, fun _ hk => .inl hk, Chg.refl _ _⟩
theorem RowTo.drew' {v' : Value} {n' : Nat} {xs' : List Value} (h : RowTo B e s v w.drew v' n' xs' w') : RowTo B e s v w v' n' xs' w' := ⟨h.own, h.blk, ⟨h.chg.os, h.chg.tape, h.chg.output, h.chg.size, h.chg.block⟩⟩
end

section
variable {P : Program}
/-- append, whatever the elements' size: in the row's block, or a new one -/
theorem run_append_row (w : World) (B : Nat) (t ty e : TypeId) (i : TypeInfo) (z : Value) (s bytes : Nat) (ht : P.underlying t = some (.slice e)) (hi : P.info? e = some i) (hz : i.zero = some z)
    (hsize : i.size = s) (hby : i.bytes = bytes) (hzs : z.cells.size = s) (hsz : 0 < s)
    (v : Value) (n : Nat) (xs : List Value) (hown : w.ownsRow B e s v n xs)
    (A : Option Addr) (m c : Nat) (news : List Value) (hl : news.length = m * s) (hA : A = none → m = 0) (hc : ∀ ad, A = some ad → ∀ j u, news[j]? = some u → w.cell? (ad.add j) = some u) (h1 : ∀ u ∈ news, u.oneCell' = true)
    (h63 : n + m ≤ maxLen) (hbytes : (n + m) * bytes ≤ 140737488355328) (hB : B ≤ w.heap.size) :
    ∃ A' c' w', (Builtin.append_ #[t, t] ty #[v, .slice A m c]).run P w = .ok (.slice A' (n + m) c') w' ∧ RowTo B e s v w (.slice A' (n + m) c') (n + m) (xs ++ news) w' := by
  rcases A with _ | ad
  · have hm := hA rfl
    subst hm
    have hn : news = [] := List.eq_nil_of_length_eq_zero (by rw [hl]; omega)
    subst hn
    rcases hown.2 with ⟨rfl, rfl⟩ | ⟨g, cap, cur, rfl, hrest⟩
    · exact ⟨_, _, w, run_append_nothing w B t ty e i s ht hi _ 0 xs hown c, by simpa using RowTo.same hown⟩
    · exact ⟨_, _, w, run_append_nothing w B t ty e i s ht hi _ n xs hown c, by simpa using RowTo.same hown⟩
  · have fresh : ∀ {v' w'}, w'.ownsRow w.heap.size e s v' (n + m) (xs ++ news) → w.grownBy w' v.ownBlock → RowTo B e s v w v' (n + m) (xs ++ news) w' := fun h hg => ⟨own_to_lt h hB, fun k hk => .inr (h.lt k hk).1, (Chg.refl _ w).grown hg fun k hk _ => hk⟩
    rcases hown.2 with ⟨rfl, rfl⟩ | ⟨g, cap, cur, rfl, hbg, hg, hnc, hcm, hcs, htake⟩
    · have hx : xs = [] := List.eq_nil_of_length_eq_zero (by simpa using hown.1)
      subst hx
      obtain ⟨v', w', hr, h2, h3, _⟩ := run_append_own (P := P) w w.heap.size t ty e i z s bytes ht hi hz hsize hby hzs hsz (.slice none 0 0) 0 [] (World.ownsRow_nil _ _ _ _) ad m c news hl (hc ad rfl) h1 h63 hbytes (Nat.le_refl _)
      have h4 := fresh h2 h3
      rcases h2.2 with ⟨rfl, h0⟩ | ⟨g', cap', cur', rfl, _⟩
      · rw [h0] at h4 ⊢
        exact ⟨_, _, w', by simpa [h0] using hr, h4⟩
      · exact ⟨_, _, w', hr, h4⟩
    · by_cases hroom : n + m ≤ cap
      · obtain ⟨w', hr, h2, h3⟩ := run_append_fits (P := P) w B t ty e i s ht hi hsize g n cap xs hown ad m c news hl (hc ad rfl) h1 hroom
        exact ⟨_, _, w', hr, ⟨h2, fun k hk => .inl hk, (Chg.refl _ w).grown h3 fun k hk _ => hk⟩⟩
      · subst hsize
        subst hby
        have hsmall : n + m ≤ 9223372036854775807 := by simp only [maxLen] at h63; omega
        have hlen : (xs ++ news).length = (n + m) * i.size := by rw [List.length_append, hown.1, hl, Nat.add_mul]
        have holds : ∀ j u, xs[j]? = some u → w.cell? ((⟨g, 0, none⟩ : Addr).add j) = some u := hown.cells (g := g) rfl
        have hr := run_append_grow (P := P) w t ty e i z ht hi hz ⟨g, 0, none⟩ n cap xs hown.1 holds ad m c news hl (hc ad rfl) (by omega) (by omega) (growslice_fits (by omega) hbytes)
        refine ⟨_, _, _, hr, fresh ⟨hlen, .inr ⟨w.heap.size, _, _, rfl, Nat.le_refl _, heap_alloc_new w.drew _, grownCap_ge w (n + m) cap e, grownCap_le_maxLen w (n + m) cap e h63, ?_, ?_⟩⟩ ⟨rfl, rfl, rfl, by simp, fun k hk _ => Below.heap_alloc w.drew _ _ hk⟩⟩
        · have hge := grownCap_ge w (n + m) cap e
          simp only [Array.size_append, List.size_toArray, size_zeroCells, hzs, hown.1, hl, ← Nat.add_mul]
          congr 1
          omega
        · simp only [Array.toList_append, List.append_assoc]
          rw [← List.append_assoc, ← hlen]
          exact List.take_left

/-- append of noughts where there is no room: a new row -/
theorem run_append_zeros (w : World) (t tn e : TypeId) (i : TypeInfo) (z : Value) (s bytes : Nat) (ht : P.underlying t = some (.slice e)) (htn : P.underlying tn = some (.int .i64)) (hi : P.info? e = some i) (hz : i.zero = some z)
    (hsize : i.size = s) (hby : i.bytes = bytes) (hzs : z.cells.size = s) (hsz : 0 < s)
    {B g c k : Nat} {xs : List Value} (hown : w.ownsRow B e s (.slice (some ⟨g, 0, none⟩) k c) k xs) (m : Nat) (hm : 0 < m) (hroom : c < k + m) (hsm : k + m ≤ 2000000) (hb : bytes ≤ 1000) :
    ∃ (c' : Nat) (cur : List Value), (∀ ty, (Builtin.append_ #[t, tn] ty #[.slice (some ⟨g, 0, none⟩) k c, .int .i64 m]).run P w = .ok (.slice (some ⟨w.heap.size, 0, none⟩) (k + m) c') (w.drew.alloc (.cells cur.toArray e))) ∧
      k + m ≤ c' ∧ c' ≤ maxLen ∧ cur.length = c' * s ∧ cur.take (k * s) = xs := by
  subst hsize
  subst hby
  have holds : ∀ j u, xs[j]? = some u → w.drew.cell? ((⟨g, 0, none⟩ : Addr).add j) = some u := hown.cells (g := g) rfl
  have hb1 : (k + m) * i.bytes ≤ 2000000 * 1000 := Nat.mul_le_mul hsm hb
  have hb2 : m * i.bytes ≤ 2000000 * 1000 := Nat.mul_le_mul (by omega) hb
  have hge := grownCap_ge w (k + m) c e
  have hr := fun ty => run_append_grow_zeros (P := P) w t tn ty e i z .i64 .i64 ht htn hi hz (some ⟨g, 0, none⟩) k c xs (run_firstCells_some w.drew i.size k ⟨g, 0, none⟩ k c xs hown.1 holds) m hm hsz hroom (by omega) (by omega) (growslice_fits hroom (by omega))
  refine ⟨_, (xs.toArray ++ Builtin.zeroCells z.cells m ++ Builtin.zeroCells z.cells (grownCap w (k + m) c e - (k + m))).toList, fun ty => ?_, hge, grownCap_le_maxLen w (k + m) c e (by unfold maxLen; omega), ?_, ?_⟩
  · rw [hr]
  · simp only [Array.length_toList, Array.size_append, List.size_toArray, size_zeroCells, hzs, hown.1, ← Nat.add_mul]
    congr 1
    omega
  · simp only [Array.toList_append, List.append_assoc]
    rw [← hown.1]
    exact List.take_left

/-- copy into a row that is known whole, whatever the elements' size -/
theorem run_copy_k (w : World) (dT sT ty e : TypeId) (i : TypeInfo) (s : Nat) (hu : P.underlying dT = some (.slice e)) (hi : P.info? e = some i) (hs : i.size = s)
    (g o dLen dCap : Nat) (a : Addr) (sLen sCap : Nat) (cur : List Value) (t : TypeId) (cs : List Value)
    (hg : w.heap[g]? = some (.cells cur.toArray t (0, 0))) (hn : cs.length = min sLen dLen * s)
    (hsrc : ∀ j v, cs[j]? = some v → w.cell? (a.add j) = some v) (hfit : o + cs.length ≤ cur.length) (h1 : ∀ v ∈ cs, v.oneCell' = true) :
    (Builtin.copy_ #[dT, sT] ty #[.slice (some ⟨g, o, none⟩) dLen dCap, .slice (some a) sLen sCap]).run P w =
      .ok (goInt ((min sLen dLen : Nat) : Int)) (w.setRow g (splice cur o cs).toArray) := by
  subst hs
  have hl := run_loadCells_list (P := P) w a cs hsrc
  have hst := run_storeCells_at P g o t cs 0 cur.toArray w hg (by simpa using hfit) h1
  rw [hn] at hl
  have hmn : Nat.min sLen dLen = min sLen dLen := rfl
  simp [Builtin.copy_, run_underlying hu, Builtin.lenOf, Builtin.firstCells, sizeOf, typeInfo, hi, hmn, hl, hst, splice, goInt]
  try omega

/-- clear of a row's places -/
theorem run_clear_k (w : World) (t e te : TypeId) (i : TypeInfo) (z : Value) (s : Nat) (hu : P.underlying t = some (.slice e)) (hi : P.info? e = some i) (hz : i.zero = some z) (hzs : z.cells.size = s) (hz1 : ∀ v ∈ z.cells, v.oneCell' = true)
    (g o n c : Nat) (hn : 0 < n) (cur : List Value) (hg : w.heap[g]? = some (.cells cur.toArray te (0, 0))) (hfit : o + n * s ≤ cur.length) :
    ∃ cs : List Value, cs.length = n * s ∧ ∀ ty, (Builtin.clear_ #[t] ty #[.slice (some ⟨g, o, none⟩) n c]).run P w = .ok (.tuple #[]) (w.setRow g (splice cur o cs).toArray) := by
  have hsz : (Builtin.zeroCells z.cells n).toList.length = n * s := by rw [Array.length_toList, size_zeroCells, hzs]
  have h1 : ∀ v ∈ (Builtin.zeroCells z.cells n).toList, v.oneCell' = true := by
    intro v hv
    simp only [Builtin.zeroCells, Array.toList_map, List.mem_map] at hv
    obtain ⟨j, hj, rfl⟩ := hv
    have hj' : j < n * z.cells.size := by simpa using hj
    have hp : 0 < z.cells.size := by
      rcases Nat.eq_zero_or_pos z.cells.size with h0 | h0
      · rw [h0] at hj'; omega
      · exact h0
    have hlt : j % z.cells.size < z.cells.size := Nat.mod_lt _ hp
    rw [getElem!_pos z.cells _ hlt]
    exact hz1 _ (Array.getElem_mem hlt)
  have hst := run_storeCells_at P g o te (Builtin.zeroCells z.cells n).toList 0 cur.toArray w hg (by rw [hsz]; simpa using hfit) h1
  refine ⟨(Builtin.zeroCells z.cells n).toList, hsz, fun ty => ?_⟩
  obtain ⟨m, rfl⟩ : ∃ m, n = m + 1 := ⟨n - 1, by omega⟩
  rw [hsz] at hst
  simp only [Builtin.clear_, List.getElem?_toArray, List.getElem?_cons_zero, Sem.run_bind, run_underlying hu, Result.andThen_ok, zeroValue, typeInfo, Sem.run_pure]
  simp [hi, hz, Result.andThen, hst, splice, hsz]
end

section
variable {P : Program}
/-- an operation's run is known: one step -/
theorem wpList_builtin_run {ops : Array Oper} {rest : List Oper} {o : Oper} {a : Act} {w : World} {Q : Exit → Act → World → Prop} {v' : Value} {w' : World} (hgd : o.guard = none)
    (hr : ∀ (K : Act → World → Prop), K (a.put o.dst v') w' → o.wp P a w K Q) (h : wpList P ops Q rest (a.put o.dst v') w') : wpList P ops Q (o :: rest) a w :=
  wpList_plain hgd fun K hK => hr K (hK _ _ h)
theorem wp_append2 (w : World) {o : Oper} {a : Act} {K : Act → World → Prop} {Q : Exit → Act → World → Prop} (s x : Operand) (t t' : TypeId)
    (ho : o.op = .call { callee := .builtin .append, args := #[s, x], argTypes := #[t, t'] }) (v u : Value) (hs : a.eval s = v) (hx : a.eval x = u) {v' : Value} {w' : World}
    (hr : (Builtin.append_ #[t, t'] o.type #[v, u]).run P w = .ok v' w') (h : K (a.put o.dst v') w') : o.wp P a w K Q := by
  unfold Oper.wp execOp
  simp only [ho, resolve, invoke, builtin, Sem.run_bind, Sem.run_pure, Result.andThen_ok, List.map_toArray, List.map_cons, List.map_nil, hs, hx, hr]
  exact h
theorem wpList_append2 (w : World) {ops : Array Oper} {rest : List Oper} {o : Oper} {a : Act} {Q : Exit → Act → World → Prop} (hgd : o.guard = none) (s x : Operand) (t t' : TypeId)
    (ho : o.op = .call { callee := .builtin .append, args := #[s, x], argTypes := #[t, t'] }) (v u : Value) (hs : a.eval s = v) (hx : a.eval x = u) {v' : Value} {w' : World}
    (hr : (Builtin.append_ #[t, t'] o.type #[v, u]).run P w = .ok v' w') (h : wpList P ops Q rest (a.put o.dst v') w') : wpList P ops Q (o :: rest) a w :=
  wpList_plain hgd fun _ hK => wp_append2 w s x t t' ho v u hs hx hr (hK _ _ h)
theorem step_append2 {ops : Array Oper} {o : Oper} {a : Act} {w : World} {K : Act → World → Prop} {Q : Exit → Act → World → Prop} {E : Prop}
    (hg : o.guard = none) (d x : Operand) (dT sT : TypeId) (hop : o.op = Op.call { callee := Callee.builtin Builtin.append, args := #[d, x], argTypes := #[dT, sT] })
    (v u : Value) (hd : a.eval d = v) (hx : a.eval x = u) {v' : Value} {w' : World} (hr : (Builtin.append_ #[dT, sT] o.type #[v, u]).run P w = .ok v' w') (hK : K (a.put o.dst v') w') :
    if Region.wanted o (yielded ops a.tmps) = true then Oper.wp P o a w K Q else E := by
  have hw : Region.wanted o (yielded ops a.tmps) = true := by simp [Region.wanted, hg]
  rw [if_pos hw]
  exact wp_append2 w d x dT sT hop v u hd hx hr hK
theorem wp_copy2 (w : World) {o : Oper} {a : Act} {K : Act → World → Prop} {Q : Exit → Act → World → Prop} (d s : Operand) (t t' : TypeId)
    (ho : o.op = .call { callee := .builtin .copy, args := #[d, s], argTypes := #[t, t'] }) (v u : Value) (hd : a.eval d = v) (hs : a.eval s = u) {v' : Value} {w' : World}
    (hr : (Builtin.copy_ #[t, t'] o.type #[v, u]).run P w = .ok v' w') (h : K (a.put o.dst v') w') : o.wp P a w K Q := by
  unfold Oper.wp execOp
  simp only [ho, resolve, invoke, builtin, Sem.run_bind, Sem.run_pure, Result.andThen_ok, List.map_toArray, List.map_cons, List.map_nil, hd, hs, hr]
  exact h
theorem wpList_copy2 (w : World) {ops : Array Oper} {rest : List Oper} {o : Oper} {a : Act} {Q : Exit → Act → World → Prop} (hgd : o.guard = none) (d s : Operand) (t t' : TypeId)
    (ho : o.op = .call { callee := .builtin .copy, args := #[d, s], argTypes := #[t, t'] }) (v u : Value) (hd : a.eval d = v) (hs : a.eval s = u) {v' : Value} {w' : World}
    (hr : (Builtin.copy_ #[t, t'] o.type #[v, u]).run P w = .ok v' w') (h : wpList P ops Q rest (a.put o.dst v') w') : wpList P ops Q (o :: rest) a w :=
  wpList_plain hgd fun _ hK => wp_copy2 w d s t t' ho v u hd hs hr (hK _ _ h)
theorem step_copy2 {ops : Array Oper} {o : Oper} {a : Act} {w : World} {K : Act → World → Prop} {Q : Exit → Act → World → Prop} {E : Prop}
    (hg : o.guard = none) (d x : Operand) (dT sT : TypeId) (hop : o.op = Op.call { callee := Callee.builtin Builtin.copy, args := #[d, x], argTypes := #[dT, sT] })
    (v u : Value) (hd : a.eval d = v) (hx : a.eval x = u) {v' : Value} {w' : World} (hr : (Builtin.copy_ #[dT, sT] o.type #[v, u]).run P w = .ok v' w') (hK : K (a.put o.dst v') w') :
    if Region.wanted o (yielded ops a.tmps) = true then Oper.wp P o a w K Q else E := by
  have hw : Region.wanted o (yielded ops a.tmps) = true := by simp [Region.wanted, hg]
  rw [if_pos hw]
  exact wp_copy2 w d x dT sT hop v u hd hx hr hK
theorem wpList_clear2 (w : World) {ops : Array Oper} {rest : List Oper} {o : Oper} {a : Act} {Q : Exit → Act → World → Prop} (hgd : o.guard = none) (s : Operand) (t : TypeId)
    (ho : o.op = .call { callee := .builtin .clear, args := #[s], argTypes := #[t] }) (v : Value) (hs : a.eval s = v) {v' : Value} {w' : World}
    (hr : (Builtin.clear_ #[t] o.type #[v]).run P w = .ok v' w') (h : wpList P ops Q rest (a.put o.dst v') w') : wpList P ops Q (o :: rest) a w := by
  refine wpList_plain hgd fun K hK => ?_
  unfold Oper.wp execOp
  simp only [ho, resolve, invoke, builtin, Sem.run_bind, Sem.run_pure, Result.andThen_ok, List.map_toArray, List.map_cons, List.map_nil, hs, hr]
  exact hK _ _ h
end
section
variable {P : Program}
theorem step_append_fits {ops : Array Oper} {o : Oper} {a : Act} {w : World} {K : Act → World → Prop} {Q : Exit → Act → World → Prop} {E : Prop}
    (hg : o.guard = none) (d x : Operand) (t : TypeId) (hop : o.op = Op.call { callee := Callee.builtin Builtin.append, args := #[d, x], argTypes := #[t, t] })
    (B : Nat) (e : TypeId) (i : TypeInfo) (s : Nat) (ht : P.underlying t = some (.slice e)) (hi : P.info? e = some i) (hsize : i.size = s)
    (g n cap : Nat) (xs : List Value) (hown : w.ownsRow B e s (.slice (some ⟨g, 0, none⟩) n cap) n xs) (hd : a.eval d = .slice (some ⟨g, 0, none⟩) n cap)
    (ad : Addr) (m c : Nat) (news : List Value) (hx : a.eval x = .slice (some ad) m c) (hl : news.length = m * s) (hnews : ∀ j u, news[j]? = some u → w.cell? (ad.add j) = some u) (h1 : ∀ u ∈ news, u.oneCell' = true) (hroom : n + m ≤ cap)
    (h : ∀ w', w'.ownsRow B e s (.slice (some ⟨g, 0, none⟩) (n + m) cap) (n + m) (xs ++ news) → w.grownBy w' (some g) → K (a.put o.dst (.slice (some ⟨g, 0, none⟩) (n + m) cap)) w') :
    if Region.wanted o (yielded ops a.tmps) = true then Oper.wp P o a w K Q else E := by
  obtain ⟨w', hr, h2, h3⟩ := run_append_fits (P := P) w B t o.type e i s ht hi hsize g n cap xs hown ad m c news hl hnews h1 hroom
  exact step_append2 hg d x t t hop _ _ hd hx hr (h w' h2 h3)
theorem step_append_row {ops : Array Oper} {o : Oper} {a : Act} {w : World} {K : Act → World → Prop} {Q : Exit → Act → World → Prop} {E : Prop}
    (hg : o.guard = none) (d x : Operand) (t : TypeId) (hop : o.op = Op.call { callee := Callee.builtin Builtin.append, args := #[d, x], argTypes := #[t, t] })
    (B : Nat) (e : TypeId) (i : TypeInfo) (z : Value) (s bytes : Nat) (ht : P.underlying t = some (.slice e)) (hi : P.info? e = some i) (hz : i.zero = some z)
    (hsize : i.size = s) (hby : i.bytes = bytes) (hzs : z.cells.size = s) (hsz : 0 < s)
    (v : Value) (n : Nat) (xs : List Value) (hown : w.ownsRow B e s v n xs) (hd : a.eval d = v)
    (A : Option Addr) (m c : Nat) (news : List Value) (hx : a.eval x = .slice A m c) (hl : news.length = m * s) (hA : A = none → m = 0) (hc : ∀ ad, A = some ad → ∀ j u, news[j]? = some u → w.cell? (ad.add j) = some u) (h1 : ∀ u ∈ news, u.oneCell' = true)
    (h63 : n + m ≤ maxLen) (hbytes : (n + m) * bytes ≤ 140737488355328) (hB : B ≤ w.heap.size)
    (h : ∀ A' c' w', RowTo B e s v w (.slice A' (n + m) c') (n + m) (xs ++ news) w' → K (a.put o.dst (.slice A' (n + m) c')) w') :
    if Region.wanted o (yielded ops a.tmps) = true then Oper.wp P o a w K Q else E := by
  obtain ⟨A', c', w', hr, h2⟩ := run_append_row (P := P) w B t o.type e i z s bytes ht hi hz hsize hby hzs hsz v n xs hown A m c news hl hA hc h1 h63 hbytes hB
  exact step_append2 hg d x t t hop _ _ hd hx hr (h A' c' w' h2)
theorem wpList_append_row {ops : Array Oper} {rest : List Oper} {o : Oper} {a : Act} {w : World} {Q : Exit → Act → World → Prop} (hgd : o.guard = none) (s' x : Operand) (t : TypeId)
    (ho : o.op = .call { callee := .builtin .append, args := #[s', x], argTypes := #[t, t] })
    (B : Nat) (e : TypeId) (i : TypeInfo) (z : Value) (s bytes : Nat) (ht : P.underlying t = some (.slice e)) (hi : P.info? e = some i) (hz : i.zero = some z)
    (hsize : i.size = s) (hby : i.bytes = bytes) (hzs : z.cells.size = s) (hsz : 0 < s)
    (v : Value) (n : Nat) (xs : List Value) (hown : w.ownsRow B e s v n xs) (hd : a.eval s' = v)
    (A : Option Addr) (m c : Nat) (news : List Value) (hx : a.eval x = .slice A m c) (hl : news.length = m * s) (hA : A = none → m = 0) (hc : ∀ ad, A = some ad → ∀ j u, news[j]? = some u → w.cell? (ad.add j) = some u) (h1 : ∀ u ∈ news, u.oneCell' = true)
    (h63 : n + m ≤ maxLen) (hbytes : (n + m) * bytes ≤ 140737488355328) (hB : B ≤ w.heap.size)
    (h : ∀ A' c' w', RowTo B e s v w (.slice A' (n + m) c') (n + m) (xs ++ news) w' → wpList P ops Q rest (a.put o.dst (.slice A' (n + m) c')) w') : wpList P ops Q (o :: rest) a w := by
  obtain ⟨A', c', w', hr, h2⟩ := run_append_row (P := P) w B t o.type e i z s bytes ht hi hz hsize hby hzs hsz v n xs hown A m c news hl hA hc h1 h63 hbytes hB
  exact wpList_append2 w hgd s' x t t ho _ _ hd hx hr (h A' c' w' h2)
end
end Go.Proofs.YthbbheegkhlniaaGreat

/-
  Rows of structs that are read.
-/
namespace Go.Proofs.YthbbheegkhlniaaGreat
open Go.RowKit Go.Lib

/-- a row of structs that is read -/
structure RowG {α : Type} (cell : α → List Value) (S : Nat) (w : World) (B : Nat) (A : Option Addr) (vs : List α) : Prop where
  lo : 0 < vs.length → ∃ ad, A = some ad ∧ ad.block < B
  cell : ∀ i (hi : i < vs.length) j u, (cell vs[i])[j]? = some u → ∃ ad, A = some ad ∧ w.cell? (ad.add (i * S + j)) = some u
theorem RowG.below {α : Type} {cell : α → List Value} {S : Nat} {w w' : World} {B C : Nat} {A : Option Addr} {vs : List α} (h : RowG cell S w B A vs) (hb : Below C w w') (hC : B ≤ C) : RowG cell S w' B A vs := by
  refine ⟨h.lo, fun i hi j u hu => ?_⟩
  obtain ⟨ad, rfl, hc⟩ := h.cell i hi j u hu
  obtain ⟨ad', e, hlt⟩ := h.lo (by omega)
  obtain rfl := Option.some.inj e
  exact ⟨ad, rfl, (hb.cell (p := ad.add (i * S + j)) (by rw [addr_block]; omega)).trans hc⟩
theorem RowG.more {α : Type} {cell : α → List Value} {S : Nat} {w : World} {B C : Nat} {A : Option Addr} {vs : List α} (h : RowG cell S w B A vs) (hC : B ≤ C) : RowG cell S w C A vs :=
  ⟨fun h0 => by obtain ⟨ad, e, hlt⟩ := h.lo h0; exact ⟨ad, e, by omega⟩, h.cell⟩

theorem flat_cell {α : Type} {cell : α → List Value} {S : Nat} (hS : ∀ a, (cell a).length = S) : ∀ (vs : List α) (i j : Nat) (hi : i < vs.length), j < S → (vs.flatMap cell)[i * S + j]? = (cell vs[i])[j]?
  | a :: vs, 0, j, _, hj => by
    rw [List.flatMap_cons, Nat.zero_mul, Nat.zero_add, List.getElem?_append_left (by rw [hS]; exact hj)]
    rfl
  | a :: vs, i + 1, j, hi, hj => by
    have hi' : i < vs.length := by simpa using hi
    rw [List.flatMap_cons, List.getElem?_append_right (by rw [hS, Nat.add_mul]; omega), hS, show (i + 1) * S + j - S = i * S + j by rw [Nat.add_mul]; omega, flat_cell hS vs i j hi' hj]
    rfl
theorem RowG.of_rows {α : Type} {cell : α → List Value} {S : Nat} {w : World} {base : Nat} {e : TypeId} {A : Option Addr} {n c : Nat} {vs : List α} (hS : ∀ a, (cell a).length = S) (h : w.ownsRow base e S (.slice A n c) n (vs.flatMap cell)) (hn : n = vs.length) : RowG cell S w w.heap.size A vs := by
  refine ⟨fun h0 => ?_, fun i hi j u hu => ?_⟩
  · obtain ⟨g, rfl⟩ := own_form' h (by omega)
    exact ⟨_, rfl, (h.lt g rfl).2⟩
  · obtain ⟨g, rfl⟩ := own_form' h (by omega)
    refine ⟨_, rfl, ?_⟩
    have hj : j < S := by
      have := (List.getElem?_eq_some_iff.1 hu).1
      rwa [hS] at this
    rw [World.ownsRow.cells h rfl (i * S + j) u (by rw [flat_cell hS vs i j hi hj]; exact hu)]
end Go.Proofs.YthbbheegkhlniaaGreat

/-
  The document's modes: row, right, Conflict, Covers, Join.
-/
namespace Go.Proofs.YthbbheegkhlniaaGreat
open Go.RowKit Go.Lib

/-- a call that leaves all as it was: what it answers -/
abbrev Says (P : Program) (f : FuncId) (args : Array Value) (w : World) (v : Value) : Prop := Calls P f args w fun e w' => e = .returned v ∧ Below w.heap.size w w'
def RowRet (w : World) (l : List Int) (e : Ending) (w' : World) : Prop := ∃ A n c, e = .returned (.slice A n c) ∧ n = l.length ∧ Rd w' w'.heap.size A n (l.map fun x => .int .i64 x) ∧ Below w.heap.size w w'
theorem rowRet_lit (w : World) (l : List Int) (cs : Array Value) (hcs : cs.toList = l.map fun x => .int .i64 x) (_ : l.length ≤ 8) : RowRet w l (.returned (.slice (some ⟨w.heap.size, 0, none⟩) l.length l.length)) (w.alloc (.cells cs 3)) := by
  refine ⟨_, _, _, rfl, rfl, ⟨by simp, fun _ => ⟨_, rfl, by simp, fun j u hu => ?_⟩⟩, (Below.refl _ w).alloc (Nat.le_refl _) _⟩
  rw [← hcs] at hu
  have h := World.news_of_block (w := w.alloc (.cells cs 3)) (heap_alloc_new w _) j u hu
  exact h
theorem rowRet_nil (w : World) : RowRet w [] (.returned (.slice none 0 0)) w := ⟨_, _, _, rfl, rfl, Rd.empty, Below.refl _ _⟩
set_option maxRecDepth 100000 in
set_option maxHeartbeats 12800000 in
theorem row_any (m : Int) (w : World) : Calls Tryz.prog 66 #[.int .i64 m] w (RowRet w (rowM m)) := by
  by_cases h1 : m = 1
  · subst h1
    go_enter Tryz.func66, Tryz.ntmps66
    go_wp2_with fail
    go_ret
    exact rowRet_lit w [6, 8] _ rfl (by decide)
  by_cases h2 : m = 2
  · subst h2
    go_enter Tryz.func66, Tryz.ntmps66
    go_wp2_with fail
    go_ret
    exact rowRet_lit w [3, 5, 6, 8] _ rfl (by decide)
  by_cases h3 : m = 3
  · subst h3
    go_enter Tryz.func66, Tryz.ntmps66
    go_wp2_with fail
    go_ret
    exact rowRet_lit w [2, 5, 6, 8] _ rfl (by decide)
  by_cases h4 : m = 4
  · subst h4
    go_enter Tryz.func66, Tryz.ntmps66
    go_wp2_with fail
    go_ret
    exact rowRet_lit w [4, 6, 8] _ rfl (by decide)
  by_cases h5 : m = 5
  · subst h5
    go_enter Tryz.func66, Tryz.ntmps66
    go_wp2_with fail
    go_ret
    exact rowRet_lit w [2, 3, 5, 6, 8] _ rfl (by decide)
  by_cases h6 : m = 6
  · subst h6
    go_enter Tryz.func66, Tryz.ntmps66
    go_wp2_with fail
    go_ret
    exact rowRet_lit w [1, 2, 3, 4, 5, 6, 8] _ rfl (by decide)
  by_cases h7 : m = 7
  · subst h7
    go_enter Tryz.func66, Tryz.ntmps66
    go_wp2_with fail
    go_ret
    exact rowRet_lit w [8] _ rfl (by decide)
  by_cases h8 : m = 8
  · subst h8
    go_enter Tryz.func66, Tryz.ntmps66
    go_wp2_with fail
    go_ret
    exact rowRet_lit w [1, 2, 3, 4, 5, 6, 7, 8] _ rfl (by decide)
  have hr : rowM m = [] := by
    unfold rowM
    rw [if_neg h1, if_neg h2, if_neg h3, if_neg h4, if_neg h5, if_neg h6, if_neg h7, if_neg h8]
  rw [hr]
  have q1 : (m == 1) = false := by simp [h1]
  have q2 : (m == 2) = false := by simp [h2]
  have q3 : (m == 3) = false := by simp [h3]
  have q4 : (m == 4) = false := by simp [h4]
  have q5 : (m == 5) = false := by simp [h5]
  have q6 : (m == 6) = false := by simp [h6]
  have q7 : (m == 7) = false := by simp [h7]
  have q8 : (m == 8) = false := by simp [h8]
  clear hr
  go_enter Tryz.func66, Tryz.ntmps66
  go_wp2_with fail
  go_ret
  exact rowRet_nil w
set_option maxRecDepth 100000 in
set_option maxHeartbeats 3200000 in
theorem rright_any (m : Int) (w : World) : Says Tryz.prog 65 #[.int .i64 m] w (.bool (rgB m)) := by
  unfold rgB
  by_cases h1 : 1 ≤ m
  · have d1 : decide (1 ≤ m) = true := decide_eq_true h1
    by_cases h2 : m ≤ 8
    · have d2 : decide (m ≤ 8) = true := decide_eq_true h2
      go_enter Tryz.func65, Tryz.ntmps65
      go_wp2_with fail
      go_ret
      exact ⟨by first | rfl | (rw [d1, d2]; rfl), Below.refl _ _⟩
    · have d2 : decide (m ≤ 8) = false := decide_eq_false h2
      go_enter Tryz.func65, Tryz.ntmps65
      go_wp2_with fail
      go_ret
      exact ⟨by first | rfl | (rw [d1, d2]; rfl), Below.refl _ _⟩
  · have d1 : decide (1 ≤ m) = false := decide_eq_false h1
    go_enter Tryz.func65, Tryz.ntmps65
    go_wp2_with fail
    go_ret
    exact ⟨by first | rfl | (rw [d1]; rfl), Below.refl _ _⟩
theorem Says.to {P : Program} {f : FuncId} {args : Array Value} {w : World} {v v' : Value} (h : Says P f args w v) (e : v = v') : Says P f args w v' := e ▸ h
theorem row_len (m : Int) : (rowM m).length ≤ 8 := by
  cases h : rgB m with
  | false => rw [row_out h]; simp
  | true => exact (by decide +kernel : ∀ m ∈ dom, (rowM m).length ≤ 8) m (rg_dom h)
set_option maxRecDepth 100000 in
set_option maxHeartbeats 3200000 in
theorem rconf_any (a b : Int) (w : World) : Says Tryz.prog 56 #[.int .i64 a, .int .i64 b] w (.bool (cfB a b)) := by
  obtain ⟨l, hl⟩ : ∃ l, l = rowM a := ⟨_, rfl⟩
  obtain ⟨r, hr⟩ : ∃ r, r = cfB a b := ⟨_, rfl⟩
  have hlen : l.length ≤ 8 := by rw [hl]; exact row_len a
  rw [← hr]
  unfold cfB at hr
  rw [← hl] at hr
  have H := Lib.hid (And.intro hr hl)
  clear hr hl
  go_enter Tryz.func56, Tryz.ntmps56
  go_wp2_with fail
  refine (row_any a w).mono ?_
  rintro e w1 ⟨A, n, c, rfl, hn, hrd, hb⟩
  rw [← H.out.2] at hn hrd
  have H1 := Lib.hid (And.intro hn (And.intro hrd hb))
  have hn8 : n ≤ 8 := by omega
  have hn0 : (0 : Int) ≤ (n : Int) := Int.natCast_nonneg _
  clear hn hrd hb
  go_wp2_with fail
  go_loop [6] (fun i => ∃ k : Nat, k ≤ n ∧ i = .int .i64 k ∧ (l.drop k).contains b = r) (fun i => n - (intOf i).toNat)
  case atStart => exact ⟨0, Nat.zero_le _, rfl, by rw [List.drop_zero]; exact H.out.1.symm⟩
  case round =>
    obtain ⟨k, hk, rfl, hat⟩ := hrel
    have hk0 : (0 : Int) ≤ (k : Int) := Int.natCast_nonneg _
    have HAT := Lib.hid hat
    clear hat
    by_cases hlt : k < n
    · have hlt1 : (k : Int) < (n : Int) := by omega
      have hkl : k < l.length := by rw [← H1.out.1]; exact hlt
      obtain ⟨ad, rfl, _, hc⟩ := H1.out.2.1.2 (by omega)
      have d0 := hc k (.int .i64 l[k]) (by rw [List.getElem?_map, List.getElem?_eq_getElem hkl]; rfl)
      have hst : (l.drop k).contains b = (b == l[k] || (l.drop (k + 1)).contains b) := by rw [List.drop_eq_getElem_cons hkl, List.contains_cons]
      obtain ⟨x, hx⟩ : ∃ x, x = l[k] := ⟨_, rfl⟩
      rw [← hx] at d0 hst
      have HST := Lib.hid hst
      clear hx hst hc
      by_cases he : x = b
      · have hq : (x == b) = true := by simp [he]
        have HE := Lib.hid he
        clear he
        go_wp2_with fail
        go_ret
        refine ⟨?_, H1.out.2.2⟩
        rw [← HAT.out, HST.out, HE.out]
        simp
      · have hq : (x == b) = false := by simp [he]
        have HE := Lib.hid he
        clear he
        go_wp2_with fail
        go_round
        case rel => exact ⟨k + 1, by omega, by go_num, by rw [← HAT.out, HST.out, show (b == x) = false by simp; exact fun e => HE.out e.symm]; simp⟩
        case measure => simp [intOf]; omega
    · have hlt1 : ¬ (k : Int) < (n : Int) := by omega
      go_wp2_with fail
      go_ret
      refine ⟨?_, H1.out.2.2⟩
      rw [← HAT.out, List.drop_eq_nil_of_le (by rw [← H1.out.1]; omega)]
      rfl
end Go.Proofs.YthbbheegkhlniaaGreat

/-
  The document's modes: Covers, Join.
-/
namespace Go.Proofs.YthbbheegkhlniaaGreat
open Go.RowKit Go.Lib

theorem cvN_down {a b : Int} : ∀ (j k : Nat), cvN a b k = false → cvN a b (k + j) = false
  | 0, _, h => h
  | j + 1, k, h => by rw [← Nat.add_assoc, cvN, cvN_down j k h, Bool.false_and]
theorem cvN_no {a b : Int} {k : Nat} (hk : k < 8) (hx : cfB b ((k + 1 : Nat) : Int) = true) (hy : cfB a ((k + 1 : Nat) : Int) = false) : cvN a b 8 = false := by
  have h : cvN a b (k + 1) = false := by rw [cvN, hx, hy]; simp
  have h2 := cvN_down (8 - (k + 1)) (k + 1) h
  rwa [show k + 1 + (8 - (k + 1)) = 8 by omega] at h2
theorem cvN_yes {a b : Int} {k : Nat} (h : cvN a b k = true) (hc : cfB b ((k + 1 : Nat) : Int) = false ∨ cfB a ((k + 1 : Nat) : Int) = true) : cvN a b (k + 1) = true := by
  rw [cvN, h]
  rcases hc with hc | hc <;> rw [hc] <;> simp
set_option maxRecDepth 100000 in
set_option maxHeartbeats 6400000 in
theorem rcov_any (a b : Int) (w : World) : Says Tryz.prog 37 #[.int .i64 a, .int .i64 b] w (.bool (cvB a b)) := by
  have hco := fun (x y : Int) (w : World) => rconf_any x y w
  have hri := fun (x : Int) (w : World) => rright_any x w
  have HC := Lib.hid (And.intro hco hri)
  have HB := Lib.hid (Below.refl w.heap.size w)
  clear hco hri
  cases h1 : rgB a with
  | false =>
    rw [cv_out (.inl h1)]
    have HR := Lib.hid h1
    clear h1
    go_enter Tryz.func37, Tryz.ntmps37
    go_wp2_with (go_at_call 65; refine (HC.out.2 _ _).mono ?_; (first | rw [HR.out]); rintro e w1 ⟨rfl, hb⟩; have hb2 := HB.out.trans (hb.mono HB.out.size); clear HB hb; have HB := Lib.hid hb2; clear hb2)
    go_ret
    exact ⟨rfl, HB.out⟩
  | true =>
    cases h2 : rgB b with
    | false =>
      rw [cv_out (.inr h2)]
      have HR := Lib.hid (And.intro h1 h2)
      clear h1 h2
      go_enter Tryz.func37, Tryz.ntmps37
      go_wp2_with (go_at_call 65; refine (HC.out.2 _ _).mono ?_; (first | rw [HR.out.1] | rw [HR.out.2]); rintro e w1 ⟨rfl, hb⟩; have hb2 := HB.out.trans (hb.mono HB.out.size); clear HB hb; have HB := Lib.hid hb2; clear hb2)
      go_ret
      exact ⟨rfl, HB.out⟩
    | true =>
      obtain ⟨r, hr⟩ : ∃ r, r = cvN a b 8 := ⟨_, rfl⟩
      have hcv : cvB a b = r := by unfold cvB; rw [h1, h2, hr]; rfl
      rw [hcv]
      have HR := Lib.hid (And.intro h1 (And.intro h2 hr))
      clear h1 h2 hcv hr
      go_enter Tryz.func37, Tryz.ntmps37
      go_wp2_with (go_at_call 65; refine (HC.out.2 _ _).mono ?_; (first | rw [HR.out.1] | rw [HR.out.2.1]); rintro e w1 ⟨rfl, hb⟩; have hb2 := HB.out.trans (hb.mono HB.out.size); clear HB hb; have HB := Lib.hid hb2; clear hb2)
      go_loopw [5] (fun v wx => ∃ k : Nat, k ≤ 8 ∧ v = .int .i64 ((k + 1 : Nat) : Int) ∧ cvN a b k = true ∧ Below w.heap.size w wx) (fun v _ => 9 - (intOf v).toNat)
      case atStart => exact ⟨0, by omega, rfl, rfl, HB.out⟩
      case round =>
        obtain ⟨k, hk, rfl, hcv, hb⟩ := hrel
        obtain ⟨m, hm⟩ : ∃ m, m = k + 1 := ⟨_, rfl⟩
        rw [← hm]
        have hm0 : (0 : Int) ≤ (m : Int) := Int.natCast_nonneg _
        have HK := Lib.hid (And.intro hcv hm)
        have HB := Lib.hid hb
        clear hcv hb
        by_cases hlt : m ≤ 8
        · have hlt1 : (m : Int) ≤ 8 := by omega
          have hltd : decide ((m : Int) ≤ 8) = true := decide_eq_true hlt1
          have hxx : cfB b ((k + 1 : Nat) : Int) = cfB b (m : Int) := by rw [hm]
          have hyy : cfB a ((k + 1 : Nat) : Int) = cfB a (m : Int) := by rw [hm]
          clear hm
          cases hx : cfB b (m : Int) with
          | false =>
            have HX := Lib.hid (And.intro hx (cvN_yes HK.out.1 (.inl (hxx.trans hx))))
            clear hx hxx hyy
            go_wp2_with (go_at_call 56; refine (HC.out.1 _ _ _).mono ?_; (first | rw [HX.out.1]); rintro e w1 ⟨rfl, hb⟩; have hb2 := HB.out.trans (hb.mono HB.out.size); clear HB hb; have HB := Lib.hid hb2; clear hb2)
            go_roundw
            case rel => exact ⟨k + 1, by have := HK.out.2; omega, by rw [← HK.out.2]; go_num, HX.out.2, HB.out⟩
            case measure => have := HK.out.2; simp [intOf]; omega
          | true =>
            cases hy : cfB a (m : Int) with
            | true =>
              have HX := Lib.hid (And.intro hx (And.intro hy (cvN_yes HK.out.1 (.inr (hyy.trans hy)))))
              clear hx hy hxx hyy
              go_wp2_with (go_at_call 56; refine (HC.out.1 _ _ _).mono ?_; (first | rw [HX.out.1] | rw [HX.out.2.1]); rintro e w1 ⟨rfl, hb⟩; have hb2 := HB.out.trans (hb.mono HB.out.size); clear HB hb; have HB := Lib.hid hb2; clear hb2)
              go_roundw
              case rel => exact ⟨k + 1, by have := HK.out.2; omega, by rw [← HK.out.2]; go_num, HX.out.2.2, HB.out⟩
              case measure => have := HK.out.2; simp [intOf]; omega
            | false =>
              have HX := Lib.hid (And.intro hx (And.intro hy (HR.out.2.2.trans (cvN_no (by have := HK.out.2; omega) (hxx.trans hx) (hyy.trans hy)))))
              clear hx hy hxx hyy
              go_wp2_with (go_at_call 56; refine (HC.out.1 _ _ _).mono ?_; (first | rw [HX.out.1] | rw [HX.out.2.1]); rintro e w1 ⟨rfl, hb⟩; have hb2 := HB.out.trans (hb.mono HB.out.size); clear HB hb; have HB := Lib.hid hb2; clear hb2)
              go_ret
              exact ⟨by rw [HX.out.2.2]; rfl, HB.out⟩
        · have hlt1 : ¬ (m : Int) ≤ 8 := by omega
          have hltd : decide ((m : Int) ≤ 8) = false := decide_eq_false hlt1
          clear hm
          have HF := Lib.hid (show r = true by rw [HR.out.2.2, ← HK.out.1, show k = 8 by have := HK.out.2; omega])
          go_wp2_with fail
          go_ret
          exact ⟨by rw [HF.out]; rfl, HB.out⟩
end Go.Proofs.YthbbheegkhlniaaGreat
