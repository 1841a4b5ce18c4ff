/-
  Rows of values of the call's own, at layer 4.
-/
import Derived.Test.YtkdcnkadngbccaaGreatDoorRowV
import Derived.Laws.MakeOwn
namespace Go.Proofs.YtkdcnkadngbccaaGreatDoor
open Go.RowKit Go.Lib

def cellsR (vs : List Va) : List Value := vs.flatMap vcell
theorem cellsR_cons (x : Va) (l : List Va) : cellsR (x :: l) = vcell x ++ cellsR l := by simp [cellsR]
theorem cellsR_len (vs : List Va) : (cellsR vs).length = vs.length * 3 := by
  induction vs with
  | nil => rfl
  | cons x l ih => rw [cellsR_cons, List.length_append, ih, List.length_cons]; simp [vcell]; omega
theorem cellsR_append (a b : List Va) : cellsR (a ++ b) = cellsR a ++ cellsR b := by simp [cellsR]
theorem cellsR_at (vs : List Va) : ∀ i (hi : i < vs.length) j, j < 3 → (cellsR vs)[i * 3 + j]? = (vcell vs[i])[j]? := by
  induction vs with
  | nil => intro i hi; simp at hi
  | cons x l ih =>
    intro i hi j hj
    rw [cellsR_cons]
    cases i with
    | zero =>
      rw [Nat.zero_mul, Nat.zero_add, List.getElem?_append_left (by simp [vcell]; exact hj)]
      rfl
    | succ i =>
      rw [List.getElem?_append_right (by simp [vcell]; omega), show (i + 1) * 3 + j - (vcell x).length = i * 3 + j by simp [vcell]; omega]
      exact ih i (by simpa using hi) j hj
theorem vcell_lt {x : Va} {j : Nat} {u : Value} (h : (vcell x)[j]? = some u) : j < 3 := by
  have := (List.getElem?_eq_some_iff.1 h).1
  simpa [vcell] using this
theorem cellsR_one (vs : List Va) : ∀ u ∈ cellsR vs, u.oneCell' = true := by
  intro u hu
  simp only [cellsR, List.mem_flatMap, vcell] at hu
  obtain ⟨x, _, hx⟩ := hu
  simp at hx
  rcases hx with rfl | rfl | rfl <;> rfl
theorem RowIn.of_own {w : World} {base : Nat} {A : Option Addr} {c : Nat} {vs : List Va} (h : w.ownsRow base 40 3 (.slice A vs.length c) vs.length (cellsR vs)) : RowIn w w.heap.size A vs := by
  have form : 0 < vs.length → ∃ g, A = some ⟨g, 0, none⟩ ∧ g < w.heap.size := fun hn => by
    obtain ⟨g, cap, hv, _, hlt⟩ := h.form hn
    exact ⟨g, by injection hv, hlt⟩
  refine ⟨fun hn => ?_, fun i hi j u hu => ?_⟩
  · obtain ⟨g, rfl, hlt⟩ := form hn
    exact ⟨_, rfl, hlt⟩
  · obtain ⟨g, rfl, hlt⟩ := form (by omega)
    exact ⟨_, rfl, h.cells (g := g) rfl _ _ ((cellsR_at vs i hi j (vcell_lt hu)).trans hu)⟩
theorem RowIn.cells {w : World} {B : Nat} {ad : Addr} {vs : List Va} (h : RowIn w B (some ad) vs) : ∀ j u, (cellsR vs)[j]? = some u → w.cell? (ad.add j) = some u := by
  intro j u hu
  have hj : j < (cellsR vs).length := (List.getElem?_eq_some_iff.1 hu).1
  rw [cellsR_len] at hj
  have hi : j / 3 < vs.length := by omega
  have e := cellsR_at vs (j / 3) hi (j % 3) (by omega)
  rw [show j / 3 * 3 + j % 3 = j by omega] at e
  obtain ⟨ad', e1, hc⟩ := h.cell (j / 3) hi (j % 3) u (e.symm.trans hu)
  obtain rfl := Option.some.inj e1
  rw [show j / 3 * 3 + j % 3 = j by omega] at hc
  exact hc

theorem Tryz.info40 : (Tryz.prog.info? 40).map (fun i => (i.zero, i.size, i.bytes)) = some (some (.agg #[.int .i64 0, .int .i64 0, .string ⟨#[]⟩]), 3, 32) := by kernel_rfl
theorem own3_shape {w : World} {base : Nat} {e : TypeId} {v : Value} {n m : Nat} {xs : List Value} (h : w.ownsRow base e m v n xs) : ∃ A c, v = .slice A n c ∧ n ≤ c ∧ c ≤ maxLen := by
  rcases h.2 with ⟨rfl, rfl⟩ | ⟨g, cap, cur, rfl, _, _, hn, hm, _⟩
  · exact ⟨none, 0, rfl, Nat.le_refl _, by simp [maxLen]⟩
  · exact ⟨_, cap, rfl, hn, hm⟩
theorem own3_below {w w' : World} {base C : Nat} {e : TypeId} {v : Value} {n m : Nat} {xs : List Value} (h : w.ownsRow base e m v n xs) (hb : Below C w w') (hC : w.heap.size ≤ C) : w'.ownsRow base e m v n xs := by
  refine ⟨h.1, ?_⟩
  rcases h.2 with hn | ⟨g, cap, cur, rfl, hbg, hg, rest⟩
  · exact .inl hn
  · refine .inr ⟨g, cap, cur, rfl, hbg, ?_, rest⟩
    have hlt : g < w.heap.size := (Array.getElem?_eq_some_iff.1 hg).1
    exact (hb.block g (by omega)).trans hg
theorem own3_base {w : World} {base base' : Nat} {e : TypeId} {v : Value} {n m : Nat} {xs : List Value} (h : w.ownsRow base e m v n xs) (hb : base' ≤ base) : w.ownsRow base' e m v n xs := by
  refine ⟨h.1, ?_⟩
  rcases h.2 with hn | ⟨g, cap, cur, rfl, hbg, hg, rest⟩
  · exact .inl hn
  · exact .inr ⟨g, cap, cur, rfl, by omega, hg, rest⟩
theorem below_own3 {w w' : World} {base : Nat} {e : TypeId} {v : Value} {n m : Nat} {xs : List Value} (h : w.ownsRow base e m v n xs) (hg : w.grownBy w' v.ownBlock) (hb : base ≤ w.heap.size) : Below base w w' :=
  (Below.refl _ _).grown hg hb fun k hk => (h.lt k hk).1

def zva : Va := ⟨0, 0, ⟨#[]⟩⟩
theorem madeVa (n : Nat) : madeCells (Value.agg #[.int .i64 0, .int .i64 0, .string ⟨#[]⟩]).cells (n * 3) = (cellsR (List.replicate n zva)).toArray := by
  apply Array.ext'
  apply List.ext_getElem?
  intro q
  by_cases hq : q < n * 3
  · have hi : q / 3 < (List.replicate n zva).length := by rw [List.length_replicate]; omega
    have e := cellsR_at (List.replicate n zva) (q / 3) hi (q % 3) (by omega)
    rw [show q / 3 * 3 + q % 3 = q by omega, List.getElem_replicate] at e
    have e2 : (cellsR (List.replicate n zva)).toArray.toList[q]? = (vcell zva)[q % 3]? := e
    rw [e2]
    rcases (by omega : q % 3 = 0 ∨ q % 3 = 1 ∨ q % 3 = 2) with h | h | h <;> simp [madeCells, Value.cells, hq, h, vcell, zva]
  · have e2 : (cellsR (List.replicate n zva)).toArray.toList[q]? = none := by
      rw [List.getElem?_eq_none]
      show (cellsR (List.replicate n zva)).length ≤ q
      rw [cellsR_len, List.length_replicate]
      omega
    rw [e2]
    simp [madeCells, Value.cells]
    omega
theorem make_va (n : Nat) (hn : n ≤ 1000000) (w : World) : (Instr.makeSlice 23 (.int .i64 (n : Int)) (.int .i64 (n : Int))).run Tryz.prog w = .ok (.slice (some ⟨w.heap.size, 0, none⟩) n n) (w.alloc (.cells (cellsR (List.replicate n zva)).toArray 40)) := by
  obtain ⟨i0, hi, hz0, hz1, hz2⟩ := info_parts Tryz.info40
  have h := run_make (P := Tryz.prog) w 23 40 i0 _ Tryz.underlying23 hi hz0 .i64 .i64 n n (by omega) (Int.le_refl _) (by rw [hz2]; omega) (by omega)
  rw [hz1] at h
  simp only [Int.toNat_natCast, madeVa] at h
  exact h

theorem set_va (x : Va) : ∀ (vs : List Va) (k : Nat), k < vs.length → (((cellsR vs).set (k * 3) (.int .i64 x.k)).set (k * 3 + 1) (.int .i64 x.n)).set (k * 3 + 2) (.string x.s) = cellsR (vs.set k x)
  | [], k, h => by simp at h
  | y :: vs, 0, _ => by simp [cellsR, vcell]
  | y :: vs, k + 1, h => by
    have ih := set_va x vs k (by simpa using h)
    rw [List.set_cons_succ, cellsR_cons, cellsR_cons, ← ih]
    have e : ∀ (l : List Value) (j : Nat) (u : Value), (vcell y ++ l).set (3 + j) u = vcell y ++ l.set j u := fun l j u => by
      rw [List.set_append_right _ _ (by simp [vcell])]
      simp [vcell]
    rw [show (k + 1) * 3 = 3 + k * 3 by omega, e, show 3 + k * 3 + 1 = 3 + (k * 3 + 1) by omega, e, show 3 + k * 3 + 2 = 3 + (k * 3 + 2) by omega, e]
theorem set_front {r : List Va} {k n : Nat} (hr : r.length = k) (hk : k < n) (x : Va) : (r ++ List.replicate (n - k) zva).set k x = (r ++ [x]) ++ List.replicate (n - (k + 1)) zva := by
  rw [List.set_append_right _ _ (by omega), hr, Nat.sub_self, show n - k = n - (k + 1) + 1 by omega, List.replicate_succ, List.set_cons_zero, List.append_assoc]
  rfl

theorem Blk.row {w : World} {g base : Nat} {vs : List Va} (h : Blk w g 40 (cellsR vs).toArray) (hb : base ≤ g) (hm : vs.length ≤ maxLen) : w.ownsRow base 40 3 (.slice (some ⟨g, 0, none⟩) vs.length vs.length) vs.length (cellsR vs) :=
  ⟨cellsR_len vs, .inr ⟨g, vs.length, (cellsR vs).toArray, rfl, hb, h, Nat.le_refl _, hm, by simp [cellsR_len], by rw [← cellsR_len]; simp⟩⟩

end Go.Proofs.YtkdcnkadngbccaaGreatDoor
