/-
  Two things: are they one?
-/
import Derived.Test.YthbbheegkhlniaaGreatLkT
import Derived.Maps.RangeWalk
import Derived.DeepKeys4
import Derived.Maps.OwnSet
import Derived.Test.YthbbheegkhlniaaGreatChecked
namespace Go.Proofs.YthbbheegkhlniaaGreat
open Go.RowKit Go.Lib

theorem str_beq (s t : ByteArray) : (s.toList == t.toList) = decide (s = t) := by
  rw [ByteArray.toList_eq, ByteArray.toList_eq]
  by_cases h : s = t
  · subst h; simp
  · rw [decide_eq_false h, Bool.eq_false_iff]
    intro hb
    apply h
    have h1 : s.data.toList = t.data.toList := by simpa using hb
    obtain ⟨⟨x⟩⟩ := s
    obtain ⟨⟨y⟩⟩ := t
    exact congrArg (fun l => (⟨⟨l⟩⟩ : ByteArray)) h1
theorem eqTh_run (x y : Th) (r : Bool) (hr : decide (x = y) = r) (w : World) : (binOp .eql 32 (.agg #[.int .i64 x.k, .string x.t, .string x.y]) (.agg #[.int .i64 y.k, .string y.t, .string y.y])).run Tryz.prog w = .ok (.bool r) w := by
  have u3 := Tryz.underlying3
  have a3 := Tryz.isAgg3
  have z3 := Tryz.sizeOf3
  have u9 := Tryz.underlying9
  have a9 := Tryz.isAgg9
  have z9 := Tryz.sizeOf9
  have hS : Tryz.prog.underlying 32 = some (.struct (Tryz.prog.fieldsOf 32)) := by kernel_rfl
  have hp : Tryz.prog.stoodInHeld 32 = false := by kernel_rfl
  rw [← hr, run_eql_struct, show (10000 : Nat) = 9999 + 1 from rfl, run_equalIn_agg w 9999 32 _ _ hS hp]
  simp only [Program.fieldsOf, Tryz.underlying32]
  have hs1 := str_beq x.t y.t
  have hs2 := str_beq x.y y.y
  obtain ⟨k, t, z⟩ := x
  obtain ⟨k', t', z'⟩ := y
  simp only at hs1 hs2 ⊢
  go_simp
  by_cases h1 : k = k' <;> by_cases h2 : t = t' <;> by_cases h3 : z = z' <;> simp_all
theorem neTh_run (x y : Th) (r : Bool) (hr : decide (x = y) = r) (w : World) : (binOp .neq 32 (.agg #[.int .i64 x.k, .string x.t, .string x.y]) (.agg #[.int .i64 y.k, .string y.t, .string y.y])).run Tryz.prog w = .ok (.bool !r) w := by
  have u3 := Tryz.underlying3
  have a3 := Tryz.isAgg3
  have z3 := Tryz.sizeOf3
  have u9 := Tryz.underlying9
  have a9 := Tryz.isAgg9
  have z9 := Tryz.sizeOf9
  have hS : Tryz.prog.underlying 32 = some (.struct (Tryz.prog.fieldsOf 32)) := by kernel_rfl
  have hp : Tryz.prog.stoodInHeld 32 = false := by kernel_rfl
  rw [← hr, run_neq_struct, show (10000 : Nat) = 9999 + 1 from rfl, run_equalIn_agg w 9999 32 _ _ hS hp]
  simp only [Program.fieldsOf, Tryz.underlying32]
  have hs1 := str_beq x.t y.t
  have hs2 := str_beq x.y y.y
  obtain ⟨k, t, z⟩ := x
  obtain ⟨k', t', z'⟩ := y
  simp only at hs1 hs2 ⊢
  go_simp
  by_cases h1 : k = k' <;> by_cases h2 : t = t' <;> by_cases h3 : z = z' <;> simp_all
theorem jnN_step {a b p : Int} {k m : Nat} (hp : p = jnN a b k) (hm : m = k + 1) : jnN a b (k + 1) = if cvB (m : Int) a && cvB (m : Int) b && (decide (p = 0) || decide ((rowM (m : Int)).length < (rowM p).length)) then (m : Int) else p := by
  rw [hp, hm, jnN]
theorem str_empty {s : ByteArray} (h : s = ⟨#[]⟩) : s.toList.isEmpty = true := by rw [h, ByteArray.toList_eq]; rfl
theorem str_some {s : ByteArray} (h : ¬ s = ⟨#[]⟩) : s.toList.isEmpty = false := by
  rw [Bool.eq_false_iff]
  intro h1
  apply h
  have h2 := str_beq s ⟨#[]⟩
  rw [List.isEmpty_iff.1 h1, ByteArray.toList_eq] at h2
  exact of_decide_eq_true h2.symm
/-- a thing in a block of its own -/
structure Tg (w : World) (b : Nat) (x : Th) : Prop where
  k : w.cell? ⟨b, 0, none⟩ = some (.int .i64 x.k)
  t : w.cell? ⟨b, 1, none⟩ = some (.string x.t)
  y : w.cell? ⟨b, 2, none⟩ = some (.string x.y)
theorem tg_new (w : World) (x : Th) : Tg (w.alloc (.cells #[.int .i64 x.k, .string x.t, .string x.y] 32)) w.heap.size x ∧ Below w.heap.size w (w.alloc (.cells #[.int .i64 x.k, .string x.t, .string x.y] 32)) := by
  have h := Blk.new w 32 #[.int .i64 x.k, .string x.t, .string x.y]
  exact ⟨⟨h.cell 0, h.cell 1, h.cell 2⟩, (Below.refl _ w).alloc (Nat.le_refl _) _⟩
theorem Tg.below {w w' : World} {b C : Nat} {x : Th} (h : Tg w b x) (hb : Below C w w') (hC : b < C) : Tg w' b x :=
  ⟨(hb.cell (p := ⟨b, 0, none⟩) hC).trans h.k, (hb.cell (p := ⟨b, 1, none⟩) hC).trans h.t, (hb.cell (p := ⟨b, 2, none⟩) hC).trans h.y⟩
end Go.Proofs.YthbbheegkhlniaaGreat

/-
  Things and numbers as keys; a map in memory as a function.
-/
namespace Go.Proofs.YthbbheegkhlniaaGreat
open Go.RowKit Go.Lib Go.Maps

theorem laidOut2 : laidOutB Tryz.prog = true := by kernel_rfl
theorem Tryz.deepTh : Tryz.prog.keyTypeAt 3 32 = true := by kernel_rfl
theorem Tryz.keyTh : Tryz.prog.keyType 32 = true := by kernel_rfl
theorem Tryz.rowTh : (32 : TypeId) < Tryz.prog.types.size := of_decide_eq_true (by kernel_rfl)
theorem Tryz.cellsTh : Tryz.prog.cellsOf 32 = 3 := by kernel_rfl
theorem Tryz.cellsI : Tryz.prog.cellsOf 3 = 1 := by kernel_rfl
theorem Tryz.cellsS : Tryz.prog.cellsOf 9 = 1 := by kernel_rfl
theorem Tryz.wideTh : (match Tryz.prog.underlying 32 with | some (.array _ _) | some (.struct _) => true | _ => false) = true := by kernel_rfl
set_option maxRecDepth 100000 in
theorem thK : Keyed Tryz.prog 32 := Keyed.of_law (deep_law_laid laidOut2 (m := 3) (by omega) Tryz.rowTh Tryz.deepTh Tryz.wideTh)
theorem thV_inj {x y : Th} (h : thV x = thV y) : x = y := by
  obtain ⟨k, t, z⟩ := x
  obtain ⟨k', t', z'⟩ := y
  simp [thV] at h
  rw [h.1, h.2.1, h.2.2]
/-- a thing whose number and texts are such as Go has -/
def Th.Key (x : Th) : Prop := NumI x.k ∧ x.t.size ≤ maxLen ∧ x.y.size ≤ maxLen
theorem Th.In.key {x : Th} (h : x.In) : x.Key := ⟨h.1, Nat.le_trans h.2.1 (by unfold roomLen maxLen; omega), Nat.le_trans h.2.2 (by unfold roomLen maxLen; omega)⟩
theorem NumI.wf {x : Int} (h : NumI x) : (Lit.int .i64 x).wf = true := by
  have h1 : IntKind.i64.min ≤ x := h.1
  have h2 : x ≤ IntKind.i64.max := h.2
  show (decide (IntKind.i64.min ≤ x) && decide (x ≤ IntKind.i64.max)) = true
  rw [decide_eq_true h1, decide_eq_true h2]
  rfl
set_option maxRecDepth 100000 in
theorem th_key (x : Th) (h : x.Key) : ∃ kl, keyOf Tryz.prog 32 (thV x) = some kl := by
  obtain ⟨h0, h1, h2⟩ := h
  have h0 := h0.wf
  have hf : (thV x).formed Tryz.prog 32 = true := by
    unfold thV
    simp [Value.formed, Tryz.underlying32, Tryz.cellsTh]
  have hl : ∃ L, Tryz.prog.keyLits (Tryz.prog.types.size + 1) 32 (thV x).cells.toList = some L := by
    obtain ⟨m, hm⟩ : ∃ m, Tryz.prog.types.size + 1 = m + 3 := by obtain ⟨k, hk⟩ := Nat.exists_eq_add_of_lt Tryz.rowTh; exact ⟨32 - 1 + k, by rw [hk]; simp; omega⟩
    rw [hm]
    have e1 : ∀ m, Tryz.prog.keyLits (m + 1) 3 [.int .i64 x.k] = some [.int .i64 x.k] := fun m => by
      unfold Program.keyLits
      rw [Tryz.underlying3]
      simp [h0]
    have e2 : ∀ m, Tryz.prog.keyLits (m + 1) 9 [.string x.t] = some [.string x.t.data.toList] := fun m => by
      unfold Program.keyLits
      rw [Tryz.underlying9]
      simp [h1]
    have e3 : ∀ m, Tryz.prog.keyLits (m + 1) 9 [.string x.y] = some [.string x.y.data.toList] := fun m => by
      unfold Program.keyLits
      rw [Tryz.underlying9]
      simp [h2]
    unfold Program.keyLits
    rw [Tryz.underlying32]
    simp only
    rw [if_pos (by rw [Tryz.cellsTh]; exact ⟨rfl, by kernel_rfl⟩)]
    simp [List.mapM_cons, List.mapM_nil, Tryz.cellsI, Tryz.cellsS, Value.cells, e1, e2, e3]
  obtain ⟨L, hL⟩ := hl
  obtain ⟨fs, hu⟩ : ∃ fs, Tryz.prog.underlying 32 = some (.struct fs) := ⟨_, Tryz.underlying32⟩
  refine ⟨.string (keyBytes L), ?_⟩
  unfold keyOf
  rw [hu]
  simp only
  rw [Tryz.keyTh, hf, hL]
  rfl
theorem intK : Keyed Tryz.prog 3 := int_keyed Tryz.underlying3
theorem NumI.key {x : Int} (h : NumI x) : keyOf Tryz.prog 3 (.int .i64 x) = some (.int .i64 x) := keyOf_int_mk Tryz.underlying3 h.wf
/-! ### a map as a function -/
def RV : Value → Option (DataW Value × List MemPlace) := fun v => some (.held v, [])
end Go.Proofs.YthbbheegkhlniaaGreat

/-
  A map in memory as a function: look-ups, stores, deletes.
-/
namespace Go.Proofs.YthbbheegkhlniaaGreat
open Go.RowKit Go.Lib Go.Maps

theorem sub_len {α : Type} [DecidableEq α] : ∀ (l k : List α), l.Nodup → (∀ x ∈ l, x ∈ k) → l.length ≤ k.length
  | [], _, _, _ => Nat.zero_le _
  | a :: l, k, h, hs => by
    have h' := List.nodup_cons.1 h
    have ha := hs a List.mem_cons_self
    have h1 := sub_len l (k.erase a) h'.2 fun x hx => by
      have hne : x ≠ a := fun e => h'.1 (e ▸ hx)
      exact (List.mem_erase_of_ne hne).2 (hs x (List.mem_cons_of_mem _ hx))
    have h2 := List.length_erase_of_mem ha
    have h3 := List.length_pos_of_mem ha
    simp only [List.length_cons]
    omega
/-- whatever is a key: what the map has of it -/
def MapG {κ : Type} (k : TypeId) (enc : κ → Value) (D : DataW Value) (f : κ → Option Value) : Prop := ∀ x kl, keyOf Tryz.prog k (enc x) = some kl → Maps.has D kl = (f x).isSome ∧ ∀ v, f x = some v → ∀ z, D.atKey kl z = .held v
def upd {κ : Type} [DecidableEq κ] {β : Type} (f : κ → β) (x : κ) (u : β) : κ → β := fun y => if y = x then u else f y
theorem upd_same {κ : Type} [DecidableEq κ] {β : Type} (f : κ → β) (x : κ) (u : β) : upd f x u x = u := if_pos rfl
theorem upd_other {κ : Type} [DecidableEq κ] {β : Type} (f : κ → β) {x y : κ} (u : β) (h : y ≠ x) : upd f x u y = f y := if_neg h
/-- at block b a map that is the function f -/
structure MapX {κ : Type} (enc : κ → Value) (w : World) (k : TypeId) (b : Nat) (f : κ → Option Value) (D : DataW Value) (ks : List κ) : Prop where
  own : w.ownsMap Tryz.prog k RV b (Maps.size D) D
  tell : MapG k enc D f
  nd : ks.Nodup
  len : Maps.size D ≤ ks.length
  sup : ∀ x ∈ ks, (f x).isSome = true
def MapM {κ : Type} (enc : κ → Value) (w : World) (k : TypeId) (b : Nat) (f : κ → Option Value) : Prop := ∃ D ks, MapX enc w k b f D ks
theorem own_shrink {k : TypeId} {w : World} {b n : Nat} {D : DataW Value} (h : w.ownsMap Tryz.prog k RV b n D) : w.ownsMap Tryz.prog k RV b (Maps.size D) D := by
  obtain ⟨es, clock, hb, F, _, rfl⟩ := h
  exact ⟨es, clock, hb, F, by simp [Maps.size, length_sorted], rfl⟩
theorem own_map_chg {k : TypeId} {w w' : World} {F : Nat → Prop} {b n : Nat} {D : DataW Value} (h : w.ownsMap Tryz.prog k RV b n D) (hc : Chg F w w') (hb : ¬ F b) : w'.ownsMap Tryz.prog k RV b n D := by
  have hlt := h.lt
  obtain ⟨es, clock, hb', rest⟩ := h
  exact ⟨es, clock, (hc.block b hlt hb).trans hb', rest⟩
section
variable {κ : Type} {enc : κ → Value} {k t e : TypeId} {w w' : World} {b : Nat} {f : κ → Option Value} {D : DataW Value} {ks : List κ}
theorem MapM.chg {F : Nat → Prop} (h : MapM enc w k b f) (hc : Chg F w w') (hb : ¬ F b) : MapM enc w' k b f := by
  obtain ⟨D, ks, h⟩ := h
  exact ⟨D, ks, own_map_chg h.own hc hb, h.tell, h.nd, h.len, h.sup⟩
theorem MapM.lt (h : MapM enc w k b f) : b < w.heap.size := by
  obtain ⟨D, ks, h⟩ := h
  exact h.own.lt
theorem MapM.made (w : World) (enc : κ → Value) (k : TypeId) : MapM enc (w.alloc (.map #[] 0)) k w.heap.size fun _ => none :=
  ⟨.map [], [], by have := World.ownsMap_made w Tryz.prog k RV; simpa [Maps.size] using this, fun x kl _ => ⟨by simp [Maps.has], fun v hv => by cases hv⟩, List.nodup_nil, by simp [Maps.size], fun x hx => by cases hx⟩
theorem rv_inv {v u : Value} {ps : List MemPlace} (h : RV v = some (.held u, ps)) : v = u := by
  unfold RV at h
  injection h with h
  injection h with h _
  injection h
/-- a look-up, with its word -/
theorem MapM.look_ok (h : MapM enc w k b f) (K : Keyed Tryz.prog k) (ht : Tryz.prog.underlying t = some (.map k e)) {z : Value} (hz : (zeroValue e).run Tryz.prog w = .ok z w) {x : κ} {kl : Lit} (hkey : keyOf Tryz.prog k (enc x) = some kl) :
    (Instr.lookup t (.map (some b)) (enc x) true).run Tryz.prog w = .ok (.tuple #[(f x).getD z, .bool (f x).isSome]) w := by
  obtain ⟨D, ks, h⟩ := h
  obtain ⟨v, ps, hrun, hv⟩ := h.own.look_ok K ht hz (zd := .held z) (zp := []) rfl hkey
  obtain ⟨h1, h2⟩ := h.tell x kl hkey
  rw [hrun, h1]
  cases hf : f x with
  | some u =>
    rw [h2 u hf] at hv
    rw [rv_inv hv]
    rfl
  | none =>
    rw [hf] at h1
    rw [atKey_of_not_has h1] at hv
    rw [rv_inv hv]
    rfl
theorem MapM.look (h : MapM enc w k b f) (K : Keyed Tryz.prog k) (ht : Tryz.prog.underlying t = some (.map k e)) {z : Value} (hz : (zeroValue e).run Tryz.prog w = .ok z w) {x : κ} {kl : Lit} (hkey : keyOf Tryz.prog k (enc x) = some kl) :
    (Instr.lookup t (.map (some b)) (enc x) false).run Tryz.prog w = .ok ((f x).getD z) w := by
  obtain ⟨D, ks, h⟩ := h
  obtain ⟨v, ps, hrun, hv⟩ := h.own.lookup K ht hz (zd := .held z) (zp := []) rfl hkey
  obtain ⟨h1, h2⟩ := h.tell x kl hkey
  rw [hrun]
  cases hf : f x with
  | some u =>
    rw [h2 u hf] at hv
    rw [rv_inv hv]
    rfl
  | none =>
    rw [hf] at h1
    rw [atKey_of_not_has h1] at hv
    rw [rv_inv hv]
    rfl
variable [DecidableEq κ]
theorem MapX.small (h : MapX enc w k b f D ks) {l : List κ} (hl : ∀ x, (f x).isSome = true → x ∈ l) : Maps.size D ≤ l.length := by
  exact Nat.le_trans h.len (sub_len ks l h.nd fun x hx => hl x (h.sup x hx))
set_option maxRecDepth 100000 in
theorem MapX.put (h : MapX enc w k b f D ks) (K : Keyed Tryz.prog k) (hinj : ∀ x y, enc x = enc y → x = y) {x : κ} {kl : Lit} (hkey : keyOf Tryz.prog k (enc x) = some kl) {v : Value} {n : Nat} (hown : w'.ownsMap Tryz.prog k RV b n (D.put kl (.held v))) : MapM enc w' k b (upd f x (some v)) := by
  have hT : Tidy D := h.own.tidy K
  have hlit := K.key hkey
  have hno : (f x).isSome = false → x ∉ ks := fun hn hx => by rw [h.sup x hx] at hn; cases hn
  refine ⟨D.put kl (.held v), if (f x).isSome = true then ks else x :: ks, own_shrink hown, fun y ky hy => ?_, ?_, ?_, fun y hy => ?_⟩
  · by_cases e : y = x
    · subst e
      have e1 : ky = kl := Option.some.inj (hy.symm.trans hkey)
      rw [e1, has_put_same hT.isMap hlit, upd_same]
      refine ⟨rfl, fun u hu z => ?_⟩
      injection hu with hu
      rw [← hu, atKey_put_same hT.isMap hlit]
    · have hne : ky ≠ kl := fun e1 => e (hinj _ _ (K.inj hy (by rw [e1]; exact hkey)))
      rw [has_put_other hne, upd_other _ _ e]
      refine ⟨(h.tell y ky hy).1, fun u hu z => ?_⟩
      rw [atKey_put_other hne]
      exact (h.tell y ky hy).2 u hu z
  · split
    · exact h.nd
    · rename_i hn
      exact List.nodup_cons.2 ⟨hno (by simpa using hn), h.nd⟩
  · have h9 := h.len
    rw [size_put hT, (h.tell x kl hkey).1]
    cases (f x).isSome <;> simp <;> omega
  · by_cases e : y = x
    · rw [e, upd_same]; rfl
    · rw [upd_other _ _ e]
      split at hy
      · exact h.sup y hy
      · rcases List.mem_cons.1 hy with h1 | h1
        · exact absurd h1 e
        · exact h.sup y h1
theorem MapX.cut (h : MapX enc w k b f D ks) (K : Keyed Tryz.prog k) (hinj : ∀ x y, enc x = enc y → x = y) {x : κ} {kl : Lit} (hkey : keyOf Tryz.prog k (enc x) = some kl) {n : Nat} (hown : w'.ownsMap Tryz.prog k RV b n (D.del kl)) : MapM enc w' k b (upd f x none) := by
  have hT : Tidy D := h.own.tidy K
  have hsz := size_del (k := kl) hT
  rw [(h.tell x kl hkey).1] at hsz
  have hgoal : MapG k enc (D.del kl) (upd f x none) := fun y ky hy => by
    by_cases e : y = x
    · subst e
      have e1 : ky = kl := Option.some.inj (hy.symm.trans hkey)
      rw [e1, has_del_same, upd_same]
      exact ⟨rfl, fun u hu => by cases hu⟩
    · have hne : ky ≠ kl := fun e1 => e (hinj _ _ (K.inj hy (by rw [e1]; exact hkey)))
      rw [has_del_other hne, upd_other _ _ e]
      refine ⟨(h.tell y ky hy).1, fun u hu z => ?_⟩
      rw [atKey_del_other hne]
      exact (h.tell y ky hy).2 u hu z
  have h9 := h.len
  by_cases hx : x ∈ ks
  · have h1 := h.sup x hx
    rw [h1] at hsz
    have h2 := List.length_erase_of_mem hx
    have h3 := List.length_pos_of_mem hx
    refine ⟨D.del kl, ks.erase x, own_shrink hown, hgoal, h.nd.erase x, by simp at hsz; omega, fun y hy => ?_⟩
    have e : y ≠ x := fun e => by subst e; exact (List.Nodup.not_mem_erase h.nd) hy
    rw [upd_other _ _ e]
    exact h.sup y (List.mem_of_mem_erase hy)
  · refine ⟨D.del kl, ks, own_shrink hown, hgoal, h.nd, by omega, fun y hy => ?_⟩
    have e : y ≠ x := fun e => by subst e; exact hx hy
    rw [upd_other _ _ e]
    exact h.sup y hy
end
end Go.Proofs.YthbbheegkhlniaaGreat

/-
  A map in memory as a function: what a store and a delete leave.
-/
namespace Go.Proofs.YthbbheegkhlniaaGreat
open Go.RowKit Go.Lib Go.Maps

section
variable {κ : Type} [DecidableEq κ] {enc : κ → Value} {k t e : TypeId} {w : World} {b : Nat} {f : κ → Option Value}
theorem MapM.store (h : MapM enc w k b f) (K : Keyed Tryz.prog k) (ht : Tryz.prog.underlying t = some (.map k e)) (hinj : ∀ x y, enc x = enc y → x = y) {x : κ} {kl : Lit} (hkey : keyOf Tryz.prog k (enc x) = some kl) (v : Value) {l : List κ} (hl : ∀ x, (f x).isSome = true → x ∈ l) (hn : l.length ≤ 1000000000) :
    ∃ w', (Instr.mapUpdate t (.map (some b)) (enc x) v).run Tryz.prog w = .ok () w' ∧ MapM enc w' k b (upd f x (some v)) ∧ Chg (fun q => q = b) w w' := by
  obtain ⟨D, ks, h⟩ := h
  have h1 := h.small hl
  obtain ⟨w', hr, h2, h3⟩ := h.own.store K ht (by unfold maxLen; omega) (d := .held v) (ps := []) hkey (val := v) rfl
  exact ⟨w', hr, h.put K hinj hkey h2, (Chg.refl _ w).grown h3.grown fun j hj _ => by cases hj; rfl⟩
theorem MapM.drop (h : MapM enc w k b f) (K : Keyed Tryz.prog k) (ht : Tryz.prog.underlying t = some (.map k e)) (hinj : ∀ x y, enc x = enc y → x = y) {x : κ} {kl : Lit} (hkey : keyOf Tryz.prog k (enc x) = some kl) (ty : TypeId) :
    ∃ w', (Builtin.delete_ #[t, k] ty #[.map (some b), enc x]).run Tryz.prog w = .ok (.tuple #[]) w' ∧ MapM enc w' k b (upd f x none) ∧ Chg (fun q => q = b) w w' := by
  obtain ⟨D, ks, h⟩ := h
  obtain ⟨w', hr, h2, h3⟩ := h.own.drop K ht hkey ty
  exact ⟨w', hr, h.cut K hinj hkey h2, (Chg.refl _ w).grown h3.grown fun j hj _ => by cases hj; rfl⟩
end
section
variable {κ : Type} [DecidableEq κ] {enc : κ → Value} {k t e : TypeId} (w : World) {b : Nat} {f : κ → Option Value} {ops : Array Oper} {rest : List Oper} {o : Oper} {a : Act} {Q : Exit → Act → World → Prop}
/-- m[x] = v -/
theorem at_put (hg : o.guard = none) (m x v : Operand) (hop : o.op = Op.mapUpdate t m x v) (hm : a.eval m = .map (some b)) (h : MapM enc w k b f) (K : Keyed Tryz.prog k) (ht : Tryz.prog.underlying t = some (.map k e)) (hinj : ∀ x y, enc x = enc y → x = y) (y : κ) {kl : Lit} (hkey : keyOf Tryz.prog k (enc y) = some kl)
    (hx : a.eval x = enc y) (u : Value) (hv : a.eval v = u) {l : List κ} (hl : ∀ x, (f x).isSome = true → x ∈ l) (hn : l.length ≤ 1000000000)
    (hK : ∀ w', MapM enc w' k b (upd f y (some u)) → Chg (fun q => q = b) w w' → wpList Tryz.prog ops Q rest (a.put o.dst undef) w') : wpList Tryz.prog ops Q (o :: rest) a w := by
  obtain ⟨D, ks, h⟩ := h
  have h1 := h.small hl
  exact wpList_mapUpdate_own w hg m x v _ hop k e K ht RV b _ D hm h.own (by unfold maxLen; omega) _ _ kl hx hv hkey _ [] rfl fun w' h2 h3 => hK w' (h.put K hinj hkey h2) ((Chg.refl _ w).grown h3 fun j hj _ => by cases hj; rfl)
/-- delete(m, x) -/
theorem at_del (hg : o.guard = none) (m x : Operand) (hop : o.op = Op.call { callee := Callee.builtin Builtin.delete, args := #[m, x], argTypes := #[t, k] }) (hm : a.eval m = .map (some b)) (h : MapM enc w k b f) (K : Keyed Tryz.prog k) (ht : Tryz.prog.underlying t = some (.map k e)) (hinj : ∀ x y, enc x = enc y → x = y) (y : κ) {kl : Lit} (hkey : keyOf Tryz.prog k (enc y) = some kl)
    (hx : a.eval x = enc y)
    (hK : ∀ w', MapM enc w' k b (upd f y none) → Chg (fun q => q = b) w w' → wpList Tryz.prog ops Q rest (a.put o.dst (.tuple #[])) w') : wpList Tryz.prog ops Q (o :: rest) a w := by
  obtain ⟨D, ks, h⟩ := h
  exact wpList_delete_own w hg m x _ _ hop e K ht RV b _ D hm h.own _ kl hx hkey fun w' h2 h3 => hK w' (h.cut K hinj hkey h2) ((Chg.refl _ w).grown h3.grown fun j hj _ => by cases hj; rfl)
end
section
variable {κ : Type} [DecidableEq κ] {enc : κ → Value} {k t e : TypeId} {w : World} {b : Nat} {f : κ → Option Value} {ops : Array Oper} {o : Oper} {a : Act} {K' : Act → World → Prop} {Q : Exit → Act → World → Prop} {E : Prop}
/-- m[x] = v at a step of a region that draws -/
theorem step_put (hg : o.guard = none) (m x v : Operand) (hop : o.op = Op.mapUpdate t m x v) (hm : a.eval m = .map (some b)) (h : MapM enc w k b f) (K : Keyed Tryz.prog k) (ht : Tryz.prog.underlying t = some (.map k e)) (hinj : ∀ x y, enc x = enc y → x = y) (y : κ) {kl : Lit} (hkey : keyOf Tryz.prog k (enc y) = some kl)
    (hx : a.eval x = enc y) (u : Value) (hv : a.eval v = u) {l : List κ} (hl : ∀ x, (f x).isSome = true → x ∈ l) (hn : l.length ≤ 1000000000)
    (hK : ∀ w', MapM enc w' k b (upd f y (some u)) → Chg (fun q => q = b) w w' → K' (a.put o.dst undef) w') :
    if Region.wanted o (yielded ops a.tmps) = true then Oper.wp Tryz.prog o a w K' Q else E := by
  have hw : Region.wanted o (yielded ops a.tmps) = true := by simp [Region.wanted, hg]
  rw [if_pos hw]
  obtain ⟨w', hr, h2, h3⟩ := h.store K ht hinj hkey u hl hn
  unfold Oper.wp
  simp [execOp, hop, hm, hx, hv, hr, Result.andThen]
  exact hK w' h2 h3
/-- delete(m, x) at a step of a region that draws -/
theorem step_del (hg : o.guard = none) (m x : Operand) (hop : o.op = Op.call { callee := Callee.builtin Builtin.delete, args := #[m, x], argTypes := #[t, k] }) (hm : a.eval m = .map (some b)) (h : MapM enc w k b f) (K : Keyed Tryz.prog k) (ht : Tryz.prog.underlying t = some (.map k e)) (hinj : ∀ x y, enc x = enc y → x = y) (y : κ) {kl : Lit} (hkey : keyOf Tryz.prog k (enc y) = some kl)
    (hx : a.eval x = enc y)
    (hK : ∀ w', MapM enc w' k b (upd f y none) → Chg (fun q => q = b) w w' → K' (a.put o.dst (.tuple #[])) w') :
    if Region.wanted o (yielded ops a.tmps) = true then Oper.wp Tryz.prog o a w K' Q else E := by
  have hw : Region.wanted o (yielded ops a.tmps) = true := by simp [Region.wanted, hg]
  rw [if_pos hw]
  obtain ⟨w', hr, h2, h3⟩ := h.drop K ht hinj hkey o.type
  unfold Oper.wp execOp
  simp only [hop, resolve, invoke, builtin, Sem.run_bind, Sem.run_pure, Result.andThen_ok, List.map_toArray, List.map_cons, List.map_nil, hm, hx, hr]
  exact hK w' h2 h3
end
end Go.Proofs.YthbbheegkhlniaaGreat
