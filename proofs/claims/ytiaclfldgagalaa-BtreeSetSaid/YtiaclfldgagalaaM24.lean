/-
  Entries as a map's keys.
-/
import Derived.Test.YtiaclfldgagalaaEDeep
import Derived.Maps.RangeWalk
import Derived.DeepKeys4
namespace Go.Proofs.Ytiaclfldgagalaa
open Go.RowKit Go.Lib Go.Maps

theorem Try.deepEnt : Try.prog.keyTypeAt 3 35 = true := by kernel_rfl
theorem Try.keyEnt : Try.prog.keyType 35 = true := by kernel_rfl
theorem Try.rowEnt : (35 : TypeId) < Try.prog.types.size := of_decide_eq_true (by kernel_rfl)
theorem Try.cellsEnt : Try.prog.cellsOf 35 = 3 := by kernel_rfl
theorem Try.cellsRid : Try.prog.cellsOf 33 = 2 := by kernel_rfl
theorem Try.cellsI : Try.prog.cellsOf 3 = 1 := by kernel_rfl
theorem Try.cellsS : Try.prog.cellsOf 9 = 1 := by kernel_rfl
theorem Try.wideEnt : (match Try.prog.underlying 35 with | some (.array _ _) | some (.struct _) => true | _ => false) = true := by kernel_rfl
set_option maxRecDepth 100000 in
theorem entK : Keyed Try.prog 35 := Keyed.of_law (deep_law_laid laidOut (m := 3) (by omega) Try.rowEnt Try.deepEnt Try.wideEnt)
theorem enV_inj {x y : En} (h : x.val = y.val) : x = y := by
  obtain ⟨s, p, k⟩ := x
  obtain ⟨s', p', k'⟩ := y
  simp [En.val] at h
  rw [h.1, h.2.1, h.2.2]
set_option maxRecDepth 100000 in
theorem lit_int {m : Nat} {c : Value} {L : List Lit} (h : Try.prog.keyLits (m + 1) 3 [c] = some L) : ∃ n : Int, c = .int .i64 n := by
  unfold Program.keyLits at h
  rw [Try.underlying3] at h
  cases c <;> simp at h
  exact ⟨_, by rw [h.1.1]⟩
set_option maxRecDepth 100000 in
theorem lit_str {m : Nat} {c : Value} {L : List Lit} (h : Try.prog.keyLits (m + 1) 9 [c] = some L) : ∃ s : ByteArray, c = .string s := by
  unfold Program.keyLits at h
  rw [Try.underlying9] at h
  cases c <;> simp at h
  exact ⟨_, rfl⟩
set_option maxRecDepth 100000 in
theorem lits_rid {m : Nat} {c d : Value} {L : List Lit} (h : Try.prog.keyLits (m + 2) 33 [c, d] = some L) : ∃ p k : Int, c = .int .i64 p ∧ d = .int .i64 k := by
  unfold Program.keyLits at h
  rw [Try.underlying33] at h
  simp only at h
  split at h
  · simp [List.mapM_cons, List.mapM_nil, Try.cellsI] at h
    generalize ha : Program.keyLits _ _ _ [c] = U at h
    generalize hb : Program.keyLits _ _ _ [d] = V at h
    cases U with
    | none => cases h
    | some u =>
      cases V with
      | none => cases h
      | some v =>
        obtain ⟨n1, rfl⟩ := lit_int ha
        obtain ⟨n2, rfl⟩ := lit_int hb
        exact ⟨n1, n2, rfl, rfl⟩
  · cases h
set_option maxRecDepth 100000 in
theorem ent_inv (key : Value) (kl : Lit) (h : keyOf Try.prog 35 key = some kl) : ∃ x : En, key = x.val := by
  obtain ⟨xs, L, rfl, h1, _⟩ := keyOf_top Try.wideEnt h
  obtain ⟨m, hm⟩ : ∃ m, Try.prog.types.size + 1 = m + 3 := by obtain ⟨k, hk⟩ := Nat.exists_eq_add_of_lt Try.rowEnt; exact ⟨35 - 1 + k, by rw [hk]; simp; omega⟩
  rw [hm] at h1
  unfold Program.keyLits at h1
  rw [Try.underlying35] at h1
  simp only at h1
  split at h1
  · rename_i hc
    have h2 := hc.1
    rw [Try.cellsEnt] at h2
    obtain ⟨l⟩ := xs
    match l, h2 with
    | [a, c, d], _ =>
      simp [List.mapM_cons, List.mapM_nil, Try.cellsS, Try.cellsRid] at h1
      generalize ha : Program.keyLits _ _ _ [a] = U at h1
      generalize hb : Program.keyLits _ _ _ [c, d] = V at h1
      cases U with
      | none => cases h1
      | some u =>
        cases V with
        | none => cases h1
        | some v =>
          obtain ⟨t, rfl⟩ := lit_str ha
          obtain ⟨n1, n2, rfl, rfl⟩ := lits_rid hb
          exact ⟨⟨t, n1, n2⟩, rfl⟩
  · cases h1
set_option maxRecDepth 100000 in
theorem ent_key (x : En) (h0 : x.s.size ≤ maxLen) (h1 : (Lit.int .i64 x.p).wf = true) (h2 : (Lit.int .i64 x.k).wf = true) : ∃ kl, keyOf Try.prog 35 x.val = some kl := by
  have hf : x.val.formed Try.prog 35 = true := by
    unfold En.val
    simp [Value.formed, Try.underlying35, Try.cellsEnt]
  have hl : ∃ L, Try.prog.keyLits (Try.prog.types.size + 1) 35 x.val.cells.toList = some L := by
    obtain ⟨m, hm⟩ : ∃ m, Try.prog.types.size + 1 = m + 3 := by obtain ⟨k, hk⟩ := Nat.exists_eq_add_of_lt Try.rowEnt; exact ⟨35 - 1 + k, by rw [hk]; simp; omega⟩
    rw [hm]
    have e1 : ∀ m, Try.prog.keyLits (m + 1) 3 [.int .i64 x.p] = some [.int .i64 x.p] := fun m => by
      unfold Program.keyLits
      rw [Try.underlying3]
      simp [h1]
    have e2 : ∀ m, Try.prog.keyLits (m + 1) 3 [.int .i64 x.k] = some [.int .i64 x.k] := fun m => by
      unfold Program.keyLits
      rw [Try.underlying3]
      simp [h2]
    have e0 : Try.prog.keyLits (m + 2) 9 [.string x.s] = some [.string x.s.data.toList] := by
      unfold Program.keyLits
      rw [Try.underlying9]
      simp [h0]
    have e3 : Try.prog.keyLits (m + 2) 33 [.int .i64 x.p, .int .i64 x.k] = some [.int .i64 x.p, .int .i64 x.k] := by
      unfold Program.keyLits
      rw [Try.underlying33]
      simp only
      rw [if_pos (by rw [Try.cellsRid]; exact ⟨rfl, by kernel_rfl⟩)]
      simp [List.mapM_cons, List.mapM_nil, Try.cellsI, e1, e2]
    unfold Program.keyLits
    rw [Try.underlying35]
    simp only
    rw [if_pos (by rw [Try.cellsEnt]; exact ⟨rfl, by kernel_rfl⟩)]
    simp [List.mapM_cons, List.mapM_nil, Try.cellsS, Try.cellsRid, En.val, Value.cells, e0, e3]
  obtain ⟨L, hL⟩ := hl
  obtain ⟨fs, hu⟩ : ∃ fs, Try.prog.underlying 35 = some (.struct fs) := ⟨_, Try.underlying35⟩
  refine ⟨.string (keyBytes L), ?_⟩
  unfold keyOf
  rw [hu]
  simp only
  rw [Try.keyEnt, hf, hL]
  rfl
/-- one key, one entry -/
theorem ent_one {x y : En} {kl : Lit} (h1 : keyOf Try.prog 35 x.val = some kl) (h2 : keyOf Try.prog 35 y.val = some kl) : x = y := enV_inj (entK.inj h1 h2)
theorem ent_lit {x : En} {kl : Lit} (h : keyOf Try.prog 35 x.val = some kl) : WideAt.IsKeyLit kl := entK.key h
end Go.Proofs.Ytiaclfldgagalaa

/-
  A map from entries to whether a tree has them.
-/
namespace Go.Proofs.Ytiaclfldgagalaa
open Go.RowKit Go.Lib Go.Maps

abbrev KeyE (x : En) (kl : Lit) : Prop := keyOf Try.prog 35 x.val = some kl
/-- the map tells what the entries are, of all that it holds; what it doesn't hold is no entry -/
structure KB (D : DataW Value) (l : List En) : Prop where
  yes : ∀ x kl, KeyE x kl → Maps.has D kl = true → ∀ z, D.atKey kl z = .lit (.bool (plB l x))
  no : ∀ x kl, KeyE x kl → Maps.has D kl = false → plB l x = false
theorem KB.nil : KB (.map []) [] := ⟨fun x kl _ h => by simp [Maps.has] at h, fun x kl _ _ => by simp [plB]⟩
theorem KB.put {D : DataW Value} {l l' : List En} {e : En} {kl : Lit} (h : KB D l) (hT : Tidy D) (hk : KeyE e kl) (v : Bool) (hv : plB l' e = v) (ho : ∀ x, x ≠ e → plB l' x = plB l x) : KB (D.put kl (.lit (.bool v))) l' := by
  have hlit := ent_lit hk
  refine ⟨fun x kx hx hh z => ?_, fun x kx hx hh => ?_⟩
  · by_cases hxe : x = e
    · subst hxe
      have e1 : kx = kl := Option.some.inj (hx.symm.trans hk)
      rw [e1, atKey_put_same hT.isMap hlit, hv]
    · have hne : kx ≠ kl := fun e1 => hxe (ent_one hx (by rw [e1]; exact hk))
      rw [has_put_other hne] at hh
      rw [atKey_put_other hne, h.yes x kx hx hh z, ho x hxe]
  · by_cases hxe : x = e
    · subst hxe
      have e1 : kx = kl := Option.some.inj (hx.symm.trans hk)
      rw [e1, has_put_same hT.isMap hlit] at hh
      cases hh
    · have hne : kx ≠ kl := fun e1 => hxe (ent_one hx (by rw [e1]; exact hk))
      rw [has_put_other hne] at hh
      rw [ho x hxe, h.no x kx hx hh]
noncomputable abbrev RB : Value → Option (DataW Value × List MemPlace) := plainElem Try.prog 4
abbrev OwnE (w : World) (b n : Nat) (D : DataW Value) : Prop := w.ownsMap Try.prog 35 RB b n D
theorem zero_bool (w : World) : (zeroValue 4).run Try.prog w = .ok (.bool false) w := by kernel_rfl
theorem rb_inv {v : Value} {z : DataW Value × List MemPlace} (h : RB v = some z) : ∃ x : Bool, v = .bool x ∧ z = (.lit (.bool x), []) := by
  unfold RB plainElem at h
  rw [Try.underlying4] at h
  cases v <;> simp at h
  exact ⟨_, rfl, h.symm⟩
/-- what the map tells of an entry -/
theorem lookup_ent {w : World} {b n : Nat} {D : DataW Value} {l : List En} {e : En} {kl : Lit} (h : OwnE w b n D) (hB : KB D l) (hk : KeyE e kl) : (Instr.lookup 51 (.map (some b)) e.val false).run Try.prog w = .ok (.bool (plB l e)) w := by
  obtain ⟨v, ps, hrun, hv⟩ := h.lookup entK Try.underlying51 (zero_bool w) (plainElem_bool Try.underlying4 false) hk
  obtain ⟨x, rfl, hx⟩ := rb_inv hv
  simp only [Prod.mk.injEq] at hx
  have e1 : D.atKey kl (.lit (.bool false)) = .lit (.bool (plB l e)) := by
    cases hh : Maps.has D kl with
    | true => exact hB.yes e kl hk hh _
    | false => rw [atKey_of_not_has hh, hB.no e kl hk hh]
  rw [e1] at hx
  have e2 := hx.1
  injection e2 with e2
  injection e2 with e2
  rw [hrun, e2]
section
variable (w : World) {ops : Array Oper} {rest : List Oper} {o : Oper} {a : Act} {Q : Exit → Act → World → Prop}
/-- what is told of an entry from now on -/
theorem at_tell (hg : o.guard = none) (m x v : Operand) (hop : o.op = Op.mapUpdate 51 m x v) (b n : Nat) (D : DataW Value) (hm : a.eval m = .map (some b)) (hown : OwnE w b n D) (hn : n < maxLen) (e : En) (kl : Lit)
    (hx : a.eval x = e.val) (hkey : KeyE e kl) (t : Bool) (hv : a.eval v = .bool t)
    (hK : ∀ w', OwnE w' b (n + 1) (D.put kl (.lit (.bool t))) → w.grownBy w' (some b) → wpList Try.prog ops Q rest (a.put o.dst undef) w') : wpList Try.prog ops Q (o :: rest) a w :=
  wpList_mapUpdate_own w hg m x v _ hop 35 4 entK Try.underlying51 RB b n D hm hown hn _ _ kl hx hv hkey _ [] (plainElem_bool Try.underlying4 t) hK
end

/-! ### entries in order, as a set -/
theorem plB_mem {l : List En} (h : Srt l) (e : En) : plB l e = true ↔ e ∈ l := by
  induction l with
  | nil => simp [plB]
  | cons a r ih =>
    have hp := List.pairwise_cons.1 h
    by_cases ha : ordE a e < 0
    · have e1 : plB (a :: r) e = plB r e := by simp [plB, plN, ha]
      rw [e1, ih hp.2]
      constructor
      · intro h1; exact List.mem_cons_of_mem _ h1
      · intro h1
        rcases List.mem_cons.1 h1 with h2 | h2
        · subst h2; have := good_ordE.self e; omega
        · exact h2
    · have e1 : plB (a :: r) e = decide (ordE a e = 0) := by simp [plB, plN, ha]
      rw [e1, decide_eq_true_iff, good_ordE.zero]
      constructor
      · intro h1; subst h1; exact List.mem_cons_self
      · intro h1
        rcases List.mem_cons.1 h1 with h2 | h2
        · exact h2.symm
        · exact absurd (hp.1 e h2) ha
theorem insL_mem {l : List En} (h : Srt l) (e x : En) : x ∈ insL l e ↔ x ∈ l ∨ x = e := by
  cases hb : plB l e with
  | true =>
    rw [ins_no hb]
    constructor
    · exact Or.inl
    · rintro (h1 | rfl)
      · exact h1
      · exact (plB_mem h x).1 hb
  | false =>
    rw [ins_yes hb]
    have hl : x ∈ l ↔ x ∈ l.take (plN e l) ∨ x ∈ l.drop (plN e l) := by
      rw [← List.mem_append, List.take_append_drop]
    rw [hl]
    simp only [List.mem_append, List.mem_singleton]
    constructor
    · rintro ((h1 | h1) | h1)
      · exact .inl (.inl h1)
      · exact .inr h1
      · exact .inl (.inr h1)
    · rintro ((h1 | h1) | h1)
      · exact .inl (.inl h1)
      · exact .inr h1
      · exact .inl (.inr h1)
theorem delL_mem {l : List En} (h : Srt l) (e x : En) : x ∈ delL l e ↔ x ∈ l ∧ x ≠ e := by
  cases hb : plB l e with
  | false =>
    rw [del_no hb]
    constructor
    · intro h1
      refine ⟨h1, fun h2 => ?_⟩
      subst h2
      rw [(plB_mem h x).2 h1] at hb
      cases hb
    · exact fun h1 => h1.1
  | true =>
    rw [del_yes hb]
    have hlt := plB_lt hb
    have hat : l[plN e l] = e := by
      have h1 := hb
      unfold plB at h1
      rw [List.getElem?_eq_getElem hlt] at h1
      exact (good_ordE.zero _ _).1 (of_decide_eq_true h1)
    have hl : l = l.take (plN e l) ++ e :: l.drop (plN e l + 1) := by
      have h1 := List.drop_eq_getElem_cons hlt
      rw [hat] at h1
      rw [← h1, List.take_append_drop]
    have hp : Srt (l.take (plN e l) ++ e :: l.drop (plN e l + 1)) := hl ▸ h
    obtain ⟨_, hq2, hq3⟩ := List.pairwise_append.1 hp
    have hq4 := (List.pairwise_cons.1 hq2).1
    have hm : x ∈ l ↔ x ∈ l.take (plN e l) ∨ x = e ∨ x ∈ l.drop (plN e l + 1) := by
      conv => lhs; rw [hl]
      simp
    rw [hm]
    simp only [List.mem_append]
    constructor
    · rintro (h1 | h1)
      · refine ⟨.inl h1, fun h2 => ?_⟩
        subst h2
        have := hq3 x h1 x List.mem_cons_self
        have := good_ordE.self x
        omega
      · refine ⟨.inr (.inr h1), fun h2 => ?_⟩
        subst h2
        have := hq4 x h1
        have := good_ordE.self x
        omega
    · rintro ⟨h1 | h1 | h1, h2⟩
      · exact .inl h1
      · exact absurd h1 h2
      · exact .inr h1
/-- the same entries in order: the same list -/
theorem srt_ext : ∀ {l m : List En}, Srt l → Srt m → (∀ x, x ∈ l ↔ x ∈ m) → l = m
  | [], [], _, _, _ => rfl
  | [], b :: m, _, _, h => absurd ((h b).2 List.mem_cons_self) (by simp)
  | a :: l, [], _, _, h => absurd ((h a).1 List.mem_cons_self) (by simp)
  | a :: l, b :: m, hl, hm, h => by
    have h1 := List.pairwise_cons.1 hl
    have h2 := List.pairwise_cons.1 hm
    have hab : a = b := by
      rcases List.mem_cons.1 ((h a).1 List.mem_cons_self) with h3 | h3
      · exact h3
      · rcases List.mem_cons.1 ((h b).2 List.mem_cons_self) with h4 | h4
        · exact h4.symm
        · have h5 := h2.1 a h3
          have h6 := h1.1 b h4
          have := good_ordE.strict a b a h6 (by omega)
          have := good_ordE.self a
          omega
    subst hab
    have ho : ∀ {k : List En}, (∀ y ∈ k, ordE a y < 0) → a ∉ k := fun hk hm => by have := hk a hm; have := good_ordE.self a; omega
    rw [srt_ext h1.2 h2.2 fun x => ?_]
    constructor
    · intro hx
      rcases List.mem_cons.1 ((h x).1 (List.mem_cons_of_mem _ hx)) with h3 | h3
      · subst h3; exact absurd hx (ho h1.1)
      · exact h3
    · intro hx
      rcases List.mem_cons.1 ((h x).2 (List.mem_cons_of_mem _ hx)) with h3 | h3
      · subst h3; exact absurd hx (ho h2.1)
      · exact h3
/-- an entry that came in is a key -/
theorem En.In.key {e : En} (h : e.In) : ∃ kl, KeyE e kl := ent_key e h.1 h.2.1 h.2.2
theorem KB.ins {D : DataW Value} {l : List En} {e : En} {kl : Lit} (h : KB D l) (hl : Srt l) (hl' : Srt (insL l e)) (hT : Tidy D) (hk : KeyE e kl) : KB (D.put kl (.lit (.bool true))) (insL l e) :=
  h.put hT hk true ((plB_mem hl' e).2 ((insL_mem hl e e).2 (.inr rfl))) fun x hx => by
    rw [Bool.eq_iff_iff, plB_mem hl', plB_mem hl, insL_mem hl]
    exact ⟨fun h1 => h1.elim id fun h2 => absurd h2 hx, .inl⟩
theorem KB.del {D : DataW Value} {l : List En} {e : En} {kl : Lit} (h : KB D l) (hl : Srt l) (hl' : Srt (delL l e)) (hT : Tidy D) (hk : KeyE e kl) : KB (D.put kl (.lit (.bool false))) (delL l e) :=
  h.put hT hk false (by
    cases hb : plB (delL l e) e with
    | false => rfl
    | true => exact absurd rfl ((delL_mem hl e e).1 ((plB_mem hl' e).1 hb)).2) fun x hx => by
    rw [Bool.eq_iff_iff, plB_mem hl', plB_mem hl, delL_mem hl]
    exact ⟨fun h1 => h1.1, fun h1 => ⟨h1, hx⟩⟩
end Go.Proofs.Ytiaclfldgagalaa

/-
  Going over a map of entries: each is told once; how many are the tree's.
-/
namespace Go.Proofs.Ytiaclfldgagalaa
open Go.RowKit Go.Lib Go.Maps

/-- is an entry's key among those that are left? -/
noncomputable def lkE (left : Lit → Bool) (x : En) : Bool := match keyOf Try.prog 35 x.val with
  | some kl => left kl
  | none => false
theorem lkE_at {left : Lit → Bool} {x : En} {kl : Lit} (h : KeyE x kl) : lkE left x = left kl := by
  unfold lkE
  rw [h]
/-- how many of the entries are left -/
noncomputable def leftN (left : Lit → Bool) (l : List En) : Nat := (l.filter (lkE left)).length
theorem leftN_all {D : DataW Value} {l : List En} (hB : KB D l) (hl : Srt l) (hk : ∀ x ∈ l, ∃ kl, KeyE x kl) (left : Lit → Bool) (h : ∀ kl, Maps.has D kl = true → left kl = true) : leftN left l = l.length := by
  unfold leftN
  rw [List.filter_eq_self.2]
  intro x hx
  obtain ⟨kl, hkl⟩ := hk x hx
  rw [lkE_at hkl]
  refine h kl ?_
  cases hh : Maps.has D kl with
  | true => rfl
  | false =>
    have h1 := hB.no x kl hkl hh
    rw [(plB_mem hl x).2 hx] at h1
    cases h1
theorem leftN_none {l : List En} {left : Lit → Bool} (h : ∀ kl, left kl = false) : leftN left l = 0 := by
  unfold leftN
  rw [List.length_eq_zero_iff, List.filter_eq_nil_iff]
  intro x _
  unfold lkE
  split
  · rw [h]; simp
  · simp
theorem leftN_no {l : List En} {left left' : Lit → Bool} {e : En} {kl : Lit} (hk : KeyE e kl) (he : e ∉ l) (h : ∀ kz, kz ≠ kl → left' kz = left kz) : leftN left' l = leftN left l := by
  unfold leftN
  congr 1
  refine List.filter_congr fun x hx => ?_
  unfold lkE
  cases hx2 : keyOf Try.prog 35 x.val with
  | none => rfl
  | some kz => exact h kz fun e1 => he ((ent_one (x := x) (y := e) hx2 (by rw [e1]; exact hk)) ▸ hx)
theorem leftN_yes {left left' : Lit → Bool} {e : En} {kl : Lit} (hk : KeyE e kl) (h : ∀ kz, kz ≠ kl → left' kz = left kz) (h1 : left kl = true) (h2 : left' kl = false) : ∀ {l : List En}, Srt l → e ∈ l → leftN left l = leftN left' l + 1
  | [], _, he => by cases he
  | a :: l, hl, he => by
    have hp := List.pairwise_cons.1 hl
    by_cases hae : a = e
    · subst hae
      have hno : a ∉ l := fun hm => by have := hp.1 a hm; have := good_ordE.self a; omega
      have h3 := leftN_no hk hno h
      unfold leftN at h3 ⊢
      rw [List.filter_cons, List.filter_cons, lkE_at hk, lkE_at hk, h1, h2]
      simp [h3]
    · have hm : e ∈ l := (List.mem_cons.1 he).elim (fun h => absurd h.symm hae) id
      have h3 := leftN_yes hk h h1 h2 hp.2 hm
      have h4 : lkE left' a = lkE left a := by
        unfold lkE
        cases ha : keyOf Try.prog 35 a.val with
        | none => rfl
        | some kz => exact h kz fun e1 => hae (ent_one (x := a) (y := e) ha (by rw [e1]; exact hk))
      unfold leftN at h3 ⊢
      rw [List.filter_cons, List.filter_cons, h4]
      split
      · simp [h3]
      · exact h3
section
variable (w : World) {ops : Array Oper} {rest : List Oper} {o : Oper} {a : Act} {Q : Exit → Act → World → Prop}
/-- a step over the entries of a map -/
theorem at_next_ent (hg : o.guard = none) (it : Operand) (hop : o.op = Op.next it false) (b r n : Nat) (D : DataW Value) (left : Lit → Bool) (cnt : Nat) (l : List En) (hB : KB D l) (hll : ∀ kl, left kl = true → Maps.has D kl = true)
    (hit : a.eval it = .pointer (some ⟨r, 0, none⟩)) (h : w.ranges Try.prog 35 RB b r n D left cnt)
    (hDone : (∀ kl, left kl = false) → wpList Try.prog ops Q rest (a.put o.dst (.tuple #[.bool false])) w)
    (hMore : ∀ (e : En) (kl : Lit) (w' : World) (left' : Lit → Bool) (cnt' : Nat), KeyE e kl → left kl = true → left' kl = false → (∀ kz, kz ≠ kl → left' kz = left kz) → (∀ kz, left' kz = true → Maps.has D kz = true) → w'.ranges Try.prog 35 RB b r n D left' cnt' → cnt' < cnt →
      w.grownBy w' (some r) → w'.heap.size = w.heap.size → (Instr.entry (.pointer (some ⟨r, 0, none⟩))).run Try.prog w' = .ok (.tuple #[e.val, .bool (plB l e)]) w' → wpList Try.prog ops Q rest (a.put o.dst (.tuple #[.bool true, e.val, .bool (plB l e)])) w') :
    wpList Try.prog ops Q (o :: rest) a w := by
  refine wpList_next_ranges w hg it hop 35 entK RB En.val Value.bool ent_inv (fun v y hv => by obtain ⟨c, rfl, _⟩ := rb_inv hv; exact ⟨c, rfl⟩) b r n D left cnt hit h (fun _ hl => hDone hl) ?_
  intro e c kl y w' cnt' hkey hlk hv hat hrg hlt hgr hsz hen
  obtain ⟨c', ec, hy⟩ := rb_inv hv
  cases ec
  have e1 : (DataW.lit (.bool (plB l e)) : DataW Value) = .lit (.bool c) := by rw [← hB.yes e kl hkey (hll kl hlk) .nil, hat .nil, hy]
  injection e1 with e1
  injection e1 with e1
  subst e1
  have hlit := ent_lit hkey
  refine hMore e kl w' _ cnt' hkey hlk ?_ ?_ (fun kz hz => hll kz (by simp at hz; exact hz.1)) hrg hlt hgr hsz hen
  · simp [WideAt.sameKey_self hlit]
  · intro kz hne
    simp [sameKey_ne hne]
end
end Go.Proofs.Ytiaclfldgagalaa

/-
  Two trees side by side, and a map that tells what one of them has.
-/
namespace Go.Proofs.Ytiaclfldgagalaa
open Go.RowKit Go.Lib Go.Maps

theorem chg_ranges {P : Program} {k : TypeId} {R : Value → Option (DataW Value × List MemPlace)} {w w' : World} {b r n cnt : Nat} {D : DataW Value} {left : Lit → Bool} (h : w.ranges P k R b r n D left cnt) (hc : Below w.heap.size w w') : w'.ranges P k R b r n D left cnt :=
  h.kept (row := none) ⟨hc.os, hc.tape, hc.output, hc.size, fun i hi _ => hc.block i hi⟩ (by simp) (by simp)
theorem chg_map {P : Program} {k : TypeId} {R : Value → Option (DataW Value × List MemPlace)} {w w' : World} {F : Nat → Prop} {b n : Nat} {D : DataW Value} (h : w.ownsMap P k R b n D) (hc : Chg F w w') (hb : ¬ F b) : w'.ownsMap P k R b n D := by
  have hlt := h.lt
  obtain ⟨es, clock, hb', rest⟩ := h
  exact ⟨es, clock, (hc.block b hlt hb).trans hb', rest⟩
/-- both trees and the map, each apart from the others, made since w0 -/
structure St2 (T : TrP) (w0 w : World) (tb ub : Nat) (D E : Nat → Prop) (l m : List En) (mb n : Nat) (Dm : DataW Value) : Prop where
  t : T w0.heap.size D w tb l
  u : T w0.heap.size E w ub m
  dis : ∀ k, D k → ¬ E k
  map : OwnE w mb n Dm
  md : ¬ D mb
  me : ¬ E mb
  mlo : w0.heap.size ≤ mb
  low : Below w0.heap.size w0 w
section
variable {K : Nat} {T : TrP} (I : Impl K T) {w0 w w' : World} {tb ub mb n n' : Nat} {D E : Nat → Prop} {l m l' m' : List En} {Dm Dm' : DataW Value}
include I
theorem St2.below (h : St2 T w0 w tb ub D E l m mb n Dm) (hb : Below w.heap.size w w') : St2 T w0 w' tb ub D E l m mb n Dm :=
  ⟨I.below h.t hb, I.below h.u hb, h.dis, chg_map h.map (F := Non) (Chg.of_below hb) id, h.md, h.me, h.mlo, h.low.trans (hb.mono h.low.size)⟩
theorem St2.stepT (h : St2 T w0 w tb ub D E l m mb n Dm) (ht : T w0.heap.size (Ext D w w') w' tb l') (hc : Chg D w w') : St2 T w0 w' tb ub (Ext D w w') E l' m mb n Dm :=
  ⟨ht, I.chg h.u hc fun k hk hd => h.dis k hd hk, fun k hk he => hk.elim (fun hf => h.dis k hf he) fun hf => (by have := (I.foot h.u he).2; omega), chg_map h.map hc h.md, fun hk => hk.elim h.md fun hf => (by have := h.map.lt; omega), h.me, h.mlo, h.low.trans (hc.below (fun k hk => (I.foot h.t hk).1) h.low.size)⟩
theorem St2.stepU (h : St2 T w0 w tb ub D E l m mb n Dm) (hu : T w0.heap.size (Ext E w w') w' ub m') (hc : Chg E w w') : St2 T w0 w' tb ub D (Ext E w w') l m' mb n Dm :=
  ⟨I.chg h.t hc h.dis, hu, fun k hk he => he.elim (fun hf => h.dis k hk hf) fun hf => (by have := (I.foot h.t hk).2; omega), chg_map h.map hc h.me, h.md, fun hk => hk.elim h.me fun hf => (by have := h.map.lt; omega), h.mlo, h.low.trans (hc.below (fun k hk => (I.foot h.u hk).1) h.low.size)⟩
theorem St2.other {F : Nat → Prop} (h : St2 T w0 w tb ub D E l m mb n Dm) (hc : Chg F w w') (hd : ∀ k, F k → ¬ D k ∧ ¬ E k ∧ k ≠ mb ∧ w0.heap.size ≤ k) : St2 T w0 w' tb ub D E l m mb n Dm :=
  ⟨I.chg h.t hc fun k hk hf => (hd k hf).1 hk, I.chg h.u hc fun k hk hf => (hd k hf).2.1 hk, h.dis, chg_map h.map hc fun hf => (hd _ hf).2.2.1 rfl, h.md, h.me, h.mlo, h.low.trans (hc.below (fun k hk => (hd k hk).2.2.2) h.low.size)⟩
theorem St2.tell (h : St2 T w0 w tb ub D E l m mb n Dm) (hm : OwnE w' mb n' Dm') (hg : w.grownBy w' (some mb)) : St2 T w0 w' tb ub D E l m mb n' Dm' := by
  have hc : Chg (fun j => j = mb) w w' := (Chg.refl _ w).grown hg fun j hj _ => by cases hj; rfl
  exact ⟨I.chg h.t hc fun k hk e => h.md (e ▸ hk), I.chg h.u hc fun k hk e => h.me (e ▸ hk), h.dis, hm, h.md, h.me, h.mlo, h.low.trans (hc.below (fun k hk => by rw [hk]; exact h.mlo) h.low.size)⟩
end
theorem mem_delL' {l : List En} {e x : En} (h : x ∈ delL l e) : x ∈ l := by
  unfold delL at h
  split at h
  · rcases List.mem_append.1 h with h | h
    · exact List.mem_of_mem_take h
    · exact List.mem_of_mem_drop h
  · exact h
theorem ins_len' {l : List En} {e : En} : (insL l e).length ≤ l.length + 1 := by
  unfold insL
  split
  · omega
  · have := plN_le e l
    simp
    omega
/-- what the first loop holds: behind k entries -/
structure SetIn (T : TrP) (w0 : World) (es : List En) (tb ub mb k : Nat) (w : World) (D E : Nat → Prop) (l m : List En) (n : Nat) (Dm : DataW Value) : Prop where
  s : St2 T w0 w tb ub D E l m mb n Dm
  kb : KB Dm l
  hl : ∀ x, x ∈ l ↔ x ∈ es.take k
  hm : ∀ x, x ∈ m ↔ x ∈ es.drop (es.length - k)
  sl : Sm l k
  sm : m.length ≤ k
  hn : n ≤ k
  chk : ∀ x ∈ es.take k, x.s.size ≤ 1000
  src : ∀ e kl, KeyE e kl → Maps.has Dm kl = true → e ∈ es
theorem src_put {es : List En} {Dm : DataW Value} {x : En} {kl : Lit} {v : DataW Value} (h : ∀ e k, KeyE e k → Maps.has Dm k = true → e ∈ es) (hx : x ∈ es) (hkey : KeyE x kl) : ∀ e k, KeyE e k → Maps.has (Dm.put kl v) k = true → e ∈ es := fun e k he hh => by
  by_cases hk : k = kl
  · rw [hk] at he
    rw [ent_one he hkey]
    exact hx
  · rw [has_put_other hk] at hh
    exact h e k he hh
theorem mem_take_succ {es : List En} {k : Nat} (hk : k < es.length) (x : En) : x ∈ es.take (k + 1) ↔ x ∈ es.take k ∨ x = es[k] := by
  rw [List.take_succ_eq_append_getElem hk, List.mem_append, List.mem_singleton]
theorem mem_drop_pred {es : List En} {k : Nat} (hk : k < es.length) (x : En) : x ∈ es.drop (es.length - (k + 1)) ↔ x ∈ es.drop (es.length - k) ∨ x = es[es.length - 1 - k] := by
  have h1 : es.length - (k + 1) < es.length := by omega
  rw [List.drop_eq_getElem_cons h1, show es.length - (k + 1) + 1 = es.length - k by omega]
  have h2 : es[es.length - (k + 1)] = es[es.length - 1 - k] := by congr 1; omega
  rw [h2, List.mem_cons, or_comm]
section
variable {K : Nat} {T : TrP} (I : Impl K T) {w0 w w' : World} {es : List En} {tb ub mb n k : Nat} {D E D' E' : Nat → Prop} {l m : List En} {Dm : DataW Value}
include I
theorem SetIn.step {x y : En} {kl : Lit} (h : SetIn T w0 es tb ub mb k w D E l m n Dm) (hx : es[k]? = some x) (hy : es[es.length - 1 - k]? = some y) (hxs : x.s.size ≤ 1000) (hkey : KeyE x kl) (hs : St2 T w0 w' tb ub D' E' (insL l x) (insL m y) mb (n + 1) (Dm.put kl (.lit (.bool true)))) :
    SetIn T w0 es tb ub mb (k + 1) w' D' E' (insL l x) (insL m y) (n + 1) (Dm.put kl (.lit (.bool true))) := by
  obtain ⟨hk, hx⟩ := List.getElem?_eq_some_iff.1 hx
  obtain ⟨hk2, hy⟩ := List.getElem?_eq_some_iff.1 hy
  refine ⟨hs, h.kb.ins (I.srt h.s.t) (I.srt hs.t) (h.s.map.tidy entK) hkey, fun z => ?_, fun z => ?_, h.sl.ins hxs, ?_, by have := h.hn; omega, fun z hz => ?_, src_put h.src (by rw [← hx]; exact List.getElem_mem hk) hkey⟩
  · rw [insL_mem (I.srt h.s.t), h.hl, mem_take_succ hk, hx]
  · rw [insL_mem (I.srt h.s.u), h.hm, mem_drop_pred hk, hy]
  · have := (ins_len' (l := m) (e := y))
    have := h.sm
    omega
  · rcases (mem_take_succ hk z).1 hz with hz | hz
    · exact h.chk z hz
    · rw [hz, hx]; exact hxs
theorem SetIn.same (h : SetIn T w0 es tb ub mb es.length w D E l m n Dm) : m = l :=
  srt_ext (I.srt h.s.u) (I.srt h.s.t) fun x => by
    rw [h.hm, h.hl, Nat.sub_self, List.drop_zero, List.take_length]
end
/-- what the second loop holds: the same entries in both trees -/
structure Set2 (T : TrP) (w0 : World) (es : List En) (tb ub mb j : Nat) (w : World) (D E : Nat → Prop) (l : List En) (n : Nat) (Dm : DataW Value) : Prop where
  s : St2 T w0 w tb ub D E l l mb n Dm
  kb : KB Dm l
  mem : ∀ x ∈ l, x ∈ es
  sm : Sm l (300 + j)
  hn : n ≤ 300 + j
  chk : ∀ x ∈ es, x.s.size ≤ 1000
  src : ∀ e kl, KeyE e kl → Maps.has Dm kl = true → e ∈ es
section
variable {K : Nat} {T : TrP} (I : Impl K T) {w0 w w' : World} {es : List En} {tb ub mb n k : Nat} {D E D' E' : Nat → Prop} {l m : List En} {Dm : DataW Value}
include I
theorem SetIn.done (h : SetIn T w0 es tb ub mb es.length w D E l m n Dm) (hf : es.length ≤ 300) : Set2 T w0 es tb ub mb 0 w D E l n Dm := by
  have hs := h.s
  rw [h.same I] at hs
  exact ⟨hs, h.kb, fun x hx => by have := (h.hl x).1 hx; rw [List.take_length] at this; exact this, h.sl.more (by omega), by have := h.hn; omega, fun x hx => h.chk x (by rw [List.take_length]; exact hx), h.src⟩
theorem Set2.step {x : En} {kl : Lit} (h : Set2 T w0 es tb ub mb k w D E l n Dm) (hxe : x ∈ es) (hkey : KeyE x kl) (hs : St2 T w0 w' tb ub D' E' (delL l x) (delL l x) mb (n + 1) (Dm.put kl (.lit (.bool false)))) : Set2 T w0 es tb ub mb (k + 1) w' D' E' (delL l x) (n + 1) (Dm.put kl (.lit (.bool false))) :=
  ⟨hs, h.kb.del (I.srt h.s.t) (I.srt hs.t) (h.s.map.tidy entK) hkey, fun y hy => h.mem y (mem_delL' hy), h.sm.del x, by have := h.hn; omega, h.chk, src_put h.src hxe hkey⟩
end
/-- what loads and look-ups see of an entry in block eb and of the map -/
def SeeE (eb mb : Nat) (x : En) (b : Bool) (w' : World) : Prop :=
  w'.cell? ⟨eb, 0, none⟩ = some (.string x.s) ∧ w'.cell? ⟨eb, 1, none⟩ = some (.int .i64 x.p) ∧ w'.cell? ⟨eb, 2, none⟩ = some (.int .i64 x.k) ∧
    (Instr.lookup 51 (.map (some mb)) (.agg #[.string x.s, .int .i64 x.p, .int .i64 x.k]) false).run Try.prog w' = .ok (.bool b) w'
theorem SeeE.of {w : World} {eb mb n : Nat} {x : En} {b : Bool} {kl : Lit} {Dm : DataW Value} {l : List En} (hb : Blk w eb 35 #[.string x.s, .int .i64 x.p, .int .i64 x.k]) (hm : OwnE w mb n Dm) (hkb : KB Dm l) (hkey : KeyE x kl) (he : b = plB l x) : SeeE eb mb x b w := by
  have hlk := lookup_ent hm hkb hkey
  rw [← he] at hlk
  exact ⟨hb.cell 0, hb.cell 1, hb.cell 2, hlk⟩
/-- and with 1023 -/
theorem and_1023 (z : Int) : ∃ u : Nat, u ≤ 1023 ∧ bits .and .i64 z 1023 = (u : Int) := by
  have h : ∀ v : Nat, v ≤ 1023 → IntKind.i64.wrap ((v : Nat) : Int) = (v : Int) := fun v hv => by
    rw [IntKind.wrap_i64]
    omega
  have h2 : (BitVec.ofInt 64 z &&& BitVec.ofInt 64 1023).toNat ≤ 1023 := by
    rw [BitVec.toNat_and]
    exact Nat.and_le_right
  generalize hb : BitVec.ofInt 64 z &&& BitVec.ofInt 64 1023 = b at h2
  refine ⟨b.toNat, h2, ?_⟩
  rw [← h b.toNat h2, ← hb]
  rfl
end Go.Proofs.Ytiaclfldgagalaa
