/-
  The program's timers: the queue, the map beside it, and the list that they stand for.
-/
import Derived.Test.YtcjhkafdfeopfaaQPop
namespace Go.Proofs.Ytcjhkafdfeopfaa
open Go.RowKit Go.Lib Go.Maps

/-! ### told apart by an order alone -/
def Pm (n : Nat) (f g : Nat → Of) : Prop := ∃ s t : Nat → Nat, (∀ k, k < n → s k < n ∧ t k < n ∧ s (t k) = k ∧ t (s k) = k) ∧ ∀ k, k < n → g k = f (s k)
def trn (i j k : Nat) : Nat := if k = i then j else if k = j then i else k
theorem sw_trn {α : Type} (f : Nat → α) (i j k : Nat) : sw f i j k = f (trn i j k) := by
  unfold sw trn
  split
  · rfl
  · split <;> rfl
theorem trn_lt {i j k n : Nat} (hi : i < n) (hj : j < n) (hk : k < n) : trn i j k < n := by
  unfold trn
  split
  · exact hj
  · split
    · exact hi
    · exact hk
theorem trn_trn (i j k : Nat) : trn i j (trn i j k) = k := by
  unfold trn
  by_cases h1 : k = i
  · rw [if_pos h1]
    by_cases h2 : j = i
    · rw [if_pos h2]; omega
    · rw [if_neg h2, if_pos rfl]; exact h1.symm
  · rw [if_neg h1]
    by_cases h2 : k = j
    · rw [if_pos h2, if_pos rfl]; exact h2.symm
    · rw [if_neg h2, if_neg h1, if_neg h2]
theorem Pm.refl (n : Nat) (f : Nat → Of) : Pm n f f := ⟨id, id, fun _ h => ⟨h, h, rfl, rfl⟩, fun _ _ => rfl⟩
theorem Sws.pm {n : Nat} {f g : Nat → Of} (h : Sws n f g) : Pm n f g := by
  induction h with
  | refl => exact Pm.refl _ _
  | @step g i j _ hi hj ih =>
    obtain ⟨s, t, hst, hg⟩ := ih
    refine ⟨fun k => s (trn i j k), fun k => trn i j (t k), fun k hk => ⟨(hst _ (trn_lt hi hj hk)).1, trn_lt hi hj (hst k hk).2.1, ?_, ?_⟩, fun k hk => ?_⟩
    · show s (trn i j (trn i j (t k))) = k
      rw [trn_trn]; exact (hst k hk).2.2.1
    · show trn i j (t (s (trn i j k))) = k
      rw [(hst _ (trn_lt hi hj hk)).2.2.2, trn_trn]
    · rw [sw_trn]; exact hg _ (trn_lt hi hj hk)
/-! ### the list that a queue stands for -/
structure Rel (n : Nat) (f : Nat → Of) (l : List On) : Prop where
  mem : ∀ x, x ∈ l ↔ ∃ k, k < n ∧ (f k).1 = x
  uni : ∀ j k, j < n → k < n → (f j).1.i = (f k).1.i → j = k
  len : n = l.length
  num : ∀ k, k < n → NumI (f k).1.i
/-- what the map tells: of each id its timer's block -/
structure KP (D : DataW Value) (n : Nat) (f : Nat → Of) : Prop where
  has : ∀ id, Maps.has D (kI id) = true ↔ ∃ k, k < n ∧ (f k).1.i = id
  at_ : ∀ k, k < n → ∀ z, D.atKey (kI (f k).1.i) z = .lit (.int .i64 (f k).2)
  size : Maps.size D = n
section
variable {n : Nat} {f g : Nat → Of} {l : List On} {D : DataW Value}
theorem Rel.pm (h : Rel n f l) (p : Pm n f g) : Rel n g l := by
  obtain ⟨s, t, hst, hg⟩ := p
  refine ⟨fun x => ?_, fun j k hj hk e => ?_, h.len, fun k hk => ?_⟩
  · rw [h.mem]
    constructor
    · rintro ⟨k, hk, rfl⟩
      exact ⟨t k, (hst k hk).2.1, by rw [hg _ (hst k hk).2.1, (hst k hk).2.2.1]⟩
    · rintro ⟨k, hk, rfl⟩
      exact ⟨s k, (hst k hk).1, by rw [hg k hk]⟩
  · rw [hg j hj, hg k hk] at e
    have h1 := h.uni _ _ (hst j hj).1 (hst k hk).1 e
    have h2 := congrArg t h1
    rwa [(hst j hj).2.2.2, (hst k hk).2.2.2] at h2
  · rw [hg k hk]; exact h.num _ (hst k hk).1
theorem KP.pm (h : KP D n f) (p : Pm n f g) : KP D n g := by
  obtain ⟨s, t, hst, hg⟩ := p
  refine ⟨fun id => ?_, fun k hk z => ?_, h.size⟩
  · rw [h.has]
    constructor
    · rintro ⟨k, hk, rfl⟩
      exact ⟨t k, (hst k hk).2.1, by rw [hg _ (hst k hk).2.1, (hst k hk).2.2.1]⟩
    · rintro ⟨k, hk, rfl⟩
      exact ⟨s k, (hst k hk).1, by rw [hg k hk]⟩
  · rw [hg k hk]; exact h.at_ _ (hst k hk).1 z
theorem KP.same (h : KP D n f) (hg : ∀ k, k < n → (g k).1.i = (f k).1.i ∧ (g k).2 = (f k).2) : KP D n g := by
  refine ⟨fun id => ?_, fun k hk z => by rw [(hg k hk).1, (hg k hk).2]; exact h.at_ k hk z, h.size⟩
  rw [h.has]
  constructor
  · rintro ⟨k, hk, rfl⟩; exact ⟨k, hk, (hg k hk).1⟩
  · rintro ⟨k, hk, rfl⟩; exact ⟨k, hk, (hg k hk).1.symm⟩
theorem KP.nil (f : Nat → Of) : KP (.map []) 0 f := ⟨fun id => by simp [Maps.has], fun k hk => absurd hk (by omega), by simp [Maps.size]⟩
/-- the last one goes -/
theorem KP.cut (h : KP D (n + 1) f) (hT : Tidy D) (hu : ∀ j k, j < n + 1 → k < n + 1 → (f j).1.i = (f k).1.i → j = k) : KP (D.del (kI (f n).1.i)) n f := by
  have hne : ∀ k, k < n → (f k).1.i ≠ (f n).1.i := fun k hk e => by have := hu k n (by omega) (by omega) e; omega
  refine ⟨fun id => ?_, fun k hk z => ?_, ?_⟩
  · by_cases e : id = (f n).1.i
    · rw [e, has_del_same]
      constructor
      · intro h; cases h
      · rintro ⟨k, hk, e2⟩; exact absurd e2 (hne k hk)
    · rw [has_del_other (fun h1 => e (kI_inj h1)), h.has]
      constructor
      · rintro ⟨k, hk, e2⟩
        refine ⟨k, ?_, e2⟩
        by_cases e3 : k = n
        · subst e3; exact absurd e2.symm e
        · omega
      · rintro ⟨k, hk, e2⟩; exact ⟨k, by omega, e2⟩
  · rw [atKey_del_other (fun h1 => hne k hk (kI_inj h1))]
    exact h.at_ k (by omega) z
  · have h1 := size_del (k := kI (f n).1.i) hT
    have h2 : Maps.has D (kI (f n).1.i) = true := (h.has _).2 ⟨n, by omega, rfl⟩
    rw [h2, h.size] at h1
    simp at h1
    omega
/-- a new one -/
theorem KP.add (h : KP D n f) (hT : Tidy D) {x : Of} (hx : ∀ k, k < n → (f k).1.i ≠ x.1.i) : KP (D.put (kI x.1.i) (.lit (.int .i64 x.2))) (n + 1) (upd f n x) := by
  have hn : upd f n x n = x := by unfold upd; rw [if_pos rfl]
  have ho : ∀ k, k < n → upd f n x k = f k := fun k hk => by unfold upd; rw [if_neg (by omega)]
  refine ⟨fun id => ?_, fun k hk z => ?_, ?_⟩
  · by_cases e : id = x.1.i
    · rw [e, has_put_same hT.isMap (isKI _)]
      exact ⟨fun _ => ⟨n, by omega, by rw [hn]⟩, fun _ => rfl⟩
    · rw [has_put_other (fun h1 => e (kI_inj h1)), h.has]
      constructor
      · rintro ⟨k, hk, e2⟩; exact ⟨k, by omega, by rw [ho k hk]; exact e2⟩
      · rintro ⟨k, hk, e2⟩
        by_cases e3 : k = n
        · subst e3; rw [hn] at e2; exact absurd e2.symm e
        · exact ⟨k, by omega, by rw [ho k (by omega)] at e2; exact e2⟩
  · by_cases e3 : k = n
    · subst e3; rw [hn, atKey_put_same hT.isMap (isKI _)]
    · rw [ho k (by omega), atKey_put_other (fun h1 => hx k (by omega) (kI_inj h1))]
      exact h.at_ k (by omega) z
  · have h2 : Maps.has D (kI x.1.i) = false := by
      cases hb : Maps.has D (kI x.1.i) with
      | false => rfl
      | true =>
        obtain ⟨k, hk, e⟩ := (h.has _).1 hb
        exact absurd e (hx k hk)
    rw [size_put hT, h2, h.size]
    simp
theorem Rel.at_ (h : Rel n f l) (ho : OkO l) {k : Nat} (hk : k < n) : atO (f k).1.i l = some (f k).1.t := (atO_some ho.uni).2 ((h.mem _).2 ⟨k, hk, rfl⟩)
theorem Rel.none_ (h : Rel n f l) {id : Int} (hn : ∀ k, k < n → (f k).1.i ≠ id) : atO id l = none := by
  rw [atO_none]
  intro x hx
  obtain ⟨k, hk, rfl⟩ := (h.mem x).1 hx
  exact hn k hk
theorem Rel.cut (h : Rel (n + 1) f l) (ho : OkO l) : Rel n f (dropO (f n).1.i l) := by
  have hne : ∀ k, k < n → (f k).1.i ≠ (f n).1.i := fun k hk e => by have := h.uni k n (by omega) (by omega) e; omega
  refine ⟨fun x => ?_, fun j k hj hk e => h.uni j k (by omega) (by omega) e, ?_, fun k hk => h.num k (by omega)⟩
  · rw [mem_dropO ho.uni, h.mem]
    constructor
    · rintro ⟨⟨k, hk, rfl⟩, hi⟩
      refine ⟨k, ?_, rfl⟩
      by_cases e : k = n
      · subst e; exact absurd rfl hi
      · omega
    · rintro ⟨k, hk, rfl⟩; exact ⟨⟨k, by omega, rfl⟩, hne k hk⟩
  · rw [dropO_len, h.at_ ho (Nat.lt_succ_self n), ← h.len]
    rfl
theorem Rel.add (h : Rel n f l) (ho : OkO l) {x : Of} (hx : ∀ k, k < n → (f k).1.i ≠ x.1.i) (hN : NumI x.1.i) : Rel (n + 1) (upd f n x) (setO x.1 l) := by
  have hn : upd f n x n = x := by unfold upd; rw [if_pos rfl]
  have hf : ∀ k, k < n → upd f n x k = f k := fun k hk => by unfold upd; rw [if_neg (by omega)]
  refine ⟨fun y => ?_, fun j k hj hk e => ?_, ?_, fun k hk => ?_⟩
  · rw [mem_setO ho, h.mem]
    constructor
    · rintro (⟨⟨k, hk, rfl⟩, _⟩ | rfl)
      · exact ⟨k, by omega, by rw [hf k hk]⟩
      · exact ⟨n, by omega, by rw [hn]⟩
    · rintro ⟨k, hk, rfl⟩
      by_cases e : k = n
      · subst e; rw [hn]; exact .inr rfl
      · rw [hf k (by omega)]
        exact .inl ⟨⟨k, by omega, rfl⟩, hx k (by omega)⟩
  · by_cases e1 : j = n
    · by_cases e2 : k = n
      · omega
      · rw [e1, hn, hf k (by omega)] at e
        exact absurd e.symm (hx k (by omega))
    · by_cases e2 : k = n
      · rw [e2, hn, hf j (by omega)] at e
        exact absurd e (hx j (by omega))
      · rw [hf j (by omega), hf k (by omega)] at e
        exact h.uni j k (by omega) (by omega) e
  · unfold setO
    rw [insO_len, dropO_len, h.none_ hx, ← h.len]
    rfl
  · by_cases e : k = n
    · subst e; rw [hn]; exact hN
    · rw [hf k (by omega)]; exact h.num k (by omega)
theorem Rel.set (h : Rel n f l) (ho : OkO l) {i : Nat} (hi : i < n) (t : Int) : Rel n (upd f i (⟨(f i).1.i, t⟩, (f i).2)) (setO ⟨(f i).1.i, t⟩ l) := by
  have hn : upd f i (⟨(f i).1.i, t⟩, (f i).2) i = (⟨(f i).1.i, t⟩, (f i).2) := by unfold upd; rw [if_pos rfl]
  have hf : ∀ k, k ≠ i → upd f i (⟨(f i).1.i, t⟩, (f i).2) k = f k := fun k hk => by unfold upd; rw [if_neg hk]
  have hid : ∀ k, (upd f i (⟨(f i).1.i, t⟩, (f i).2) k).1.i = (f k).1.i := fun k => by
    by_cases e : k = i
    · rw [e, hn]
    · rw [hf k e]
  refine ⟨fun y => ?_, fun j k hj hk e => ?_, ?_, fun k hk => by rw [hid]; exact h.num k hk⟩
  · rw [mem_setO ho, h.mem]
    constructor
    · rintro (⟨⟨k, hk, rfl⟩, hne⟩ | rfl)
      · exact ⟨k, hk, by rw [hf k fun e => hne (by rw [e])]⟩
      · exact ⟨i, hi, by rw [hn]⟩
    · rintro ⟨k, hk, rfl⟩
      by_cases e : k = i
      · rw [e, hn]; exact .inr rfl
      · rw [hf k e]
        exact .inl ⟨⟨k, hk, rfl⟩, fun e2 => e (h.uni k i hk hi e2)⟩
  · rw [hid, hid] at e
    exact h.uni j k hj hk e
  · unfold setO
    rw [insO_len, dropO_len, h.at_ ho hi, ← h.len]
    simp
    omega
/-- the least stands first -/
theorem Rel.first (h : Rel n f l) (ho : OkO l) (hp : Hp (leB ltF) n f) (hn : 0 < n) : ∃ r, l = (f 0).1 :: r := by
  have hl := h.len
  cases l with
  | nil => simp at hl; omega
  | cons y r =>
    refine ⟨r, ?_⟩
    obtain ⟨k, hk, hy⟩ := (h.mem y).1 List.mem_cons_self
    have h0 := (h.mem (f 0).1).2 ⟨0, hn, rfl⟩
    rcases List.mem_cons.1 h0 with h1 | h1
    · rw [h1]
    · have h2 := (List.pairwise_cons.1 ho.srt).1 _ h1
      have h3 := leF_not (hp.least ltF_rf ltF_tr k hk)
      rw [hy] at h3
      exact absurd h2 h3
theorem Rel.nil (f : Nat → Of) : Rel 0 f [] := ⟨fun x => by simp, fun j k hj => absurd hj (by omega), rfl, fun k hk => absurd hk (by omega)⟩
end
theorem dropO_head {x : On} {r : List On} : dropO x.i (x :: r) = r := by rw [dropO, if_pos rfl]
/-! ### the map in memory -/
def RP : Value → Option (DataW Value × List MemPlace)
  | .pointer (some ⟨b, 0, none⟩) => some (.lit (.int .i64 b), [])
  | .pointer none => some (.lit (.int .i64 (-1)), [])
  | _ => none
theorem rp_ptr (b : Nat) : RP (ptrT b) = some (.lit (.int .i64 b), []) := rfl
theorem rp_inv {v : Value} {b : Nat} {ps : List MemPlace} (h : RP v = some (.lit (.int .i64 b), ps)) : v = ptrT b := by
  unfold RP at h
  split at h
  · rename_i b'
    injection h with h
    injection h with h _
    injection h with h
    injection h with _ h
    have e : b' = b := Int.ofNat.inj h
    rw [e]
    rfl
  · injection h with h
    injection h with h _
    injection h with h
    injection h with _ h
    omega
  · cases h
abbrev OwnP (w : World) (b n : Nat) (D : DataW Value) : Prop := w.ownsMap Try.prog 3 RP b n D
theorem OwnP.shrink {w : World} {b n : Nat} {D : DataW Value} (h : OwnP w b n D) : OwnP w b (Maps.size D) D := by
  obtain ⟨es, clock, hb, F, _, rfl⟩ := h
  exact ⟨es, clock, hb, F, by simp [Maps.size, length_sorted], rfl⟩
theorem zero_ptr (w : World) : (zeroValue 50).run Try.prog w = .ok (.pointer none) w := by kernel_rfl
theorem look_has {w : World} {b n m : Nat} {D : DataW Value} {f : Nat → Of} (h : OwnP w b m D) (hk : KP D n f) {k : Nat} (hkn : k < n) (hN : NumI (f k).1.i) :
    (Instr.lookup 45 (.map (some b)) (.int .i64 (f k).1.i) true).run Try.prog w = .ok (.tuple #[ptrT (f k).2, .bool true]) w := by
  obtain ⟨v, ps, hrun, hv⟩ := h.look_ok intK Try.underlying45 (zero_ptr w) (zd := .lit (.int .i64 (-1))) (zp := []) rfl hN.key
  rw [hk.at_ k hkn] at hv
  obtain rfl := rp_inv hv
  rw [hrun, (hk.has _).2 ⟨k, hkn, rfl⟩]
theorem look_none {w : World} {b n m : Nat} {D : DataW Value} {f : Nat → Of} (h : OwnP w b m D) (hk : KP D n f) {id : Int} (hne : ∀ k, k < n → (f k).1.i ≠ id) (hN : NumI id) :
    ∃ v, (Instr.lookup 45 (.map (some b)) (.int .i64 id) true).run Try.prog w = .ok (.tuple #[v, .bool false]) w := by
  obtain ⟨v, ps, hrun, hv⟩ := h.look_ok intK Try.underlying45 (zero_ptr w) (zd := .lit (.int .i64 (-1))) (zp := []) rfl hN.key
  have hh : Maps.has D (kI id) = false := by
    cases hb : Maps.has D (kI id) with
    | false => rfl
    | true =>
      obtain ⟨k, hk1, e⟩ := (hk.has _).1 hb
      exact absurd e (hne k hk1)
  rw [hh] at hrun
  exact ⟨v, hrun⟩
/-! ### both -/
structure TX (B : Nat) (D : Nat → Prop) (w : World) (tb mb : Nat) (E : Nat → Prop) (A : Option Addr) (c n : Nat) (f : Nat → Of) (Dm : DataW Value) (l : List On) : Prop where
  q : QX B E w tb mb A c n f
  m : OwnP w mb n Dm
  kp : KP Dm n f
  rel : Rel n f l
  hp : Hp (leB ltF) n f
  ok : OkO l
  em : ¬ E mb
  ed : ∀ k, E k → D k
  md : D mb
  foot : ∀ k, D k → B ≤ k ∧ k < w.heap.size
def TI : TmP := fun B D w tb l => ∃ mb E A c n f Dm, TX B D w tb mb E A c n f Dm l
section
variable {B tb mb n c : Nat} {D E F : Nat → Prop} {w w' w2 : World} {A : Option Addr} {f g : Nat → Of} {Dm : DataW Value} {l l' : List On}
theorem TX.chg (h : TX B D w tb mb E A c n f Dm l) (hc : Chg F w w') (hd : ∀ k, D k → ¬ F k) : TX B D w' tb mb E A c n f Dm l :=
  ⟨h.q.chg hc fun k hk => hd k (h.ed k hk), chg_map h.m hc (hd _ h.md), h.kp, h.rel, h.hp, h.ok, h.em, h.ed, h.md, fun k hk => ⟨(h.foot k hk).1, Nat.lt_of_lt_of_le (h.foot k hk).2 hc.size⟩⟩
theorem SQ.start (h : QX B E w tb mb A c n f) : SQ B E w tb mb w n f :=
  ⟨A, c, h.more (fun _ hk => .inl hk) fun k hk => hk.elim (fun hk => h.foot k hk) fun hk => absurd hk.1 (by omega), Chg.refl _ _⟩
/-- what a call that changes them leaves -/
theorem TX.close (h : TX B D w tb mb E A c n f Dm l) {E2 : Nat → Prop} {n2 n' : Nat} {Dm' : DataW Value} (hm : OwnP w2 mb n2 Dm') (h2 : Chg D w w2) (hq : SQ B E2 w2 tb mb w' n' g) (hE2 : ∀ k, E2 k → D k ∨ (w.heap.size ≤ k ∧ k < w2.heap.size)) (hem : ¬ E2 mb)
    (kp : KP Dm' n' g) (rel : Rel n' g l') (hp : Hp (leB ltF) n' g) (ok : OkO l') : TI B (Ext D w w') w' tb l' ∧ Chg D w w' := by
  obtain ⟨A', c', hq, hc⟩ := hq
  have s1 := h2.size
  have s2 := hc.size
  have hmb := hm.lt
  have hcw : Chg D w w' := h2.trans' hc fun k hk he => (hE2 k he).elim id fun h => absurd h.1 (by omega)
  refine ⟨⟨mb, Ext E2 w2 w', A', c', n', g, Dm', hq, ?_, kp, rel, hp, ok, fun hk => hk.elim hem fun hk => by omega, fun k hk => ?_, .inl h.md, fun k hk => ?_⟩, hcw⟩
  · have h3 : OwnP w' mb n2 Dm' := chg_map hm hc hem
    have h4 := h3.shrink
    rwa [kp.size] at h4
  · rcases hk with hk | hk
    · rcases hE2 k hk with hk | hk
      · exact .inl hk
      · exact .inr ⟨hk.1, by omega⟩
    · exact .inr ⟨by omega, hk.2⟩
  · rcases hk with hk | hk
    · have := h.foot k hk
      omega
    · have := h.foot mb h.md
      omega
/-- a timer's time is set in its place -/
theorem QX.time (h : QX B D w tb mb A c n f) {k : Nat} (hk : k < n) {t : Int} (hw : w' = w.setCell ⟨(f k).2, 1, none⟩ (.int .i64 t)) : QX B D w' tb mb A c n (upd f k (⟨(f k).1.i, t⟩, (f k).2)) ∧ Chg D w w' := by
  have hc0 : Chg (fun q => q = (f k).2) w w' := by rw [hw]; exact (Chg.refl (fun q => q = (f k).2) w).setCell (p := ⟨(f k).2, 1, none⟩) (fun _ => rfl) _
  have hc : Chg D w w' := hc0.mono fun q _ e => e ▸ h.od k hk
  have h2 : ∀ q, (upd f k (⟨(f k).1.i, t⟩, (f k).2) q).2 = (f q).2 := fun q => by
    unfold upd
    split
    · rename_i e; rw [e]
    · rfl
  refine ⟨⟨h.blk.chg hc0 (h.ne_tb hk).symm, ?_, fun q hq => ?_, h.rd, fun q hq => by rw [h2]; exact h.od q hq, h.td, fun q hq => ⟨(h.foot q hq).1, Nat.lt_of_lt_of_le (h.foot q hq).2 hc.size⟩⟩, hc⟩
  · rw [ptrs_ext (g := f) fun q _ => h2 q]
    exact own_chg h.row hc0 fun q hq e => own_ne h.row (h.one k hk) (by decide) (e ▸ hq)
  · unfold upd
    split
    · rename_i e
      rw [e, hw]
      exact (h.one k hk).put 1 _
    · rename_i e
      exact (h.one q hq).chg hc0 fun e2 => e (h.inj hq hk e2)
end
end Go.Proofs.Ytcjhkafdfeopfaa
