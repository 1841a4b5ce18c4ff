/-
  The program's conditions: null, truth; a row gone over till a closure says true (slices.IndexFunc).
-/
import Derived.Test.YthpchenmfenjmaaCoD
import Derived.Shelf.Abstract
namespace Go.Proofs.Ythpchenmfenjmaa
open Go.RowKit Go.Lib Go.Shelf

abbrev vV (v : Va) : Value := .agg #[.int .i64 v.k, .int .i64 v.n, .string v.s]
abbrev coV (c : Co) : Value := .agg #[.string c.name, .int .i64 c.k, .bool c.nn]
set_option maxRecDepth 100000 in
set_option maxHeartbeats 3200000 in
theorem nullc_any (v : Va) (w : World) : Calls Try.prog 17 #[.agg #[.int .i64 v.k, .int .i64 v.n, .string v.s]] w fun e w' => e = .returned (.bool (nullVa v)) ∧ Below w.heap.size w w' := by
  have heq := eqVal
  go_enter Try.func17, Try.ntmps17
  go_wp2_with fail
  go_ret
  exact ⟨rfl, (Below.refl _ w).alloc (Nat.le_refl _) _⟩
set_option maxRecDepth 100000 in
set_option maxHeartbeats 3200000 in
theorem truthc_any (b : Bool) (w : World) : Calls Try.prog 16 #[.bool b] w fun e w' => e = .returned (.int .i64 (numB b)) ∧ Below w.heap.size w w' := by
  cases b
  · go_enter Try.func16, Try.ntmps16
    go_wp2_with fail
    go_ret
    exact ⟨rfl, Below.refl _ w⟩
  · go_enter Try.func16, Try.ntmps16
    go_wp2_with fail
    go_ret
    exact ⟨rfl, Below.refl _ w⟩
/-- the first place of a list at which p says true -/
def idxL {α : Type} (p : α → Bool) : List α → Option Nat
  | [] => none
  | a :: r => if p a = true then some 0 else (idxL p r).map (· + 1)
def idxI (o : Option Nat) : Int := match o with
  | some i => (i : Int)
  | none => -1
section
variable {α : Type} {p : α → Bool}
theorem idxL_hit : ∀ {l : List α} {k : Nat} (hk : k < l.length), (∀ j (hj : j < l.length), j < k → p l[j] = false) → p l[k] = true → idxL p l = some k
  | a :: r, 0, _, _, h => by rw [idxL, if_pos (by simpa using h)]
  | a :: r, k + 1, hk, hb, h => by
    have h0 := hb 0 (by simp) (by omega)
    rw [idxL, if_neg (by simpa using h0), idxL_hit (l := r) (k := k) (by simpa using hk) (fun j hj hjk => by have := hb (j + 1) (by simpa using hj) (by omega); simpa using this) (by simpa using h)]
    rfl
theorem idxL_miss : ∀ {l : List α}, (∀ j (hj : j < l.length), p l[j] = false) → idxL p l = none
  | [], _ => rfl
  | a :: r, hb => by
    have h0 := hb 0 (by simp)
    rw [idxL, if_neg (by simpa using h0), idxL_miss (l := r) (fun j hj => by have := hb (j + 1) (by simpa using hj); simpa using this)]
    rfl
theorem idxL_any : ∀ {l : List α}, (idxL p l).isSome = l.any p
  | [] => rfl
  | a :: r => by
    rw [idxL, List.any_cons, ← idxL_any (l := r)]
    cases p a <;> simp
theorem idxL_lt : ∀ {l : List α} {k : Nat}, idxL p l = some k → k < l.length
  | [], _, h => by cases h
  | a :: r, k, h => by
    rw [idxL] at h
    split at h
    · obtain rfl := Option.some.inj h; simp
    · obtain ⟨k', hk', rfl⟩ := Option.map_eq_some_iff.1 h
      have := idxL_lt hk'
      simp; omega
theorem idxL_find : ∀ {l : List α}, l.find? p = (idxL p l).bind (l[·]?)
  | [] => rfl
  | a :: r => by
    rw [idxL, List.find?_cons]
    cases h : p a with
    | true => simp
    | false =>
      rw [if_neg (by simp), idxL_find (l := r)]
      cases idxL p r <;> simp
end
theorem place_idx (s : ByteArray) : ∀ (l : List Co), placeL l s = idxL (fun c => decide (c.name = s)) l
  | [] => rfl
  | c :: r => by
    rw [placeL, idxL, place_idx s r]
    by_cases h : c.name = s <;> simp [h]
/-- a closure that asks of an element, and may lay what is its own -/
def AskP {α : Type} (g : Nat) (lb : Array Value) (enc : α → Value) (p : α → Bool) (w : World) : Prop :=
  ∀ (W : World) (x : α), Below w.heap.size w W → Calls Try.prog g (#[enc x] ++ lb) W fun e w' => e = .returned (.bool (p x)) ∧ Below w.heap.size w w'
/-- a condition of a row -/
theorem cd_at {w : World} {B : Nat} {A : Option Addr} {l : List Cd} (h : RowG cdC 5 w B A l) {i : Nat} (hi : i < l.length) : ∃ ad, A = some ad ∧ ad.block < B ∧ w.cell? (ad.add (i * 5)) = some (.string l[i].col) ∧ w.cell? ⟨(ad.add (i * 5)).block, (ad.add (i * 5)).off + 1, none⟩ = some (.int .i64 l[i].op) ∧
    w.cell? ⟨(ad.add (i * 5)).block, (ad.add (i * 5)).off + 2, none⟩ = some (.int .i64 l[i].w.k) ∧ w.cell? ⟨(ad.add (i * 5)).block, (ad.add (i * 5)).off + 3, none⟩ = some (.int .i64 l[i].w.n) ∧ w.cell? ⟨(ad.add (i * 5)).block, (ad.add (i * 5)).off + 4, none⟩ = some (.string l[i].w.s) := by
  obtain ⟨ad, rfl, hlt⟩ := h.lo (by omega)
  have get : ∀ j u, (cdC l[i])[j]? = some u → w.cell? (ad.add (i * 5 + j)) = some u := fun j u hu => by
    obtain ⟨ad', e, hc⟩ := h.cell i hi j u hu
    obtain rfl := Option.some.inj e
    exact hc
  have addr_field : ∀ (a : Addr) (j : Nat), 0 < j → (⟨a.block, a.off + j, none⟩ : Addr) = a.add j := fun a j hj => by unfold Addr.add; rw [if_neg (by omega)]
  refine ⟨ad, rfl, hlt, get 0 _ rfl, ?_, ?_, ?_, ?_⟩ <;> rw [addr_field _ _ (by omega), addr_add]
  · exact get 1 _ rfl
  · exact get 2 _ rfl
  · exact get 3 _ rfl
  · exact get 4 _ rfl
/-- a column of a row -/
theorem co_at {w : World} {B : Nat} {A : Option Addr} {l : List Co} (h : RowG coC 3 w B A l) {i : Nat} (hi : i < l.length) : ∃ ad, A = some ad ∧ ad.block < B ∧ w.cell? (ad.add (i * 3)) = some (.string l[i].name) ∧ w.cell? ⟨(ad.add (i * 3)).block, (ad.add (i * 3)).off + 1, none⟩ = some (.int .i64 l[i].k) ∧ w.cell? ⟨(ad.add (i * 3)).block, (ad.add (i * 3)).off + 2, none⟩ = some (.bool l[i].nn) := by
  obtain ⟨ad, rfl, hlt⟩ := h.lo (by omega)
  have get : ∀ j u, (coC l[i])[j]? = some u → w.cell? (ad.add (i * 3 + j)) = some u := fun j u hu => by
    obtain ⟨ad', e, hc⟩ := h.cell i hi j u hu
    obtain rfl := Option.some.inj e
    exact hc
  have addr_field : ∀ (a : Addr) (j : Nat), 0 < j → (⟨a.block, a.off + j, none⟩ : Addr) = a.add j := fun a j hj => by unfold Addr.add; rw [if_neg (by omega)]
  refine ⟨ad, rfl, hlt, get 0 _ rfl, ?_, ?_⟩ <;> rw [addr_field _ _ (by omega), addr_add]
  · exact get 1 _ rfl
  · exact get 2 _ rfl
/-- a value of a row -/
theorem va_at {w : World} {B : Nat} {A : Option Addr} {l : List Va} (h : RowG vcell 3 w B A l) {i : Nat} (hi : i < l.length) : ∃ ad, A = some ad ∧ ad.block < B ∧ w.cell? (ad.add (i * 3)) = some (.int .i64 l[i].k) ∧ w.cell? ⟨(ad.add (i * 3)).block, (ad.add (i * 3)).off + 1, none⟩ = some (.int .i64 l[i].n) ∧ w.cell? ⟨(ad.add (i * 3)).block, (ad.add (i * 3)).off + 2, none⟩ = some (.string l[i].s) := by
  obtain ⟨ad, rfl, hlt⟩ := h.lo (by omega)
  have get : ∀ j u, (vcell l[i])[j]? = some u → w.cell? (ad.add (i * 3 + j)) = some u := fun j u hu => by
    obtain ⟨ad', e, hc⟩ := h.cell i hi j u hu
    obtain rfl := Option.some.inj e
    exact hc
  have addr_field : ∀ (a : Addr) (j : Nat), 0 < j → (⟨a.block, a.off + j, none⟩ : Addr) = a.add j := fun a j hj => by unfold Addr.add; rw [if_neg (by omega)]
  refine ⟨ad, rfl, hlt, get 0 _ rfl, ?_, ?_⟩ <;> rw [addr_field _ _ (by omega), addr_add]
  · exact get 1 _ rfl
  · exact get 2 _ rfl
set_option maxRecDepth 100000 in
set_option maxHeartbeats 6400000 in
theorem idxCd_any {w : World} {B : Nat} {A : Option Addr} {n c : Nat} {l : List Cd} (h : RowG cdC 5 w B A l) (hB : B ≤ w.heap.size) (hn : n = l.length) (hl : l.length ≤ 1000000) {g : Nat} {lb : Array Value} {p : Cd → Bool} (eg : ∀ args w, (callFunc g args).run Try.prog w = .ok (.enter g args) w) (hp : AskP g lb cdV p w) :
    Calls Try.prog 22 #[.slice A n c, .func (.func g) #[] lb] w fun e w' => e = .returned (.int .i64 (idxI (idxL p l))) ∧ Below w.heap.size w w' := by
  have hn0 : (0 : Int) ≤ (n : Int) := Int.natCast_nonneg _
  have hnl : n ≤ 1000000 := by omega
  have H := Lib.hid (And.intro (h.more hB) (And.intro hn hp))
  have HB := Lib.hid (Below.refl w.heap.size w)
  clear h hB hn hl hp
  go_enter Try.func22, Try.ntmps22
  go_wp2_with fail
  go_loopw [5, 8] (fun _ iv wr => ∃ k : Nat, k ≤ n ∧ iv = .int .i64 k ∧ Below w.heap.size w wr ∧ ∀ j (hj : j < l.length), j < k → p l[j] = false) (fun _ iv _ => n - (intOf iv).toNat)
  case atStart => exact ⟨0, Nat.zero_le _, rfl, HB.out, fun j _ hj => absurd hj (by omega)⟩
  case round =>
    obtain ⟨k, hk, rfl, hb, hno⟩ := hrel
    have hk0 : (0 : Int) ≤ (k : Int) := Int.natCast_nonneg _
    have HR := Lib.hid (And.intro hb hno)
    clear HB hb hno
    by_cases hlt : k < n
    · have hlt1 : (k : Int) < (n : Int) := by omega
      have hkl : k < l.length := by rw [← H.out.2.1]; exact hlt
      obtain ⟨ad, rfl, _, a0, a1, a2, a3, a4⟩ := cd_at (H.out.1.below HR.out.1 (Nat.le_refl _)) hkl
      have hcall := H.out.2.2 wr l[k] HR.out.1
      obtain ⟨y, hy⟩ : ∃ y, y = l[k] := ⟨_, rfl⟩
      rw [← hy] at a0 a1 a2 a3 a4 hcall
      unfold cdV at hcall
      have HY := Lib.hid hy
      clear hy
      cases hq : p y with
      | true =>
        rw [hq] at hcall
        have HC := Lib.hid hcall
        clear hcall
        go_wp2_with (go_at_fn g; refine HC.out.mono ?_; rintro e w' ⟨rfl, hb'⟩)
        go_ret
        refine ⟨?_, hb'⟩
        rw [idxL_hit hkl HR.out.2 (by rw [← HY.out]; exact hq)]
        rfl
      | false =>
        rw [hq] at hcall
        have HC := Lib.hid hcall
        clear hcall
        go_wp2_with (go_at_fn g; refine HC.out.mono ?_; rintro e w' ⟨rfl, hb'⟩)
        go_roundw
        case rel =>
          refine ⟨k + 1, by omega, by go_num, hb', fun j hj hjk => ?_⟩
          by_cases e : j = k
          · subst e; rw [← HY.out]; exact hq
          · exact HR.out.2 j hj (by omega)
        case measure => simp [intOf]; omega
    · have hlt1 : ¬ (k : Int) < (n : Int) := by omega
      go_wp2_with fail
      go_ret
      refine ⟨?_, HR.out.1⟩
      rw [idxL_miss fun j hj => HR.out.2 j hj (by have := H.out.2.1; omega)]
      rfl
set_option maxRecDepth 100000 in
set_option maxHeartbeats 6400000 in
theorem idxCo_any {w : World} {B : Nat} {A : Option Addr} {n c : Nat} {l : List Co} (h : RowG coC 3 w B A l) (hB : B ≤ w.heap.size) (hn : n = l.length) (hl : l.length ≤ 1000000) {g : Nat} {lb : Array Value} {p : Co → Bool} (eg : ∀ args w, (callFunc g args).run Try.prog w = .ok (.enter g args) w) (hp : AskP g lb coV p w) :
    Calls Try.prog 25 #[.slice A n c, .func (.func g) #[] lb] w fun e w' => e = .returned (.int .i64 (idxI (idxL p l))) ∧ Below w.heap.size w w' := by
  have hn0 : (0 : Int) ≤ (n : Int) := Int.natCast_nonneg _
  have hnl : n ≤ 1000000 := by omega
  have H := Lib.hid (And.intro (h.more hB) (And.intro hn hp))
  have HB := Lib.hid (Below.refl w.heap.size w)
  clear h hB hn hl hp
  go_enter Try.func25, Try.ntmps25
  go_wp2_with fail
  go_loopw [5, 8] (fun _ iv wr => ∃ k : Nat, k ≤ n ∧ iv = .int .i64 k ∧ Below w.heap.size w wr ∧ ∀ j (hj : j < l.length), j < k → p l[j] = false) (fun _ iv _ => n - (intOf iv).toNat)
  case atStart => exact ⟨0, Nat.zero_le _, rfl, HB.out, fun j _ hj => absurd hj (by omega)⟩
  case round =>
    obtain ⟨k, hk, rfl, hb, hno⟩ := hrel
    have hk0 : (0 : Int) ≤ (k : Int) := Int.natCast_nonneg _
    have HR := Lib.hid (And.intro hb hno)
    clear HB hb hno
    by_cases hlt : k < n
    · have hlt1 : (k : Int) < (n : Int) := by omega
      have hkl : k < l.length := by rw [← H.out.2.1]; exact hlt
      obtain ⟨ad, rfl, _, a0, a1, a2⟩ := co_at (H.out.1.below HR.out.1 (Nat.le_refl _)) hkl
      have hcall := H.out.2.2 wr l[k] HR.out.1
      obtain ⟨y, hy⟩ : ∃ y, y = l[k] := ⟨_, rfl⟩
      rw [← hy] at a0 a1 a2 hcall
      unfold coV at hcall
      have HY := Lib.hid hy
      clear hy
      cases hq : p y with
      | true =>
        rw [hq] at hcall
        have HC := Lib.hid hcall
        clear hcall
        go_wp2_with (go_at_fn g; refine HC.out.mono ?_; rintro e w' ⟨rfl, hb'⟩)
        go_ret
        refine ⟨?_, hb'⟩
        rw [idxL_hit hkl HR.out.2 (by rw [← HY.out]; exact hq)]
        rfl
      | false =>
        rw [hq] at hcall
        have HC := Lib.hid hcall
        clear hcall
        go_wp2_with (go_at_fn g; refine HC.out.mono ?_; rintro e w' ⟨rfl, hb'⟩)
        go_roundw
        case rel =>
          refine ⟨k + 1, by omega, by go_num, hb', fun j hj hjk => ?_⟩
          by_cases e : j = k
          · subst e; rw [← HY.out]; exact hq
          · exact HR.out.2 j hj (by omega)
        case measure => simp [intOf]; omega
    · have hlt1 : ¬ (k : Int) < (n : Int) := by omega
      go_wp2_with fail
      go_ret
      refine ⟨?_, HR.out.1⟩
      rw [idxL_miss fun j hj => HR.out.2 j hj (by have := H.out.2.1; omega)]
      rfl
set_option maxRecDepth 100000 in
set_option maxHeartbeats 6400000 in
theorem containsCd_any {w : World} {B : Nat} {A : Option Addr} {n c : Nat} {l : List Cd} (h : RowG cdC 5 w B A l) (hB : B ≤ w.heap.size) (hn : n = l.length) (hl : l.length ≤ 1000000) {g : Nat} {lb : Array Value} {p : Cd → Bool} (eg : ∀ args w, (callFunc g args).run Try.prog w = .ok (.enter g args) w) (hp : AskP g lb cdV p w) :
    Calls Try.prog 19 #[.slice A n c, .func (.func g) #[] lb] w fun e w' => e = .returned (.bool (l.any p)) ∧ Below w.heap.size w w' := by
  have hc := idxCd_any (c := c) h hB hn hl eg hp
  have e : l.any p = decide (0 ≤ idxI (idxL p l)) := by
    rw [← idxL_any]
    cases idxL p l with
    | none => rfl
    | some i => simp [idxI]
  rw [e]
  generalize idxI (idxL p l) = r at hc ⊢
  have H := Lib.hid hc
  clear hc h hB hn hl hp e
  go_enter Try.func19, Try.ntmps19
  go_wp2_with (go_at_call 22; refine H.out.mono ?_; rintro e w' ⟨rfl, hb'⟩)
  go_ret
  exact ⟨rfl, hb'⟩
end Go.Proofs.Ythpchenmfenjmaa
