/-
  Heaps as mathematics: contents are a function of the index, le a total preorder; what a swap does on the way up and on the way down.
-/
import Derived.Test.YtcjhkafdfeopfaaTmM
namespace Go.Proofs.Ytcjhkafdfeopfaa

def par (k : Nat) : Nat := (k - 1) / 2
theorem par_lt {k : Nat} (h : 0 < k) : par k < k := by unfold par; omega
def sw {α : Type} (f : Nat → α) (i j : Nat) : Nat → α := fun k => if k = i then f j else if k = j then f i else f k
def upd {α : Type} (f : Nat → α) (i : Nat) (x : α) : Nat → α := fun k => if k = i then x else f k
section
variable {α : Type} {f : Nat → α}
theorem sw_l (i j : Nat) : sw f i j i = f j := if_pos rfl
theorem sw_r (i j : Nat) : sw f i j j = f i := by
  unfold sw
  split
  · rename_i h; rw [h]
  · exact if_pos rfl
theorem sw_o {i j k : Nat} (h1 : k ≠ i) (h2 : k ≠ j) : sw f i j k = f k := by unfold sw; rw [if_neg h1, if_neg h2]
end
section
variable {α : Type} (le : α → α → Prop)
/-- the first n are a heap -/
def Hp (n : Nat) (f : Nat → α) : Prop := ∀ k, 0 < k → k < n → le (f (par k)) (f k)
/-- a heap but for what stands at i -/
structure HpX (n : Nat) (f : Nat → α) (i : Nat) : Prop where
  far : ∀ k, 0 < k → k < n → k ≠ i → par k ≠ i → le (f (par k)) (f k)
  grand : ∀ c, 0 < c → c < n → par c = i → 0 < i → le (f (par i)) (f c)
/-- a heap but for i's children -/
structure HpD (n : Nat) (f : Nat → α) (i : Nat) : Prop extends HpX le n f i where
  above : 0 < i → i < n → le (f (par i)) (f i)
/-- a heap but for i and what is above it -/
structure HpU (n : Nat) (f : Nat → α) (i : Nat) : Prop extends HpX le n f i where
  below : ∀ c, 0 < c → c < n → par c = i → le (f i) (f c)
end
section
variable {α : Type} {le : α → α → Prop} {n : Nat} {f : Nat → α} {i j : Nat}
/-- a step down: the least child goes up -/
theorem HpX.down (h : HpX le n f i) (h0 : 0 < j) (hj : j < n) (hp : par j = i) (hmin : ∀ c, 0 < c → c < n → par c = i → le (f j) (f c)) (hlt : le (f j) (f i)) : HpD le n (sw f i j) j := by
  have hij : i < j := hp ▸ par_lt h0
  refine ⟨⟨fun k k0 kn kj pj => ?_, fun c c0 cn pc _ => ?_⟩, fun _ _ => ?_⟩
  · have hpk := par_lt k0
    by_cases e1 : par k = i
    · rw [e1, sw_l, sw_o (by omega) kj]
      exact hmin k k0 kn e1
    · by_cases e2 : k = i
      · subst e2
        rw [sw_l, sw_o (by omega) (by omega)]
        exact h.grand j h0 hj hp k0
      · rw [sw_o e1 pj, sw_o e2 kj]
        exact h.far k k0 kn e2 e1
  · have hpc := par_lt c0
    rw [hp, sw_l, sw_o (by omega) (by omega)]
    have := h.far c c0 cn (by omega) (by omega)
    rwa [pc] at this
  · rw [hp, sw_l, sw_r]
    exact hlt
/-- a step up -/
theorem HpU.up (tr : ∀ {a b c : α}, le a b → le b c → le a c) (h : HpU le n f j) (h0 : 0 < j) (hj : j < n) (hp : par j = i) (hlt : le (f j) (f i)) : HpU le n (sw f i j) i := by
  have hij : i < j := hp ▸ par_lt h0
  refine ⟨⟨fun k k0 kn ki pi => ?_, fun c c0 cn pc i0 => ?_⟩, fun c c0 cn pc => ?_⟩
  · have hpk := par_lt k0
    have kj : k ≠ j := fun e => pi (by rw [e, hp])
    by_cases e1 : par k = j
    · rw [e1, sw_r, sw_o ki kj]
      have := h.grand k k0 kn e1 h0
      rwa [hp] at this
    · rw [sw_o pi e1, sw_o ki kj]
      exact h.far k k0 kn kj e1
  · have hpc := par_lt c0
    have hpi := par_lt i0
    have hup : le (f (par i)) (f i) := h.far i i0 (by omega) (by omega) (by omega)
    rw [sw_o (by omega) (by omega)]
    by_cases e : c = j
    · rw [e, sw_r]; exact hup
    · rw [sw_o (by omega) e]
      have := h.far c c0 cn e (by omega)
      rw [pc] at this
      exact tr hup this
  · have hpc := par_lt c0
    rw [sw_l]
    by_cases e : c = j
    · rw [e, sw_r]; exact hlt
    · rw [sw_o (by omega) e]
      have := h.far c c0 cn e (by omega)
      rw [pc] at this
      exact tr hlt this
theorem HpD.done (h : HpD le n f i) (hc : ∀ c, 0 < c → c < n → par c = i → le (f i) (f c)) : Hp le n f := fun k k0 kn => by
  by_cases e1 : k = i
  · subst e1; exact h.above k0 kn
  · by_cases e2 : par k = i
    · rw [e2]; exact hc k k0 kn e2
    · exact h.far k k0 kn e1 e2
theorem HpU.done (h : HpU le n f i) (hc : 0 < i → i < n → le (f (par i)) (f i)) : Hp le n f := HpD.done ⟨h.toHpX, hc⟩ h.below
/-- the way down did not move: what is left is the way up -/
theorem HpX.stays (h : HpX le n f i) (hc : ∀ c, 0 < c → c < n → par c = i → le (f i) (f c)) : HpU le n f i := ⟨h, hc⟩
theorem Hp.turned (tr : ∀ {a b c : α}, le a b → le b c → le a c) (h : Hp le n f) (i : Nat) (x : α) : HpX le n (upd f i x) i :=
  ⟨fun k k0 kn ki pi => by unfold upd; rw [if_neg ki, if_neg pi]; exact h k k0 kn, fun c c0 cn pc i0 => by
    have := par_lt c0
    have := par_lt i0
    unfold upd
    rw [if_neg (by omega), if_neg (by omega)]
    have h1 := h c c0 cn
    rw [pc] at h1
    exact tr (h i i0 (by omega)) h1⟩
theorem Hp.pushed {g : Nat → α} (h : Hp le n f) (hf : ∀ k, k < n → g k = f k) : HpU le (n + 1) g n :=
  ⟨⟨fun k k0 kn ki pi => by have := par_lt k0; rw [hf k (by omega), hf (par k) (by omega)]; exact h k k0 (by omega), fun c c0 cn pc _ => by have := par_lt c0; omega⟩, fun c c0 cn pc => by have := par_lt c0; omega⟩
/-- the least goes to the end, the last to the front -/
theorem Hp.popped (h : Hp le (n + 1) f) : HpD le n (sw f 0 n) 0 :=
  ⟨⟨fun k k0 kn ki pi => by have := par_lt k0; rw [sw_o (by omega) (by omega), sw_o (by omega) (by omega)]; exact h k k0 (by omega), fun _ _ _ _ h0 => absurd h0 (by omega)⟩, fun h0 => absurd h0 (by omega)⟩
theorem Hp.removed (tr : ∀ {a b c : α}, le a b → le b c → le a c) (h : Hp le (n + 1) f) (hi : i < n) : HpX le n (sw f i n) i :=
  ⟨fun k k0 kn ki pi => by have := par_lt k0; rw [sw_o pi (by omega), sw_o ki (by omega)]; exact h k k0 (by omega), fun c c0 cn pc i0 => by
    have := par_lt c0
    have := par_lt i0
    rw [sw_o (by omega) (by omega), sw_o (by omega) (by omega)]
    have h1 := h c c0 (by omega)
    rw [pc] at h1
    exact tr (h i i0 (by omega)) h1⟩
theorem Hp.least (rf : ∀ a : α, le a a) (tr : ∀ {a b c : α}, le a b → le b c → le a c) (h : Hp le n f) : ∀ k, k < n → le (f 0) (f k) := by
  intro k
  induction k using Nat.strongRecOn with
  | ind k ih =>
    intro kn
    by_cases k0 : 0 < k
    · have := par_lt k0
      exact tr (ih (par k) this (by omega)) (h k k0 kn)
    · obtain rfl : k = 0 := by omega
      exact rf _
end
/-- a list with two of its elements swapped -/
def swL {α : Type} (l : List α) (i j : Nat) (hi : i < l.length) (hj : j < l.length) : List α := (l.set i l[j]).set j l[i]
theorem swL_len {α : Type} (l : List α) (i j : Nat) (hi : i < l.length) (hj : j < l.length) : (swL l i j hi hj).length = l.length := by simp [swL]
theorem swL_perm {α : Type} (l : List α) (i j : Nat) (hi : i < l.length) (hj : j < l.length) : (swL l i j hi hj).Perm l := by
  have h := Array.swap_perm (xs := l.toArray) (i := i) (j := j) (by simpa using hi) (by simpa using hj)
  simpa [swL, Array.swap] using h.toList
theorem swL_get {α : Type} {f : Nat → α} (l : List α) (i j : Nat) (hi : i < l.length) (hj : j < l.length) (hf : ∀ k (h : k < l.length), l[k] = f k) : ∀ k (h : k < (swL l i j hi hj).length), (swL l i j hi hj)[k] = sw f i j k := by
  intro k h
  rw [swL_len] at h
  simp only [swL, List.getElem_set]
  unfold sw
  split
  · rename_i e
    subst e
    split
    · rename_i e2; rw [e2]; exact hf _ _
    · rw [if_pos rfl]; exact hf _ _
  · rename_i e
    split
    · rename_i e2
      rw [if_pos e2.symm]
      exact hf _ _
    · rename_i e2
      rw [if_neg (fun x => e2 x.symm), if_neg (fun x => e x.symm)]
      exact hf _ _
end Go.Proofs.Ytcjhkafdfeopfaa
