/-
  A heap in memory: its struct, its row of pages, the pages' bytes: all in a footprint of its own.
-/
import Derived.Test.YtdnegfjddpdmhaaDoorHM
import Derived.Test.YtdnegfjddpdmhaaDoorChg
import Derived.Laws.OwnMore
namespace Go.Proofs.YtdnegfjddpdmhaaDoor
open Go.RowKit Go.Lib

/-- a page: where it lies, its slots -/
structure Pv where
  A : Option Addr
  c : Nat
  s : List Slot
def Pv.val (x : Pv) : Value := .slice x.A 256 x.c
def pvals (xs : List Pv) : List Value := xs.map Pv.val
def pslots (xs : List Pv) : Pgs := xs.map (·.s)
theorem pvals_len (xs : List Pv) : (pvals xs).length = xs.length := by simp [pvals]
theorem pslots_len (xs : List Pv) : (pslots xs).length = xs.length := by simp [pslots]
theorem pvals_one (xs : List Pv) : ∀ u ∈ pvals xs, u.oneCell' = true := by
  intro u hu
  simp only [pvals, List.mem_map] at hu
  obtain ⟨x, _, rfl⟩ := hu
  rfl
theorem pvals_at {xs : List Pv} {k : Nat} (h : k < xs.length) : (pvals xs)[k]? = some xs[k].val := by simp [pvals, h]
theorem pgAt_slots {xs : List Pv} {k : Nat} (h : k < xs.length) : pgAt (pslots xs) k = xs[k].s := by simp [pgAt, pslots, h]

/-- a page's bytes lie whole, in the footprint -/
structure Pv.Ok (D : Nat → Prop) (w : World) (x : Pv) : Prop where
  own : w.ownsRow 0 5 1 x.val 256 (cells (imgP x.s))
  good : GoodP x.s
  dom : ∀ k, x.val.ownBlock = some k → D k
section
variable {D D' E F : Nat → Prop} {w w' : World} {x : Pv}
theorem Pv.Ok.sl (h : x.Ok D w) : Sl w x.A 256 x.c (imgP x.s) := by
  have hl : (imgP x.s).length = 256 := h.good.pg.len
  have h1 := h.own
  obtain ⟨A, c, hv, hs⟩ := Sl.of_own (v := x.val) (w := w) (base := 0) (l := imgP x.s) (by rw [hl]; exact h1) h.good.pg.bytes
  rw [hl] at hs hv
  have e : Value.slice x.A 256 x.c = .slice A 256 c := hv
  injection e with e1 e2 e3
  rw [e1, e3]
  exact hs
theorem Pv.Ok.keep (h : x.Ok D w) (hk : ∀ k, D k → w'.heap[k]? = w.heap[k]?) : x.Ok D w' := ⟨own_keep h.own fun k hv => hk k (h.dom k hv), h.good, h.dom⟩
theorem Pv.Ok.mono (h : x.Ok D w) (hD : ∀ k, D k → D' k) : x.Ok D' w := ⟨h.own, h.good, fun k hk => hD k (h.dom k hk)⟩
/-- bytes stay where a step writes rows of other elements -/
theorem Pv.Ok.chg (h : x.Ok D w) (hc : Chg F w w') (hF : ∀ k cs, F k → ¬ Blk w k 5 cs) : x.Ok D w' :=
  ⟨own_chg h.own hc fun k hv hf => by
    obtain ⟨cur, hb⟩ := own_row h.own k hv
    exact hF k cur hf hb, h.good, h.dom⟩
/-- a page that has been made -/
theorem Pv.Ok.made {base : Nat} {v : Value} {s : List Slot} (h : w.ownsRow base 5 1 v (imgP s).length (cells (imgP s))) (hs : GoodP s) (hD : ∀ k, base ≤ k → k < w.heap.size → D k) : ∃ x : Pv, v = x.val ∧ x.s = s ∧ x.Ok D w := by
  have hl : (imgP s).length = 256 := hs.pg.len
  rw [hl] at h
  obtain ⟨A, c, rfl, _, _⟩ := own_shape h
  exact ⟨⟨A, c, s⟩, rfl, rfl, ⟨own_base h (Nat.zero_le _), hs, fun k hk => hD k (h.lt k hk).1 (h.lt k hk).2⟩⟩
end

/-- a heap: block hb holds its struct, v its row of pages -/
structure HpX (B : Nat) (D : Nat → Prop) (w : World) (hb : Nat) (v : Value) (xs : List Pv) : Prop where
  blk : Blk w hb 67 #[v]
  own : w.ownsRow B 33 1 v xs.length (pvals xs)
  pg : ∀ x ∈ xs, x.Ok D w
  domh : D hb
  domv : ∀ k, v.ownBlock = some k → D k
  foot : ∀ k, D k → B ≤ k ∧ k < w.heap.size
def HpV (B : Nat) (D : Nat → Prop) (w : World) (hb : Nat) (ps : Pgs) : Prop := ∃ v xs, HpX B D w hb v xs ∧ pslots xs = ps
section
variable {B hb : Nat} {D D' E F : Nat → Prop} {w w' : World} {v : Value} {xs : List Pv} {ps : Pgs}
theorem HpX.keep (h : HpX B D w hb v xs) (hk : ∀ k, D k → w'.heap[k]? = w.heap[k]?) (hs : w.heap.size ≤ w'.heap.size) : HpX B D w' hb v xs :=
  ⟨(hk hb h.domh).trans h.blk, own_keep h.own fun k hv => hk k (h.domv k hv), fun x hx => (h.pg x hx).keep hk, h.domh, h.domv, fun k hd => ⟨(h.foot k hd).1, Nat.lt_of_lt_of_le (h.foot k hd).2 hs⟩⟩
theorem HpX.chg (h : HpX B D w hb v xs) (hc : Chg F w w') (hd : ∀ k, D k → ¬ F k) : HpX B D w' hb v xs := h.keep (fun k hk => hc.block k (h.foot k hk).2 (hd k hk)) hc.size
theorem HpX.below (h : HpX B D w hb v xs) (hb' : Below w.heap.size w w') : HpX B D w' hb v xs := h.keep (fun k hk => hb'.block k (h.foot k hk).2) hb'.size
theorem HpX.mono (h : HpX B D w hb v xs) (hD : ∀ k, D k → D' k) (hf : ∀ k, D' k → B ≤ k ∧ k < w.heap.size) : HpX B D' w hb v xs :=
  ⟨h.blk, h.own, fun x hx => (h.pg x hx).mono hD, hD _ h.domh, fun k hk => hD k (h.domv k hk), hf⟩
theorem HpV.chg (h : HpV B D w hb ps) (hc : Chg F w w') (hd : ∀ k, D k → ¬ F k) : HpV B D w' hb ps := by
  obtain ⟨v, xs, h1, h2⟩ := h
  exact ⟨v, xs, h1.chg hc hd, h2⟩
theorem HpV.below (h : HpV B D w hb ps) (hb' : Below w.heap.size w w') : HpV B D w' hb ps := by
  obtain ⟨v, xs, h1, h2⟩ := h
  exact ⟨v, xs, h1.below hb', h2⟩
theorem HpV.foot (h : HpV B D w hb ps) {k : Nat} (hk : D k) : B ≤ k ∧ k < w.heap.size := by
  obtain ⟨v, xs, h1, h2⟩ := h
  exact h1.foot k hk
theorem HpV.mono (h : HpV B D w hb ps) (hD : ∀ k, D k → D' k) (hf : ∀ k, D' k → B ≤ k ∧ k < w.heap.size) : HpV B D' w hb ps := by
  obtain ⟨v, xs, h1, h2⟩ := h
  exact ⟨v, xs, h1.mono hD hf, h2⟩
theorem HpV.lt (h : HpV B D w hb ps) : hb < w.heap.size := by
  obtain ⟨v, xs, h1, h2⟩ := h
  exact h1.blk.lt
theorem HpV.good (h : HpV B D w hb ps) : ∀ s ∈ ps, GoodP s := by
  obtain ⟨v, xs, h1, rfl⟩ := h
  intro s hs
  simp only [pslots, List.mem_map] at hs
  obtain ⟨x, hx, rfl⟩ := hs
  exact (h1.pg x hx).good
/-- what has been made since is in the footprint too -/
theorem HpV.more (h : HpV B D w' hb ps) (hB : B ≤ w.heap.size) (hd : ∀ k, D k → B ≤ k) : HpV B (Ext D w w') w' hb ps :=
  h.mono (fun k hk => .inl hk) fun k hk => hk.elim (fun hk => h.foot hk) fun hk => ⟨by omega, hk.2⟩
theorem Ext.disj {G : Nat → Prop} (hG : ∀ k, D k → ¬ G k) (hs : ∀ k, G k → k < w.heap.size) : ∀ k, Ext D w w' k → ¬ G k := fun k hk hg => hk.elim (fun h => hG k h hg) fun h => by have := hs k hg; omega
end
end Go.Proofs.YtdnegfjddpdmhaaDoor
