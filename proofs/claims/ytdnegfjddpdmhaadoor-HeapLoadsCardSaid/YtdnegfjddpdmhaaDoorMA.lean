/-
  The document's own heap in memory: its struct, its row of pages, their slots: all in a footprint of its own.
-/
import Derived.Test.YtdnegfjddpdmhaaDoorHpS
import Derived.Test.YtdnegfjddpdmhaaDoorMR
import Derived.IntWalk
import Derived.StillTailTactics
namespace Go.Proofs.YtdnegfjddpdmhaaDoor
open Go.RowKit Go.Lib

/-- a page: where its row of slots lies -/
structure Pr where
  A : Option Addr
  c : Nat
  xs : List Sv
def Pr.val (y : Pr) : Value := .slice y.A y.xs.length y.c
def prvals (ys : List Pr) : List Value := ys.map Pr.val
def prslots (ys : List Pr) : Pgs := ys.map fun y => slotsOf y.xs
theorem prvals_len (ys : List Pr) : (prvals ys).length = ys.length := by simp [prvals]
theorem prslots_len (ys : List Pr) : (prslots ys).length = ys.length := by simp [prslots]
theorem prvals_one (ys : List Pr) : ∀ u ∈ prvals ys, u.oneCell' = true := by
  intro u hu
  simp only [prvals, List.mem_map] at hu
  obtain ⟨y, _, rfl⟩ := hu
  rfl
theorem prvals_at {ys : List Pr} {k : Nat} (h : k < ys.length) : (prvals ys)[k]? = some ys[k].val := by simp [prvals, h]
theorem pgAt_pr {ys : List Pr} {k : Nat} (h : k < ys.length) : pgAt (prslots ys) k = slotsOf ys[k].xs := by simp [pgAt, prslots, h]
def Pr.nil : Pr := ⟨none, 0, []⟩

structure Pr.Ok (D : Nat → Prop) (w : World) (y : Pr) : Prop where
  own : w.ownsRow 0 33 1 y.val y.xs.length (vals y.xs)
  ok : ∀ x ∈ y.xs, YOk 0 w x
  dom : ∀ k, y.val.ownBlock = some k → D k
  domx : ∀ x ∈ y.xs, ∀ ad, x.A = some ad → D ad.block
  good : GoodP (slotsOf y.xs)
theorem YOk.low {B : Nat} {w : World} {y : Sv} (h : YOk B w y) : YOk 0 w y ∧ ∀ ad, y.A = some ad → B ≤ ad.block ∧ ad.block < w.heap.size := by
  unfold YOk at h ⊢
  split at h
  · exact ⟨h, fun ad ha => by rw [h] at ha; cases ha⟩
  · obtain ⟨g, h1, h2, h3, h4, h5⟩ := h
    exact ⟨⟨g, h1, h2, h3, h4, Nat.zero_le _⟩, fun ad ha => by rw [h1] at ha; cases ha; exact ⟨h5, h2.lt⟩⟩
section
variable {D D' F : Nat → Prop} {w w' : World} {y : Pr}
theorem Pr.Ok.keep (h : y.Ok D w) (hk : ∀ k, D k → w'.heap[k]? = w.heap[k]?) : y.Ok D w' :=
  ⟨own_keep h.own fun k hv => hk k (h.dom k hv), fun x hx => by
    have h1 := h.ok x hx
    have h2 := h.domx x hx
    unfold YOk at h1 ⊢
    split
    · rename_i e; rw [e] at h1; exact h1
    · rename_i b e
      rw [e] at h1
      obtain ⟨g, h3, h4, h5⟩ := h1
      exact ⟨g, h3, (hk g (h2 ⟨g, 0, none⟩ (by rw [h3]))).trans h4, h5⟩, h.dom, h.domx, h.good⟩
theorem Pr.Ok.mono (h : y.Ok D w) (hD : ∀ k, D k → D' k) : y.Ok D' w := ⟨h.own, h.ok, fun k hk => hD k (h.dom k hk), fun x hx ad ha => hD _ (h.domx x hx ad ha), h.good⟩
/-- rows of other elements may be written -/
theorem Pr.Ok.chg (h : y.Ok D w) (hc : Chg F w w') (h1 : ∀ k cs, F k → ¬ Blk w k 5 cs) (h2 : ∀ k cs, F k → ¬ Blk w k 33 cs) : y.Ok D w' :=
  ⟨own_chg h.own hc fun k hv hf => by
    obtain ⟨cur, hb⟩ := own_row h.own k hv
    exact h2 k cur hf hb, fun x hx => by
    have h3 := h.ok x hx
    unfold YOk at h3 ⊢
    split
    · rename_i e; rw [e] at h3; exact h3
    · rename_i b e
      rw [e] at h3
      obtain ⟨g, h4, h5, h6⟩ := h3
      exact ⟨g, h4, h5.chg hc (fun hf => h1 _ _ hf h5), h6⟩, h.dom, h.domx, h.good⟩
theorem Pr.Ok.pgr (h : y.Ok D w) : PgR w y.A y.xs.length y.c y.xs := by
  obtain ⟨A, c, hv, h1, h2⟩ := own_shape h.own
  injection hv with _ _ e3
  exact ⟨Rd.of_own h.own, fun x hx => (h.ok x hx).ok, by rw [e3]; exact h1, by rw [e3]; exact h2⟩
theorem Pr.Ok.few (h : y.Ok D w) : y.xs.length ≤ 255 := by have h1 := h.good.pg.slots; have h2 := slotsOf_len y.xs; omega
theorem Pr.Ok.nil : Pr.nil.Ok D w := ⟨World.ownsRow_nil _ _ _ _, fun x hx => by (cases hx), fun k hk => by (cases hk), fun x hx => by (cases hx), GoodP.nil⟩
/-- a page that Of has made -/
theorem Pr.Ok.made {l : List Int} {w w' : World} {D : Nat → Prop} {s : List Slot} {A' : Option Addr} {n' c' : Nat} {xs : List Sv} (hs : ofP l = some s) (h1 : ∀ s, ofP l = some s → slotsOf xs = s) (hg : GoodP s) (hn : n' = xs.length)
    (ho : w'.ownsRow w.heap.size 33 1 (.slice A' n' c') n' (vals xs)) (hy : ∀ y ∈ xs, YOk w.heap.size w' y) (hD : ∀ k, w.heap.size ≤ k → k < w'.heap.size → D k) : (⟨A', c', xs⟩ : Pr).Ok D w' := by
  subst hn
  refine ⟨own_base ho (Nat.zero_le _), fun x hx => (hy x hx).low.1, fun k hk => hD k (ho.lt k hk).1 (ho.lt k hk).2, fun x hx ad ha => ?_, by rw [h1 s hs]; exact hg⟩
  have := (hy x hx).low.2 ad ha
  exact hD _ this.1 this.2
end

/-- a heap of the document: block hb holds its struct, v its row of pages -/
structure RhX (B : Nat) (D : Nat → Prop) (w : World) (hb : Nat) (v : Value) (ys : List Pr) : Prop where
  blk : Blk w hb 30 #[v]
  own : w.ownsRow B 70 1 v ys.length (prvals ys)
  pg : ∀ y ∈ ys, y.Ok D w
  domh : D hb
  domv : ∀ k, v.ownBlock = some k → D k
  foot : ∀ k, D k → B ≤ k ∧ k < w.heap.size
def RhV (B : Nat) (D : Nat → Prop) (w : World) (hb : Nat) (ps : Pgs) : Prop := ∃ v ys, RhX B D w hb v ys ∧ prslots ys = ps
section
variable {B hb : Nat} {D D' E F : Nat → Prop} {w w' : World} {v : Value} {ys : List Pr} {ps : Pgs}
theorem RhX.keep (h : RhX B D w hb v ys) (hk : ∀ k, D k → w'.heap[k]? = w.heap[k]?) (hs : w.heap.size ≤ w'.heap.size) : RhX B D w' hb v ys :=
  ⟨(hk hb h.domh).trans h.blk, own_keep h.own fun k hv => hk k (h.domv k hv), fun y hy => (h.pg y hy).keep hk, h.domh, h.domv, fun k hd => ⟨(h.foot k hd).1, Nat.lt_of_lt_of_le (h.foot k hd).2 hs⟩⟩
theorem RhX.chg (h : RhX B D w hb v ys) (hc : Chg F w w') (hd : ∀ k, D k → ¬ F k) : RhX B D w' hb v ys := h.keep (fun k hk => hc.block k (h.foot k hk).2 (hd k hk)) hc.size
theorem RhX.below (h : RhX B D w hb v ys) (hb' : Below w.heap.size w w') : RhX B D w' hb v ys := h.keep (fun k hk => hb'.block k (h.foot k hk).2) hb'.size
theorem RhX.mono (h : RhX B D w hb v ys) (hD : ∀ k, D k → D' k) (hf : ∀ k, D' k → B ≤ k ∧ k < w.heap.size) : RhX B D' w hb v ys :=
  ⟨h.blk, h.own, fun x hx => (h.pg x hx).mono hD, hD _ h.domh, fun k hk => hD k (h.domv k hk), hf⟩
theorem RhV.chg (h : RhV B D w hb ps) (hc : Chg F w w') (hd : ∀ k, D k → ¬ F k) : RhV B D w' hb ps := by
  obtain ⟨v, ys, h1, h2⟩ := h
  exact ⟨v, ys, h1.chg hc hd, h2⟩
theorem RhV.below (h : RhV B D w hb ps) (hb' : Below w.heap.size w w') : RhV B D w' hb ps := by
  obtain ⟨v, ys, h1, h2⟩ := h
  exact ⟨v, ys, h1.below hb', h2⟩
theorem RhV.foot (h : RhV B D w hb ps) {k : Nat} (hk : D k) : B ≤ k ∧ k < w.heap.size := by
  obtain ⟨v, ys, h1, h2⟩ := h
  exact h1.foot k hk
theorem RhV.mono (h : RhV B D w hb ps) (hD : ∀ k, D k → D' k) (hf : ∀ k, D' k → B ≤ k ∧ k < w.heap.size) : RhV B D' w hb ps := by
  obtain ⟨v, ys, h1, h2⟩ := h
  exact ⟨v, ys, h1.mono hD hf, h2⟩
theorem RhV.lt (h : RhV B D w hb ps) : hb < w.heap.size := by
  obtain ⟨v, ys, h1, h2⟩ := h
  exact h1.blk.lt
theorem RhV.domh (h : RhV B D w hb ps) : D hb := by
  obtain ⟨v, ys, h1, h2⟩ := h
  exact h1.domh
theorem RhV.good (h : RhV B D w hb ps) : ∀ s ∈ ps, GoodP s := by
  obtain ⟨v, ys, h1, rfl⟩ := h
  intro s hs
  simp only [prslots, List.mem_map] at hs
  obtain ⟨y, hy, rfl⟩ := hs
  exact (h1.pg y hy).good
theorem RhV.more (h : RhV B D w' hb ps) (hB : B ≤ w.heap.size) (hd : ∀ k, D k → B ≤ k) : RhV B (Ext D w w') w' hb ps :=
  h.mono (fun k hk => .inl hk) fun k hk => hk.elim (fun hk => h.foot hk) fun hk => ⟨by omega, hk.2⟩
/-- a page, where it is read -/
theorem RhX.at_ (h : RhX B D w hb v ys) {k : Nat} (hk : k < ys.length) : ∃ ad c, v = .slice (some ad) ys.length c ∧ w.cell? (ad.add k) = some ys[k].val := by
  obtain ⟨g, c, hv, _, _⟩ := h.own.form (by omega)
  exact ⟨⟨g, 0, none⟩, c, hv, h.own.cells (g := g) (by rw [hv]; rfl) k ys[k].val (prvals_at hk)⟩
end

/-- what a call that changes the heap leaves -/
def RhTo (B hb : Nat) (D : Nat → Prop) (w : World) (ps : Pgs) (w' : World) : Prop := RhV B (Ext D w w') w' hb ps ∧ Chg D w w'
theorem RhTo.of {B hb : Nat} {D D' C : Nat → Prop} {w w1 w' : World} {ps : Pgs} (h : RhV B D' w' hb ps) (hc : Chg C w1 w') (h1 : Below w.heap.size w w1) (hB : B ≤ w.heap.size) (hD : ∀ k, D k → B ≤ k ∧ k < w.heap.size)
    (hD' : ∀ k, D' k → D k ∨ (w.heap.size ≤ k)) (hC : ∀ k, k < w.heap.size → C k → D k) : RhTo B hb D w ps w' := by
  have s1 := h1.size
  have s2 := hc.size
  refine ⟨h.mono (fun k hk => ?_) (fun k hk => ?_), (Chg.of_below h1).trans' hc fun k hk hck => hC k hk hck⟩
  · rcases hD' k hk with h2 | h2
    · exact .inl h2
    · exact .inr ⟨h2, (h.foot hk).2⟩
  · rcases hk with hk | hk
    · have := hD k hk; omega
    · exact ⟨by omega, hk.2⟩
theorem RhTo.same {B hb : Nat} {D : Nat → Prop} {w w' : World} {ps : Pgs} (h : RhV B D w hb ps) (h1 : Below w.heap.size w w') (hB : B ≤ w.heap.size) : RhTo B hb D w ps w' :=
  ⟨(h.below h1).more hB (fun _ hk => (h.foot hk).1), Chg.of_below h1⟩
theorem RhTo.after {B hb : Nat} {D : Nat → Prop} {w w1 w' : World} {ps : Pgs} (h1 : Below w.heap.size w w1) (h : RhTo B hb D w1 ps w') (hB : B ≤ w.heap.size) (hD : ∀ k, D k → B ≤ k ∧ k < w.heap.size) : RhTo B hb D w ps w' :=
  RhTo.of h.1 h.2 h1 hB hD (fun k hk => hk.elim .inl fun hk => .inr (by have := h1.size; omega)) fun _ _ hk => hk
end Go.Proofs.YtdnegfjddpdmhaaDoor

/-
  The document's own heap: Get.
-/
namespace Go.Proofs.YtdnegfjddpdmhaaDoor
open Go.RowKit Go.Lib

section
variable {B hb : Nat} {D : Nat → Prop} {w : World} {ps : Pgs} (h : RhV B D w hb ps)
include h
set_option maxRecDepth 100000 in
set_option maxHeartbeats 1600000 in
theorem rget_any (p k : Int) : Calls Tryd.prog 36 #[.pointer (some ⟨hb, 0, none⟩), .agg #[.int .i64 p, .int .i64 k]] w (BsRet (getH ps p k) w) := by
  have hsm : ∀ s ∈ ps, GoodP s := h.good
  obtain ⟨v, ys, hx, rfl⟩ := h
  obtain ⟨A, c, rfl, _, _⟩ := own_shape hx.own
  have hba := (Below.refl w.heap.size w).alloc (Nat.le_refl _) (.cells #[.int .i64 p, .int .i64 k] 32)
  have hbx := Blk.new w 32 #[.int .i64 p, .int .i64 k]
  have hx1 := hx.below hba
  have hc := hx1.blk.cell 0
  have hlt := hx.blk.lt
  simp only [List.getElem?_toArray, List.getElem?_cons_zero] at hc
  have hpl : (prslots ys).length = ys.length := prslots_len ys
  by_cases h0 : p < 0
  · have e0 : decide (p < 0) = true := decide_eq_true h0
    have HG := Lib.hid (show getH (prslots ys) p k = none by rw [getH, if_neg (by omega)])
    have HB := Lib.hid hba
    clear hba hbx hx1 hx hsm
    go_enter Tryd.func36, Tryd.ntmps36
    go_wp2_with fail
    go_quiet (fail)
    go_wp2_with fail
    go_ret2
    exact bs_no HG.out (below_dN HB.out _)
  · have e0 : decide (p < 0) = false := decide_eq_false h0
    by_cases h1 : (ys.length : Int) ≤ p
    · have e1 : decide ((ys.length : Int) ≤ p) = true := decide_eq_true h1
      have HG := Lib.hid (show getH (prslots ys) p k = none by rw [getH, if_neg (by omega)])
      have HB := Lib.hid hba
      clear hba hbx hx1 hx hsm
      go_enter Tryd.func36, Tryd.ntmps36
      go_wp2_with fail
      go_quiet (fail)
      go_wp2_with fail
      go_ret2
      exact bs_no HG.out (below_dN HB.out _)
    · have e1 : decide ((ys.length : Int) ≤ p) = false := decide_eq_false h1
      obtain ⟨q, rfl⟩ : ∃ q : Nat, p = (q : Int) := ⟨p.toNat, by omega⟩
      have hq : q < ys.length := by omega
      obtain ⟨ad, c', hv, hcx⟩ := hx1.at_ hq
      injection hv with hv1 _ hv3
      subst hv1
      obtain ⟨x, hxe⟩ : ∃ x, x = ys[q] := ⟨_, rfl⟩
      rw [← hxe] at hcx
      have hok := hx1.pg x (by rw [hxe]; exact List.getElem_mem hq)
      have HG := Lib.hid (show getH (prslots ys) (q : Int) k = getP (some (slotsOf x.xs)) k by
        rw [getH, if_pos (by omega), Int.toNat_natCast, pgAt_pr hq, hxe])
      have HB := Lib.hid hba
      obtain ⟨xn, hxn⟩ : ∃ n, n = x.xs.length := ⟨_, rfl⟩
      have hpg := hok.pgr
      unfold Pr.val at hcx
      rw [← hxn] at hpg hcx
      have HC := Lib.hid (show ∀ d, Calls Tryd.prog 63 #[.agg #[.slice x.A xn x.c], .int .i64 k] (World.drewN (w.alloc (.cells #[.int .i64 (q : Int), .int .i64 k] 32)) d) (RgRet (slotsOf x.xs) k (World.drewN (w.alloc (.cells #[.int .i64 (q : Int), .int .i64 k] 32)) d)) from fun d => refGet_any (World.drewN (w.alloc (.cells #[.int .i64 (q : Int), .int .i64 k] 32)) d) x.A xn x.c x.xs (hpg.below (below_dN (Below.refl _ _) d)) k)
      have HAD := Lib.hid (show (ad.add q).block < (w.alloc (.cells #[.int .i64 (q : Int), .int .i64 k] 32)).heap.size from World.block_lt_of_cell? _ _ hcx)
      have hlq : (q : Int) < (ys.length : Int) := by omega
      have HLEN := Lib.hid (show ((getP (some (slotsOf x.xs)) k).getD []).length ≤ 200 by
        cases hg : getP (some (slotsOf x.xs)) k with
        | none => simp
        | some b =>
          simp only [getP] at hg
          split at hg
          · injection hg with hg
            rw [← hg]
            cases ho : (slotsOf x.xs)[k.toNat]? with
            | none => simp [bsS]
            | some o => exact hok.good.pg.fit.len o (List.mem_of_getElem? ho)
          · cases hg)
      clear hba hx1 hx hsm hok hpg hxe hxn
      go_enter Tryd.func36, Tryd.ntmps36
      go_wp2_with fail
      go_quiet (fail)
      go_wp2_with fail
      have hb0 := hbx.cell 0
      have hb1 := hbx.cell 1
      simp only [List.getElem?_toArray, List.getElem?_cons_zero, List.getElem?_cons_succ] at hb0 hb1
      clear hbx
      go_region_held3 (fun w' => w'.cell? ⟨hb, 0, none⟩ = some (.slice (some ad) ys.length c) ∧ w'.cell? ⟨w.heap.size, 0, none⟩ = some (.int .i64 (q : Int)) ∧ w'.cell? ⟨w.heap.size, 1, none⟩ = some (.int .i64 k) ∧ w'.cell? (ad.add q) = some (.slice x.A xn x.c))
        (first | exact HK.out | go_keep)
        (first | (go_at_call 63; refine (HC.out _).mono ?_; rintro e w3 ⟨A3, n3, c3, rfl, hn3, hrd3, hbel3'⟩; have hbel3 := dN_below hbel3'; have HK := Lib.hid (show w3.cell? ⟨hb, 0, none⟩ = some (.slice (some ad) ys.length c) ∧ w3.cell? ⟨w.heap.size, 0, none⟩ = some (.int .i64 (q : Int)) ∧ w3.cell? ⟨w.heap.size, 1, none⟩ = some (.int .i64 k) ∧ w3.cell? (ad.add q) = some (.slice x.A xn x.c) from ⟨(hbel3.cell (p := ⟨hb, 0, none⟩) (by show hb < (w.alloc _).heap.size; simp; omega)).trans hc, (hbel3.cell (p := ⟨w.heap.size, 0, none⟩) (by show w.heap.size < (w.alloc _).heap.size; simp)).trans hb0, (hbel3.cell (p := ⟨w.heap.size, 1, none⟩) (by show w.heap.size < (w.alloc _).heap.size; simp)).trans hb1, (hbel3.cell HAD.out).trans hcx⟩); have HO3 := Lib.hid (And.intro hn3 (And.intro hrd3 (show Below (w.alloc (.cells #[.int .i64 (q : Int), .int .i64 k] 32)).heap.size (w.alloc (.cells #[.int .i64 (q : Int), .int .i64 k] 32)) w3 from hbel3))); clear hn3 hrd3 hbel3 hbel3'))
      have HCB := Lib.hid (copyBytes_any w3 A3 n3 c3 _ HO3.out.1.symm (by have h8 := HLEN.out; have h9 := HO3.out.1; omega) HO3.out.2.1)
      go_wp2_with fail
      refine HCB.out.mono ?_
      rintro e w4 ⟨v4, rfl, hown4, hbel4⟩
      have HO4 := Lib.hid (And.intro hown4 (below_le HO3.out.2.2 hbel4))
      clear hown4 hbel4
      go_wp2_with fail
      go_ret2
      rw [HG.out]
      exact ⟨v4, by rw [got_some]; rfl, own_base HO4.out.1 (by have h9 := HO3.out.2.2.size; rw [World.size_alloc] at h9; omega), HB.out.trans (HO4.out.2.mono (by show w.heap.size ≤ (w.alloc _).heap.size; simp))⟩
end
end Go.Proofs.YtdnegfjddpdmhaaDoor

/-
  The document's own heap: trim.
-/
namespace Go.Proofs.YtdnegfjddpdmhaaDoor
open Go.RowKit Go.Lib

theorem own_less {w : World} {B : Nat} {e : TypeId} {g n c : Nat} {xs : List Value} (h : w.ownsRow B e 1 (.slice (some ⟨g, 0, none⟩) n c) n xs) {j : Nat} (hj : j ≤ n) : w.ownsRow B e 1 (.slice (some ⟨g, 0, none⟩) j c) j (xs.take j) := by
  refine ⟨by rw [List.length_take]; have := h.1; omega, ?_⟩
  rcases h.2 with ⟨e1, _⟩ | ⟨g1, cap, cur, e1, hb, hg, hn, hm, hs, ht⟩
  · cases e1
  · cases e1
    exact .inr ⟨g, c, cur, rfl, hb, hg, by omega, hm, hs, by rw [← ht, List.take_take, Nat.min_eq_left (by omega), Nat.mul_one]⟩
/-- the first pages are left, and stored in the struct -/
theorem RhX.cut {B hb : Nat} {D : Nat → Prop} {w w2 : World} {g n c : Nat} {ys : List Pr} (h : RhX B D w hb (.slice (some ⟨g, 0, none⟩) n c) ys) (hn : n = ys.length) {m : Nat} (hm : m ≤ ys.length) (hw2 : w2 = w.setCell ⟨hb, 0, none⟩ (.slice (some ⟨g, 0, none⟩) m c)) :
    RhX B D w2 hb (.slice (some ⟨g, 0, none⟩) m c) (ys.take m) ∧ Chg (fun k => k = hb) w w2 := by
  subst hn
  have hbv : ¬ (Value.slice (some ⟨g, 0, none⟩) ys.length c).ownBlock = some hb := own_ne h.own h.blk (by decide)
  have hc2 : Chg (fun k => k = hb) w w2 := by rw [hw2]; exact (Chg.refl (fun k => k = hb) w).setCell (p := ⟨hb, 0, none⟩) (fun _ => rfl) _
  have s2 := hc2.size
  refine ⟨⟨?_, ?_, fun x hx => ?_, h.domh, fun k hkk => h.domv k hkk, fun k hd => ?_⟩, hc2⟩
  · rw [hw2]; exact h.blk.put 0 _
  · have h1 := own_less h.own hm
    rw [show (prvals ys).take m = prvals (ys.take m) by simp [prvals, List.map_take]] at h1
    rw [hw2, List.length_take, Nat.min_eq_left hm]
    exact own_set h1 (fun e => hbv (by simpa [Value.ownBlock] using e)) _
  · refine (h.pg x (List.mem_of_mem_take hx)).chg hc2 (fun k cs hkk hbk => ?_) (fun k cs hkk hbk => ?_)
    · subst hkk
      exact Blk.ne h.blk hbk (by decide) rfl
    · subst hkk
      exact Blk.ne h.blk hbk (by decide) rfl
  · have := h.foot k hd; omega
theorem RhX.drewN {B hb : Nat} {D : Nat → Prop} {w : World} {v : Value} {ys : List Pr} (h : RhX B D w hb v ys) (d : Nat) : RhX B D (w.drewN d) hb v ys :=
  h.keep (fun _ _ => rfl) (Nat.le_refl _)
theorem trimH_take {ps : Pgs} {m : Nat} (hm : m < ps.length) (h : ps[m]? = some []) : trimH (ps.take (m + 1)) = trimH (ps.take m) := by
  obtain ⟨j, hj⟩ := trimH_split (ps.take m)
  have e : ps.take (m + 1) = trimH (ps.take m) ++ List.replicate (j + 1) [] := by
    rw [List.take_add_one, h]
    conv => lhs; rw [hj]
    simp [List.replicate_succ']
  rw [e, trimH_eq (trimH_last _)]
theorem trimH_stop {ps : Pgs} {m : Nat} {s : List Slot} (h : ps[m]? = some s) (h0 : s ≠ []) : trimH (ps.take (m + 1)) = ps.take (m + 1) := by
  refine trimH_id ?_
  rw [List.take_add_one, h]
  simp
  exact h0

def TrmR (B hb : Nat) (D : Nat → Prop) (w0 : World) (ys : List Pr) (wr : World) : Prop :=
  ∃ m v, m ≤ ys.length ∧ RhX B D wr hb v (ys.take m) ∧ trimH (prslots (ys.take m)) = trimH (prslots ys) ∧ Chg (fun k => k = hb) w0 wr
section
variable (w : World) (B hb : Nat) (D : Nat → Prop) (ps : Pgs) (h : RhV B D w hb ps) (hfew : ps.length ≤ 300)
include h hfew
set_option maxRecDepth 100000 in
set_option maxHeartbeats 1600000 in
theorem rtrim_any : Calls Tryd.prog 45 #[.pointer (some ⟨hb, 0, none⟩)] w (fun e w' => e = .returned (.tuple #[]) ∧ RhV B D w' hb (trimH ps) ∧ Chg (fun k => k = hb) w w') := by
  obtain ⟨v, ys, hx, rfl⟩ := h
  have hl := prslots_len ys
  have H0 := Lib.hid (show TrmR B hb D w ys w from ⟨ys.length, v, Nat.le_refl _, by rw [List.take_length]; exact hx, by rw [List.take_length], Chg.refl _ _⟩)
  clear hx
  go_enter Tryd.func45, Tryd.ntmps45
  go_wp2_with fail
  go_loopw [] (fun wr => TrmR B hb D w ys wr) (fun wr => match wr.cell? ⟨hb, 0, none⟩ with | some (.slice _ m _) => m | _ => 0)
  case atStart => exact H0.out
  case round =>
    obtain ⟨m, v1, hm, hX, htr, hch⟩ := hrel
    have hc := hX.blk.cell 0
    simp only [List.getElem?_toArray, List.getElem?_cons_zero] at hc
    have hm300 : m ≤ 300 := by omega
    have hml : (ys.take m).length = m := by rw [List.length_take]; omega
    rcases Nat.eq_zero_or_pos m with hz | hz
    · subst hz
      obtain ⟨A1, c1, hv, _, _⟩ := own_shape hX.own
      rw [hml] at hv
      subst hv
      have HX := Lib.hid (And.intro hX (And.intro htr hch))
      clear hX htr hch
      go_wp2_with fail
      go_quiet (fail)
      go_wp2_with fail
      refine bodyPost_end (results_none rfl _ _ _) rfl ?_
      exact ⟨rfl, ⟨_, _, HX.out.1.drewN _, by rw [← HX.out.2.1]; rfl⟩, HX.out.2.2.drewN _⟩
    · obtain ⟨k, rfl⟩ : ∃ k, m = k + 1 := ⟨m - 1, by omega⟩
      obtain ⟨g, c1, hv, _, _⟩ := hX.own.form (by omega)
      rw [hml] at hv
      subst hv
      have hkc1 : k ≤ c1 ∧ c1 ≤ maxLen := by
        obtain ⟨_, c2, e2, h2, h3⟩ := own_shape hX.own
        injection e2 with _ _ e2
        rw [hml] at h2
        omega
      have hkc : (k : Int) ≤ (c1 : Int) := by omega
      have hcx := hX.own.cells (g := g) rfl k _ (prvals_at (by rw [hml]; omega))
      obtain ⟨x, hxe⟩ : ∃ x, x = (ys.take (k + 1))[k]'(by rw [hml]; omega) := ⟨_, rfl⟩
      rw [← hxe] at hcx
      have hwk : IntKind.i64.wrap (k : Int) = (k : Int) := IntWalk.i64_in _ (by omega)
      have hk0 : (0 : Int) < ((k + 1 : Nat) : Int) := by omega
      have hkl : (k : Int) < (k : Int) + 1 := by omega
      have hkn : (0 : Int) ≤ (k : Int) := Int.natCast_nonneg _
      have hkt : ¬ (k : Int) < 0 := by omega
      obtain ⟨xn, hxn⟩ : ∃ n, n = x.xs.length := ⟨_, rfl⟩
      unfold Pr.val at hcx
      rw [← hxn, show ((⟨g, 0, none⟩ : Addr).add k) = ⟨g, k, none⟩ by simp [Addr.add]; omega] at hcx
      have HX := Lib.hid (And.intro hX (And.intro htr (And.intro hch (And.intro hxe hxn))))
      clear hX htr hch hxe hxn
      by_cases hx0 : xn = 0
      · subst hx0
        have hlt : k < ys.length := by omega
        have hps : (prslots ys)[k]? = some [] := by
          have h1 : x = ys[k] := by rw [HX.out.2.2.2.1, List.getElem_take]
          have h2 : x.xs = [] := List.length_eq_zero_iff.1 HX.out.2.2.2.2.symm
          rw [prslots, List.getElem?_map, List.getElem?_eq_getElem hlt, ← h1, Option.map_some, h2]
          rfl
        have htt : trimH (prslots (ys.take k)) = trimH (prslots ys) := by
          rw [← HX.out.2.1]
          have h1 := trimH_take (ps := prslots ys) (m := k) (by omega) hps
          simp only [prslots, ← List.map_take] at h1 ⊢
          exact h1.symm
        have HS := Lib.hid (show ∀ d, TrmR B hb D w ys ((wr.drewN d).setCell ⟨hb, 0, none⟩ (.slice (some ⟨g, 0, none⟩) k c1)) from fun d => by
          obtain ⟨h1, h2⟩ := (HX.out.1.drewN d).cut (by rw [List.length_take]; omega) (m := k) (by rw [List.length_take]; omega) rfl
          rw [List.take_take, Nat.min_eq_left (by omega)] at h1
          exact ⟨k, _, by omega, h1, htt, (HX.out.2.2.1.drewN d).trans h2⟩)
        have HCL := Lib.hid (show ∀ d, ((wr.drewN d).setCell ⟨hb, 0, none⟩ (.slice (some ⟨g, 0, none⟩) k c1)).cell? ⟨hb, 0, none⟩ = some (.slice (some ⟨g, 0, none⟩) k c1) from fun d => by
          have h1 := ((HX.out.1.drewN d).blk.put 0 (.slice (some ⟨g, 0, none⟩) k c1)).cell 0
          exact h1)
        clear hlt hps htt
        go_wp2_with fail
        go_quiet (fail)
        go_wp2_with fail
        obtain ⟨wq, hwq⟩ : ∃ wq, wq = wr.drewN nq := ⟨_, rfl⟩
        rw [← hwq]
        have hcq : wq.cell? ⟨hb, 0, none⟩ = some (.slice (some ⟨g, 0, none⟩) (k + 1) c1) := by rw [hwq]; exact hc
        have hcd : wq.drew.cell? ⟨hb, 0, none⟩ = some (.slice (some ⟨g, 0, none⟩) (k + 1) c1) := hcq
        have hfd : wq.drew.frozen? ⟨hb, 0, none⟩ = false := by rw [hwq]; exact (HX.out.1.drewN (nq + 1)).blk.frozen 0
        have HWQ := Lib.hid (show wq.drew = wr.drewN (nq + 1) by rw [hwq]; rfl)
        clear hwq
        go_still_tail 14, (by kernel_rfl)
        repeat still_step
        change wpList _ _ _ _ _ wq.drew
        go_wp2_with fail
        have e9 : (wq.setCell ⟨hb, 0, none⟩ (.slice (some ⟨g, 0, none⟩) k c1)).drew = (wr.drewN (nq + 1)).setCell ⟨hb, 0, none⟩ (.slice (some ⟨g, 0, none⟩) k c1) := by rw [← HWQ.out]; rfl
        exact ⟨by rw [e9]; exact HS.out _, by rw [e9, HCL.out, hc]; simp⟩
      · have hxi : ((xn : Int) == 0) = false := by simp; omega
        have hps : (prslots ys)[k]? = some (slotsOf x.xs) := by
          rw [prslots, List.getElem?_map, List.getElem?_eq_getElem (by omega), HX.out.2.2.2.1, List.getElem_take]
          rfl
        have HT := Lib.hid (show trimH (prslots ys) = prslots (ys.take (k + 1)) by
          rw [← HX.out.2.1]
          have h1 := trimH_stop hps (fun e => hx0 (by rw [HX.out.2.2.2.2, ← slotsOf_len, e]; rfl))
          simp only [prslots, ← List.map_take] at h1 ⊢
          exact h1)
        clear hps
        go_wp2_with fail
        go_quiet (fail)
        go_wp2_with fail
        refine bodyPost_end (results_none rfl _ _ _) rfl ?_
        exact ⟨rfl, ⟨_, _, HX.out.1.drewN _, HT.out.symm⟩, HX.out.2.2.1.drewN _⟩
end
end Go.Proofs.YtdnegfjddpdmhaaDoor

/-
  The document's own heap: set.
-/
namespace Go.Proofs.YtdnegfjddpdmhaaDoor
open Go.RowKit Go.Lib

theorem Tryd.dkinfo70 : (Tryd.prog.info? 70).map (fun i => (i.zero, i.size, i.bytes)) = some (some (.agg #[.slice none 0 0]), 1, 24) := by kernel_rfl
section
variable {B hb : Nat} {D D' : Nat → Prop} {w w5 w6 : World} {v : Value} {ys : List Pr}
/-- a page more -/
theorem RhX.grow (h : RhX B D w hb v ys) (hB : B ≤ w.heap.size) (o : Obj) {v5 : Value} (hown : w5.ownsRow B 70 1 v5 (ys.length + 1) (prvals ys ++ [.slice none 0 0])) (hgr : (w.alloc o).grownBy w5 v.ownBlock)
    (hat : v5.ownBlock = v.ownBlock ∨ v5.ownBlock = some (w.alloc o).heap.size) (hw6 : w6 = w5.setCell ⟨hb, 0, none⟩ v5) :
    RhX B (Ext D w w6) w6 hb v5 (ys ++ [Pr.nil]) ∧ Chg D w w6 ∧ w5.cell? ⟨hb, 0, none⟩ = some v ∧ w5.frozen? ⟨hb, 0, none⟩ = false := by
  have hbv : ¬ v.ownBlock = some hb := own_ne h.own h.blk (by decide)
  have hc5 : Chg (fun k => v.ownBlock = some k) w w5 := ((Chg.refl _ w).alloc o).grown hgr (fun k hk _ => hk)
  have hb5 : Blk w5 hb 30 #[v] := h.blk.chg hc5 hbv
  have hc6 : Chg (fun k => k = hb) w5 w6 := by rw [hw6]; exact (Chg.refl (fun k => k = hb) w5).setCell (p := ⟨hb, 0, none⟩) (fun _ => rfl) _
  have s5 := hc5.size
  have s6 := hc6.size
  have s4 : (w.alloc o).heap.size = w.heap.size + 1 := by simp
  have hbl := h.blk.lt
  have hb5v : ¬ v5.ownBlock = some hb := fun e => by
    rcases hat with h1 | h1
    · rw [h1] at e; exact hbv e
    · rw [h1] at e; injection e with e; omega
  have hcell := hb5.cell 0
  simp only [List.getElem?_toArray, List.getElem?_cons_zero] at hcell
  refine ⟨⟨?_, ?_, fun y hy => ?_, .inl h.domh, fun k hk => ?_, fun k hk => ?_⟩, (hc5.mono fun k _ hk => h.domv k hk).trans' hc6 (fun k _ hk => by subst hk; exact h.domh), hcell, hb5.frozen 0⟩
  · rw [hw6]; exact hb5.put 0 _
  · rw [hw6, List.length_append, show prvals (ys ++ [Pr.nil]) = prvals ys ++ [.slice none 0 0] by simp [prvals, Pr.nil, Pr.val]]
    exact own_set hown hb5v _
  · rcases List.mem_append.1 hy with hy | hy
    · refine (((h.pg y hy).chg hc5 (fun k cs hk hbk => ?_) (fun k cs hk hbk => ?_)).chg hc6 (fun k cs hk hbk => ?_) (fun k cs hk hbk => ?_)).mono fun k hk => .inl hk
      · obtain ⟨cur, hcu⟩ := own_row h.own k hk; exact Blk.ne hcu hbk (by decide) rfl
      · obtain ⟨cur, hcu⟩ := own_row h.own k hk; exact Blk.ne hcu hbk (by decide) rfl
      · subst hk; exact Blk.ne hb5 hbk (by decide) rfl
      · subst hk; exact Blk.ne hb5 hbk (by decide) rfl
    · rw [List.mem_singleton.1 hy]; exact Pr.Ok.nil
  · rcases hat with h1 | h1
    · rw [h1] at hk; exact .inl (h.domv k hk)
    · have h2 := (hown.lt k hk).2
      rw [h1] at hk
      injection hk with hk
      exact .inr ⟨by omega, by omega⟩
  · rcases hk with hk | hk
    · have := h.foot k hk; omega
    · exact ⟨by omega, hk.2⟩
/-- a page is stored -/
theorem RhX.put {g c : Nat} (h : RhX B D w hb (.slice (some ⟨g, 0, none⟩) ys.length c) ys) {k : Nat} (hk : k < ys.length) {y : Pr} (hy : y.Ok D w) (hw6 : w6 = w.setCell ⟨g, k, none⟩ y.val) :
    RhX B D w6 hb (.slice (some ⟨g, 0, none⟩) ys.length c) (ys.set k y) ∧ Chg (fun k => k = g) w w6 ∧ w.frozen? ⟨g, k, none⟩ = false := by
  have hc6 : Chg (fun j => j = g) w w6 := by rw [hw6]; exact (Chg.refl (fun j => j = g) w).setCell (p := ⟨g, k, none⟩) (fun _ => rfl) _
  have hgh : g ≠ hb := fun e => own_ne h.own h.blk (by decide) (by rw [← e]; rfl)
  obtain ⟨cur, hcu⟩ := own_row h.own g rfl
  have s6 := hc6.size
  have hst := h.own.stored k y.val
  refine ⟨⟨h.blk.chg hc6 (Ne.symm hgh), ?_, fun z hz => ?_, h.domh, h.domv, fun j hj => ?_⟩, hc6, hcu.frozen k⟩
  · rw [hw6, List.length_set, show prvals (ys.set k y) = (prvals ys).set k y.val by simp [prvals, List.map_set]]
    exact hst.1
  · have hz2 : z.Ok D w := by
      rcases List.mem_or_eq_of_mem_set hz with hz | rfl
      · exact h.pg z hz
      · exact hy
    exact hz2.chg hc6 (fun j cs hj hbk => by subst hj; exact Blk.ne hcu hbk (by decide) rfl) (fun j cs hj hbk => by subst hj; exact Blk.ne hcu hbk (by decide) rfl)
  · have := h.foot j hj; omega
end
theorem Ext.ext {D : Nat → Prop} {w wr w6 : World} (h1 : w.heap.size ≤ wr.heap.size) (h2 : wr.heap.size ≤ w6.heap.size) : ∀ k, Ext (Ext D w wr) wr w6 k → Ext D w w6 k := fun k hk =>
  hk.elim (fun h => h.elim .inl fun h => .inr ⟨h.1, by omega⟩) fun h => .inr ⟨by omega, h.2⟩
theorem prslots_pad (ys : List Pr) (j k : Nat) (h : ys.length + j = max ys.length (k + 1)) : prslots (ys ++ List.replicate j Pr.nil) = padH (prslots ys) (k + 1) := by
  simp [prslots, padH, Pr.nil, slotsOf]
  omega
def SetR (B hb : Nat) (D : Nat → Prop) (w : World) (ys : List Pr) (k : Nat) (wr : World) : Prop :=
  ∃ j v, RhX B (Ext D w wr) wr hb v (ys ++ List.replicate j Pr.nil) ∧ Chg D w wr ∧ ys.length + j ≤ max ys.length (k + 1)
section
variable (w : World) (B hb : Nat) (D : Nat → Prop) (ps : Pgs) (h : RhV B D w hb ps) (hfew : ps.length ≤ 256) (hB : B ≤ w.heap.size)
include h hfew hB
set_option maxRecDepth 100000 in
set_option maxHeartbeats 3200000 in
theorem rset_any (k : Nat) (hk : k ≤ 255) (A2 : Option Addr) (c2 : Nat) (s : List Slot) (hs : GoodP s) (hr : w.ownsRow 0 5 1 (.slice A2 256 c2) 256 (cells (imgP s))) (ho : ∀ j, (Value.slice A2 256 c2).ownBlock = some j → ¬ D j) :
    Calls Tryd.prog 51 #[.pointer (some ⟨hb, 0, none⟩), .int .i64 k, .slice A2 256 c2] w fun e w' => e = .returned (.tuple #[]) ∧ RhTo B hb D w (trimH (setH ps k s)) w' := by
  obtain ⟨v, ys, hx, rfl⟩ := h
  obtain ⟨i0, hi, hz0, hz1, hz2⟩ := info_parts Tryd.dkinfo70
  have hl := prslots_len ys
  have hft : ∀ k, D k → B ≤ k ∧ k < w.heap.size := hx.foot
  have H0 := Lib.hid (show SetR B hb D w ys k w from ⟨0, v, by
    rw [List.replicate_zero, List.append_nil]
    exact hx.mono (fun _ h => .inl h) fun k hk => hk.elim (hx.foot k) fun h => by omega, Chg.refl _ _, by omega⟩)
  have H := Lib.hid (And.intro hr (And.intro ho (And.intro hs (And.intro hft hx.domh))))
  have hk0 : (0 : Int) ≤ (k : Int) := Int.natCast_nonneg _
  have HL := Lib.hid hl
  rw [hl] at hfew
  clear hx hr ho hs hft hl
  go_enter Tryd.func51, Tryd.ntmps51
  go_wp2_with fail
  go_loopw [] (fun wr => SetR B hb D w ys k wr) (fun wr => match wr.cell? ⟨hb, 0, none⟩ with | some (.slice _ m _) => k + 1 - m | _ => 0)
  case atStart => exact H0.out
  case round =>
    obtain ⟨j, v1, hX, hch, hj⟩ := hrel
    obtain ⟨A1, c1, hv, _, _⟩ := own_shape hX.own
    obtain ⟨m, hm⟩ : ∃ m, m = (ys ++ List.replicate j Pr.nil).length := ⟨_, rfl⟩
    have hmj : m = ys.length + j := by rw [hm]; simp
    have hm257 : m ≤ 256 := by omega
    rw [← hm] at hv
    subst hv
    have hc := hX.blk.cell 0
    simp only [List.getElem?_toArray, List.getElem?_cons_zero] at hc
    have hm0 : (0 : Int) ≤ (m : Int) := Int.natCast_nonneg _
    have HX := Lib.hid (And.intro hX (And.intro hch (And.intro hm (And.intro hmj hj))))
    have hown := hX.own
    rw [← hm] at hown
    have HO := Lib.hid hown
    clear hX hch hm hmj hj hown
    by_cases hlt : m ≤ k
    · have hlt1 : (m : Int) ≤ (k : Int) := by omega
      go_wp2_with (at_builtin; refine wpList_append_own_at _ rfl (.tmp 19) (.tmp 21) 28 rfl B 70 i0 (.agg #[.slice none 0 0]) 1 24 Tryd.underlying28 hi hz0 hz1 hz2 rfl (by decide) _ m _ rfl (HO.out.alloc _) ⟨wr.heap.size, 0, none⟩ 1 1 [.slice none 0 0] rfl rfl (cell_one_new _ _ _) ?c2 ?c3 ?c4 ?c5 ?_)
      case c2 => intro u hu; simp at hu; subst hu; rfl
      case c3 => first | (unfold maxLen; omega) | (simp [maxLen]; omega)
      case c4 => first | omega | (simp; omega)
      case c5 => have h2 := HX.out.2.1.size; simp; omega
      intro v5 w5 hown5 hgr5 _ hat5
      obtain ⟨w6, hw6⟩ : ∃ w6, w6 = w5.setCell ⟨hb, 0, none⟩ v5 := ⟨_, rfl⟩
      have hgrow := HX.out.1.grow (by have h2 := HX.out.2.1.size; omega) _ (by rw [← HX.out.2.2.1]; exact hown5) hgr5 (by rw [World.size_alloc]; exact hat5) hw6
      obtain ⟨g1, g2, g3, g4⟩ := hgrow
      obtain ⟨A5, c5, rfl, _, _⟩ := own_shape hown5
      have s1 := HX.out.2.1.size
      have s2 := g2.size
      have HF := Lib.hid (show SetR B hb D w ys k w6 from ⟨j + 1, _, by
        rw [List.replicate_succ', ← List.append_assoc]
        exact g1.mono (Ext.ext s1 s2) fun q hq => by
          rcases hq with hq | hq
          · have := H.out.2.2.2.1 q hq; omega
          · omega, HX.out.2.1.ext g2, by have h8 := HX.out.2.2.2.1; omega⟩)
      have HCL := Lib.hid (show w6.cell? ⟨hb, 0, none⟩ = some (.slice A5 (m + 1) c5) from by
        have h1 := g1.blk.cell 0
        exact h1)
      have HW6 := Lib.hid hw6
      clear hown5 hgr5 hat5 g1 g2 hw6
      go_wp2_with fail
      rw [← HW6.out]
      exact ⟨HF.out, by rw [HCL.out, hc]; show k + 1 - (m + 1) < k + 1 - m; omega⟩
    · have hlt1 : ¬ ((m : Int) ≤ (k : Int)) := by omega
      have hkm : k < m := by omega
      have hr4 := own_chg H.out.1 HX.out.2.1 H.out.2.1
      have hlen : (imgP s).length = 256 := H.out.2.2.1.pg.len
      have hsl : Sl wr A2 256 c2 (imgP s) := by
        obtain ⟨A9, c9, hv9, hs9⟩ := Sl.of_own (v := .slice A2 256 c2) (w := wr) (base := 0) (l := imgP s) (by rw [hlen]; exact hr4) H.out.2.2.1.pg.bytes
        rw [hlen] at hs9 hv9
        injection hv9 with e1 e2 e3
        rw [e1, e3]
        exact hs9
      have HOF := Lib.hid (of_sl wr A2 256 c2 (imgP s) hsl)
      obtain ⟨g, c9, hv, _, _⟩ := HO.out.form (by omega)
      injection hv with hv1 _ hv3
      subst hv1
      subst hv3
      clear hr4 hlen hsl
      go_wp2_with fail
      refine HOF.out.mono ?_
      rintro e w4 ⟨A', n', c', xs, rfl, hpg4, hsx4, hn4, hb4, hown4, hy4⟩
      have hn'x : n' = xs.length := by have := hown4.1; rw [vals_len] at this; omega
      obtain ⟨w5, hw5⟩ : ∃ w5, w5 = w4.alloc (.cells #[.slice A' n' c'] 70) := ⟨_, rfl⟩
      have hb45 : Below w4.heap.size w4 w5 := by rw [hw5]; exact (Below.refl _ w4).alloc (Nat.le_refl _) _
      have hbw5 : Below wr.heap.size wr w5 := hb4.trans (hb45.mono hb4.size)
      have s1 := HX.out.2.1.size
      have s2 := hbw5.size
      have s4 := hb45.size
      have hyok : (⟨A', c', xs⟩ : Pr).Ok (Ext D w w5) w5 := by
        have h1 := Pr.Ok.made (D := fun q => wr.heap.size ≤ q ∧ q < w4.heap.size) (ofP_pg H.out.2.2.1.pg) hsx4 H.out.2.2.1 hn'x hown4 hy4 (fun q h1 h2 => ⟨h1, h2⟩)
        exact (h1.keep fun q hq => hb45.block q hq.2).mono fun q hq => .inr ⟨by omega, by omega⟩
      have hX5 : RhX B (Ext D w w5) w5 hb (.slice (some ⟨g, 0, none⟩) m c1) (ys ++ List.replicate j Pr.nil) := (HX.out.1.below hbw5).mono (fun q hq => hq.elim .inl fun h => .inr ⟨h.1, by omega⟩) fun q hq => by
        rcases hq with hq | hq
        · have := H.out.2.2.2.1 q hq; omega
        · omega
      have hb70 : Blk w5 w4.heap.size 70 #[.slice A' n' c'] := by rw [hw5]; exact Blk.new _ _ _
      have hc70 := hb70.cell 0
      have hc5 := hX5.blk.cell 0
      simp only [List.getElem?_toArray, List.getElem?_cons_zero] at hc70 hc5
      obtain ⟨w6, hw6⟩ : ∃ w6, w6 = w5.drew.setCell ⟨g, k, none⟩ (.slice A' n' c') := ⟨_, rfl⟩
      have hmy := HX.out.2.2.1
      have hX5d : RhX B (Ext D w w5) w5.drew hb (.slice (some ⟨g, 0, none⟩) (ys ++ List.replicate j Pr.nil).length c1) (ys ++ List.replicate j Pr.nil) := by rw [← hmy]; exact hX5.drewN 1
      have hput := hX5d.put (k := k) (by omega) (y := ⟨A', c', xs⟩) (hyok.keep fun _ _ => rfl) (w6 := w6) (by rw [hw6, hn'x]; rfl)
      obtain ⟨hX6, hc6, hfz⟩ := hput
      rw [← hmy] at hX6
      have hgE : Ext D w wr g := HX.out.1.domv g rfl
      have hD6 : Chg D w w6 := by
        have h1 : Chg D w w5 := HX.out.2.1.trans' (G := Non) (Chg.of_below hbw5) fun _ _ hn => hn.elim
        exact (h1.drew).trans' hc6 fun q hq hqg => by subst hqg; exact hgE.elim id fun h => by omega
      have hps : prslots ((ys ++ List.replicate j Pr.nil).set k ⟨A', c', xs⟩) = setH (prslots ys) k s := by
        have h9 := HX.out.2.2.2.2
        have h8 := HX.out.2.2.2.1
        rw [setH, ← prslots_pad ys j k (by omega)]
        simp only [prslots, List.map_set]
        rw [hsx4 s (ofP_pg H.out.2.2.1.pg)]
      have HV6 := Lib.hid (And.intro (show RhV B (Ext D w w5) w6 hb (setH (prslots ys) k s) from ⟨_, _, hX6, hps⟩) hD6)
      have s6 := hc6.size
      have s56 : w5.drew.heap.size = w5.heap.size := rfl
      have HTM := Lib.hid (rtrim_any w6 B hb (Ext D w w5) _ HV6.out.1 (by rw [setH_len, HL.out]; omega))
      have HW5 := Lib.hid hw5
      have HW6 := Lib.hid hw6
      have hcd : w5.drew.cell? ⟨hb, 0, none⟩ = some (.slice (some ⟨g, 0, none⟩) m c1) := hc5
      have hce : w5.drew.cell? ⟨w4.heap.size, 0, none⟩ = some (.slice A' n' c') := hc70
      have hfz5 : w5.frozen? ⟨g, k, none⟩ = false := hfz
      have hkmi : (k : Int) < (m : Int) := by omega
      obtain ⟨u0, hu0⟩ : ∃ u, w5.cell? ⟨g, k, none⟩ = some u := by
        have h1 := hX5.own.cells (g := g) rfl k _ (prvals_at (by omega))
        rw [show ((⟨g, 0, none⟩ : Addr).add k) = ⟨g, k, none⟩ by simp [Addr.add]; omega] at h1
        exact ⟨_, h1⟩
      have hu1 : w5.drew.cell? ⟨g, k, none⟩ = some u0 := hu0
      have hfz6 : w5.drew.frozen? ⟨g, k, none⟩ = false := hfz
      clear hsx4 hb4 hown4 hy4 hpg4 hw5 hw6 hb45 hbw5 hyok hX5 hb70 hX5d hX6 hc6 hgE hD6 hps hmy hn'x
      go_wp2_with fail
      rw [← HW5.out]
      go_still_tail 7, (by kernel_rfl)
      repeat still_step
      change wpList _ _ _ _ _ w5.drew
      go_wp2_with fail
      have e6 : (w5.setCell ⟨g, k, none⟩ (.slice A' n' c')).drew = w6 := by rw [HW6.out]; rfl
      rw [e6]
      refine HTM.out.mono ?_
      rintro e w7 ⟨rfl, hV7, hc7⟩
      have s7 := hc7.size
      have HF := Lib.hid (show RhTo B hb D w (trimH (setH (prslots ys) k s)) w7 from
        ⟨hV7.mono (fun q hq => hq.elim .inl fun h => .inr ⟨h.1, by omega⟩) fun q hq => by
          rcases hq with hq | hq
          · have := H.out.2.2.2.1 q hq; omega
          · omega, HV6.out.2.trans' hc7 fun q _ hq => by subst hq; exact H.out.2.2.2.2⟩)
      clear hV7 hc7
      go_wp2_with fail
      refine bodyPost_end (results_none rfl _ _ _) rfl ?_
      exact ⟨rfl, HF.out⟩
end
end Go.Proofs.YtdnegfjddpdmhaaDoor
