/-
  Both heaps beside one another: the program's and the document's.
-/
import Derived.Test.YtdnegfjddpdmhaaDoorMB
import Derived.Test.YtdnegfjddpdmhaaDoorMC
namespace Go.Proofs.YtdnegfjddpdmhaaDoor
open Go.RowKit Go.Lib

theorem HS.far {w0 w w' : World} {D F : Nat → Prop} {hb : Nat} {ps : Pgs} (h : HS w0 D w hb ps) (hc : Chg F w w') (hd : ∀ k, D k → ¬ F k) (hl : ∀ k, F k → w0.heap.size ≤ k) : HS w0 D w' hb ps :=
  ⟨h.hp.chg hc hd, h.ok, h.low.trans (hc.below hl h.low.size)⟩
/-- the program's heap (h, D, ps) and the document's (r, E, qs), apart -/
structure Tw (w0 w : World) (hb rb : Nat) (D E : Nat → Prop) (ps qs : Pgs) : Prop where
  h : HS w0 D w hb ps
  r : RhV w0.heap.size E w rb qs
  dis : ∀ k, D k → ¬ E k
section
variable {w0 w w' : World} {hb rb : Nat} {D E : Nat → Prop} {ps qs ps' qs' : Pgs}
theorem Tw.below (h : Tw w0 w hb rb D E ps qs) (hb' : Below w.heap.size w w') : Tw w0 w' hb rb D E ps qs := ⟨h.h.below hb', h.r.below hb', h.dis⟩
theorem Tw.stepD (h : Tw w0 w hb rb D E ps qs) (hd : HS w0 (Ext D w w') w' hb ps') (hc : Chg D w w') : Tw w0 w' hb rb (Ext D w w') E ps' qs :=
  ⟨hd, h.r.chg hc fun k hk hd => h.dis k hd hk, fun k hk he => hk.elim (fun hf => h.dis k hf he) fun hf => by have := (h.r.foot he).2; omega⟩
theorem Tw.stepR (h : Tw w0 w hb rb D E ps qs) (hr : RhTo w0.heap.size rb E w qs' w') : Tw w0 w' hb rb D (Ext E w w') ps qs' :=
  ⟨h.h.far hr.2 h.dis (fun k hk => (h.r.foot hk).1), hr.1, fun k hk he => he.elim (fun hf => h.dis k hk hf) fun hf => by have := (h.h.hp.foot hk).2; omega⟩
end
/-- and block b has the argument; a row of one's own has the same bytes -/
structure Th (w0 w : World) (hb rb : Nat) (D E : Nat → Prop) (ps qs : Pgs) (b : Nat) (x : C7) : Prop where
  t : Tw w0 w hb rb D E ps qs
  blk : Blk w b 35 #[.int .i64 x.what, .int .i64 x.nn, .int .i64 x.p, .int .i64 x.k, .slice x.A x.n x.c]
  nd : ¬ D b
  ne : ¬ E b
  rd : Rd w w0.heap.size x.A x.n (cells x.data)
/-- a row of one's own -/
structure Ow (w : World) (D E : Nat → Prop) (A : Option Addr) (n c : Nat) (l : List Int) : Prop where
  own : w.ownsRow 0 5 1 (.slice A n c) n (cells l)
  fd : ∀ q, (Value.slice A n c).ownBlock = some q → ¬ D q
  fe : ∀ q, (Value.slice A n c).ownBlock = some q → ¬ E q
section
variable {w0 w w' : World} {hb rb b : Nat} {D E : Nat → Prop} {ps qs ps' qs' : Pgs} {x : C7} {A : Option Addr} {n c : Nat} {l : List Int}
theorem Tw.made (h : Tw w0 w hb rb D E ps qs) (hr : Rd w w0.heap.size x.A x.n (cells x.data)) : Th w0 (w.alloc (.cells #[.int .i64 x.what, .int .i64 x.nn, .int .i64 x.p, .int .i64 x.k, .slice x.A x.n x.c] 35)) hb rb D E ps qs w.heap.size x :=
  ⟨h.below ((Below.refl _ _).alloc (Nat.le_refl _) _), Blk.new _ _ _, fun hf => absurd (h.h.hp.foot hf).2 (Nat.lt_irrefl _), fun hf => absurd (h.r.foot hf).2 (Nat.lt_irrefl _), hr.below ((Below.refl _ _).alloc (Nat.le_refl _) _) h.h.low.size⟩
theorem Th.below (h : Th w0 w hb rb D E ps qs b x) (hb' : Below w.heap.size w w') : Th w0 w' hb rb D E ps qs b x := ⟨h.t.below hb', h.blk.below hb' h.blk.lt, h.nd, h.ne, h.rd.below hb' h.t.h.low.size⟩
theorem Th.drewN (h : Th w0 w hb rb D E ps qs b x) (d : Nat) : Th w0 (w.drewN d) hb rb D E ps qs b x := h.below (below_dN (Below.refl _ _) d)
theorem Th.stepD (h : Th w0 w hb rb D E ps qs b x) (hd : HS w0 (Ext D w w') w' hb ps') (hc : Chg D w w') : Th w0 w' hb rb (Ext D w w') E ps' qs b x :=
  ⟨h.t.stepD hd hc, h.blk.chg hc h.nd, fun hk => hk.elim h.nd fun hf => (by have := h.blk.lt; omega), h.ne, h.rd.chg hc h.t.h.low.size fun k hk hf => (by have := (h.t.h.hp.foot hf).1; omega)⟩
theorem Th.stepR (h : Th w0 w hb rb D E ps qs b x) (hr : RhTo w0.heap.size rb E w qs' w') : Th w0 w' hb rb D (Ext E w w') ps qs' b x :=
  ⟨h.t.stepR hr, h.blk.chg hr.2 h.ne, h.nd, fun hk => hk.elim h.ne fun hf => (by have := h.blk.lt; omega), h.rd.chg hr.2 h.t.h.low.size fun k hk hf => (by have := (h.t.r.foot hf).1; omega)⟩
theorem Th.cells (h : Th w0 w hb rb D E ps qs b x) : w.cell? ⟨b, 0, none⟩ = some (.int .i64 x.what) ∧ w.cell? ⟨b, 1, none⟩ = some (.int .i64 x.nn) ∧ w.cell? ⟨b, 2, none⟩ = some (.int .i64 x.p) ∧ w.cell? ⟨b, 3, none⟩ = some (.int .i64 x.k) ∧ w.cell? ⟨b, 4, none⟩ = some (.slice x.A x.n x.c) :=
  ⟨h.blk.cell 0, h.blk.cell 1, h.blk.cell 2, h.blk.cell 3, h.blk.cell 4⟩
/-- the argument's bytes, for the document's heap -/
theorem Th.rdx (h : Th w0 w hb rb D E ps qs b x) : RdX E w x.A x.n (Go.Proofs.YtdnegfjddpdmhaaDoor.cells x.data) := RdX.of_low h.rd h.t.h.low.size fun _ hk => (h.t.r.foot hk).1
theorem Th.rdm (h : Th w0 w hb rb D E ps qs b x) : Rd w w.heap.size x.A x.n (Go.Proofs.YtdnegfjddpdmhaaDoor.cells x.data) := h.rd.more h.t.h.low.size
theorem Ow.made (h : Th w0 w hb rb D E ps qs b x) {v : Value} (ho : w'.ownsRow w.heap.size 5 1 v x.data.length (Go.Proofs.YtdnegfjddpdmhaaDoor.cells x.data)) (hn : x.data.length = x.n) : ∃ A1 c1, v = .slice A1 x.n c1 ∧ Ow w' D E A1 x.n c1 x.data := by
  obtain ⟨A1, c1, rfl, _, _⟩ := own_shape ho
  rw [hn] at ho ⊢
  exact ⟨A1, c1, rfl, own_base ho (Nat.zero_le _), fun q hq hf => by have := (h.t.h.hp.foot hf).2; have := (ho.lt q hq).1; omega, fun q hq hf => by have := (h.t.r.foot hf).2; have := (ho.lt q hq).1; omega⟩
theorem Ow.below (h : Ow w D E A n c l) (hb' : Below w.heap.size w w') : Ow w' D E A n c l := ⟨own_below h.own hb' (Nat.le_refl _), h.fd, h.fe⟩
theorem Ow.stepD (h : Ow w D E A n c l) (hc : Chg D w w') : Ow w' (Ext D w w') E A n c l :=
  ⟨own_chg h.own hc fun q hq => h.fd q hq, fun q hq hk => hk.elim (h.fd q hq) fun hf => (by have := (h.own.lt q hq).2; omega), h.fe⟩
theorem Ow.stepR (h : Ow w D E A n c l) (hc : Chg E w w') : Ow w' D (Ext E w w') A n c l :=
  ⟨own_chg h.own hc fun q hq => h.fe q hq, h.fd, fun q hq hk => hk.elim (h.fe q hq) fun hf => (by have := (h.own.lt q hq).2; omega)⟩
theorem Ow.rd (h : Ow w D E A n c l) : Rd w w.heap.size A n (Go.Proofs.YtdnegfjddpdmhaaDoor.cells l) := Rd.of_own h.own
theorem Ow.rdx (h : Ow w D E A n c l) : RdX D w A n (Go.Proofs.YtdnegfjddpdmhaaDoor.cells l) :=
  ⟨h.rd, fun ad h0 e hd => by
    obtain ⟨g, cap, hv, hg, _⟩ := h.own.form h0
    injection hv with e1 _ _
    subst e
    cases e1
    exact h.fd g rfl hd⟩
end
def c7arg (x : C7) : Value := .agg #[.int .i64 x.what, .int .i64 x.nn, .int .i64 x.p, .int .i64 x.k, .slice x.A x.n x.c]
def ToldRet (w0 : World) (hb rb : Nat) (e : Ending) (w' : World) : Prop := e = .returned (.bool true) ∧ ∃ D E ps, Tw w0 w' hb rb D E ps ps
end Go.Proofs.YtdnegfjddpdmhaaDoor

/-
  told: a call on both heaps.
-/
namespace Go.Proofs.YtdnegfjddpdmhaaDoor
open Go.RowKit Go.Lib

theorem get_small {ps : Pgs} (hok : HOk ps) (p k : Int) : ((getH ps p k).getD []).length ≤ 200 := by
  cases hg : getH ps p k with
  | none => simp
  | some l =>
    have h1 : (getH ps p k).isSome = true := by rw [hg]; rfl
    obtain ⟨h2, h3, h4⟩ := getH_some h1
    have hgd := hok.at_ p.toNat
    rw [getH, if_pos (by omega)] at hg
    simp only [getP] at hg
    rw [if_pos h4] at hg
    injection hg with hg
    rw [Option.getD_some, ← hg]
    cases ho : (pgAt ps p.toNat)[k.toNat]? with
    | none => simp [bsS]
    | some o => exact hgd.pg.fit.len o (List.mem_of_getElem? ho)
theorem aft_small {ps : Pgs} (hok : HOk ps) (p k most : Int) : (aftH ps p k most).length ≤ 65280 := by
  have h1 := ridC_bound hok.pg hok.few
  have h2 := List.length_filter_le (behind p k) (allH ps)
  unfold aftH
  rw [List.length_take]
  omega
/-- the same places -/
theorem sameRids_at (A A' : Option Addr) (c c' n n' : Nat) (l : List Pl) (w : World) {B B' : Nat} (hn : n = l.length) (hn' : n' = l.length) (h1 : w.ownsRow B 32 2 (.slice A n c) n (ridC l)) (h2 : w.ownsRow B' 32 2 (.slice A' n' c') n' (ridC l)) (hl : l.length ≤ 65280) :
    Calls Tryd.prog 16 #[.slice A n c, .slice A' n' c'] w fun e w' => e = .returned (.bool true) ∧ Below w.heap.size w w' := by
  subst hn
  subst hn'
  refine (sameRids_yes A A' c c' l w (RidIn.of_own h1) (RidIn.of_own h2) (by omega)).mono ?_
  rintro e w' ⟨rfl, d, hd⟩
  exact ⟨rfl, drewN_below hd⟩
set_option maxRecDepth 100000 in
set_option maxHeartbeats 6400000 in
theorem told_add {w0 w : World} {hb rb : Nat} {D E : Nat → Prop} {ps : Pgs} (h : Tw w0 w hb rb D E ps ps) (x : C7) (hw : x.what = 0) (hr : Rd w w0.heap.size x.A x.n (cells x.data)) (hby : IsBytes x.data) (hn : x.n ≤ 20000) :
    Calls Tryd.prog 12 #[.pointer (some ⟨hb, 0, none⟩), .pointer (some ⟨rb, 0, none⟩), c7arg x] w (ToldRet w0 hb rb) := by
  obtain ⟨b, hb'⟩ : ∃ b, b = w.heap.size := ⟨_, rfl⟩
  have hlen : x.data.length = x.n := by have := hr.len; rwa [cells_len] at this
  have HL := Lib.hid (And.intro hlen (And.intro hby hn))
  have HT := Lib.hid (h.made hr)
  rw [← hb'] at HT
  have HB := Lib.hid hb'
  have HC := Lib.hid HT.out.cells
  obtain ⟨c0, c1, c2, c3, c4⟩ := HT.out.cells
  rw [hb'] at c0 c1 c2 c3 c4
  have HWH := Lib.hid hw
  clear h hb' hr hby hlen hw
  unfold c7arg
  go_enter Tryd.func12, Tryd.ntmps12
  go_wp2_with fail
  rw [← HB.out]
  refine (copyBytes_any _ x.A x.n x.c x.data HL.out.1 (by have := HL.out.2.2; omega) HT.out.rdm).mono ?_
  rintro e w1 ⟨v1, rfl, ho1, hb1⟩
  obtain ⟨A1, k1, rfl, how1⟩ := Ow.made HT.out ho1 HL.out.1
  have H1 := Lib.hid (And.intro (HT.out.below hb1) how1)
  obtain ⟨d0, d1, d2, d3, d4⟩ := H1.out.1.cells
  clear ho1 hb1 how1 c0 c1 c2 c3 c4
  rw [HWH.out] at d0
  have HAD := Lib.hid (hs_add H1.out.1.t.h A1 x.n k1 x.data H1.out.2.rdx HL.out.2.1)
  go_wp2_with fail
  refine HAD.out.mono ?_
  rintro e w2 ⟨rfl, hS2, hc2⟩
  have h2 := H1.out.1.stepD hS2 hc2
  have o2 := H1.out.2.stepD hc2
  have hb2 := (Below.refl w2.heap.size w2).alloc (Nat.le_refl _) (.cells #[.int .i64 (addPg ps x.data), .int .i64 (addSl ps x.data)] 32)
  have kb2 := Blk.new w2 32 #[.int .i64 (addPg ps x.data), .int .i64 (addSl ps x.data)]
  obtain ⟨w3, hw3⟩ : ∃ w3, w3 = w2.alloc (.cells #[.int .i64 (addPg ps x.data), .int .i64 (addSl ps x.data)] 32) := ⟨_, rfl⟩
  rw [← hw3] at hb2 kb2
  have H3 := Lib.hid (And.intro (h2.below hb2) (And.intro (o2.below hb2) (And.intro kb2 (And.intro (show ¬ E w2.heap.size from fun he => absurd (h2.t.r.foot he).2 (Nat.lt_irrefl _)) (hS2.ok)))))
  have HW3 := Lib.hid hw3
  have HAR := Lib.hid (radd_any w3 w0.heap.size rb E ps H3.out.1.t.r (by exact H1.out.1.t.h.ok) H3.out.1.t.h.low.size x.A x.n x.c x.data H3.out.1.rdx HL.out.2.1)
  obtain ⟨e0, e1, e2, e3, e4⟩ := H3.out.1.cells
  rw [hw3] at e0 e1 e2 e3 e4
  clear hS2 hc2 h2 o2 hb2 kb2 hw3 d0 d1 d2 d3 d4 HAD
  go_wp2_with fail
  rw [← HW3.out]
  refine HAR.out.mono ?_
  rintro e w4 ⟨rfl, ht4⟩
  have h4 := H3.out.1.stepR ht4
  have o4 := H3.out.2.1.stepR ht4.2
  have kb4 := H3.out.2.2.1.chg ht4.2 H3.out.2.2.2.1
  have hb5 := (Below.refl w4.heap.size w4).alloc (Nat.le_refl _) (.cells #[.int .i64 (addPg ps x.data), .int .i64 (addSl ps x.data)] 32)
  obtain ⟨w5, hw5⟩ : ∃ w5, w5 = w4.alloc (.cells #[.int .i64 (addPg ps x.data), .int .i64 (addSl ps x.data)] 32) := ⟨_, rfl⟩
  have kn5 := Blk.new w4 32 #[.int .i64 (addPg ps x.data), .int .i64 (addSl ps x.data)]
  have kb5 := kb4.below hb5 kb4.lt
  have H5 := Lib.hid (show Th w0 w5 hb rb _ _ _ _ b x ∧ Ow w5 _ _ A1 x.n k1 x.data from by rw [hw5]; exact ⟨h4.below hb5, o4.below hb5⟩)
  have g0 := kb5.cell 0
  have g1 := kb5.cell 1
  have g2 := kn5.cell 0
  have g3 := kn5.cell 1
  obtain ⟨e0, e1, e2, e3, e4⟩ := H5.out.1.cells
  rw [hw5] at e0 e1 e2 e3 e4
  simp only [List.getElem?_toArray, List.getElem?_cons_zero, List.getElem?_cons_succ] at g0 g1 g2 g3
  have HW5 := Lib.hid hw5
  clear ht4 h4 o4 kb4 hb5 kb5 kn5 hw5 HAR
  go_wp2_with fail
  rw [← HW5.out]
  refine (same_any A1 x.A x.n x.n k1 x.c x.data x.data _ H5.out.2.rd H5.out.1.rdm (by omega)).mono ?_
  rintro e w9 ⟨rfl, hb9⟩
  have H9 := Lib.hid (H5.out.1.below hb9)
  clear hb9
  simp only [decide_true]
  go_wp2_with fail
  go_ret
  exact ⟨rfl, _, _, _, H9.out.t⟩
set_option maxRecDepth 100000 in
set_option maxHeartbeats 6400000 in
theorem told_put {w0 w : World} {hb rb : Nat} {D E : Nat → Prop} {ps : Pgs} (h : Tw w0 w hb rb D E ps ps) (x : C7) (hw : x.what = 1) (hr : Rd w w0.heap.size x.A x.n (cells x.data)) (hby : IsBytes x.data) (hn : x.n ≤ 20000) :
    Calls Tryd.prog 12 #[.pointer (some ⟨hb, 0, none⟩), .pointer (some ⟨rb, 0, none⟩), c7arg x] w (ToldRet w0 hb rb) := by
  obtain ⟨b, hb'⟩ : ∃ b, b = w.heap.size := ⟨_, rfl⟩
  have hlen : x.data.length = x.n := by have := hr.len; rwa [cells_len] at this
  have HL := Lib.hid (And.intro hlen (And.intro hby hn))
  have HT := Lib.hid (h.made hr)
  rw [← hb'] at HT
  have HB := Lib.hid hb'
  have HC := Lib.hid HT.out.cells
  obtain ⟨c0, c1, c2, c3, c4⟩ := HT.out.cells
  rw [hb'] at c0 c1 c2 c3 c4
  have HWH := Lib.hid hw
  clear h hb' hr hby hlen hw
  unfold c7arg
  go_enter Tryd.func12, Tryd.ntmps12
  go_wp2_with fail
  rw [← HB.out]
  refine (copyBytes_any _ x.A x.n x.c x.data HL.out.1 (by have := HL.out.2.2; omega) HT.out.rdm).mono ?_
  rintro e w1 ⟨v1, rfl, ho1, hb1⟩
  obtain ⟨A1, k1, rfl, how1⟩ := Ow.made HT.out ho1 HL.out.1
  have H1 := Lib.hid (And.intro (HT.out.below hb1) how1)
  obtain ⟨d0, d1, d2, d3, d4⟩ := H1.out.1.cells
  clear ho1 hb1 how1 c0 c1 c2 c3 c4
  rw [HWH.out] at d0
  go_wp2_with fail
  go_region_held3 (fun w' => w'.cell? ⟨b, 2, none⟩ = some (.int .i64 x.p) ∧ w'.cell? ⟨b, 3, none⟩ = some (.int .i64 x.k) ∧ w'.cell? ⟨b, 4, none⟩ = some (.slice x.A x.n x.c))
    (first
      | exact ⟨H3.out.1.cells.2.2.1, H3.out.1.cells.2.2.2.1, H3.out.1.cells.2.2.2.2⟩
      | exact ⟨H2.out.1.cells.2.2.1, H2.out.1.cells.2.2.2.1, H2.out.1.cells.2.2.2.2⟩
      | exact ⟨d2, d3, d4⟩
      | (go_split_ands; exact ⟨‹_›, ‹_›, ‹_›⟩))
    (first
      | (go_at_call 28; refine (hs_put (H1.out.1.drewN 1).t.h x.p x.k A1 x.n k1 x.data (H1.out.2.below (below_dN (Below.refl _ _) 1)).rdx HL.out.2.1).mono ?_; rintro e w2 ⟨rfl, hS2, hc2⟩; have H2 := Lib.hid (And.intro ((H1.out.1.drewN 1).stepD hS2 hc2) ((H1.out.2.below (below_dN (Below.refl _ _) 1)).stepD hc2)); clear hS2 hc2)
      | (go_at_call 33; refine (rput_any w2 w0.heap.size rb E ps H2.out.1.t.r H1.out.1.t.h.ok H2.out.1.t.h.low.size x.p x.k x.A x.n x.c x.data H2.out.1.rdx HL.out.2.1 (by have := HL.out.2.2; omega)).mono ?_; rintro e w3 ⟨rfl, ht3⟩; have H3 := Lib.hid (And.intro (H2.out.1.stepR ht3) (H2.out.2.stepR ht3.2)); clear ht3))
  obtain ⟨e0, e1, e2, e3, e4⟩ := H3.out.1.cells
  go_wp2_with fail
  refine (same_any A1 x.A x.n x.n k1 x.c x.data x.data _ H3.out.2.rd H3.out.1.rdm (by omega)).mono ?_
  rintro e w9 ⟨rfl, hb9⟩
  have H9 := Lib.hid (H3.out.1.below hb9)
  clear hb9
  simp only [decide_true]
  go_wp2_with fail
  go_ret
  exact ⟨rfl, _, _, _, H9.out.t⟩
set_option maxRecDepth 100000 in
set_option maxHeartbeats 6400000 in
theorem told_res {w0 w : World} {hb rb : Nat} {D E : Nat → Prop} {ps : Pgs} (h : Tw w0 w hb rb D E ps ps) (x : C7) (hw : x.what = 3) (hr : Rd w w0.heap.size x.A x.n (cells x.data)) (hby : IsBytes x.data) (hn : x.n ≤ 20000) :
    Calls Tryd.prog 12 #[.pointer (some ⟨hb, 0, none⟩), .pointer (some ⟨rb, 0, none⟩), c7arg x] w (ToldRet w0 hb rb) := by
  obtain ⟨b, hb'⟩ : ∃ b, b = w.heap.size := ⟨_, rfl⟩
  have hlen : x.data.length = x.n := by have := hr.len; rwa [cells_len] at this
  have HL := Lib.hid (And.intro hlen (And.intro hby hn))
  have HT := Lib.hid (h.made hr)
  rw [← hb'] at HT
  have HB := Lib.hid hb'
  have HC := Lib.hid HT.out.cells
  obtain ⟨c0, c1, c2, c3, c4⟩ := HT.out.cells
  rw [hb'] at c0 c1 c2 c3 c4
  have HWH := Lib.hid hw
  clear h hb' hr hby hlen hw
  unfold c7arg
  go_enter Tryd.func12, Tryd.ntmps12
  go_wp2_with fail
  rw [← HB.out]
  refine (copyBytes_any _ x.A x.n x.c x.data HL.out.1 (by have := HL.out.2.2; omega) HT.out.rdm).mono ?_
  rintro e w1 ⟨v1, rfl, ho1, hb1⟩
  obtain ⟨A1, k1, rfl, how1⟩ := Ow.made HT.out ho1 HL.out.1
  have H1 := Lib.hid (And.intro (HT.out.below hb1) how1)
  obtain ⟨d0, d1, d2, d3, d4⟩ := H1.out.1.cells
  clear ho1 hb1 how1 c0 c1 c2 c3 c4
  rw [HWH.out] at d0
  go_wp2_with fail
  go_region_held3 (fun w' => w'.cell? ⟨b, 2, none⟩ = some (.int .i64 x.p) ∧ w'.cell? ⟨b, 3, none⟩ = some (.int .i64 x.k) ∧ w'.cell? ⟨b, 4, none⟩ = some (.slice x.A x.n x.c))
    (first
      | exact ⟨H3.out.1.cells.2.2.1, H3.out.1.cells.2.2.2.1, H3.out.1.cells.2.2.2.2⟩
      | exact ⟨H2.out.1.cells.2.2.1, H2.out.1.cells.2.2.2.1, H2.out.1.cells.2.2.2.2⟩
      | exact ⟨d2, d3, d4⟩
      | (go_split_ands; exact ⟨‹_›, ‹_›, ‹_›⟩))
    (first
      | (go_at_call 29; refine (hs_res (H1.out.1.drewN 1).t.h x.p x.k A1 x.n k1 x.data (H1.out.2.below (below_dN (Below.refl _ _) 1)).rdx HL.out.2.1).mono ?_; rintro e w2 ⟨rfl, hS2, hc2⟩; have H2 := Lib.hid (And.intro ((H1.out.1.drewN 1).stepD hS2 hc2) ((H1.out.2.below (below_dN (Below.refl _ _) 1)).stepD hc2)); clear hS2 hc2)
      | (go_at_call 35; refine (rres_any w2 w0.heap.size rb E ps H2.out.1.t.r H1.out.1.t.h.ok H2.out.1.t.h.low.size x.p x.k x.A x.n x.c x.data H2.out.1.rdx HL.out.2.1 (by have := HL.out.2.2; omega)).mono ?_; rintro e w3 ⟨rfl, ht3⟩; have H3 := Lib.hid (And.intro (H2.out.1.stepR ht3) (H2.out.2.stepR ht3.2)); clear ht3))
  obtain ⟨e0, e1, e2, e3, e4⟩ := H3.out.1.cells
  go_wp2_with fail
  refine (same_any A1 x.A x.n x.n k1 x.c x.data x.data _ H3.out.2.rd H3.out.1.rdm (by omega)).mono ?_
  rintro e w9 ⟨rfl, hb9⟩
  have H9 := Lib.hid (H3.out.1.below hb9)
  clear hb9
  simp only [decide_true]
  go_wp2_with fail
  go_ret
  exact ⟨rfl, _, _, _, H9.out.t⟩
set_option maxRecDepth 100000 in
set_option maxHeartbeats 6400000 in
theorem told_cut {w0 w : World} {hb rb : Nat} {D E : Nat → Prop} {ps : Pgs} (h : Tw w0 w hb rb D E ps ps) (x : C7) (hw : x.what = 2) (hr : Rd w w0.heap.size x.A x.n (cells x.data)) (hby : IsBytes x.data) (hn : x.n ≤ 20000) :
    Calls Tryd.prog 12 #[.pointer (some ⟨hb, 0, none⟩), .pointer (some ⟨rb, 0, none⟩), c7arg x] w (ToldRet w0 hb rb) := by
  obtain ⟨b, hb'⟩ : ∃ b, b = w.heap.size := ⟨_, rfl⟩
  have hlen : x.data.length = x.n := by have := hr.len; rwa [cells_len] at this
  have HL := Lib.hid (And.intro hlen (And.intro hby hn))
  have HT := Lib.hid (h.made hr)
  rw [← hb'] at HT
  have HB := Lib.hid hb'
  have HC := Lib.hid HT.out.cells
  obtain ⟨c0, c1, c2, c3, c4⟩ := HT.out.cells
  rw [hb'] at c0 c1 c2 c3 c4
  have HWH := Lib.hid hw
  clear h hb' hr hby hlen hw
  unfold c7arg
  go_enter Tryd.func12, Tryd.ntmps12
  go_wp2_with fail
  rw [← HB.out]
  refine (copyBytes_any _ x.A x.n x.c x.data HL.out.1 (by have := HL.out.2.2; omega) HT.out.rdm).mono ?_
  rintro e w1 ⟨v1, rfl, ho1, hb1⟩
  obtain ⟨A1, k1, rfl, how1⟩ := Ow.made HT.out ho1 HL.out.1
  have H1 := Lib.hid (And.intro (HT.out.below hb1) how1)
  obtain ⟨d0, d1, d2, d3, d4⟩ := H1.out.1.cells
  clear ho1 hb1 how1 c0 c1 c2 c3 c4
  rw [HWH.out] at d0
  go_wp2_with fail
  go_region_held3 (fun w' => w'.cell? ⟨b, 2, none⟩ = some (.int .i64 x.p) ∧ w'.cell? ⟨b, 3, none⟩ = some (.int .i64 x.k))
    (first
      | exact ⟨H3.out.1.cells.2.2.1, H3.out.1.cells.2.2.2.1⟩
      | exact ⟨H2.out.1.cells.2.2.1, H2.out.1.cells.2.2.2.1⟩
      | exact ⟨d2, d3⟩
      | (go_split_ands; exact ⟨‹_›, ‹_›⟩))
    (first
      | (go_at_call 25; refine (hs_cut (H1.out.1.drewN 1).t.h x.p x.k).mono ?_; rintro e w2 ⟨rfl, hS2, hc2⟩; have H2 := Lib.hid (And.intro ((H1.out.1.drewN 1).stepD hS2 hc2) ((H1.out.2.below (below_dN (Below.refl _ _) 1)).stepD hc2)); clear hS2 hc2)
      | (go_at_call 34; refine (rcut_any w2 w0.heap.size rb E ps H2.out.1.t.r H1.out.1.t.h.ok H2.out.1.t.h.low.size x.p x.k).mono ?_; rintro e w3 ⟨rfl, ht3⟩; have H3 := Lib.hid (And.intro (H2.out.1.stepR ht3) (H2.out.2.stepR ht3.2)); clear ht3))
  obtain ⟨e0, e1, e2, e3, e4⟩ := H3.out.1.cells
  go_wp2_with fail
  refine (same_any A1 x.A x.n x.n k1 x.c x.data x.data _ H3.out.2.rd H3.out.1.rdm (by omega)).mono ?_
  rintro e w9 ⟨rfl, hb9⟩
  have H9 := Lib.hid (H3.out.1.below hb9)
  clear hb9
  simp only [decide_true]
  go_wp2_with fail
  go_ret
  exact ⟨rfl, _, _, _, H9.out.t⟩
set_option maxRecDepth 100000 in
set_option maxHeartbeats 6400000 in
theorem told_get {w0 w : World} {hb rb : Nat} {D E : Nat → Prop} {ps : Pgs} (h : Tw w0 w hb rb D E ps ps) (x : C7) (hw : x.what = 4) (hr : Rd w w0.heap.size x.A x.n (cells x.data)) (hby : IsBytes x.data) (hn : x.n ≤ 20000) :
    Calls Tryd.prog 12 #[.pointer (some ⟨hb, 0, none⟩), .pointer (some ⟨rb, 0, none⟩), c7arg x] w (ToldRet w0 hb rb) := by
  obtain ⟨b, hb'⟩ : ∃ b, b = w.heap.size := ⟨_, rfl⟩
  have hlen : x.data.length = x.n := by have := hr.len; rwa [cells_len] at this
  have HL := Lib.hid (And.intro hlen (And.intro hby hn))
  have HT := Lib.hid (h.made hr)
  rw [← hb'] at HT
  have HB := Lib.hid hb'
  have HC := Lib.hid HT.out.cells
  obtain ⟨c0, c1, c2, c3, c4⟩ := HT.out.cells
  rw [hb'] at c0 c1 c2 c3 c4
  have HWH := Lib.hid hw
  clear h hb' hr hby hlen hw
  unfold c7arg
  go_enter Tryd.func12, Tryd.ntmps12
  go_wp2_with fail
  rw [← HB.out]
  refine (copyBytes_any _ x.A x.n x.c x.data HL.out.1 (by have := HL.out.2.2; omega) HT.out.rdm).mono ?_
  rintro e w1 ⟨v1, rfl, ho1, hb1⟩
  obtain ⟨A1, k1, rfl, how1⟩ := Ow.made HT.out ho1 HL.out.1
  have H1 := Lib.hid (And.intro (HT.out.below hb1) how1)
  obtain ⟨d0, d1, d2, d3, d4⟩ := H1.out.1.cells
  clear ho1 hb1 how1 c0 c1 c2 c3 c4
  rw [HWH.out] at d0
  have HG := Lib.hid (hs_get H1.out.1.t.h x.p x.k)
  go_wp2_with fail
  refine HG.out.mono ?_
  rintro e w2 ⟨A2, k2, n2, rfl, hn2, ho2, _, _, hb2⟩
  have H2 := Lib.hid (And.intro (H1.out.1.below hb2) (And.intro (H1.out.2.below hb2) (And.intro hn2 ho2)))
  obtain ⟨e0, e1, e2, e3, e4⟩ := H2.out.1.cells
  have HR := Lib.hid (rget_any H2.out.1.t.r x.p x.k)
  clear hn2 ho2 hb2 HG d0 d1 d2 d3 d4
  go_wp2_with fail
  refine HR.out.mono ?_
  rintro e w3 ⟨v3, rfl, ho3, hb3⟩
  obtain ⟨A3, k3, rfl, _, _⟩ := own_shape ho3
  rw [← H2.out.2.2.1] at ho3 ⊢
  have hrd2 : Rd w3 w3.heap.size A2 n2 (cells ((getH ps x.p x.k).getD [])) := Rd.of_own (own_below H2.out.2.2.2 hb3 (Nat.le_refl _))
  have H3 := Lib.hid (And.intro (H2.out.1.below hb3) (H2.out.2.1.below hb3))
  have HS := Lib.hid (same_any A2 A3 n2 n2 k2 k3 _ _ w3 hrd2 (Rd.of_own ho3) (by have := get_small H1.out.1.t.h.ok x.p x.k; rw [← H2.out.2.2.1] at this; omega))
  clear ho3 hb3 hrd2 HR e0 e1 e2 e3 e4
  go_wp2_with fail
  refine HS.out.mono ?_
  rintro e w4 ⟨rfl, hb4⟩
  have H4 := Lib.hid (And.intro (H3.out.1.below hb4) (H3.out.2.below hb4))
  obtain ⟨e0, e1, e2, e3, e4⟩ := H4.out.1.cells
  clear hb4 HS
  simp only [decide_true]
  go_wp2_with fail
  refine (same_any A1 x.A x.n x.n k1 x.c x.data x.data _ H4.out.2.rd H4.out.1.rdm (by omega)).mono ?_
  rintro e w9 ⟨rfl, hb9⟩
  have H9 := Lib.hid (H4.out.1.below hb9)
  clear hb9
  simp only [decide_true]
  go_wp2_with fail
  go_ret
  exact ⟨rfl, _, _, _, H9.out.t⟩
set_option maxRecDepth 100000 in
set_option maxHeartbeats 6400000 in
theorem told_after {w0 w : World} {hb rb : Nat} {D E : Nat → Prop} {ps : Pgs} (h : Tw w0 w hb rb D E ps ps) (x : C7) (hw : x.what = 5) (hr : Rd w w0.heap.size x.A x.n (cells x.data)) (hby : IsBytes x.data) (hn : x.n ≤ 20000) :
    Calls Tryd.prog 12 #[.pointer (some ⟨hb, 0, none⟩), .pointer (some ⟨rb, 0, none⟩), c7arg x] w (ToldRet w0 hb rb) := by
  obtain ⟨b, hb'⟩ : ∃ b, b = w.heap.size := ⟨_, rfl⟩
  have hlen : x.data.length = x.n := by have := hr.len; rwa [cells_len] at this
  have HL := Lib.hid (And.intro hlen (And.intro hby hn))
  have HT := Lib.hid (h.made hr)
  rw [← hb'] at HT
  have HB := Lib.hid hb'
  have HC := Lib.hid HT.out.cells
  obtain ⟨c0, c1, c2, c3, c4⟩ := HT.out.cells
  rw [hb'] at c0 c1 c2 c3 c4
  have HWH := Lib.hid hw
  clear h hb' hr hby hlen hw
  unfold c7arg
  go_enter Tryd.func12, Tryd.ntmps12
  go_wp2_with fail
  rw [← HB.out]
  refine (copyBytes_any _ x.A x.n x.c x.data HL.out.1 (by have := HL.out.2.2; omega) HT.out.rdm).mono ?_
  rintro e w1 ⟨v1, rfl, ho1, hb1⟩
  obtain ⟨A1, k1, rfl, how1⟩ := Ow.made HT.out ho1 HL.out.1
  have H1 := Lib.hid (And.intro (HT.out.below hb1) how1)
  obtain ⟨d0, d1, d2, d3, d4⟩ := H1.out.1.cells
  clear ho1 hb1 how1 c0 c1 c2 c3 c4
  rw [HWH.out] at d0
  go_wp2_with fail
  go_region_held3 (fun w' => w'.cell? ⟨b, 1, none⟩ = some (.int .i64 x.nn) ∧ w'.cell? ⟨b, 2, none⟩ = some (.int .i64 x.p) ∧ w'.cell? ⟨b, 3, none⟩ = some (.int .i64 x.k))
    (first
      | exact ⟨(H4.out.1.cells).2.1, H4.out.1.cells.2.2.1, H4.out.1.cells.2.2.2.1⟩
      | exact ⟨H3.out.1.cells.2.1, H3.out.1.cells.2.2.1, H3.out.1.cells.2.2.2.1⟩
      | exact ⟨H2.out.1.cells.2.1, H2.out.1.cells.2.2.1, H2.out.1.cells.2.2.2.1⟩
      | exact ⟨d1, d2, d3⟩
      | (go_split_ands; exact ⟨‹_›, ‹_›, ‹_›⟩))
    (first
      | (go_at_call 30; refine (hs_after (H1.out.1.drewN 1).t.h x.p x.k x.nn).mono ?_; rintro e w2 ⟨A2, k2, n2, rfl, hn2, ho2, hb2⟩; have H2 := Lib.hid (And.intro ((H1.out.1.drewN 1).below hb2) (And.intro ((H1.out.2.below (below_dN (Below.refl _ _) 1)).below hb2) (And.intro hn2 ho2))); clear ho2 hb2 hn2)
      | (go_at_call 37; refine (rafter_any H2.out.1.t.r H1.out.1.t.h.ok.few x.p x.k x.nn).mono ?_; rintro e w3 ⟨A3, k3, n3, rfl, hn3, ho3, hb3⟩; have H3 := Lib.hid (And.intro (H2.out.1.below hb3) (And.intro (H2.out.2.1.below hb3) (And.intro hn3 (And.intro ho3 (own_chg H2.out.2.2.2 (F := Non) (Chg.of_below hb3) (fun _ _ hf => hf)))))); clear ho3 hb3 hn3)
      | (go_at_call 16; refine (sameRids_at A2 A3 k2 k3 n2 n3 _ w3 H2.out.2.2.1 H3.out.2.2.1 H3.out.2.2.2.2 H3.out.2.2.2.1 (aft_small H1.out.1.t.h.ok x.p x.k x.nn)).mono ?_; rintro e w4 ⟨rfl, hb4⟩; have H4 := Lib.hid (And.intro (H3.out.1.below hb4) (H3.out.2.1.below hb4)); clear hb4))
  obtain ⟨e0, e1, e2, e3, e4⟩ := H4.out.1.cells
  go_wp2_with fail
  refine (same_any A1 x.A x.n x.n k1 x.c x.data x.data _ H4.out.2.rd H4.out.1.rdm (by omega)).mono ?_
  rintro e w9 ⟨rfl, hb9⟩
  have H9 := Lib.hid (H4.out.1.below hb9)
  clear hb9
  simp only [decide_true]
  go_wp2_with fail
  go_ret
  exact ⟨rfl, _, _, _, H9.out.t⟩
set_option maxRecDepth 100000 in
set_option maxHeartbeats 6400000 in
theorem told_else {w0 w : World} {hb rb : Nat} {D E : Nat → Prop} {ps : Pgs} (h : Tw w0 w hb rb D E ps ps) (x : C7) (hw : ¬ x.what = 0 ∧ ¬ x.what = 1 ∧ ¬ x.what = 2 ∧ ¬ x.what = 3 ∧ ¬ x.what = 4 ∧ ¬ x.what = 5) (hr : Rd w w0.heap.size x.A x.n (cells x.data)) (hby : IsBytes x.data) (hn : x.n ≤ 20000) :
    Calls Tryd.prog 12 #[.pointer (some ⟨hb, 0, none⟩), .pointer (some ⟨rb, 0, none⟩), c7arg x] w (ToldRet w0 hb rb) := by
  obtain ⟨b, hb'⟩ : ∃ b, b = w.heap.size := ⟨_, rfl⟩
  have hlen : x.data.length = x.n := by have := hr.len; rwa [cells_len] at this
  have HL := Lib.hid (And.intro hlen (And.intro hby hn))
  have HT := Lib.hid (h.made hr)
  rw [← hb'] at HT
  have HB := Lib.hid hb'
  have HC := Lib.hid HT.out.cells
  obtain ⟨c0, c1, c2, c3, c4⟩ := HT.out.cells
  rw [hb'] at c0 c1 c2 c3 c4
  have HWH := Lib.hid hw
  clear h hb' hr hby hlen hw
  unfold c7arg
  go_enter Tryd.func12, Tryd.ntmps12
  go_wp2_with fail
  rw [← HB.out]
  refine (copyBytes_any _ x.A x.n x.c x.data HL.out.1 (by have := HL.out.2.2; omega) HT.out.rdm).mono ?_
  rintro e w1 ⟨v1, rfl, ho1, hb1⟩
  obtain ⟨A1, k1, rfl, how1⟩ := Ow.made HT.out ho1 HL.out.1
  have H1 := Lib.hid (And.intro (HT.out.below hb1) how1)
  obtain ⟨d0, d1, d2, d3, d4⟩ := H1.out.1.cells
  clear ho1 hb1 how1 c0 c1 c2 c3 c4
  obtain ⟨q0, q1, q2, q3, q4, q5⟩ := HWH.out
  go_wp2_with fail
  refine (same_any A1 x.A x.n x.n k1 x.c x.data x.data _ H1.out.2.rd H1.out.1.rdm (by omega)).mono ?_
  rintro e w9 ⟨rfl, hb9⟩
  have H9 := Lib.hid (H1.out.1.below hb9)
  clear hb9
  simp only [decide_true]
  go_wp2_with fail
  go_ret
  exact ⟨rfl, _, _, _, H9.out.t⟩
theorem told_any {w0 w : World} {hb rb : Nat} {D E : Nat → Prop} {ps : Pgs} (h : Tw w0 w hb rb D E ps ps) (x : C7) (hr : Rd w w0.heap.size x.A x.n (cells x.data)) (hby : IsBytes x.data) (hn : x.n ≤ 20000) :
    Calls Tryd.prog 12 #[.pointer (some ⟨hb, 0, none⟩), .pointer (some ⟨rb, 0, none⟩), c7arg x] w (ToldRet w0 hb rb) := by
  by_cases h0 : x.what = 0
  · exact told_add h x h0 hr hby hn
  by_cases h1 : x.what = 1
  · exact told_put h x h1 hr hby hn
  by_cases h2 : x.what = 2
  · exact told_cut h x h2 hr hby hn
  by_cases h3 : x.what = 3
  · exact told_res h x h3 hr hby hn
  by_cases h4 : x.what = 4
  · exact told_get h x h4 hr hby hn
  by_cases h5 : x.what = 5
  · exact told_after h x h5 hr hby hn
  exact told_else h x ⟨h0, h1, h2, h3, h4, h5⟩ hr hby hn
end Go.Proofs.YtdnegfjddpdmhaaDoor
