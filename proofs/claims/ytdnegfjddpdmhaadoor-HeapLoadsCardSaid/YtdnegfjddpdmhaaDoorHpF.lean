/-
  The contract of change, at each of the three closures.
-/
import Derived.Test.YtdnegfjddpdmhaaDoorHpE
namespace Go.Proofs.YtdnegfjddpdmhaaDoor
open Go.RowKit Go.Lib

def chgN (ps : Pgs) (k : Nat) (r : Option (List Slot)) : Pgs := match r with
  | some s => setH ps k s
  | none => ps

/-- the pages with those up to a place behind them, beside the heap as it was -/
structure PadAt (w : World) (B hb : Nat) (D : Nat → Prop) (v0 : Value) (xs : List Pv) (k : Nat) (v : Value) (ys : List Pv) (wr : World) : Prop where
  hx : HpX B (Ext D w wr) wr hb v0 xs
  own : wr.ownsRow B 33 1 v ys.length (pvals ys)
  pg : ∀ y ∈ ys, y.Ok (Ext D w wr) wr
  dom : ∀ k, v.ownBlock = some k → Ext D w wr k
  sl : pslots ys = padH (pslots xs) ys.length
  lo : xs.length ≤ ys.length
  hi : ys.length ≤ max xs.length (k + 1)
  chg : Chg D w wr
section
variable {w w1 w2 w3 wr : World} {B hb k : Nat} {D : Nat → Prop} {v0 v v' : Value} {xs ys : List Pv}
theorem PadAt.start (h : HpX B D w hb v xs) : PadAt w B hb D v xs k v xs w := by
  have hm : ∀ k, D k → Ext D w w k := fun k hk => .inl hk
  exact ⟨h.mono hm fun k hk => hk.elim (fun hk => h.foot k hk) fun hk => by omega, h.own, fun x hx => (h.pg x hx).mono hm, fun k hk => .inl (h.domv k hk), by rw [padH_le (by rw [pslots_len]; exact Nat.le_refl _)], Nat.le_refl _, by omega, Chg.refl _ _⟩
theorem padH_succ {ps : Pgs} {m : Nat} (h : ps.length ≤ m) : padH ps (m + 1) = padH ps m ++ [[]] := by
  unfold padH
  rw [show m + 1 - ps.length = m - ps.length + 1 by omega, List.replicate_succ', List.append_assoc]
theorem Ext.mono2 {D : Nat → Prop} (h : wr.heap.size ≤ w3.heap.size) : ∀ k, Ext D w wr k → Ext D w w3 k := fun k hk => hk.elim .inl fun h1 => .inr ⟨h1.1, Nat.lt_of_lt_of_le h1.2 h⟩
theorem img_nil : imgP [] = zeros := by decide +kernel
/-- a page more -/
theorem PadAt.step (h : PadAt w B hb D v0 xs k v ys wr) (hB : B ≤ w.heap.size) (hk : ys.length ≤ k) {g : Nat} (hz : Blk w1 g 5 (cells zeros).toArray) (hg : wr.heap.size ≤ g) (hb1 : Below wr.heap.size wr w1) (o : Obj) (hw2 : w2 = w1.alloc o)
    (hgr : w2.grownBy w3 v.ownBlock) (hown : w3.ownsRow B 33 1 v' (ys.length + 1) (pvals ys ++ [.slice (some ⟨g, 0, none⟩) 256 256])) (H : Nat) (hH : w2.heap.size = H) (hat : v'.ownBlock = v.ownBlock ∨ v'.ownBlock = some H) (hold : w3.ownsRow B 33 1 v0 xs.length (pvals xs)) :
    PadAt w B hb D v0 xs k v' (ys ++ [⟨some ⟨g, 0, none⟩, 256, []⟩]) w3 := by
  have hb2 : Below wr.heap.size wr w2 := by rw [hw2]; exact hb1.alloc hb1.size _
  subst hH
  have s1 := hb2.size
  have s2 := hgr.size
  have s0 := h.chg.size
  have hz2 : Blk w2 g 5 (cells zeros).toArray := by rw [hw2]; exact hz.alloc _
  have hne : ∀ {k : Nat} {t : TypeId} {cs : Array Value}, Blk wr k t cs → t ≠ 33 → v.ownBlock ≠ some k := fun hbk ht => own_ne h.own hbk (Ne.symm ht)
  have hmono := Ext.mono2 (w := w) (D := D) (wr := wr) (w3 := w3) (by omega)
  have hc23 : Chg (fun j => v.ownBlock = some j) w2 w3 := (Chg.refl (fun j => v.ownBlock = some j) w2).grown hgr (fun j hj _ => hj)
  have hpgs : ∀ y : Pv, y.Ok (Ext D w wr) wr → y.Ok (Ext D w w3) w3 := fun y hy =>
    ((hy.keep (w' := w2) fun j hj => hb2.block j (h.hx.foot j hj).2).chg hc23 (fun j cs hj hbk => by
      obtain ⟨cur, hc⟩ := own_row h.own j hj
      have hlt := hc.lt
      exact Blk.ne (hc.below hb2 hlt) hbk (by decide) rfl)).mono hmono
  have hcw : Chg D w w3 := by
    refine Chg.grown (w := w2) ?_ hgr (fun j hj hjl => ?_)
    · exact h.chg.trans' (G := Non) (Chg.of_below hb2) fun _ _ x => x.elim
    · rcases h.dom j hj with h1 | h1
      · exact h1
      · omega
  refine ⟨⟨?_, hold, fun x hx => hpgs x (h.hx.pg x hx), hmono _ h.hx.domh, fun j hj => hmono _ (h.hx.domv j hj), fun j hj => ?_⟩, by simpa [pvals, Pv.val] using hown, fun y hy => ?_, fun j hj => ?_, ?_, ?_, ?_, hcw⟩
  · exact ((h.hx.blk.below hb2 h.hx.blk.lt).chg hc23 (hne h.hx.blk (by decide)))
  · rcases hj with hj | hj
    · have := h.hx.foot j (.inl hj); omega
    · exact ⟨by omega, hj.2⟩
  · rcases List.mem_append.1 hy with hy | hy
    · exact hpgs y (h.pg y hy)
    · rw [List.mem_singleton.1 hy]
      have hgl : ¬ v.ownBlock = some g := fun e => by
        obtain ⟨cur, hc⟩ := own_row h.own g e
        have := hc.lt
        omega
      have hz3 := hz2.chg hc23 hgl
      refine ⟨?_, GoodP.nil, fun j hj => ?_⟩
      · have h1 := own_blk (base := 0) hz3 (Nat.zero_le _) (by rw [zeros_len]; simp [maxLen])
        rw [zeros_len] at h1
        show w3.ownsRow 0 _ 1 (.slice (some ⟨g, 0, none⟩) 256 256) 256 (cells (imgP []))
        rw [img_nil]
        exact h1
      · cases hj
        exact .inr ⟨by show w.heap.size ≤ g; omega, hz3.lt⟩
  · rcases hat with e | e
    · exact hmono _ (h.dom j (by rw [← e]; exact hj))
    · rw [e] at hj
      cases hj
      exact .inr ⟨by omega, (hown.lt _ e).2⟩
  · rw [show pslots (ys ++ [(⟨some ⟨g, 0, none⟩, 256, []⟩ : Pv)]) = pslots ys ++ [[]] by simp [pslots], h.sl, List.length_append, List.length_singleton, padH_succ (by rw [pslots_len]; exact h.lo)]
  · have := h.lo; simp; omega
  · simp; omega
end

/-- the page is stored in the row, the row in the struct -/
theorem padAt_done {w wr w4 : World} {B hb k g c : Nat} {D C : Nat → Prop} {v0 : Value} {xs ys : List Pv} (h : PadAt w B hb D v0 xs k (.slice (some ⟨g, 0, none⟩) ys.length c) ys wr) (hB : B ≤ w.heap.size) (hk : k < ys.length) (hC : ∀ k, C k → k < w.heap.size ∧ ¬ D k)
    (hc : Chg C wr w4) {y : Pv} (hy : y.Ok (fun j => wr.heap.size ≤ j ∧ j < w4.heap.size) w4) {w5 : World} (hw5 : w5 = (w4.setCell ⟨g, k, none⟩ y.val).setCell ⟨hb, 0, none⟩ (.slice (some ⟨g, 0, none⟩) ys.length c)) :
    HpV B (Ext D w w5) w5 hb (setH (pslots xs) k y.s) ∧ Chg (fun j => D j ∨ C j) w w5 ∧ ∀ j, C j → w5.heap[j]? = w4.heap[j]? := by
  have s0 := h.chg.size
  have s1 := hc.size
  have hdis : ∀ j, Ext D w wr j → ¬ C j := Ext.disj (fun j hd hcj => (hC j hcj).2 hd) (fun j hcj => (hC j hcj).1)
  have hx4 := h.hx.chg hc hdis
  have hown4 := own_chg h.own hc (fun j hj => hdis j (h.dom j hj))
  have hpg4 : ∀ z ∈ ys, z.Ok (Ext D w wr) w4 := fun z hz => (h.pg z hz).keep fun j hj => hc.block j (h.hx.foot j hj).2 (hdis j hj)
  have hst := hown4.stored k y.val
  obtain ⟨w6, hw6⟩ : ∃ w6, w6 = w4.setCell ⟨g, k, none⟩ y.val := ⟨_, rfl⟩
  have s6 : w6.heap.size = w4.heap.size := by rw [hw6]; simp [World.setCell]
  have s5 : w5.heap.size = w4.heap.size := by rw [hw5]; simp [World.setCell]
  have hgE : Ext D w wr g := h.dom g rfl
  have hgh : g ≠ hb := fun e => by
    obtain ⟨cur, hcu⟩ := own_row h.own g rfl
    exact Blk.ne hcu h.hx.blk (by decide) e
  have hc46 : Chg (fun j => j = g) w4 w6 := by rw [hw6]; exact (Chg.refl (fun j => j = g) w4).setCell (p := ⟨g, k, none⟩) (fun _ => rfl) _
  have hc65 : Chg (fun j => j = hb) w6 w5 := by rw [hw5, ← hw6]; exact (Chg.refl (fun j => j = hb) w6).setCell (p := ⟨hb, 0, none⟩) (fun _ => rfl) _
  obtain ⟨cur4, hcu4⟩ := own_row hown4 g rfl
  have hty : ∀ z E, Pv.Ok E w4 z → Pv.Ok E w5 z := fun z E hz => by
    refine (hz.chg hc46 (fun j cs hj hbk => ?_)).chg hc65 (fun j cs hj hbk => ?_)
    · subst hj; exact Blk.ne hcu4 hbk (by decide) rfl
    · subst hj
      exact Blk.ne (hx4.blk.chg hc46 (Ne.symm hgh)) hbk (by decide) rfl
  have hmono := Ext.mono2 (w := w) (D := D) (wr := wr) (w3 := w5) (by omega)
  have hlv : (pvals ys).set k y.val = pvals (ys.set k y) := by simp [pvals, List.map_set]
  rw [hlv] at hst
  refine ⟨⟨.slice (some ⟨g, 0, none⟩) ys.length c, ys.set k y, ⟨?_, ?_, fun z hz => ?_, hmono _ h.hx.domh, fun j hj => hmono _ (h.dom j hj), fun j hj => ?_⟩, ?_⟩, ?_, fun j hj => ?_⟩
  · have h6 : Blk w6 hb 67 #[v0] := hx4.blk.chg hc46 (Ne.symm hgh)
    have h7 := h6.put 0 (.slice (some ⟨g, 0, none⟩) ys.length c)
    rw [hw5, ← hw6]
    exact h7
  · rw [hw5, List.length_set]
    exact own_set hst.1 (fun e => hgh (by simpa [Value.ownBlock] using e)) _
  · rcases List.mem_or_eq_of_mem_set hz with hz | rfl
    · exact (hty z _ (hpg4 z hz)).mono hmono
    · exact (hty z _ hy).mono fun j hj => .inr ⟨by omega, by omega⟩
  · rcases hj with hj | hj
    · have := h.hx.foot j (.inl hj); omega
    · exact ⟨by omega, hj.2⟩
  · rw [show pslots (ys.set k y) = (pslots ys).set k y.s by simp [pslots, List.map_set], h.sl]
    unfold setH
    congr 1
    have h1 := h.lo
    have h2 := h.hi
    rcases Nat.lt_or_ge xs.length (k + 1) with h3 | h3
    · rw [show ys.length = k + 1 by omega]
    · rw [padH_le (by rw [pslots_len]; omega), padH_le (by rw [pslots_len]; omega)]
  · have h1 : Chg (fun j => D j ∨ C j) w w4 := (h.chg.mono fun j _ hj => .inl hj).trans' hc fun j _ hj => .inr hj
    have h2 : Chg (fun j => j = g ∨ j = hb) w4 w5 := (hc46.mono fun j _ hj => .inl hj).trans' hc65 fun j _ hj => .inr hj
    refine h1.trans' h2 fun j hj hjj => ?_
    rcases hjj with rfl | rfl
    · exact hgE.elim .inl fun h => by omega
    · exact h.hx.domh.elim .inl fun h => by omega
  · have hjl := (hC j hj).1
    rw [hc65.block j (by omega) (fun e => hdis j (e ▸ h.hx.domh) hj), hc46.block j (by omega) (fun e => hdis j (e ▸ hgE) hj)]
/-- no page is made: the heap is as it was -/
theorem padAt_not {w wr w4 : World} {B hb k : Nat} {D C : Nat → Prop} {v0 v : Value} {xs ys : List Pv} (h : PadAt w B hb D v0 xs k v ys wr) (hB : B ≤ w.heap.size) (hC : ∀ k, C k → k < w.heap.size ∧ ¬ D k) (hc : Chg C wr w4) :
    HpV B (Ext D w w4) w4 hb (pslots xs) ∧ Chg (fun j => D j ∨ C j) w w4 := by
  have s0 := h.chg.size
  have hdis : ∀ j, Ext D w wr j → ¬ C j := Ext.disj (fun j hd hcj => (hC j hcj).2 hd) (fun j hcj => (hC j hcj).1)
  have hmono := Ext.mono2 (w := w) (D := D) (wr := wr) (w3 := w4) hc.size
  refine ⟨⟨v0, xs, (h.hx.chg hc hdis).mono hmono fun j hj => ?_, rfl⟩, (h.chg.mono fun j _ hj => .inl hj).trans' hc fun j _ hj => .inr hj⟩
  rcases hj with hj | hj
  · have h1 := h.hx.foot j (.inl hj); have := hc.size; omega
  · exact ⟨by omega, hj.2⟩

set_option maxRecDepth 100000 in
set_option maxHeartbeats 3200000 in
theorem change_add (w : World) (B hb : Nat) (D : Nat → Prop) (ps : Pgs) (h : HpV B D w hb ps) (hfew : ps.length ≤ 256) (k : Nat) (hk : k ≤ 255) (hB : B ≤ w.heap.size) (b1 b2 : Nat) (C : Nat → Prop) (hC : ∀ j, C j → j < w.heap.size ∧ ¬ D j)
    (Post : World → Prop) (hpost : ∀ a b : World, (∀ j, C j → b.heap[j]? = a.heap[j]?) → Post a → Post b) (r : Option (List Slot))
    (hmk : ∀ (w1 : World) (x : Pv), Chg D w w1 → PgOk w1 x → x.s = pgAt ps k → Calls Tryd.prog 46 #[.slice x.A 256 x.c, .pointer (some ⟨b1, 0, none⟩), .pointer (some ⟨b2, 0, none⟩)] w1 (MkRet r C Post w1)) :
    Calls Tryd.prog 48 #[.pointer (some ⟨hb, 0, none⟩), .int .i64 k, .func (.func 46) #[] #[.pointer (some ⟨b1, 0, none⟩), .pointer (some ⟨b2, 0, none⟩)]] w fun e w' => e = .returned (.bool r.isSome) ∧ HpV B (Ext D w w') w' hb (chgN ps k r) ∧ Chg (fun j => D j ∨ C j) w w' ∧ Post w' := by
  obtain ⟨v0, xs, hx, rfl⟩ := h
  obtain ⟨i0, hi, hz0, hz1, hz2⟩ := info_parts Tryd.dkinfo22
  rw [pslots_len] at hfew
  have HST := Lib.hid (PadAt.start (k := k) hx)
  have hc0 := hx.blk.cell 0
  simp only [List.getElem?_toArray, List.getElem?_cons_zero] at hc0
  have HM := Lib.hid hmk
  have HP := Lib.hid (And.intro hC hpost)
  have hk0 : (0 : Int) ≤ (k : Int) := Int.natCast_nonneg _
  clear hmk hx hC hpost
  go_enter Tryd.func48, Tryd.ntmps48
  go_wp2_with fail
  go_loopw [7] (fun v wr => ∃ ys, PadAt w B hb D v0 xs k v ys wr) (fun v _ => match v with | .slice _ m _ => k + 1 - m | _ => 0)
  case atStart => exact ⟨_, HST.out⟩
  case round =>
    obtain ⟨ys, hp⟩ := hrel
    obtain ⟨A, c, rfl, hnc, hcm⟩ := own_shape hp.own
    have hhi := hp.hi
    obtain ⟨m, hm⟩ : ∃ m, m = ys.length := ⟨_, rfl⟩
    have HPD := Lib.hid hp
    have HMM := Lib.hid hm
    have hm257 : m ≤ 257 := by omega
    have hm0 : (0 : Int) ≤ (m : Int) := Int.natCast_nonneg _
    clear hp hhi
    rw [← hm] at hnc ⊢
    clear hm
    by_cases hlt : m ≤ k
    · have hlt1 : (m : Int) ≤ (k : Int) := by omega
      go_wp2_with fail
      refine (new_any wr).mono ?_
      rintro e w1 ⟨g, rfl, hz, hg, hb1⟩
      have HN := Lib.hid (And.intro hz (And.intro hg hb1))
      have hown1 := own_below HPD.out.own hb1 (Nat.le_refl _)
      have hold1 := own_below HPD.out.hx.own hb1 (Nat.le_refl _)
      rw [← HMM.out] at hown1
      clear hz hg hb1
      go_wp2_with (at_builtin; refine wpList_append_old _ rfl (.tmp 18) (.tmp 20) 38 rfl B 33 i0 (.slice none 0 0) 1 24 Tryd.underlying38 hi hz0 hz1 hz2 rfl (by decide) _ m _ rfl (hown1.alloc _) v0 xs.length _ (hold1.alloc _) (by have h1 := HPD.out.lo; have h2 := HMM.out; omega) ⟨w1.heap.size, 0, none⟩ 1 1 [.slice (some ⟨g, 0, none⟩) 256 256] rfl rfl (cell_one_new _ _ _) ?c2 ?c6 ?c3 ?c4 ?c5 ?_)
      case c2 => intro u hu; simp at hu; subst hu; rfl
      case c6 => omega
      case c3 => first | (unfold maxLen; omega) | (simp [maxLen]; omega)
      case c4 => first | omega | (simp; omega)
      case c5 => have h1 := HN.out.2.2.size; have h2 := HPD.out.chg.size; simp; omega
      intro v5 w5 hown5 hgr5 hat5 hold5
      rw [HMM.out] at hown5 hgr5 hat5
      have hstep := HPD.out.step hB (by have := HMM.out; omega) HN.out.1 HN.out.2.1 HN.out.2.2 _ rfl hgr5 hown5 _ (by simp) hat5 hold5
      obtain ⟨A5, c5, rfl, _, _⟩ := own_shape hown5
      have HS := Lib.hid (show ∃ ys, PadAt w B hb D v0 xs k (.slice A5 (m + 1) c5) ys w5 from ⟨_, by rw [HMM.out]; exact hstep⟩)
      rw [← HMM.out]
      clear hown5 hgr5 hat5 hold5 hstep hown1 hold1
      go_wp2_with fail
      go_roundw
      case rel => exact HS.out
      case measure => show k + 1 - (m + 1) < k + 1 - m; omega
    · have hlt1 : ¬ ((m : Int) ≤ (k : Int)) := by omega
      have hkm : (k : Int) < (m : Int) := by omega
      have hkm' : k < m := by omega
      obtain ⟨g, cap, hv, hgb, hlt2⟩ := HPD.out.own.form (by have := HMM.out; omega)
      injection hv with e1 e2 e3
      subst e1
      subst e3
      have hky : k < ys.length := by have := HMM.out; omega
      have hcl := HPD.out.own.cellAt k (by omega)
      rw [pvals_at hky] at hcl
      obtain ⟨x, hx⟩ : ∃ x, x = ys[k] := ⟨_, rfl⟩
      have hxo := HPD.out.pg ys[k] (List.getElem_mem hky)
      have hxs : ys[k].s = pgAt (pslots xs) k := by
        have h1 := pgAt_slots (xs := ys) hky
        rw [HPD.out.sl] at h1
        rw [← h1, pgAt, padH_at _ _ _ (by omega)]
        rfl
      rw [← hx] at hcl hxo hxs
      unfold Pv.val at hcl
      have HC := Lib.hid (HM.out wr x HPD.out.chg ⟨hxo.sl, hxo.good⟩ hxs)
      clear hxo hxs hx
      go_wp2_with fail
      refine HC.out.mono ?_
      rintro e w4 ⟨v4, rfl, hyes, hch, hpst⟩
      have HY := Lib.hid (And.intro hyes (And.intro hch hpst))
      clear hyes hch hpst
      have hdis : ∀ j, Ext D w wr j → ¬ C j := Ext.disj (fun j hd hcj => (HP.out.1 j hcj).2 hd) (fun j hcj => (HP.out.1 j hcj).1)
      cases hr : r with
      | none =>
        subst hr
        have HF := Lib.hid (padAt_not HPD.out hB HP.out.1 HY.out.2.1)
        clear hdis
        simp only [Option.isSome_none]
        go_wp2_with fail
        go_ret
        exact ⟨rfl, HF.out.1, HF.out.2, HY.out.2.2⟩
      | some s =>
        subst hr
        obtain ⟨y, rfl, hys, hyo⟩ := HY.out.1 s rfl
        have hown4 := own_chg HPD.out.own HY.out.2.1 (fun j hj => hdis j (HPD.out.dom j hj))
        have hx4 := HPD.out.hx.chg HY.out.2.1 hdis
        have hgh : hb ≠ g := fun e => by
          obtain ⟨cur, hcu⟩ := own_row HPD.out.own g rfl
          exact Blk.ne hcu HPD.out.hx.blk (by decide) e.symm
        have hcl4 := hown4.cellAt k (by omega)
        rw [pvals_at hky] at hcl4
        have hfz4 := hown4.frozenAt k
        have hb4 := hx4.blk.far (p := ⟨g, k, none⟩) hgh y.val
        have hh4 := hb4.cell 0
        simp only [List.getElem?_toArray, List.getElem?_cons_zero] at hh4
        have hhf := hb4.frozen 0
        have HF := Lib.hid (padAt_done (y := y) HPD.out hB (by have := HMM.out; omega) HP.out.1 HY.out.2.1 hyo rfl)
        rw [hys, ← HMM.out] at HF
        unfold Pv.val at hcl4 hh4 hhf HF ⊢
        clear hdis hown4 hx4 hb4 hyo hcl
        simp only [Option.isSome_some]
        go_wp2_with fail
        go_ret
        exact ⟨rfl, HF.out.1, HF.out.2.1, HP.out.2 _ _ HF.out.2.2 HY.out.2.2⟩

set_option maxRecDepth 100000 in
set_option maxHeartbeats 3200000 in
theorem change_set (w : World) (B hb : Nat) (D : Nat → Prop) (ps : Pgs) (h : HpV B D w hb ps) (hfew : ps.length ≤ 256) (k : Nat) (hk : k ≤ 255) (hB : B ≤ w.heap.size) (b1 b2 : Nat) (C : Nat → Prop) (hC : ∀ j, C j → j < w.heap.size ∧ ¬ D j)
    (Post : World → Prop) (hpost : ∀ a b : World, (∀ j, C j → b.heap[j]? = a.heap[j]?) → Post a → Post b) (r : Option (List Slot))
    (hmk : ∀ (w1 : World) (x : Pv), Chg D w w1 → PgOk w1 x → x.s = pgAt ps k → Calls Tryd.prog 79 #[.slice x.A 256 x.c, .pointer (some ⟨b1, 0, none⟩), .pointer (some ⟨b2, 0, none⟩)] w1 (MkRet r C Post w1)) :
    Calls Tryd.prog 48 #[.pointer (some ⟨hb, 0, none⟩), .int .i64 k, .func (.func 79) #[] #[.pointer (some ⟨b1, 0, none⟩), .pointer (some ⟨b2, 0, none⟩)]] w fun e w' => e = .returned (.bool r.isSome) ∧ HpV B (Ext D w w') w' hb (chgN ps k r) ∧ Chg (fun j => D j ∨ C j) w w' ∧ Post w' := by
  obtain ⟨v0, xs, hx, rfl⟩ := h
  obtain ⟨i0, hi, hz0, hz1, hz2⟩ := info_parts Tryd.dkinfo22
  rw [pslots_len] at hfew
  have HST := Lib.hid (PadAt.start (k := k) hx)
  have hc0 := hx.blk.cell 0
  simp only [List.getElem?_toArray, List.getElem?_cons_zero] at hc0
  have HM := Lib.hid hmk
  have HP := Lib.hid (And.intro hC hpost)
  have hk0 : (0 : Int) ≤ (k : Int) := Int.natCast_nonneg _
  clear hmk hx hC hpost
  go_enter Tryd.func48, Tryd.ntmps48
  go_wp2_with fail
  go_loopw [7] (fun v wr => ∃ ys, PadAt w B hb D v0 xs k v ys wr) (fun v _ => match v with | .slice _ m _ => k + 1 - m | _ => 0)
  case atStart => exact ⟨_, HST.out⟩
  case round =>
    obtain ⟨ys, hp⟩ := hrel
    obtain ⟨A, c, rfl, hnc, hcm⟩ := own_shape hp.own
    have hhi := hp.hi
    obtain ⟨m, hm⟩ : ∃ m, m = ys.length := ⟨_, rfl⟩
    have HPD := Lib.hid hp
    have HMM := Lib.hid hm
    have hm257 : m ≤ 257 := by omega
    have hm0 : (0 : Int) ≤ (m : Int) := Int.natCast_nonneg _
    clear hp hhi
    rw [← hm] at hnc ⊢
    clear hm
    by_cases hlt : m ≤ k
    · have hlt1 : (m : Int) ≤ (k : Int) := by omega
      go_wp2_with fail
      refine (new_any wr).mono ?_
      rintro e w1 ⟨g, rfl, hz, hg, hb1⟩
      have HN := Lib.hid (And.intro hz (And.intro hg hb1))
      have hown1 := own_below HPD.out.own hb1 (Nat.le_refl _)
      have hold1 := own_below HPD.out.hx.own hb1 (Nat.le_refl _)
      rw [← HMM.out] at hown1
      clear hz hg hb1
      go_wp2_with (at_builtin; refine wpList_append_old _ rfl (.tmp 18) (.tmp 20) 38 rfl B 33 i0 (.slice none 0 0) 1 24 Tryd.underlying38 hi hz0 hz1 hz2 rfl (by decide) _ m _ rfl (hown1.alloc _) v0 xs.length _ (hold1.alloc _) (by have h1 := HPD.out.lo; have h2 := HMM.out; omega) ⟨w1.heap.size, 0, none⟩ 1 1 [.slice (some ⟨g, 0, none⟩) 256 256] rfl rfl (cell_one_new _ _ _) ?c2 ?c6 ?c3 ?c4 ?c5 ?_)
      case c2 => intro u hu; simp at hu; subst hu; rfl
      case c6 => omega
      case c3 => first | (unfold maxLen; omega) | (simp [maxLen]; omega)
      case c4 => first | omega | (simp; omega)
      case c5 => have h1 := HN.out.2.2.size; have h2 := HPD.out.chg.size; simp; omega
      intro v5 w5 hown5 hgr5 hat5 hold5
      rw [HMM.out] at hown5 hgr5 hat5
      have hstep := HPD.out.step hB (by have := HMM.out; omega) HN.out.1 HN.out.2.1 HN.out.2.2 _ rfl hgr5 hown5 _ (by simp) hat5 hold5
      obtain ⟨A5, c5, rfl, _, _⟩ := own_shape hown5
      have HS := Lib.hid (show ∃ ys, PadAt w B hb D v0 xs k (.slice A5 (m + 1) c5) ys w5 from ⟨_, by rw [HMM.out]; exact hstep⟩)
      rw [← HMM.out]
      clear hown5 hgr5 hat5 hold5 hstep hown1 hold1
      go_wp2_with fail
      go_roundw
      case rel => exact HS.out
      case measure => show k + 1 - (m + 1) < k + 1 - m; omega
    · have hlt1 : ¬ ((m : Int) ≤ (k : Int)) := by omega
      have hkm : (k : Int) < (m : Int) := by omega
      have hkm' : k < m := by omega
      obtain ⟨g, cap, hv, hgb, hlt2⟩ := HPD.out.own.form (by have := HMM.out; omega)
      injection hv with e1 e2 e3
      subst e1
      subst e3
      have hky : k < ys.length := by have := HMM.out; omega
      have hcl := HPD.out.own.cellAt k (by omega)
      rw [pvals_at hky] at hcl
      obtain ⟨x, hx⟩ : ∃ x, x = ys[k] := ⟨_, rfl⟩
      have hxo := HPD.out.pg ys[k] (List.getElem_mem hky)
      have hxs : ys[k].s = pgAt (pslots xs) k := by
        have h1 := pgAt_slots (xs := ys) hky
        rw [HPD.out.sl] at h1
        rw [← h1, pgAt, padH_at _ _ _ (by omega)]
        rfl
      rw [← hx] at hcl hxo hxs
      unfold Pv.val at hcl
      have HC := Lib.hid (HM.out wr x HPD.out.chg ⟨hxo.sl, hxo.good⟩ hxs)
      clear hxo hxs hx
      go_wp2_with fail
      refine HC.out.mono ?_
      rintro e w4 ⟨v4, rfl, hyes, hch, hpst⟩
      have HY := Lib.hid (And.intro hyes (And.intro hch hpst))
      clear hyes hch hpst
      have hdis : ∀ j, Ext D w wr j → ¬ C j := Ext.disj (fun j hd hcj => (HP.out.1 j hcj).2 hd) (fun j hcj => (HP.out.1 j hcj).1)
      cases hr : r with
      | none =>
        subst hr
        have HF := Lib.hid (padAt_not HPD.out hB HP.out.1 HY.out.2.1)
        clear hdis
        simp only [Option.isSome_none]
        go_wp2_with fail
        go_ret
        exact ⟨rfl, HF.out.1, HF.out.2, HY.out.2.2⟩
      | some s =>
        subst hr
        obtain ⟨y, rfl, hys, hyo⟩ := HY.out.1 s rfl
        have hown4 := own_chg HPD.out.own HY.out.2.1 (fun j hj => hdis j (HPD.out.dom j hj))
        have hx4 := HPD.out.hx.chg HY.out.2.1 hdis
        have hgh : hb ≠ g := fun e => by
          obtain ⟨cur, hcu⟩ := own_row HPD.out.own g rfl
          exact Blk.ne hcu HPD.out.hx.blk (by decide) e.symm
        have hcl4 := hown4.cellAt k (by omega)
        rw [pvals_at hky] at hcl4
        have hfz4 := hown4.frozenAt k
        have hb4 := hx4.blk.far (p := ⟨g, k, none⟩) hgh y.val
        have hh4 := hb4.cell 0
        simp only [List.getElem?_toArray, List.getElem?_cons_zero] at hh4
        have hhf := hb4.frozen 0
        have HF := Lib.hid (padAt_done (y := y) HPD.out hB (by have := HMM.out; omega) HP.out.1 HY.out.2.1 hyo rfl)
        rw [hys, ← HMM.out] at HF
        unfold Pv.val at hcl4 hh4 hhf HF ⊢
        clear hdis hown4 hx4 hb4 hyo hcl
        simp only [Option.isSome_some]
        go_wp2_with fail
        go_ret
        exact ⟨rfl, HF.out.1, HF.out.2.1, HP.out.2 _ _ HF.out.2.2 HY.out.2.2⟩

set_option maxRecDepth 100000 in
set_option maxHeartbeats 3200000 in
theorem change_cut (w : World) (B hb : Nat) (D : Nat → Prop) (ps : Pgs) (h : HpV B D w hb ps) (hfew : ps.length ≤ 256) (k : Nat) (hk : k ≤ 255) (hB : B ≤ w.heap.size) (b1 : Nat) (C : Nat → Prop) (hC : ∀ j, C j → j < w.heap.size ∧ ¬ D j)
    (Post : World → Prop) (hpost : ∀ a b : World, (∀ j, C j → b.heap[j]? = a.heap[j]?) → Post a → Post b) (r : Option (List Slot))
    (hmk : ∀ (w1 : World) (x : Pv), Chg D w w1 → PgOk w1 x → x.s = pgAt ps k → Calls Tryd.prog 52 #[.slice x.A 256 x.c, .pointer (some ⟨b1, 0, none⟩)] w1 (MkRet r C Post w1)) :
    Calls Tryd.prog 48 #[.pointer (some ⟨hb, 0, none⟩), .int .i64 k, .func (.func 52) #[] #[.pointer (some ⟨b1, 0, none⟩)]] w fun e w' => e = .returned (.bool r.isSome) ∧ HpV B (Ext D w w') w' hb (chgN ps k r) ∧ Chg (fun j => D j ∨ C j) w w' ∧ Post w' := by
  obtain ⟨v0, xs, hx, rfl⟩ := h
  obtain ⟨i0, hi, hz0, hz1, hz2⟩ := info_parts Tryd.dkinfo22
  rw [pslots_len] at hfew
  have HST := Lib.hid (PadAt.start (k := k) hx)
  have hc0 := hx.blk.cell 0
  simp only [List.getElem?_toArray, List.getElem?_cons_zero] at hc0
  have HM := Lib.hid hmk
  have HP := Lib.hid (And.intro hC hpost)
  have hk0 : (0 : Int) ≤ (k : Int) := Int.natCast_nonneg _
  clear hmk hx hC hpost
  go_enter Tryd.func48, Tryd.ntmps48
  go_wp2_with fail
  go_loopw [7] (fun v wr => ∃ ys, PadAt w B hb D v0 xs k v ys wr) (fun v _ => match v with | .slice _ m _ => k + 1 - m | _ => 0)
  case atStart => exact ⟨_, HST.out⟩
  case round =>
    obtain ⟨ys, hp⟩ := hrel
    obtain ⟨A, c, rfl, hnc, hcm⟩ := own_shape hp.own
    have hhi := hp.hi
    obtain ⟨m, hm⟩ : ∃ m, m = ys.length := ⟨_, rfl⟩
    have HPD := Lib.hid hp
    have HMM := Lib.hid hm
    have hm257 : m ≤ 257 := by omega
    have hm0 : (0 : Int) ≤ (m : Int) := Int.natCast_nonneg _
    clear hp hhi
    rw [← hm] at hnc ⊢
    clear hm
    by_cases hlt : m ≤ k
    · have hlt1 : (m : Int) ≤ (k : Int) := by omega
      go_wp2_with fail
      refine (new_any wr).mono ?_
      rintro e w1 ⟨g, rfl, hz, hg, hb1⟩
      have HN := Lib.hid (And.intro hz (And.intro hg hb1))
      have hown1 := own_below HPD.out.own hb1 (Nat.le_refl _)
      have hold1 := own_below HPD.out.hx.own hb1 (Nat.le_refl _)
      rw [← HMM.out] at hown1
      clear hz hg hb1
      go_wp2_with (at_builtin; refine wpList_append_old _ rfl (.tmp 18) (.tmp 20) 38 rfl B 33 i0 (.slice none 0 0) 1 24 Tryd.underlying38 hi hz0 hz1 hz2 rfl (by decide) _ m _ rfl (hown1.alloc _) v0 xs.length _ (hold1.alloc _) (by have h1 := HPD.out.lo; have h2 := HMM.out; omega) ⟨w1.heap.size, 0, none⟩ 1 1 [.slice (some ⟨g, 0, none⟩) 256 256] rfl rfl (cell_one_new _ _ _) ?c2 ?c6 ?c3 ?c4 ?c5 ?_)
      case c2 => intro u hu; simp at hu; subst hu; rfl
      case c6 => omega
      case c3 => first | (unfold maxLen; omega) | (simp [maxLen]; omega)
      case c4 => first | omega | (simp; omega)
      case c5 => have h1 := HN.out.2.2.size; have h2 := HPD.out.chg.size; simp; omega
      intro v5 w5 hown5 hgr5 hat5 hold5
      rw [HMM.out] at hown5 hgr5 hat5
      have hstep := HPD.out.step hB (by have := HMM.out; omega) HN.out.1 HN.out.2.1 HN.out.2.2 _ rfl hgr5 hown5 _ (by simp) hat5 hold5
      obtain ⟨A5, c5, rfl, _, _⟩ := own_shape hown5
      have HS := Lib.hid (show ∃ ys, PadAt w B hb D v0 xs k (.slice A5 (m + 1) c5) ys w5 from ⟨_, by rw [HMM.out]; exact hstep⟩)
      rw [← HMM.out]
      clear hown5 hgr5 hat5 hold5 hstep hown1 hold1
      go_wp2_with fail
      go_roundw
      case rel => exact HS.out
      case measure => show k + 1 - (m + 1) < k + 1 - m; omega
    · have hlt1 : ¬ ((m : Int) ≤ (k : Int)) := by omega
      have hkm : (k : Int) < (m : Int) := by omega
      have hkm' : k < m := by omega
      obtain ⟨g, cap, hv, hgb, hlt2⟩ := HPD.out.own.form (by have := HMM.out; omega)
      injection hv with e1 e2 e3
      subst e1
      subst e3
      have hky : k < ys.length := by have := HMM.out; omega
      have hcl := HPD.out.own.cellAt k (by omega)
      rw [pvals_at hky] at hcl
      obtain ⟨x, hx⟩ : ∃ x, x = ys[k] := ⟨_, rfl⟩
      have hxo := HPD.out.pg ys[k] (List.getElem_mem hky)
      have hxs : ys[k].s = pgAt (pslots xs) k := by
        have h1 := pgAt_slots (xs := ys) hky
        rw [HPD.out.sl] at h1
        rw [← h1, pgAt, padH_at _ _ _ (by omega)]
        rfl
      rw [← hx] at hcl hxo hxs
      unfold Pv.val at hcl
      have HC := Lib.hid (HM.out wr x HPD.out.chg ⟨hxo.sl, hxo.good⟩ hxs)
      clear hxo hxs hx
      go_wp2_with fail
      refine HC.out.mono ?_
      rintro e w4 ⟨v4, rfl, hyes, hch, hpst⟩
      have HY := Lib.hid (And.intro hyes (And.intro hch hpst))
      clear hyes hch hpst
      have hdis : ∀ j, Ext D w wr j → ¬ C j := Ext.disj (fun j hd hcj => (HP.out.1 j hcj).2 hd) (fun j hcj => (HP.out.1 j hcj).1)
      cases hr : r with
      | none =>
        subst hr
        have HF := Lib.hid (padAt_not HPD.out hB HP.out.1 HY.out.2.1)
        clear hdis
        simp only [Option.isSome_none]
        go_wp2_with fail
        go_ret
        exact ⟨rfl, HF.out.1, HF.out.2, HY.out.2.2⟩
      | some s =>
        subst hr
        obtain ⟨y, rfl, hys, hyo⟩ := HY.out.1 s rfl
        have hown4 := own_chg HPD.out.own HY.out.2.1 (fun j hj => hdis j (HPD.out.dom j hj))
        have hx4 := HPD.out.hx.chg HY.out.2.1 hdis
        have hgh : hb ≠ g := fun e => by
          obtain ⟨cur, hcu⟩ := own_row HPD.out.own g rfl
          exact Blk.ne hcu HPD.out.hx.blk (by decide) e.symm
        have hcl4 := hown4.cellAt k (by omega)
        rw [pvals_at hky] at hcl4
        have hfz4 := hown4.frozenAt k
        have hb4 := hx4.blk.far (p := ⟨g, k, none⟩) hgh y.val
        have hh4 := hb4.cell 0
        simp only [List.getElem?_toArray, List.getElem?_cons_zero] at hh4
        have hhf := hb4.frozen 0
        have HF := Lib.hid (padAt_done (y := y) HPD.out hB (by have := HMM.out; omega) HP.out.1 HY.out.2.1 hyo rfl)
        rw [hys, ← HMM.out] at HF
        unfold Pv.val at hcl4 hh4 hhf HF ⊢
        clear hdis hown4 hx4 hb4 hyo hcl
        simp only [Option.isSome_some]
        go_wp2_with fail
        go_ret
        exact ⟨rfl, HF.out.1, HF.out.2.1, HP.out.2 _ _ HF.out.2.2 HY.out.2.2⟩
end Go.Proofs.YtdnegfjddpdmhaaDoor
