/-
  slices.Clone; parted: a row in two.
-/
import Derived.Test.YtiaclfldgagalaaM06
import Derived.Lib.SliceRun
import Derived.Test.YtiaclfldgagalaaM05
import Derived.Test.YtiaclfldgagalaaRows
import Derived.Deep.RegionHeld3
import Derived.StillTail
namespace Go.Proofs.Ytiaclfldgagalaa
open Go.RowKit Go.Lib

set_option maxRecDepth 100000 in
set_option maxHeartbeats 3200000 in
theorem pclone_any {w : World} {A : Option Addr} {m cc : Nat} {zs : List Value} (hl : zs.length = m) (hA : A = none → m = 0) (hc : ∀ ad, A = some ad → ∀ j u, zs[j]? = some u → w.cell? (ad.add j) = some u) (h1 : ∀ u ∈ zs, u.oneCell' = true) (hm : m ≤ 1000000) :
    Calls Try.prog 67 #[.slice A m cc] w fun r w' => ∃ A' c', r = .returned (.slice A' m c') ∧ w'.ownsRow w.heap.size 70 1 (.slice A' m c') m zs ∧ Below w.heap.size w w' ∧ (A' = none → c' = 0) := by
  obtain ⟨i0, hi, hz0, hz1, hz2⟩ := info_parts Try.infoptr
  have hq := fun (w : World) (a : Option Addr) (n c n' c' : Nat) => Lib.run_eql_slice_nil (P := Try.prog) w 59 70 a n c n' c' Try.underlying59
  rcases A with _ | ad
  · have hm0 := hA rfl
    subst hm0
    have hz : zs = [] := List.eq_nil_of_length_eq_zero (by omega)
    have HZ := Lib.hid hz
    clear hz hl hA hc h1
    go_enter Try.func67, Try.ntmps67
    go_wp2_with fail
    go_ret
    exact ⟨none, 0, rfl, by rw [HZ.out]; exact World.ownsRow_nil _ _ _ _, Below.refl _ _, fun _ => rfl⟩
  · have ho : (w.alloc (.cells #[] 70)).ownsRow w.heap.size 70 1 (.slice (some ⟨w.heap.size, 0, none⟩) 0 0) 0 [] := by
      have h9 := World.ownsRow_lit (base := w.heap.size) (size := 1) (e := 70) w #[] 0 (by simp) (by simp [maxLen]) (by simp)
      exact h9
    have H := Lib.hid (And.intro ho (And.intro hl (fun ad' (ha : some ad = some ad') j u (hu : zs[j]? = some u) => (show (w.alloc (.cells #[] 70)).cell? (ad'.add j) = some u from Lib.cell?_alloc_some _ (hc ad' ha j u hu)))))
    clear ho hl hA hc
    go_enter Try.func67, Try.ntmps67
    go_wp2_with (at_builtin; refine wpList_append_row rfl _ _ 59 rfl w.heap.size 70 i0 (.pointer none) 1 8 Try.underlying59 hi hz0 hz1 hz2 rfl (by decide) _ 0 [] H.out.1 (by rfl) (some ad) m cc zs (by rfl) (by rw [H.out.2.1, Nat.mul_one]) (fun h => by cases h) H.out.2.2 h1 (by simp [maxLen]; omega) (by omega) (by simp) ?_; intro A' c' w5 hR; have HR := Lib.hid hR; clear hR)
    go_ret
    have hR := HR.out
    rw [Nat.zero_add, List.nil_append] at hR
    refine ⟨A', c', by simp, hR.own, ?_, ?_⟩
    · exact (Chg.trans' (F := fun k => w.heap.size ≤ k) ((Chg.refl _ w).alloc _) hR.chg (fun k hk he => by cases he; exact Nat.le_refl _)).below (fun _ h => h) (Nat.le_refl _)
    · intro h
      subst h
      exact (own_nil hR.own).2.1
set_option maxRecDepth 100000 in
set_option maxHeartbeats 3200000 in
theorem pparted_any {w : World} {B n c : Nat} {A : Option Addr} {xs : List Value} (hown : w.ownsRow B 70 1 (.slice A n c) n xs) (hx1 : ∀ u ∈ xs, u.oneCell' = true) {i : Nat} (hi : i < n) (hn : n ≤ 1000000) :
    Calls Try.prog 60 #[.slice A n c, .int .i64 i] w fun r w' => ∃ A2 c2, r = .returned (.tuple #[.slice A i c, .slice A2 (n - i) c2]) ∧ RowTo B 70 1 (.slice A n c) w (.slice A i c) i (xs.take (i)) w' ∧ w'.ownsRow w.heap.size 70 1 (.slice A2 (n - i) c2) (n - i) (xs.drop (i)) := by
  obtain ⟨g, rfl⟩ := own_form' hown (by omega)
  obtain ⟨hnc, hcm⟩ := own_caps hown
  unfold maxLen at hcm
  have hxl := hown.1
  rw [Nat.mul_one] at hxl
  have hgl := hown.lt g rfl
  have hcl := pclone_any (w := w) (A := some ⟨g, i, none⟩) (m := n - i) (cc := c - i) (zs := xs.drop (i)) (by rw [List.length_drop, hxl]) (fun h => by cases h) (fun ad ha j u hu => by
    injection ha with ha
    subst ha
    rw [Addr.add_lit]
    rw [List.getElem?_drop] at hu
    exact (hown.cellAt _ (by have := (List.getElem?_eq_some_iff.1 hu).1; omega)).trans hu) (fun u hu => hx1 u (List.mem_of_mem_drop hu)) (by omega)
  have HC := Lib.hid hcl
  have HD := Lib.hid (fun (w1 : World) (hb : Below w.heap.size w w1) => pdel_any (w := w1) (own_chg hown (Chg.of_below (F := Non) hb) fun _ _ h => h) hx1 hi (Nat.le_refl n) hn)
  have H := Lib.hid (And.intro hown (And.intro hxl hgl))
  have a1 : (i : Int) ≤ (n : Int) := by omega
  have a2 : (0 : Int) ≤ (i : Int) := by omega
  have a3 : ¬ (c = i) := by omega
  have a4 : i ≤ n := by omega
  clear hown hx1 hxl hgl hcl
  go_enter Try.func60, Try.ntmps60
  go_wp2_with fail
  refine HC.out.mono ?_
  rintro r w1 ⟨A2, c2, rfl, ho2, hb1, _⟩
  have HO := Lib.hid (And.intro ho2 hb1)
  have HD1 := Lib.hid (HD.out w1 hb1)
  clear ho2 hb1
  go_wp2_with fail
  refine HD1.out.mono ?_
  rintro r w2 ⟨rfl, hR⟩
  have he : n - (n - i) = i := by omega
  have hz : xs.drop (n) = [] := List.drop_eq_nil_of_le (by rw [H.out.2.1]; exact Nat.le_refl _)
  simp only [Nat.mul_one] at hR
  rw [he, hz, List.append_nil] at hR
  have HR := Lib.hid hR
  rw [he]
  clear hR he hz
  go_wp2_with fail
  go_ret2
  refine ⟨A2, c2, rfl, ⟨HR.out.own, fun k hk => (HR.out.blk k hk).imp id fun h => Nat.le_trans HO.out.2.size h, ?_⟩, ?_⟩
  · exact (Chg.of_below (F := fun k => some g = some k) HO.out.2).trans HR.out.chg
  · refine own_chg HO.out.1 HR.out.chg fun k hk he => ?_
    have h1 := (HO.out.1.lt k hk).1
    have h2 : g = k := Option.some.inj he
    have h3 := H.out.2.2.2
    omega
end Go.Proofs.Ytiaclfldgagalaa

/-
  A page, when its rows have been changed and stored anew.
-/
namespace Go.Proofs.Ytiaclfldgagalaa
open Go.RowKit Go.Lib

theorem PgD.new {B a Kc Ic Kc' Ic' : Nat} {D : Nat → Prop} {w w6 W : World} {t : TypeId} {KA IA KA' IA' : Option Addr} {ks ks' : List En} {ps ps' : List Nat} {cs6 : Array Value} (h : PgD B D w a t KA Kc IA Ic ks ps) (hB : B ≤ w.heap.size) (hc : Chg D w w6) (hb6 : Blk w6 a t cs6)
    (ok : w6.ownsRow B 35 3 (.slice KA' ks'.length Kc') ks'.length (ecs ks')) (bk : ∀ k, (Value.slice KA' ks'.length Kc').ownBlock = some k → D k ∨ w.heap.size ≤ k)
    (oi : w6.ownsRow B 70 1 (.slice IA' ps'.length Ic') ps'.length (pcs ps')) (bi : ∀ k, (Value.slice IA' ps'.length Ic').ownBlock = some k → D k ∨ w.heap.size ≤ k)
    (hW : Chg (fun k => k = a) w6 W) (hbW : Blk W a t #[.slice KA' ks'.length Kc', .slice IA' ps'.length Ic']) : PgD B (Ext D w W) W a t KA' Kc' IA' Ic' ks' ps' ∧ Chg D w W := by
  have hcW : Chg D w W := hc.trans' hW fun k _ hk => by rw [hk]; exact h.db
  have s6 := hc.size
  have sW := hW.size
  have hte : 35 ≠ t := by rcases h.x.tt with e | e <;> rw [e] <;> decide
  have htp : 70 ≠ t := by rcases h.x.tt with e | e <;> rw [e] <;> decide
  have ext : ∀ k, D k ∨ w.heap.size ≤ k → k < w6.heap.size → Ext D w W k := fun k h h2 => h.imp id fun h => ⟨h, by omega⟩
  refine ⟨⟨⟨hbW, h.x.tt, own_chg ok hW fun k hk he => ?_, own_chg oi hW fun k hk he => ?_⟩, .inl h.db, fun k hk => ext k (bk k hk) (ok.lt k hk).2, fun k hk => ext k (bi k hk) (oi.lt k hk).2, fun k hk => ?_⟩, hcW⟩
  · subst he
    exact own_ne ok hb6 hte hk
  · subst he
    exact own_ne oi hb6 htp hk
  · rcases hk with hk | hk
    · have := h.foot k hk
      exact ⟨this.1, by omega⟩
    · exact ⟨by omega, hk.2⟩
theorem PgD.putKeys {B a Kc Ic Kc' : Nat} {D : Nat → Prop} {w w5 : World} {t : TypeId} {KA IA KA' : Option Addr} {ks ks' : List En} {ps : List Nat} (h : PgD B D w a t KA Kc IA Ic ks ps) (hB : B ≤ w.heap.size)
    (hR : RowTo B 35 3 (.slice KA ks.length Kc) w (.slice KA' ks'.length Kc') ks'.length (ecs ks') w5) :
    PgD B (Ext D w (w5.setCell ⟨a, 0, none⟩ (.slice KA' ks'.length Kc'))) (w5.setCell ⟨a, 0, none⟩ (.slice KA' ks'.length Kc')) a t KA' Kc' IA Ic ks' ps ∧ Chg D w (w5.setCell ⟨a, 0, none⟩ (.slice KA' ks'.length Kc')) := by
  have hte : 35 ≠ t := by rcases h.x.tt with e | e <;> rw [e] <;> decide
  have hna : ∀ k, (Value.slice KA ks.length Kc).ownBlock = some k → k ≠ a := fun k hk e => own_ne h.x.keys h.x.blk hte (by rw [← e]; exact hk)
  have hb5 : Blk w5 a t #[.slice KA ks.length Kc, .slice IA ps.length Ic] := h.x.blk.chg hR.chg fun e => hna a e rfl
  have hni : ∀ k, (Value.slice IA ps.length Ic).ownBlock = some k → ¬ (Value.slice KA ks.length Kc).ownBlock = some k := fun k hk e => by
    obtain ⟨c1, hc1⟩ := own_row h.x.kids k hk
    exact own_ne h.x.keys hc1 (by decide) e
  refine h.new hB (hR.chg.mono fun k _ hk => h.dk k hk) hb5 hR.own (fun k hk => (hR.blk k hk).imp (h.dk k) id) (own_chg h.x.kids hR.chg hni) (fun k hk => .inl (h.di k hk)) ((Chg.refl (fun k => k = a) w5).setCell (fun _ => rfl) _) ?_
  exact hb5.put 0 _
theorem PgD.putKids {B a Kc Ic Ic' : Nat} {D : Nat → Prop} {w w5 : World} {t : TypeId} {KA IA IA' : Option Addr} {ks : List En} {ps ps' : List Nat} (h : PgD B D w a t KA Kc IA Ic ks ps) (hB : B ≤ w.heap.size)
    (hR : RowTo B 70 1 (.slice IA ps.length Ic) w (.slice IA' ps'.length Ic') ps'.length (pcs ps') w5) :
    PgD B (Ext D w (w5.setCell ⟨a, 1, none⟩ (.slice IA' ps'.length Ic'))) (w5.setCell ⟨a, 1, none⟩ (.slice IA' ps'.length Ic')) a t KA Kc IA' Ic' ks ps' ∧ Chg D w (w5.setCell ⟨a, 1, none⟩ (.slice IA' ps'.length Ic')) := by
  have htp : 70 ≠ t := by rcases h.x.tt with e | e <;> rw [e] <;> decide
  have hna : ∀ k, (Value.slice IA ps.length Ic).ownBlock = some k → k ≠ a := fun k hk e => own_ne h.x.kids h.x.blk htp (by rw [← e]; exact hk)
  have hb5 : Blk w5 a t #[.slice KA ks.length Kc, .slice IA ps.length Ic] := h.x.blk.chg hR.chg fun e => hna a e rfl
  have hni : ∀ k, (Value.slice KA ks.length Kc).ownBlock = some k → ¬ (Value.slice IA ps.length Ic).ownBlock = some k := fun k hk e => by
    obtain ⟨c1, hc1⟩ := own_row h.x.keys k hk
    exact own_ne h.x.kids hc1 (by decide) e
  refine h.new hB (hR.chg.mono fun k _ hk => h.di k hk) hb5 (own_chg h.x.keys hR.chg hni) (fun k hk => .inl (h.dk k hk)) hR.own (fun k hk => (hR.blk k hk).imp (h.di k) id) ((Chg.refl (fun k => k = a) w5).setCell (fun _ => rfl) _) ?_
  exact hb5.put 1 _
/-- a page of two rows of one's own, in a block of its own -/
theorem PgD.key_ne {B a Kc Ic : Nat} {D : Nat → Prop} {w : World} {t : TypeId} {KA IA : Option Addr} {ks : List En} {ps : List Nat} (h : PgD B D w a t KA Kc IA Ic ks ps) : (Value.slice KA ks.length Kc).ownBlock ≠ some a ∧ (Value.slice IA ps.length Ic).ownBlock ≠ some a ∧ ∀ k, (Value.slice IA ps.length Ic).ownBlock = some k → ¬ (Value.slice KA ks.length Kc).ownBlock = some k := by
  have hte : 35 ≠ t := by rcases h.x.tt with e | e <;> rw [e] <;> decide
  have htp : 70 ≠ t := by rcases h.x.tt with e | e <;> rw [e] <;> decide
  refine ⟨own_ne h.x.keys h.x.blk hte, own_ne h.x.kids h.x.blk htp, fun k hk e => ?_⟩
  obtain ⟨c1, hc1⟩ := own_row h.x.kids k hk
  exact own_ne h.x.keys hc1 (by decide) e
end Go.Proofs.Ytiaclfldgagalaa

/-
  A region that draws its order and ends in a store to a cell that it loads: a condition on the world that need hold until that store alone.
-/
namespace Go.Proofs.Ytiaclfldgagalaa
open Go

section
variable {P : Program} {ops : Array Oper} {Q : Exit → Act → World → Prop} {md : Region.Mode} {S : World → Prop} {k : Nat}

/-- k waits for i, or for one that waits for i .. -/
def ancB (md : Region.Mode) (ops : Array Oper) : Nat → Nat → Nat → Bool
  | 0, _, _ => false
  | f + 1, k, i => Region.waitsFor md ops k i || (List.range ops.size).any fun j => Region.waitsFor md ops j i && ancB md ops f k j
/-- what is listed has all that it waits for listed -/
structure Shutd (md : Region.Mode) (ops : Array Oper) (listed : Array Bool) : Prop where
  size : listed.size = ops.size
  closed : ∀ j oj, ops[j]? = some oj → listed.getD j false = true → ∀ e ∈ oj.after, Region.binds md e = true → listed.getD e.on false = true
theorem Shutd.start : Shutd md ops (Array.replicate ops.size false) := ⟨by simp, fun j oj _ hl => (by rw [getD_replicate_false] at hl; cases hl)⟩
theorem Shutd.set {i : Nat} {listed : Array Bool} (inv : Shutd md ops listed) (hi : i ∈ Region.ready md ops listed) : Shutd md ops (listed.setIfInBounds i true) := by
  obtain ⟨_, oi, hoi, hall⟩ := mem_ready.1 hi
  refine ⟨by simp [inv.size], fun j oj hj hl e he hb => ?_⟩
  by_cases hij : i = j
  · subst hij
    obtain rfl : oj = oi := Option.some.inj (hj.symm.trans hoi)
    exact getD_set_true (hall e he hb)
  · rw [getD_set_ne false hij] at hl
    exact getD_set_true (inv.closed j oj hj hl e he hb)
theorem anc_open {listed : Array Bool} (inv : Shutd md ops listed) : ∀ (f k i : Nat), ancB md ops f k i = true → listed.getD i true = false → k ∉ Region.ready md ops listed ∧ listed.getD k true = false
  | f + 1, k, i, h, hun => by
    have step : ∀ j, Region.waitsFor md ops j i = true → j ∉ Region.ready md ops listed ∧ listed.getD j true = false := fun j hj => by
      obtain ⟨oj, hoj, e, he, hb, hon⟩ := Region.waitsFor_spec hj
      have hjs : j < listed.size := by rw [inv.size]; exact (Array.getElem?_eq_some_iff.1 hoj).1
      refine ⟨fun hr => ?_, ?_⟩
      · obtain ⟨_, o', ho', hall⟩ := mem_ready.1 hr
        obtain rfl : o' = oj := Option.some.inj (ho'.symm.trans hoj)
        have h2 := hall e he hb
        rw [hon, getD_both hun] at h2
        cases h2
      · cases hl : listed.getD j false with
        | true =>
          have h2 := inv.closed j oj hoj hl e he hb
          rw [hon, getD_both hun] at h2
          cases h2
        | false => exact getD_in hjs hl
    rw [ancB, Bool.or_eq_true] at h
    rcases h with h | h
    · exact step k h
    · obtain ⟨j, _, hj⟩ := List.any_eq_true.1 h
      rw [Bool.and_eq_true] at hj
      exact anc_open inv f k j hj.2 (step j hj.1).2

/-- whatever order is picked, and S holds behind every operation as long as k has not come up -/
def wpAnyK (P : Program) (md : Region.Mode) (ops : Array Oper) (Q : Exit → Act → World → Prop) (S : World → Prop) (k : Nat) : Nat → Array Bool → Act → World → Prop
  | 0, listed, a, w => Region.ready md ops listed = [] ∧ Q .normal a w
  | fuel + 1, listed, a, w => (Region.ready md ops listed = [] → Q .normal a w) ∧
      ∀ i ∈ Region.ready md ops listed, wpOp P ops Q i (fun a' w' => ((listed.setIfInBounds i true).getD k true = false → S w') ∧ wpAnyK P md ops Q S k fuel (listed.setIfInBounds i true) a' w') a w
theorem wpAny_of_K : ∀ (fuel : Nat) (listed : Array Bool) (a : Act) (w : World), wpAnyK P md ops Q S k fuel listed a w → wpAny P md ops Q fuel listed a w
  | 0, _, _, _, h => h
  | fuel + 1, _, _, _, h => ⟨h.1, fun i hi => wpOp_mono (fun a' w' h' => wpAny_of_K fuel _ a' w' h'.2) (h.2 i hi)⟩
/-- operation i is taken first: either it reads nothing (S' is true of all worlds), or k waits for it -/
theorem wpAnyK_first {i : Nat} {oi : Oper} {v : Value} {S' : World → Prop} (hi : ops[i]? = some oi) (hsel : ∀ (j : Nat) (o : Oper) cs b, ops[j]? = some o → o.op ≠ .select cs b)
    (hQ : ∀ c a w, Q (.panic c) (a.put oi.dst v) w → Q (.panic c) a w)
    (hS' : (∀ w, S' w) ∨ ((∀ w, S w → S' w) ∧ ∃ f, ancB md ops f k i = true)) (hki : k ≠ i) :
    ∀ (fuel : Nat) (listed : Array Bool) (a : Act) (w : World), Shutd md ops listed →
      (∀ j oj, ops[j]? = some oj → j ≠ i → listed.getD j true = false → (∀ e ∈ oj.after, Region.binds md e = true → e.on ≠ i) → oi.apart ops oj = true) →
      i ∈ Region.ready md ops listed → YieldsIf P ops S' oi v a → S' w → (listed.getD k true = false → S w) →
      wpAnyK P md ops Q S k fuel (listed.setIfInBounds i true) (a.put oi.dst v) w → wpAnyK P md ops Q S k (fuel + 1) listed a w := by
  intro fuel
  induction fuel with
  | zero =>
    intro listed a w _ _ hr hy hS _ H
    refine ⟨fun h => (by rw [h] at hr; cases hr), fun j hj => ?_⟩
    by_cases hji : j = i
    · subst hji
      exact hy.wpOp hi hS ⟨fun hk => by rw [getD_set_ne true (Ne.symm hki)] at hk; rename_i hw _; exact hw hk, H⟩
    · have := ready_mono hj hji
      rw [H.1] at this
      cases this
  | succ fuel ih =>
    intro listed a w inv hfree hr hy hS hW H
    refine ⟨fun h => (by rw [h] at hr; cases hr), fun j hj => ?_⟩
    by_cases hji : j = i
    · subst hji
      exact hy.wpOp hi hS ⟨fun hk => by rw [getD_set_ne true (Ne.symm hki)] at hk; exact hW hk, H⟩
    · have h1 := H.2 j (ready_mono hj hji)
      obtain ⟨hjun, oj, hoj, hall⟩ := mem_ready.1 hj
      have hiun := (mem_ready.1 hr).1
      have hnot : ∀ e ∈ oj.after, Region.binds md e = true → e.on ≠ i := fun e he hb heq => by
        have h2 := hall e he hb
        rw [heq, getD_both hiun] at h2
        cases h2
      have h2 := wpOp_putIf hoj (hfree j oj hoj hji hjun hnot) (fun cs b => hsel i oi cs b hi) (fun cs b => hsel j oj cs b hoj) hQ hy h1
      have hfree' : ∀ q oq, ops[q]? = some oq → q ≠ i → (listed.setIfInBounds j true).getD q true = false → (∀ e ∈ oq.after, Region.binds md e = true → e.on ≠ i) → oi.apart ops oq = true := fun q oq hq hqi hun hno => by
        refine hfree q oq hq hqi ?_ hno
        by_cases hjq : j = q
        · subst hjq; exact hjun
        · rw [getD_set_ne true hjq] at hun; exact hun
      have hiun' : (listed.setIfInBounds j true).getD i true = false := by rw [getD_set_ne true hji]; exact hiun
      refine wpOp_mono (fun a' w' h3 => ?_) h2
      obtain ⟨h3y, h3S, h3W⟩ := h3
      have hSk : (listed.setIfInBounds j true).getD k true = false → S w' := fun hk => by
        refine h3S ?_
        rw [Array.setIfInBounds_comm _ _ (Ne.symm hji), getD_set_ne true (Ne.symm hki)]
        exact hk
      have hS'w : S' w' := by
        rcases hS' with h | ⟨h, f, hf⟩
        · exact h w'
        · exact h w' (hSk (anc_open (inv.set hj) f k i hf hiun').2)
      refine ⟨hSk, ih (listed.setIfInBounds j true) a' w' (inv.set hj) hfree' (ready_mono hr (Ne.symm hji)) h3y hS'w hSk ?_⟩
      rw [Array.setIfInBounds_comm _ _ hji]
      exact h3W
/-- taken first: a load, or whatever S decides -/
theorem wpAnyK_load {i : Nat} {oi : Oper} {v : Value} {fuel : Nat} {listed : Array Bool} {a : Act} {w : World} (hi : ops[i]? = some oi) (hs : Region.noSelect ops = true) (hf : Region.free md ops listed i = true)
    (hr : (Region.ready md ops listed).contains i = true) (ha : ancB md ops 9 k i = true) (hki : (k != i) = true) (hQ : ∀ c a w, Q (.panic c) (a.put oi.dst v) w → Q (.panic c) a w) (inv : Shutd md ops listed) (hy : YieldsIf P ops S oi v a) (hS : S w)
    (h : Shutd md ops (listed.setIfInBounds i true) → wpAnyK P md ops Q S k fuel (listed.setIfInBounds i true) (a.put oi.dst v) w) : wpAnyK P md ops Q S k (fuel + 1) listed a w :=
  wpAnyK_first hi (Region.noSelect_spec hs) hQ (.inr ⟨fun _ h => h, 9, ha⟩) (by simpa using hki) fuel listed a w inv (Region.free_spec hi hf) (by simpa using hr) hy hS (fun _ => hS) (h (inv.set (by simpa using hr)))
/-- taken first: what reads nothing -/
theorem wpAnyK_pure {i : Nat} {oi : Oper} {v : Value} {fuel : Nat} {listed : Array Bool} {a : Act} {w : World} (hi : ops[i]? = some oi) (hs : Region.noSelect ops = true) (hf : Region.free md ops listed i = true)
    (hr : (Region.ready md ops listed).contains i = true) (hki : (k != i) = true) (hQ : ∀ c a w, Q (.panic c) (a.put oi.dst v) w → Q (.panic c) a w) (inv : Shutd md ops listed) (hy : YieldsIf P ops (fun _ => True) oi v a) (hW : listed.getD k true = false → S w)
    (h : Shutd md ops (listed.setIfInBounds i true) → wpAnyK P md ops Q S k fuel (listed.setIfInBounds i true) (a.put oi.dst v) w) : wpAnyK P md ops Q S k (fuel + 1) listed a w :=
  wpAnyK_first hi (Region.noSelect_spec hs) hQ (.inl fun _ => trivial) (by simpa using hki) fuel listed a w inv (Region.free_spec hi hf) (by simpa using hr) hy trivial hW (h (inv.set (by simpa using hr)))
/-- one alone may come up -/
theorem wpAnyK_one {i : Nat} {oi : Oper} {fuel : Nat} {listed : Array Bool} {a : Act} {w : World} (hr : Region.ready md ops listed = [i]) (hi : ops[i]? = some oi) (inv : Shutd md ops listed)
    (h : ∀ K' : Act → World → Prop, Shut (∀ a w, (((listed.setIfInBounds i true).getD k true = false) → S w) → (Shutd md ops (listed.setIfInBounds i true) → wpAnyK P md ops Q S k fuel (listed.setIfInBounds i true) a w) → K' a w) → if Region.wanted oi (yielded ops a.tmps) = true then Oper.wp P oi a w K' Q else K' (a.put oi.dst undef) w) :
    wpAnyK P md ops Q S k (fuel + 1) listed a w := by
  refine ⟨fun h0 => (by rw [hr] at h0; cases h0), fun j hj => ?_⟩
  rw [hr] at hj
  obtain rfl : j = i := by simpa using hj
  exact wpOp_step hi fun K' hK => h K' fun a w hS hW => hK a w ⟨hS, hW (inv.set (by rw [hr]; exact List.mem_singleton.2 rfl))⟩
/-- one of two -/
theorem wpAnyK_two {i j : Nat} {oi oj : Oper} {fuel : Nat} {listed : Array Bool} {a : Act} {w : World} (hr : Region.ready md ops listed = [i, j]) (hi : ops[i]? = some oi) (hj : ops[j]? = some oj) (inv : Shutd md ops listed)
    (h : ∀ K' : Act → World → Prop, Shut (∀ a w, (((listed.setIfInBounds i true).getD k true = false) → S w) → (Shutd md ops (listed.setIfInBounds i true) → wpAnyK P md ops Q S k fuel (listed.setIfInBounds i true) a w) → K' a w) → if Region.wanted oi (yielded ops a.tmps) = true then Oper.wp P oi a w K' Q else K' (a.put oi.dst undef) w)
    (h' : ∀ K' : Act → World → Prop, Shut (∀ a w, (((listed.setIfInBounds j true).getD k true = false) → S w) → (Shutd md ops (listed.setIfInBounds j true) → wpAnyK P md ops Q S k fuel (listed.setIfInBounds j true) a w) → K' a w) → if Region.wanted oj (yielded ops a.tmps) = true then Oper.wp P oj a w K' Q else K' (a.put oj.dst undef) w) :
    wpAnyK P md ops Q S k (fuel + 1) listed a w := by
  refine ⟨fun h0 => (by rw [hr] at h0; cases h0), fun q hq => ?_⟩
  rw [hr] at hq
  rcases List.mem_cons.1 hq with rfl | hq
  · exact wpOp_step hi fun K' hK => h K' fun a w hS hW => hK a w ⟨hS, hW (inv.set (by rw [hr]; simp))⟩
  · obtain rfl : q = j := by simpa using hq
    exact wpOp_step hj fun K' hK => h' K' fun a w hS hW => hK a w ⟨hS, hW (inv.set (by rw [hr]; simp))⟩
theorem wpAnyK_done {listed : Array Bool} {a : Act} {w : World} (hr : Region.ready md ops listed = []) (h : Q .normal a w) : ∀ fuel, wpAnyK P md ops Q S k fuel listed a w
  | 0 => ⟨hr, h⟩
  | _ + 1 => ⟨fun _ => h, by rw [hr]; simp⟩
theorem wp_region_K {id : Nat} {a : Act} {w : World} (S : World → Prop) (k : Nat) (hm : P.follows .mixedOrders = true) (hS : S w.drew)
    (h : S w.drew → Shutd .any ops (Array.replicate ops.size false) → wpAnyK P .any ops Q S k ops.size (Array.replicate ops.size false) a w.drew) : (Code.region id ops true).wp P Q a w :=
  wp_region_any hm (wpAny_of_K _ _ _ _ (h hS Shutd.start))
end
end Go.Proofs.Ytiaclfldgagalaa

/-
  two pages' rows go together.
-/
namespace Go.Proofs.Ytiaclfldgagalaa
open Go.RowKit Go.Lib
theorem ob {A : Option Addr} {n c n' c' k : Nat} (h : (Value.slice A n c).ownBlock = some k) : (Value.slice A n' c').ownBlock = some k := by
  cases A with
  | none => cases h
  | some a => exact h
/-- two rows are read, and the first one grows by the second one -/
theorem reads_row {w : World} {B s n c : Nat} {e : TypeId} {A : Option Addr} {xs : List Value} (h : w.ownsRow B e s (.slice A n c) n xs) : (A = none → n = 0) ∧ ∀ ad, A = some ad → ∀ j u, xs[j]? = some u → w.cell? (ad.add j) = some u := by
  rcases own_form2 h with ⟨rfl, rfl, _, rfl⟩ | ⟨g, rfl⟩
  · exact ⟨fun _ => rfl, fun ad h => (by cases h)⟩
  · refine ⟨fun h => (by cases h), fun ad ha => ?_⟩
    injection ha with ha
    subst ha
    exact h.cells (g := g) rfl
end Go.Proofs.Ytiaclfldgagalaa
