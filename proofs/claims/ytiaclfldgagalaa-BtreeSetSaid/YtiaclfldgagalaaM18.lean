/-
  A struct stored into a block that is known whole. Imports nothing of the program's but its rows.
-/
import Derived.Test.YtiaclfldgagalaaM03
import Derived.Deep.MidRow
import Derived.Deep.RegionHeld3
import Derived.Test.YtiaclfldgagalaaM17
namespace Go.Proofs.Ytiaclfldgagalaa
open Go.RowKit Go.Lib

/-- cells stored into a block that is known whole: a splice -/
theorem Blk.setCells {g : Nat} {t : TypeId} (cs : List Value) : ∀ (cur : List Value) (w : World) (o : Nat), Blk w g t cur.toArray → o + cs.length ≤ cur.length → Blk (w.setCells g o cs) g t (splice cur o cs).toArray := by
  induction cs with
  | nil => intro cur w o h _; show Blk w g t _; simpa [splice] using h
  | cons v cs ih =>
    intro cur w o h hl
    simp only [List.length_cons] at hl
    have h1 := h.put o v
    rw [show (cur.toArray.setIfInBounds o v) = (cur.set o v).toArray by simp] at h1
    have h2 := ih (cur.set o v) (w.setCell ⟨g, o, none⟩ v) (o + 1) h1 (by simp; omega)
    show Blk ((w.setCell ⟨g, o, none⟩ v).setCells g (o + 1) cs) g t _
    rw [show splice cur o (v :: cs) = splice (cur.set o v) (o + 1) cs by
      unfold splice
      rw [List.take_set, List.drop_set_of_lt (by omega)]
      have e : (cur.take (o + 1)).set o v = cur.take o ++ [v] := by
        rw [List.take_succ_eq_append_getElem (by omega), List.set_append_right _ _ (by simp; omega)]
        simp [Nat.min_eq_left (show o ≤ cur.length by omega)]
      rw [e, List.length_cons, show o + (cs.length + 1) = o + 1 + cs.length by omega]
      simp]
    exact h2


section
variable {P : Program} {w : World} {ops : Array Oper} {rest : List Oper} {o : Oper} {a : Act} {Q : Exit → Act → World → Prop}
/-- a whole array or struct stored into a block that is known whole -/
theorem wp_store_blk {K : Act → World → Prop} (ty : TypeId) (x y : Operand) (ho : o.op = .store ty x y)
    (g off : Nat) (cs : List Value) (hx : a.eval x = .pointer (some ⟨g, off, none⟩)) (hy : a.eval y = .agg cs.toArray)
    (cur : List Value) (t : TypeId) (hg : Blk w g t cur.toArray) (hfit : off + cs.length ≤ cur.length) (hi : (P.info? ty).map (·.size) = some cs.length) (h1 : ∀ v ∈ cs, v.oneCell' = true)
    (h : ∀ w', Blk w' g t (splice cur off cs).toArray → Chg (fun k => k = g) w w' → w'.heap.size = w.heap.size → K (a.put o.dst undef) w') : o.wp P a w K Q := by
  refine wp_store_mid ty x y ho g off cs.toArray hx hy ?_ (by simpa using hi) (by simpa using h1) ?_
  · intro j hj
    refine ⟨?_, hg.frozen _⟩
    rw [hg.cell]
    simp at hj
    simp; omega
  · exact h _ (Blk.setCells cs cur w off hg hfit) ((Chg.refl (fun k => k = g) w).setCells (fun _ => rfl) _) (setCells_size _ _ _ _)
theorem wpList_store_blk (hgd : o.guard = none) (ty : TypeId) (x y : Operand) (ho : o.op = .store ty x y)
    (g off : Nat) (cs : List Value) (hx : a.eval x = .pointer (some ⟨g, off, none⟩)) (hy : a.eval y = .agg cs.toArray)
    (cur : List Value) (t : TypeId) (hg : Blk w g t cur.toArray) (hfit : off + cs.length ≤ cur.length) (hi : (P.info? ty).map (·.size) = some cs.length) (h1 : ∀ v ∈ cs, v.oneCell' = true)
    (h : ∀ w', Blk w' g t (splice cur off cs).toArray → Chg (fun k => k = g) w w' → w'.heap.size = w.heap.size → wpList P ops Q rest (a.put o.dst undef) w') : wpList P ops Q (o :: rest) a w :=
  wpList_plain hgd fun _ hK => wp_store_blk ty x y ho g off cs hx hy cur t hg hfit hi h1 fun w' a b c => hK _ _ (h w' a b c)

theorem step_store_blk {K : Act → World → Prop} {E : Prop} (hgd : o.guard = none) (ty : TypeId) (x y : Operand) (ho : o.op = .store ty x y)
    (g off : Nat) (cs : List Value) (hx : a.eval x = .pointer (some ⟨g, off, none⟩)) (hy : a.eval y = .agg cs.toArray)
    (cur : List Value) (t : TypeId) (hg : Blk w g t cur.toArray) (hfit : off + cs.length ≤ cur.length) (hi : (P.info? ty).map (·.size) = some cs.length) (h1 : ∀ v ∈ cs, v.oneCell' = true)
    (h : ∀ w', Blk w' g t (splice cur off cs).toArray → Chg (fun k => k = g) w w' → w'.heap.size = w.heap.size → K (a.put o.dst undef) w') :
    if Region.wanted o (yielded ops a.tmps) = true then Oper.wp P o a w K Q else E := by
  have hw : Region.wanted o (yielded ops a.tmps) = true := by simp [Region.wanted, hgd]
  rw [if_pos hw]
  exact wp_store_blk ty x y ho g off cs hx hy cur t hg hfit hi h1 h
end
end Go.Proofs.Ytiaclfldgagalaa

/-
  Pages.
-/
namespace Go.Proofs.Ytiaclfldgagalaa
open Go.RowKit Go.Lib

theorem Try.infotp : (Try.prog.info? 50).map (fun i => (i.zero, i.size, i.bytes)) = some (some (.agg #[.bool false, .slice none 0 0, .slice none 0 0]), 3, 56) := by kernel_rfl
theorem Try.infoint : (Try.prog.info? 3).map (fun i => (i.zero, i.size, i.bytes)) = some (some (.int .i64 0), 1, 8) := by kernel_rfl
theorem bl_alloc {w w' : World} (h : Below w.heap.size w w') (o : Obj) : Below w.heap.size w (w'.alloc o) := h.alloc h.size o
theorem bl_drew {w w' : World} (h : Below w.heap.size w w') : Below w.heap.size w w'.drew := ⟨h.os, h.tape, h.output, h.size, h.block⟩
theorem Try.sztp : (Try.prog.info? 50).map (·.size) = some 3 := by kernel_rfl
/-- what the loop over the pages holds -/
def PgRel {d : Nat} (K B : Nat) (w0 : World) (t : Tr d) (lv pv iv : Value) (wr : World) : Prop :=
  ∃ (LA : Option Addr) (n lc : Nat) (PA : Option Addr) (N pc : Nat) (ps : List Tp) (ql : List Qe), lv = .slice LA n lc ∧ pv = .slice PA N pc ∧ iv = .int .i64 n ∧ PgSt K B w0 t wr LA n lc PA N pc ps ql
theorem PgSt.first {K B d tb : Nat} {D : Nat → Prop} {w : World} {t : Tr d} (h : Sub B D w tb t) (hR : Root K t) : PgSt K B w t (w.alloc (.cells #[.pointer (some ⟨tb, 0, none⟩)] 70)) none 0 0 (some ⟨w.heap.size, 0, none⟩) 1 1 [] [⟨d, tb, D, t⟩] := by
  refine ⟨(Below.refl _ w).alloc (Nat.le_refl _) _, World.ownsRow_nil _ _ _ _, ?_, fun x hx => (by cases hx), fun y hy => ?_, Bfs.nil hR, rfl, rfl⟩
  · exact own_of_cur (cur := [.pointer (some ⟨tb, 0, none⟩)]) (Blk.new w 70 #[.pointer (some ⟨tb, 0, none⟩)]) (Nat.le_refl _) (Nat.le_refl _) (by simp [maxLen]) rfl _ rfl
  · rw [List.mem_singleton] at hy
    subst hy
    exact h
set_option maxRecDepth 100000 in
set_option maxHeartbeats 6400000 in
theorem pages_any {K0 B : Nat} {D : Nat → Prop} {w : World} {tb : Nat} {l : List En} (h : TreeV K0 B D w tb l) (hl : l.length ≤ 1000000) :
    Calls Try.prog 20 #[.pointer (some ⟨tb, 0, none⟩)] w fun r w' => ∃ A n c ps, r = .returned (.slice A n c) ∧ n = ps.length ∧ PgsIn w' A ps ∧ PgsOk K0 ps l ∧ Below w.heap.size w w' := by
  obtain ⟨d, t, hS, hR, rfl⟩ := h
  have hsz : szT t ≤ 1000001 := by have := sz_root hR; omega
  have H0 := Lib.hid (PgSt.first hS hR)
  have HR := Lib.hid hR
  clear hS hR hl
  go_enter Try.func20, Try.ntmps20
  go_wp2_with fail
  obtain ⟨M, hM⟩ : ∃ M, M = szT t := ⟨_, rfl⟩
  rw [← hM] at hsz
  have HM := Lib.hid hM
  clear hM
  go_loopw [3, 4, 5] (fun lv pv iv wr => PgRel K0 B w t lv pv iv wr) (fun _ _ iv _ => M - (Lib.intOf iv).toNat)
  case atStart => exact ⟨none, 0, 0, _, 1, 1, [], _, rfl, rfl, rfl, H0.out⟩
  case round =>
    obtain ⟨LA, n, lc, PA, N, pc, ps, ql, rfl, rfl, rfl, hI⟩ := hrel
    have hn0 : (0 : Int) ≤ (n : Int) := Int.natCast_nonneg _
    have hN0 : (0 : Int) ≤ (N : Int) := Int.natCast_nonneg _
    have HI := Lib.hid hI
    have hNM : N ≤ M := by
      have h1 := hI.bfs.few
      rw [List.length_map, ← hI.lN] at h1
      rw [HM.out]
      exact h1
    have hnN : n ≤ N := by
      have h1 := hI.bfs.le
      rw [List.length_map, ← hI.lN, ← hI.ln] at h1
      exact h1
    clear hI
    by_cases hlt : n < N
    · have hlt1 : (n : Int) < (N : Int) := by omega
      have hnq : n < ql.length := by rw [← HI.out.lN]; exact hlt
      obtain ⟨g, rfl⟩ := own_form' HI.out.pages (by omega)
      have a0 : wr.cell? ⟨g, n, none⟩ = some (.pointer (some ⟨ql[n].p, 0, none⟩)) := by
        rw [HI.out.pages.cellAt n (by omega), pcs_at (by rw [List.length_map]; exact hnq), List.getElem_map]
      obtain ⟨y, hy⟩ : ∃ y, y = ql[n] := ⟨_, rfl⟩
      rw [← hy] at a0
      have hyq : ql[n]? = some y := by rw [List.getElem?_eq_getElem hnq, hy]
      have hym : y ∈ ql := List.mem_of_getElem? hyq
      obtain ⟨D0, kl, hpv, hkl, hks⟩ := sub_open y (HI.out.sub y hym)
      obtain ⟨hcn, hk4, _⟩ := HI.out.bfs.ok y.rt (List.mem_map.2 ⟨y, hym, rfl⟩)
      change (keysT y.t).length ≤ 4 at hk4
      obtain ⟨tt, KA0, Kc0, IA0, Ic0, hpd⟩ := hpv
      have hbw := HI.out.low
      have b0 := hbw.cell (p := ⟨y.p, 0, none⟩) hpd.x.blk.lt
      have b1 := hbw.cell (p := ⟨y.p, 1, none⟩) hpd.x.blk.lt
      rw [hpd.cells.1] at b0
      rw [hpd.cells.2] at b1
      have CE0 : ∀ w', Below w.heap.size w w' → w'.cell? ⟨y.p, 0, none⟩ = some (.slice KA0 (keysT y.t).length Kc0) := fun w' hb' => (hb'.cell (p := ⟨y.p, 0, none⟩) hpd.x.blk.lt).trans hpd.cells.1
      have hkp : kl.length ≤ 5 := by
        have h1 : (kidsR y.rt).length = kl.length := by rw [hkl, List.length_map]
        have h2 := hcn
        obtain ⟨yd, yp, yD, yt⟩ := y
        cases yd with
        | zero => rw [← h1]; exact Nat.zero_le _
        | succ yd =>
          have h3 : (kidsR ⟨yd + 1, yt⟩).length = yt.2.length := by show (yt.2.map _).length = _; rw [List.length_map]
          have h4 : yt.2.length = yt.1.length + 1 := h2.1
          have h5 : yt.1.length ≤ 4 := hk4
          have h6 : (kidsR ⟨yd + 1, yt⟩).length = kl.length := h1
          omega
      have HLF : ∀ w', Below w.heap.size w w' → Calls Try.prog 40 #[.pointer (some ⟨y.p, 0, none⟩)] w' fun r w'' => r = .returned (.bool kl.isEmpty) ∧ w' = w'' := fun w' hb' => by
        have h1 := leaf_any (PgV.chg (F := Non) ⟨tt, KA0, Kc0, IA0, Ic0, hpd⟩ (Chg.of_below hb') fun _ _ hf => hf) (by rw [List.length_map]; omega)
        rw [show (kl.map Qe.p).isEmpty = kl.isEmpty by cases kl <;> rfl] at h1
        exact h1
      obtain ⟨nk, hnk⟩ : ∃ nk, nk = (keysT y.t).length := ⟨_, rfl⟩
      have hkown := hpd.x.keys
      rw [← hnk] at b0 hkown CE0
      have CE1 : ∀ w', Below w.heap.size w w' → w'.cell? ⟨y.p, 1, none⟩ = some (.slice IA0 kl.length Ic0) := fun w' hb' => by
        have h1 := (hb'.cell (p := ⟨y.p, 1, none⟩) hpd.x.blk.lt).trans hpd.cells.2
        rw [List.length_map] at h1
        exact h1
      have CKD : ∀ w', Below w.heap.size w w' → ∀ j (hj : j < kl.length), ∃ gk, IA0 = some ⟨gk, 0, none⟩ ∧ w'.cell? ⟨gk, j, none⟩ = some (.pointer (some ⟨kl[j].p, 0, none⟩)) := fun w' hb' j hj => by
        have ho := own_chg hpd.x.kids (F := Non) (Chg.of_below hb') fun _ _ hf => hf
        have hjm : j < (kl.map Qe.p).length := by rw [List.length_map]; exact hj
        obtain ⟨gk, rfl⟩ := own_form' ho (by omega)
        refine ⟨gk, rfl, ?_⟩
        rw [ho.cellAt j (by omega), pcs_at hjm, List.getElem_map]
      have HCL : ∀ w', Below w.heap.size w w' → Calls Try.prog 41 #[.slice KA0 nk Kc0] w' fun r w'' => ∃ A' c', r = .returned (.slice A' nk c') ∧ w''.ownsRow w'.heap.size 35 3 (.slice A' nk c') nk (ecs (keysT y.t)) ∧ Below w'.heap.size w' w'' ∧ (A' = none → c' = 0) := fun w' hb' => by
        have ho := own_chg hkown (F := Non) (Chg.of_below hb') fun _ _ hf => hf
        refine eclone_any ho.1 (fun e => ?_) (fun ad ha j u hu => ?_) (ecs_one _) (by omega)
        · rw [e] at ho
          exact (own_nil ho).1
        · rw [ha] at ho
          obtain ⟨gg, hgg⟩ := own_form2 ho |>.elim (fun h => by cases h.1) id
          injection hgg with hgg
          subst hgg
          exact ho.cells rfl j u hu
      have HKL := Lib.hid (And.intro hkl (And.intro hks (And.intro hyq hnk)))
      obtain ⟨K, hK⟩ : ∃ K, K = kl.length := ⟨_, rfl⟩
      rw [List.length_map, ← hK] at b1
      have HKK := Lib.hid hK
      rw [← hK] at hkp
      have HLFH := Lib.hid HLF
      have HCLH := Lib.hid HCL
      have HPD := Lib.hid hpd
      have HCE1 := Lib.hid CE1
      have HCKD := Lib.hid CKD
      rw [← hK] at HCE1
      clear CE1 CKD
      have hnk4 : nk ≤ 4 := by rw [hnk]; exact hk4
      clear HLF HCL hpd hkown hkl hks hyq hnk hK hcn hk4 hy hym hbw
      obtain ⟨p, hp⟩ : ∃ p, p = y.p := ⟨_, rfl⟩
      rw [← hp] at a0 b0 b1 HLFH CE0 HCE1
      have CE := Lib.hid CE0
      clear CE0
      have HP := Lib.hid hp
      clear hp
      go_upto_region 7 with fail
      go_cut [7] (fun v wx => ∃ tg KA Kc, v = .pointer (some ⟨tg, 0, none⟩) ∧ wr.heap.size ≤ tg ∧ Blk wx tg 50 #[.bool kl.isEmpty, .slice KA nk Kc, .slice none 0 0] ∧ wx.ownsRow wr.heap.size 35 3 (.slice KA nk Kc) nk (ecs (keysT y.t)) ∧ Below wr.heap.size wr wx)
      case first =>
        have hlow := HI.out.low
        let T0 : Obj := .cells #[.bool false, .slice none 0 0, .slice none 0 0] 50
        have CF := Lib.hid (fun w' (hb' : Below w.heap.size w w') => show w'.cell? ⟨p, 0, none⟩ = some (.slice KA0 nk Kc0) from CE.out w' hb')
        refine wp_region_held_drew (S := fun w' => w'.cell? ⟨p, 0, none⟩ = some (.slice KA0 nk Kc0)) (by kernel_rfl) b0 (fun hHeld => ?_)
        obtain ⟨wd, hwd⟩ : ∃ wd, wd = wr.drew := ⟨_, rfl⟩
        have hds : wd.heap.size = wr.heap.size := by rw [hwd]; rfl
        have hbd : Below w.heap.size w wd := by rw [hwd]; exact bl_drew hlow
        have hbr : Below wr.heap.size wr wd := by rw [hwd]; exact bl_drew (Below.refl _ wr)
        rw [← hwd] at hHeld ⊢
        have HDS := Lib.hid hds
        clear hwd hds
        refine wpAnyH_take (i := 0) (v := ?_) rfl (by kernel_rfl) (by kernel_rfl) (by kernel_rfl) (fun _ _ _ h => h) (Or.inl ⟨by rfl, ?_⟩) (by assumption) ?_
        rotate_left
        · (intro w hSw; (try dsimp only at hSw); go_simp; (try with_reducible rfl))
        (try simp only [Act.put, List.getElem_toArray, List.getElem_cons_zero, List.setIfInBounds_toArray, List.set_cons_zero, List.set_cons_succ])
        refine wpAnyH_take (i := 2) (v := ?_) rfl (by kernel_rfl) (by kernel_rfl) (by kernel_rfl) (fun _ _ _ h => h) (Or.inl ⟨by rfl, ?_⟩) (by assumption) ?_
        rotate_left
        · (intro w hSw; (try dsimp only at hSw); go_simp; (try with_reducible rfl))
        (try simp only [Act.put, List.getElem_toArray, List.getElem_cons_succ, List.getElem_cons_zero, List.setIfInBounds_toArray, List.set_cons_zero, List.set_cons_succ])
        refine wpAnyH_take (i := 3) (v := ?_) rfl (by kernel_rfl) (by kernel_rfl) (by kernel_rfl) (fun _ _ _ h => h) (Or.inl ⟨by rfl, ?_⟩) (by assumption) ?_
        rotate_left
        · (intro w hSw; (try dsimp only at hSw); go_simp; (try with_reducible rfl))
        (try simp only [Act.put, List.getElem_toArray, List.getElem_cons_succ, List.getElem_cons_zero, List.setIfInBounds_toArray, List.set_cons_zero, List.set_cons_succ])
        refine wpAnyH_take (i := 4) (v := ?_) rfl (by kernel_rfl) (by kernel_rfl) (by kernel_rfl) (fun _ _ _ h => h) (Or.inl ⟨by rfl, ?_⟩) (by assumption) ?_
        rotate_left
        · (intro w hSw; (try dsimp only at hSw); go_simp; (try with_reducible rfl))
        (try simp only [Act.put, List.getElem_toArray, List.getElem_cons_succ, List.getElem_cons_zero, List.setIfInBounds_toArray, List.set_cons_zero, List.set_cons_succ])
        refine wpAnyH_take (i := 5) (v := ?_) rfl (by kernel_rfl) (by kernel_rfl) (by kernel_rfl) (fun _ _ _ h => h) (Or.inl ⟨by rfl, ?_⟩) (by assumption) ?_
        rotate_left
        · (intro w hSw; (try dsimp only at hSw); go_simp; (try with_reducible rfl))
        (try simp only [Act.put, List.getElem_toArray, List.getElem_cons_succ, List.getElem_cons_zero, List.setIfInBounds_toArray, List.set_cons_zero, List.set_cons_succ])
        refine wpAnyH_ready (rs := [1, 8]) (by kernel_rfl) (by simp) ?_
        refine AllReadyH.cons rfl (fun K hK => ?_) (AllReadyH.cons rfl (fun K hK => ?_) AllReadyH.nil)
        · go_simp
          refine (HLFH.out _ (by repeat (first | assumption | refine bl_drew ?_ | refine bl_alloc ?_ _))).mono ?_
          rintro r w5 ⟨rfl, rfl⟩
          refine hK.out _ _ (CF.out _ (by repeat (first | assumption | refine bl_drew ?_ | refine bl_alloc ?_ _))) (fun hHeld => ?_)
          clear hK K
          (try simp only [Act.put, List.getElem_toArray, List.getElem_cons_succ, List.getElem_cons_zero, List.setIfInBounds_toArray, List.set_cons_zero, List.set_cons_succ])
          refine wpAnyH_ready (rs := [6, 8]) (by kernel_rfl) (by simp) ?_
          refine AllReadyH.cons rfl (fun K hK => ?_) (AllReadyH.cons rfl (fun K hK => ?_) AllReadyH.nil)
          · go_simp
            refine (HCLH.out _ (by repeat (first | assumption | refine bl_drew ?_ | refine bl_alloc ?_ _))).mono ?_
            rintro r w6 ⟨A6, c6, rfl, ho6, hb6, _⟩
            have hw6 : Below w.heap.size w w6 := (show Below w.heap.size w wd from (by repeat (first | assumption | refine bl_drew ?_ | refine bl_alloc ?_ _))).trans (hb6.mono hbd.size)
            refine hK.out _ _ (CF.out _ (by repeat (first | assumption | refine bl_drew ?_ | refine bl_alloc ?_ _))) (fun hHeld => ?_)
            clear hK K
            (try simp only [Act.put, List.getElem_toArray, List.getElem_cons_succ, List.getElem_cons_zero, List.setIfInBounds_toArray, List.set_cons_zero, List.set_cons_succ])
            refine wpAnyH_take (i := 7) (v := ?_) rfl (by kernel_rfl) (by kernel_rfl) (by kernel_rfl) (fun _ _ _ h => h) (Or.inl ⟨by rfl, ?_⟩) (by assumption) ?_
            rotate_left
            · (intro w hSw; (try dsimp only at hSw); go_simp; (try with_reducible rfl))
            (try simp only [Act.put, List.getElem_toArray, List.getElem_cons_succ, List.getElem_cons_zero, List.setIfInBounds_toArray, List.set_cons_zero, List.set_cons_succ])
            refine wpAnyH_ready (rs := [8]) (by kernel_rfl) (by simp) ?_
            refine AllReadyH.cons rfl (fun K hK => ?_) AllReadyH.nil
            go_simp
            refine hK.out _ _ (CF.out _ (by repeat (first | assumption | refine bl_drew ?_ | refine bl_alloc ?_ _))) (fun hHeld => ?_)
            clear hK K
            (try simp only [Act.put, List.getElem_toArray, List.getElem_cons_succ, List.getElem_cons_zero, List.setIfInBounds_toArray, List.set_cons_zero, List.set_cons_succ])
            have hz7 : Blk (w6.alloc T0) w6.heap.size 50 ([.bool false, .slice none 0 0, .slice none 0 0] : List Value).toArray := Blk.new _ _ _
            have s6 := hb6.size
            refine wpAnyH_ready (rs := [9]) (by kernel_rfl) (by simp) ?_
            refine AllReadyH.cons rfl (fun K hK => ?_) AllReadyH.nil
            refine step_store_blk rfl 50 (.tmp 7) (.tmp 31) rfl w6.heap.size 0 [.bool kl.isEmpty, .slice A6 nk c6, .slice none 0 0] rfl rfl [.bool false, .slice none 0 0, .slice none 0 0] 50 hz7 (by simp) Try.sztp (by simp [Value.oneCell']) ?_
            intro w4 hb4 hc4 hs4
            have hw4 : Below w.heap.size w w4 := (show Below w.heap.size w (w6.alloc T0) from (by repeat (first | assumption | refine bl_drew ?_ | refine bl_alloc ?_ _))).trans (Chg.below hc4 (fun k hk => by have : k = w6.heap.size := hk; have := hbd.size; omega) (by have := hw6.size; have := hbd.size; simp; omega))
            refine hK.out _ _ (CF.out _ hw4) (fun hHeld => ?_)
            clear hK K
            refine wpAnyH_done (by kernel_rfl) ?_ _
            have hb4' : Blk w4 w6.heap.size 50 #[.bool kl.isEmpty, .slice A6 nk c6, .slice none 0 0] := hb4
            have ho7 := own_chg ho6 (F := Non) ((Chg.refl _ w6).alloc T0) fun _ _ hf => hf
            have ho4 := own_chg ho7 hc4 fun k hk hk' => by have : k = w6.heap.size := hk'; have := (ho6.lt k hk).2; omega
            have hl4 : Below wd.heap.size wd w4 := (hb6.trans ((Below.refl _ w6).alloc s6 T0)).trans (Chg.below hc4 (fun k hk => by have : k = w6.heap.size := hk; omega) (by simp; omega))
            have HF := Lib.hid (show ∃ tg KA Kc, Value.pointer (some ⟨w6.heap.size, 0, none⟩) = .pointer (some ⟨tg, 0, none⟩) ∧ wr.heap.size ≤ tg ∧ Blk w4 tg 50 #[.bool kl.isEmpty, .slice KA nk Kc, .slice none 0 0] ∧ w4.ownsRow wr.heap.size 35 3 (.slice KA nk Kc) nk (ecs (keysT y.t)) ∧ Below wr.heap.size wr w4 from ⟨_, _, _, rfl, by have := HDS.out; omega, hb4', own_to_lt ho4 (Nat.le_of_eq HDS.out.symm), hbr.trans (hl4.mono (Nat.le_of_eq HDS.out.symm))⟩)
            go_wp2_with fail
            go_meet
            exact HF.out
          · go_simp
            refine hK.out _ _ (CF.out _ (by repeat (first | assumption | refine bl_drew ?_ | refine bl_alloc ?_ _))) (fun hHeld => ?_)
            clear hK K
            (try simp only [Act.put, List.getElem_toArray, List.getElem_cons_succ, List.getElem_cons_zero, List.setIfInBounds_toArray, List.set_cons_zero, List.set_cons_succ])
            refine wpAnyH_ready (rs := [6]) (by kernel_rfl) (by simp) ?_
            refine AllReadyH.cons rfl (fun K hK => ?_) AllReadyH.nil
            go_simp
            refine (HCLH.out _ (by repeat (first | assumption | refine bl_drew ?_ | refine bl_alloc ?_ _))).mono ?_
            rintro r w6 ⟨A6, c6, rfl, ho6, hb6, _⟩
            have hw6 : Below w.heap.size w w6 := (show Below w.heap.size w (wd.alloc T0) from (by repeat (first | assumption | refine bl_drew ?_ | refine bl_alloc ?_ _))).trans (hb6.mono (by have := hbd.size; simp; omega))
            have hz6 : Blk w6 wd.heap.size 50 ([.bool false, .slice none 0 0, .slice none 0 0] : List Value).toArray := (Blk.new wd _ _).below hb6 (by simp)
            have ho6' := own_to_lt ho6 (C := wd.heap.size) (by simp)
            have hb6' : Below wd.heap.size wd w6 := ((Below.refl _ wd).alloc (Nat.le_refl _) T0).trans (hb6.mono (by simp))
            refine hK.out _ _ (CF.out _ (by repeat (first | assumption | refine bl_drew ?_ | refine bl_alloc ?_ _))) (fun hHeld => ?_)
            clear hK K
            (try simp only [Act.put, List.getElem_toArray, List.getElem_cons_succ, List.getElem_cons_zero, List.setIfInBounds_toArray, List.set_cons_zero, List.set_cons_succ])
            refine wpAnyH_take (i := 7) (v := ?_) rfl (by kernel_rfl) (by kernel_rfl) (by kernel_rfl) (fun _ _ _ h => h) (Or.inl ⟨by rfl, ?_⟩) (by assumption) ?_
            rotate_left
            · (intro w hSw; (try dsimp only at hSw); go_simp; (try with_reducible rfl))
            (try simp only [Act.put, List.getElem_toArray, List.getElem_cons_succ, List.getElem_cons_zero, List.setIfInBounds_toArray, List.set_cons_zero, List.set_cons_succ])
            refine wpAnyH_ready (rs := [9]) (by kernel_rfl) (by simp) ?_
            refine AllReadyH.cons rfl (fun K hK => ?_) AllReadyH.nil
            refine step_store_blk rfl 50 (.tmp 7) (.tmp 31) rfl wd.heap.size 0 [.bool kl.isEmpty, .slice A6 nk c6, .slice none 0 0] rfl rfl [.bool false, .slice none 0 0, .slice none 0 0] 50 hz6 (by simp) Try.sztp (by simp [Value.oneCell']) ?_
            intro w4 hb4 hc4 hs4
            have hw4 : Below w.heap.size w w4 := (show Below w.heap.size w w6 from (by repeat (first | assumption | refine bl_drew ?_ | refine bl_alloc ?_ _))).trans (Chg.below hc4 (fun k hk => by have : k = wd.heap.size := hk; have := hbd.size; omega) (by have := hw6.size; have := hbd.size; simp; omega))
            refine hK.out _ _ (CF.out _ hw4) (fun hHeld => ?_)
            clear hK K
            refine wpAnyH_done (by kernel_rfl) ?_ _
            have hb4' : Blk w4 wd.heap.size 50 #[.bool kl.isEmpty, .slice A6 nk c6, .slice none 0 0] := hb4
            have ho4 := own_chg ho6' hc4 fun k hk hk' => own_ne ho6' hz6 (by decide) (by have : k = wd.heap.size := hk'; rw [← this]; exact hk)
            have hl4 : Below wd.heap.size wd w4 := hb6'.trans (Chg.below hc4 (fun k hk => by have : k = wd.heap.size := hk; omega) hb6'.size)
            have HF := Lib.hid (show ∃ tg KA Kc, Value.pointer (some ⟨wd.heap.size, 0, none⟩) = .pointer (some ⟨tg, 0, none⟩) ∧ wr.heap.size ≤ tg ∧ Blk w4 tg 50 #[.bool kl.isEmpty, .slice KA nk Kc, .slice none 0 0] ∧ w4.ownsRow wr.heap.size 35 3 (.slice KA nk Kc) nk (ecs (keysT y.t)) ∧ Below wr.heap.size wr w4 from ⟨_, _, _, rfl, by have := HDS.out; omega, hb4', own_to_lt ho4 (Nat.le_of_eq HDS.out.symm), hbr.trans (hl4.mono (Nat.le_of_eq HDS.out.symm))⟩)
            go_wp2_with fail
            go_meet
            exact HF.out
        · go_simp
          refine hK.out _ _ (CF.out _ (by repeat (first | assumption | refine bl_drew ?_ | refine bl_alloc ?_ _))) (fun hHeld => ?_)
          clear hK K
          (try simp only [Act.put, List.getElem_toArray, List.getElem_cons_succ, List.getElem_cons_zero, List.setIfInBounds_toArray, List.set_cons_zero, List.set_cons_succ])
          refine wpAnyH_ready (rs := [1]) (by kernel_rfl) (by simp) ?_
          refine AllReadyH.cons rfl (fun K hK => ?_) AllReadyH.nil
          go_simp
          refine (HLFH.out _ (by repeat (first | assumption | refine bl_drew ?_ | refine bl_alloc ?_ _))).mono ?_
          rintro r w5 ⟨rfl, rfl⟩
          refine hK.out _ _ (CF.out _ (by repeat (first | assumption | refine bl_drew ?_ | refine bl_alloc ?_ _))) (fun hHeld => ?_)
          clear hK K
          (try simp only [Act.put, List.getElem_toArray, List.getElem_cons_succ, List.getElem_cons_zero, List.setIfInBounds_toArray, List.set_cons_zero, List.set_cons_succ])
          refine wpAnyH_ready (rs := [6]) (by kernel_rfl) (by simp) ?_
          refine AllReadyH.cons rfl (fun K hK => ?_) AllReadyH.nil
          go_simp
          refine (HCLH.out _ (by repeat (first | assumption | refine bl_drew ?_ | refine bl_alloc ?_ _))).mono ?_
          rintro r w6 ⟨A6, c6, rfl, ho6, hb6, _⟩
          have hw6 : Below w.heap.size w w6 := (show Below w.heap.size w (wd.alloc T0) from (by repeat (first | assumption | refine bl_drew ?_ | refine bl_alloc ?_ _))).trans (hb6.mono (by have := hbd.size; simp; omega))
          have hz6 : Blk w6 wd.heap.size 50 ([.bool false, .slice none 0 0, .slice none 0 0] : List Value).toArray := (Blk.new wd _ _).below hb6 (by simp)
          have ho6' := own_to_lt ho6 (C := wd.heap.size) (by simp)
          have hb6' : Below wd.heap.size wd w6 := ((Below.refl _ wd).alloc (Nat.le_refl _) T0).trans (hb6.mono (by simp))
          refine hK.out _ _ (CF.out _ (by repeat (first | assumption | refine bl_drew ?_ | refine bl_alloc ?_ _))) (fun hHeld => ?_)
          clear hK K
          (try simp only [Act.put, List.getElem_toArray, List.getElem_cons_succ, List.getElem_cons_zero, List.setIfInBounds_toArray, List.set_cons_zero, List.set_cons_succ])
          refine wpAnyH_take (i := 7) (v := ?_) rfl (by kernel_rfl) (by kernel_rfl) (by kernel_rfl) (fun _ _ _ h => h) (Or.inl ⟨by rfl, ?_⟩) (by assumption) ?_
          rotate_left
          · (intro w hSw; (try dsimp only at hSw); go_simp; (try with_reducible rfl))
          (try simp only [Act.put, List.getElem_toArray, List.getElem_cons_succ, List.getElem_cons_zero, List.setIfInBounds_toArray, List.set_cons_zero, List.set_cons_succ])
          refine wpAnyH_ready (rs := [9]) (by kernel_rfl) (by simp) ?_
          refine AllReadyH.cons rfl (fun K hK => ?_) AllReadyH.nil
          refine step_store_blk rfl 50 (.tmp 7) (.tmp 31) rfl wd.heap.size 0 [.bool kl.isEmpty, .slice A6 nk c6, .slice none 0 0] rfl rfl [.bool false, .slice none 0 0, .slice none 0 0] 50 hz6 (by simp) Try.sztp (by simp [Value.oneCell']) ?_
          intro w4 hb4 hc4 hs4
          have hw4 : Below w.heap.size w w4 := (show Below w.heap.size w w6 from (by repeat (first | assumption | refine bl_drew ?_ | refine bl_alloc ?_ _))).trans (Chg.below hc4 (fun k hk => by have : k = wd.heap.size := hk; have := hbd.size; omega) (by have := hw6.size; have := hbd.size; simp; omega))
          refine hK.out _ _ (CF.out _ hw4) (fun hHeld => ?_)
          clear hK K
          refine wpAnyH_done (by kernel_rfl) ?_ _
          have hb4' : Blk w4 wd.heap.size 50 #[.bool kl.isEmpty, .slice A6 nk c6, .slice none 0 0] := hb4
          have ho4 := own_chg ho6' hc4 fun k hk hk' => own_ne ho6' hz6 (by decide) (by have : k = wd.heap.size := hk'; rw [← this]; exact hk)
          have hl4 : Below wd.heap.size wd w4 := hb6'.trans (Chg.below hc4 (fun k hk => by have : k = wd.heap.size := hk; omega) hb6'.size)
          have HF := Lib.hid (show ∃ tg KA Kc, Value.pointer (some ⟨wd.heap.size, 0, none⟩) = .pointer (some ⟨tg, 0, none⟩) ∧ wr.heap.size ≤ tg ∧ Blk w4 tg 50 #[.bool kl.isEmpty, .slice KA nk Kc, .slice none 0 0] ∧ w4.ownsRow wr.heap.size 35 3 (.slice KA nk Kc) nk (ecs (keysT y.t)) ∧ Below wr.heap.size wr w4 from ⟨_, _, _, rfl, by have := HDS.out; omega, hb4', own_to_lt ho4 (Nat.le_of_eq HDS.out.symm), hbr.trans (hl4.mono (Nat.le_of_eq HDS.out.symm))⟩)
          go_wp2_with fail
          go_meet
          exact HF.out
      case rest =>
        obtain ⟨tg, KA, Kc, rfl, htg, ht1, hke, hbr⟩ := hcut
        have hbc : Below w.heap.size w wc := HI.out.low.trans (hbr.mono HI.out.low.size)
        have d1 := HCE1.out wc hbc
        have HC := Lib.hid (And.intro htg (And.intro ht1 (And.intro hke (And.intro hbr hbc))))
        have hpg := own_chg HI.out.pages (F := Non) (Chg.of_below hbr) fun _ _ hf => hf
        have HIN0 := Lib.hid (show PgIn w.heap.size wc (.slice (some ⟨g, 0, none⟩) N pc) tg kl.isEmpty KA nk Kc N (ql.map Qe.p) 0 0 N none 0 (some ⟨g, 0, none⟩) pc wc from
          ⟨Chg.refl _ _, ht1, World.ownsRow_nil _ _ _ _, hpg, rfl, fun k hk => .inl hk⟩)
        have hK0 : (0 : Int) ≤ (K : Int) := Int.natCast_nonneg _
        clear htg ht1 hke hbr hbc hpg
        obtain ⟨wo, hwo⟩ : ∃ wo, wo = wr := ⟨_, rfl⟩
        subst hwo
        go_wp2_with fail
        go_loopw [4, 37] (fun pv iv wx => ∃ (j Nj : Nat) (IA : Option Addr) (ic : Nat) (PA' : Option Addr) (pc' : Nat), j ≤ K ∧ Nj = N + j ∧ iv = .int .i64 j ∧ pv = .slice PA' Nj pc' ∧ PgIn w.heap.size wc (.slice (some ⟨g, 0, none⟩) N pc) tg kl.isEmpty KA nk Kc N (ql.map Qe.p ++ (kl.map Qe.p).take j) j j Nj IA ic PA' pc' wx) (fun _ iv _ => K - (Lib.intOf iv).toNat)
        case atStart => exact ⟨0, N, none, 0, _, pc, Nat.zero_le _, rfl, rfl, rfl, by simpa using HIN0.out⟩
        case round =>
          obtain ⟨j, Nj, IA, ic, PA', pc', hj, hNj, rfl, rfl, hin⟩ := hrel
          have hj0 : (0 : Int) ≤ (j : Int) := Int.natCast_nonneg _
          have hNj0 : (0 : Int) ≤ (Nj : Int) := Int.natCast_nonneg _
          have hNjb : Nj ≤ 2000000 := by omega
          have hjb : j ≤ 5 := by omega
          have hbx : Below w.heap.size w wr := by
            have hbc := HC.out.2.2.2.2
            refine hbc.trans (hin.chg.below (fun k hk => ?_) hbc.size)
            rcases hk with hk | hk
            · exact (HI.out.pages.lt k hk).1
            · have := HC.out.1
              have := HI.out.low.size
              omega
          have HJ := Lib.hid (And.intro hin (And.intro hNj hbx))
          by_cases hjK : j < K
          · have hjK1 : (j : Int) < (K : Int) := by omega
            have hjl : j < kl.length := by rw [← HKK.out]; exact hjK
            obtain ⟨gk, rfl, e0⟩ := HCKD.out wr hbx j hjl
            obtain ⟨kp, hkp⟩ : ∃ kp, kp = kl[j].p := ⟨_, rfl⟩
            rw [← hkp] at e0
            have HKP := Lib.hid hkp
            have e1 := hin.told.cell 2
            simp only [List.getElem?_toArray, List.getElem?_cons_zero, List.getElem?_cons_succ] at e1
            clear hin hNj hbx hkp
            obtain ⟨i0, hi, hz0, hz1, hz2⟩ := info_parts Try.infoint
            obtain ⟨i1, hi', hy0, hy1, hy2⟩ := info_parts Try.infoptr
            go_upto_region 12 with (at_builtin; refine wpList_append_row rfl (.tmp 42) (.tmp 45) 48 rfl wc.heap.size 3 i0 (.int .i64 0) 1 8 Try.underlying48 hi hz0 hz1 hz2 rfl (by decide) _ j _ (own_chg HJ.out.1.kids (F := Non) ((Chg.refl _ wr).alloc _) fun _ _ hf => hf) (by rfl) (some ⟨wr.heap.size, 0, none⟩) 1 1 [.int .i64 (Nj : Int)] (by rfl) rfl (fun h => by cases h) (fun ad had => by cases had; exact World.news_of_block (heap_alloc_new wr _)) (by simp [Value.oneCell']) (by simp [maxLen]; omega) (by omega) (by have := HJ.out.1.chg.size; simp; omega) ?_; intro A5 c5 w5 hR5; have h6 := HJ.out.1.kid rfl ((Below.refl _ wr).alloc (Nat.le_refl _) _) hR5; have t5 := h6.1; have f5 := t5.frozen 2; have v5 := t5.cell 2; simp only [List.getElem?_toArray, List.getElem?_cons_zero, List.getElem?_cons_succ] at v5; have H6 := Lib.hid h6; clear hR5 h6 t5)
            obtain ⟨w6, hw6⟩ : ∃ w6, w6 = w5.setCell ⟨tg, 2, none⟩ (.slice A5 (j + 1) c5) := ⟨_, rfl⟩
            rw [← hw6] at H6 ⊢
            clear hw6 v5 f5 e0 e1
            go_wp2_with (at_builtin; refine wpList_append_row rfl (.tmp 48) (.tmp 50) 59 rfl w.heap.size 70 i1 (.pointer none) 1 8 Try.underlying59 hi' hy0 hy1 hy2 rfl (by decide) _ Nj _ (own_chg H6.out.2.pages (F := Non) ((Chg.refl _ w6).alloc _) fun _ _ hf => hf) (by rfl) (some ⟨w6.heap.size, 0, none⟩) 1 1 [.pointer (some ⟨kp, 0, none⟩)] (by rfl) rfl (fun h => by cases h) (fun ad had => by cases had; exact World.news_of_block (heap_alloc_new w6 _)) (by simp [Value.oneCell']) (by simp [maxLen]; omega) (by omega) (by have := H6.out.2.chg.size; have := HC.out.2.2.2.2.size; simp; omega) ?_; intro A7 c7 w7 hR7; have H7 := Lib.hid (H6.out.2.page ((Below.refl _ w6).alloc (Nat.le_refl _) _) hR7); clear hR7)
            go_roundw
            case rel =>
              refine ⟨j + 1, Nj + 1, A5, c5, A7, c7, by omega, by have := HJ.out.2.1; omega, by go_num, rfl, ?_⟩
              have h7 := H7.out
              rw [HKP.out] at h7
              have hjm : j < (kl.map Qe.p).length := by rw [List.length_map]; exact hjl
              rw [List.take_succ_eq_append_getElem hjm, List.getElem_map, ← List.append_assoc]
              exact h7
            case measure => simp [Lib.intOf]; omega
          · obtain rfl : j = K := by omega
            have h8 := hin
            have htk : ql.map Qe.p ++ (kl.map Qe.p).take j = (ql ++ kl).map Qe.p := by rw [List.take_of_length_le (by rw [List.length_map, ← HKK.out]; exact Nat.le_refl _), List.map_append]
            rw [htk] at h8
            have H8 := Lib.hid h8
            have hl8 : wr.ownsRow w.heap.size 50 3 (.slice LA n lc) n (tpcs ps) := by
              refine own_chg (own_chg HI.out.list (F := Non) (Chg.of_below HC.out.2.2.2.1) fun _ _ hf => hf) hin.chg fun k hk hf => ?_
              rcases hf with hf | hf
              · exact own_dif HI.out.list HI.out.pages (by decide) hk hf
              · have := (HI.out.list.lt k hk).2
                have := HC.out.1
                omega
            have HL8 := Lib.hid hl8
            have e1 := hin.told.cell 0
            have e2 := hin.told.cell 1
            have e3 := hin.told.cell 2
            simp only [List.getElem?_toArray, List.getElem?_cons_zero, List.getElem?_cons_succ] at e1 e2 e3
            have hjj : ¬ (j : Int) < (j : Int) := by omega
            clear hin hNj hbx h8 htk hl8
            obtain ⟨i2, hi2, hx0, hx1, hx2⟩ := info_parts Try.infotp
            go_wp2_with (at_builtin; refine wpList_append_row rfl (.tmp 53) (.tmp 55) 44 rfl w.heap.size 50 i2 (.agg #[.bool false, .slice none 0 0, .slice none 0 0]) 3 56 Try.underlying44 hi2 hx0 hx1 hx2 rfl (by decide) _ n _ (own_chg HL8.out (F := Non) ((Chg.refl _ wr).alloc _) fun _ _ hf => hf) (by rfl) (some ⟨wr.heap.size, 0, none⟩) 1 1 [.bool kl.isEmpty, .slice KA nk Kc, .slice IA j ic] (by rfl) rfl (fun h => by cases h) (fun ad had => by cases had; exact World.news_of_block (heap_alloc_new wr _)) (by simp [Value.oneCell']) (by simp [maxLen]; omega) (by omega) (by have := HJ.out.2.2.size; simp; omega) ?_; intro A9 c9 w9 hR9; have H9 := Lib.hid (PgSt.more HI.out HKL.out.2.2.1 HKL.out.1 HKL.out.2.1 HKK.out rfl HKL.out.2.2.2 HC.out.2.2.2.1 HC.out.1 HC.out.2.1 HC.out.2.2.1 H8.out ((Below.refl _ wr).alloc (Nat.le_refl _) _) hR9); clear hR9)
            go_roundw
            case rel => exact ⟨A9, n + 1, c9, PA', Nj, pc', _, _, rfl, rfl, by go_num, H9.out⟩
            case measure => simp [Lib.intOf]; omega
    · have hlt1 : ¬ (n : Int) < (N : Int) := by omega
      have HFI := Lib.hid (HI.out.fin HR.out (by omega))
      go_wp2_with fail
      go_ret
      exact ⟨LA, n, ⟨lc, rfl⟩, ps, HFI.out⟩
end Go.Proofs.Ytiaclfldgagalaa

/-
  The landed tree keeps the contract.
-/
namespace Go.Proofs.Ytiaclfldgagalaa
open Go.RowKit Go.Lib

/-- the landed tree, its entries' numbers such as Go has -/
def TI (K B : Nat) (D : Nat → Prop) (w : World) (tb : Nat) (l : List En) : Prop := TreeV K B D w tb l ∧ ∀ a ∈ l, NumOk a
theorem TI.low {K B : Nat} {D : Nat → Prop} {w : World} {tb : Nat} {l : List En} (h : TI K B D w tb l) : fromL (lowE ⟨#[]⟩) l = l := from_first h.1.srt h.2
theorem impl {K : Nat} (hK : K ≤ 281474976710656) : Impl K (TI K) where
  below := fun h hb => ⟨h.1.below hb, h.2⟩
  chg := fun h hc hd => ⟨h.1.chg hc hd, h.2⟩
  foot := fun h _ hk => h.1.foot hk
  srt := fun h => h.1.srt
  new := fun w B hB => (new_any K w B hB).mono fun e w' h => by
    obtain ⟨tb, D, he, ht, hD, hb⟩ := h
    exact ⟨tb, D, he, ⟨ht, fun a ha => by cases ha⟩, hD, hb⟩
  ins := fun e h _ hB hes hn => (insert_any e h.1 hB hK hes).mono fun r w' hr => ⟨hr.1, ⟨hr.2.1, fun a ha => by
    rcases mem_insL ha with ha | ha
    · rw [ha]; exact hn
    · exact h.2 a ha⟩, hr.2.2⟩
  del := fun e h _ hB hes => (delete_any e h.1 hB hes).mono fun r w' hr => ⟨hr.1, ⟨hr.2.1, fun a ha => h.2 a (mem_delL ha)⟩, hr.2.2⟩
  has := fun e h _ _ => h.1.has e
  find := fun s h hs _ => find_tree s h.1 hs.1 (find_low h.1.srt h.2)
  range := fun f t most h hs _ _ => range_tree f t most h.1 hs.1 (range_low h.1.srt h.2)
  all := fun h hs => all_any h.1 hs.1 h.low
  count := fun h hs => count_any h.1 hs.1 h.low
  twice := fun h _ => twice_tree h.1 h.low
  pages := fun h hs => pages_any h.1 hs.1
end Go.Proofs.Ytiaclfldgagalaa
