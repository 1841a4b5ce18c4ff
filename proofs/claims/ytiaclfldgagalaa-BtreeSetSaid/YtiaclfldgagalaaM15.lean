/-
  What is done to a leaf: an entry put in.
-/
import Derived.Test.YtiaclfldgagalaaM12
import Derived.Test.YtiaclfldgagalaaM07
import Derived.Test.YtiaclfldgagalaaLays
import Derived.Test.YtiaclfldgagalaaM13
import Derived.Test.YtiaclfldgagalaaM02
namespace Go.Proofs.Ytiaclfldgagalaa
open Go.RowKit Go.Lib

theorem clone_any (s : ByteArray) (w : World) (hs : s.size ≤ 281474976710656) : Calls Try.prog 52 #[.string s] w fun e w' => e = .returned (.string s) ∧ Below w.heap.size w w' :=
  Any.stringslite_Clone Try.laysClone s w hs
theorem clone2_any (s : ByteArray) (w : World) (hs : s.size ≤ 281474976710656) : Calls Try.prog 37 #[.string s] w fun e w' => e = .returned (.string s) ∧ Below w.heap.size w w' := by
  have HC := Lib.hid (clone_any s w (by omega))
  clear hs
  go_enter Try.func37, Try.ntmps37
  go_wp2_with fail
  refine HC.out.mono ?_
  rintro r w1 ⟨rfl, hb⟩
  have HB := Lib.hid hb
  clear hb
  go_wp2_with fail
  go_ret
  exact ⟨rfl, HB.out⟩
/-- the leaf's first cell and the entry's cells -/
def DeedIn (b ec : Nat) (e : En) (KA : Option Addr) (q Kc : Nat) (w : World) : Prop :=
  w.cell? ⟨b, 0, none⟩ = some (.slice KA q Kc) ∧ w.cell? ⟨ec, 0, none⟩ = some (.string e.s) ∧ w.cell? ⟨ec, 1, none⟩ = some (.int .i64 e.p) ∧ w.cell? ⟨ec, 2, none⟩ = some (.int .i64 e.k)
set_option maxRecDepth 100000 in
set_option maxHeartbeats 12800000 in
theorem insert1_any {B : Nat} {D : Nat → Prop} {w : World} {b ec : Nat} {ks : List En} (h : PgV B D w b ks []) (e : En) (hk : ks.length ≤ 10) (hB : B ≤ w.heap.size) (hec : Blk w ec 35 #[.string e.s, .int .i64 e.p, .int .i64 e.k]) (hne : ¬ D ec) (hes : e.s.size ≤ 281474976710656) :
    Calls Try.prog 35 #[.pointer (some ⟨b, 0, none⟩), .int .i64 (plN e ks), .bool (plB ks e), .pointer (some ⟨ec, 0, none⟩)] w fun r w' => r = .returned (.bool (!plB ks e)) ∧ SubTo B (d := 0) D w b (insL ks e) w' := by
  have hmx : Try.prog.follows .mixedOrders = true := by kernel_rfl
  cases hp : plB ks e with
  | true =>
    have HS := Lib.hid (show SubTo B (d := 0) D w b (insL ks e) w by
      rw [show insL ks e = ks by unfold insL; rw [hp]; rfl]
      exact SubTo.same (d := 0) (t := ks) h (Below.refl _ _) hB)
    clear h hk hB hp hec hne hes
    go_enter Try.func35, Try.ntmps35
    go_wp2_with fail
    go_ret
    exact ⟨rfl, HS.out⟩
  | false =>
    have hlt := plN_le e ks
    obtain ⟨t, KA, Kc, IA, Ic, hP⟩ := h
    obtain ⟨n, hn⟩ : ∃ n, n = plN e ks := ⟨_, rfl⟩
    have hil : insL ks e = ks.take n ++ e :: ks.drop n := by unfold insL; rw [hp, ← hn]; simp
    rw [← hn] at hlt ⊢
    obtain ⟨q, hq⟩ : ∃ q, q = ks.length := ⟨_, rfl⟩
    have hlx : (insL ks e).length = q + 1 := by rw [hil, hq]; simp; omega
    have hex : (ecs ks).take (n * 3) ++ En.vs e ++ (ecs ks).drop (n * 3) = ecs (insL ks e) := by rw [hil, ecs_take, ecs_drop, ecs_append]; simp [ecs]
    have hv1 : ∀ u ∈ En.vs e, u.oneCell' = true := by
      intro u hu
      simp [En.vs] at hu
      rcases hu with rfl | rfl | rfl <;> rfl
    have hin : ∀ w', PgD B D w' b t KA Kc IA Ic ks [] → Blk w' ec 35 #[.string e.s, .int .i64 e.p, .int .i64 e.k] → DeedIn b ec e KA q Kc w' := fun w' hP' hc' =>
      ⟨by rw [hq]; exact hP'.cells.1, (hc'.cell 0).trans rfl, (hc'.cell 1).trans rfl, (hc'.cell 2).trans rfl⟩
    have hw0 := hin _ (hP.below ((Below.refl _ w).drew)) (hec.below ((Below.refl _ w).drew) hec.lt)
    have hS2 : ∀ w2, Below w.drew.heap.size w.drew w2 → DeedIn b ec e KA q Kc w2 ∧ DeedIn b ec e KA q Kc (w2.alloc (.cells #[.string e.s, .int .i64 e.p, .int .i64 e.k] 35)) ∧
        Calls Try.prog 36 #[.slice KA q Kc, .int .i64 n, .slice (some ⟨w2.heap.size, 0, none⟩) 1 1] (w2.alloc (.cells #[.string e.s, .int .i64 e.p, .int .i64 e.k] 35)) fun r w8 => ∃ A8 c8, r = .returned (.slice A8 (q + 1) c8) ∧ DeedIn b ec e KA q Kc w8 ∧ w8.frozen? ⟨b, 0, none⟩ = false ∧ SubTo B (d := 0) D w b (insL ks e) (w8.setCell ⟨b, 0, none⟩ (.slice A8 (q + 1) c8)) := by
      intro w2 hb2
      have hb2' : Below w.heap.size w w2 := ((Below.refl _ w).drew).trans hb2
      have hb3 : Below w.heap.size w (w2.alloc (.cells #[.string e.s, .int .i64 e.p, .int .i64 e.k] 35)) := hb2'.alloc hb2'.size _
      refine ⟨hin _ (hP.below hb2') (hec.below hb2' hec.lt), hin _ (hP.below hb3) (hec.below hb3 hec.lt), ?_⟩
      have hP3 := hP.below hb3
      have hins := eins_any hP3.x.keys (ecs_one _) (i := n) (by omega) (by omega) (Nat.le_trans hB hb3.size) (vb := w2.heap.size) (us := En.vs e) (Blk.new w2 _ _) rfl hv1 fun ee => by
        have h1 := (hP.foot _ (hP.dk _ ee)).2
        have := hb2'.size
        omega
      rw [hex, ← hq] at hins
      refine hins.mono ?_
      rintro r w8 ⟨A8, c8, rfl, hR⟩
      have hR9 := hR.from hb3
      have h1 := hP.putKeys (ks' := insL ks e) (KA' := A8) (Kc' := c8) hB (by rw [hlx, ← hq]; exact hR9)
      rw [hlx] at h1
      have hbb := hP.x.blk.chg (hR9.chg.mono fun k _ (h : _ = some k) => (ob h : (Value.slice KA ks.length Kc).ownBlock = some k)) hP.key_ne.1
      have cb := hbb.cell 0
      simp only [List.getElem?_toArray, List.getElem?_cons_zero] at cb
      have hx8 := hec.chg hR9.chg fun ee => hne (hP.dk _ (ob ee))
      exact ⟨A8, c8, rfl, ⟨by rw [hq]; exact cb, (hx8.cell 0).trans rfl, (hx8.cell 1).trans rfl, (hx8.cell 2).trans rfl⟩, hbb.frozen 0, ⟨_, _, _, _, _, h1.1⟩, h1.2⟩
    have HS2 := Lib.hid hS2
    have HE := Lib.hid hes
    have hn6 : (0 : Int) ≤ (n : Int) := by omega
    clear hS2 hin hP hec hne hes hex hil hlx hlt hk hB hp hv1 hq hn
    go_enter Try.func35, Try.ntmps35
    go_wp2_with fail
    refine wp_region_K (DeedIn b ec e KA q Kc) 16 (by kernel_rfl) hw0 (fun hHeld hInv => ?_)
    refine wpAnyK_pure (i := 0) (v := ?_) rfl (by kernel_rfl) (by kernel_rfl) (by kernel_rfl) (by kernel_rfl) (fun _ _ _ h => h) hInv (Or.inl ⟨by rfl, ?_⟩) (fun _ => hHeld) ?_
    rotate_left
    · (intro w hSw; (try dsimp only [DeedIn] at hSw); go_simp; (try with_reducible rfl))
    intro hInv
    try simp only [Act.put, List.getElem_toArray, List.getElem_cons_zero, List.setIfInBounds_toArray, List.set_cons_zero, List.set_cons_succ] at hInv ⊢
    refine wpAnyK_pure (i := 1) (v := ?_) rfl (by kernel_rfl) (by kernel_rfl) (by kernel_rfl) (by kernel_rfl) (fun _ _ _ h => h) hInv (Or.inl ⟨by rfl, ?_⟩) (fun _ => hHeld) ?_
    rotate_left
    · (intro w hSw; (try dsimp only [DeedIn] at hSw); go_simp; (try with_reducible rfl))
    intro hInv
    try simp only [Act.put, List.getElem_toArray, List.getElem_cons_succ, List.getElem_cons_zero, List.setIfInBounds_toArray, List.set_cons_zero, List.set_cons_succ] at hInv ⊢
    refine wpAnyK_pure (i := 2) (v := ?_) rfl (by kernel_rfl) (by kernel_rfl) (by kernel_rfl) (by kernel_rfl) (fun _ _ _ h => h) hInv (Or.inl ⟨by rfl, ?_⟩) (fun _ => hHeld) ?_
    rotate_left
    · (intro w hSw; (try dsimp only [DeedIn] at hSw); go_simp; (try with_reducible rfl))
    intro hInv
    try simp only [Act.put, List.getElem_toArray, List.getElem_cons_succ, List.getElem_cons_zero, List.setIfInBounds_toArray, List.set_cons_zero, List.set_cons_succ] at hInv ⊢
    refine wpAnyK_pure (i := 3) (v := ?_) rfl (by kernel_rfl) (by kernel_rfl) (by kernel_rfl) (by kernel_rfl) (fun _ _ _ h => h) hInv (Or.inl ⟨by rfl, ?_⟩) (fun _ => hHeld) ?_
    rotate_left
    · (intro w hSw; (try dsimp only [DeedIn] at hSw); go_simp; (try with_reducible rfl))
    intro hInv
    try simp only [Act.put, List.getElem_toArray, List.getElem_cons_succ, List.getElem_cons_zero, List.setIfInBounds_toArray, List.set_cons_zero, List.set_cons_succ] at hInv ⊢
    refine wpAnyK_load (i := 4) (v := ?_) rfl (by kernel_rfl) (by kernel_rfl) (by kernel_rfl) (by kernel_rfl) (by kernel_rfl) (fun _ _ _ h => h) hInv (Or.inl ⟨by rfl, ?_⟩) hHeld ?_
    rotate_left
    · (intro w hSw; (try dsimp only [DeedIn] at hSw); go_simp; (try with_reducible rfl))
    intro hInv
    try simp only [Act.put, List.getElem_toArray, List.getElem_cons_succ, List.getElem_cons_zero, List.setIfInBounds_toArray, List.set_cons_zero, List.set_cons_succ] at hInv ⊢
    refine wpAnyK_pure (i := 5) (v := ?_) rfl (by kernel_rfl) (by kernel_rfl) (by kernel_rfl) (by kernel_rfl) (fun _ _ _ h => h) hInv (Or.inl ⟨by rfl, ?_⟩) (fun _ => hHeld) ?_
    rotate_left
    · (intro w hSw; (try dsimp only [DeedIn] at hSw); go_simp; (try with_reducible rfl))
    intro hInv
    try simp only [Act.put, List.getElem_toArray, List.getElem_cons_succ, List.getElem_cons_zero, List.setIfInBounds_toArray, List.set_cons_zero, List.set_cons_succ] at hInv ⊢
    refine wpAnyK_pure (i := 6) (v := ?_) rfl (by kernel_rfl) (by kernel_rfl) (by kernel_rfl) (by kernel_rfl) (fun _ _ _ h => h) hInv (Or.inl ⟨by rfl, ?_⟩) (fun _ => hHeld) ?_
    rotate_left
    · (intro w hSw; (try dsimp only [DeedIn] at hSw); go_simp; (try with_reducible rfl))
    intro hInv
    try simp only [Act.put, List.getElem_toArray, List.getElem_cons_succ, List.getElem_cons_zero, List.setIfInBounds_toArray, List.set_cons_zero, List.set_cons_succ] at hInv ⊢
    refine wpAnyK_load (i := 7) (v := ?_) rfl (by kernel_rfl) (by kernel_rfl) (by kernel_rfl) (by kernel_rfl) (by kernel_rfl) (fun _ _ _ h => h) hInv (Or.inl ⟨by rfl, ?_⟩) hHeld ?_
    rotate_left
    · (intro w hSw; (try dsimp only [DeedIn] at hSw); go_simp; (try with_reducible rfl))
    intro hInv
    try simp only [Act.put, List.getElem_toArray, List.getElem_cons_succ, List.getElem_cons_zero, List.setIfInBounds_toArray, List.set_cons_zero, List.set_cons_succ] at hInv ⊢
    refine wpAnyK_pure (i := 9) (v := ?_) rfl (by kernel_rfl) (by kernel_rfl) (by kernel_rfl) (by kernel_rfl) (fun _ _ _ h => h) hInv (Or.inl ⟨by rfl, ?_⟩) (fun _ => hHeld) ?_
    rotate_left
    · (intro w hSw; (try dsimp only [DeedIn] at hSw); go_simp; (try with_reducible rfl))
    intro hInv
    try simp only [Act.put, List.getElem_toArray, List.getElem_cons_succ, List.getElem_cons_zero, List.setIfInBounds_toArray, List.set_cons_zero, List.set_cons_succ] at hInv ⊢
    refine wpAnyK_load (i := 10) (v := ?_) rfl (by kernel_rfl) (by kernel_rfl) (by kernel_rfl) (by kernel_rfl) (by kernel_rfl) (fun _ _ _ h => h) hInv (Or.inl ⟨by rfl, ?_⟩) hHeld ?_
    rotate_left
    · (intro w hSw; (try dsimp only [DeedIn] at hSw); go_simp; (try with_reducible rfl))
    intro hInv
    try simp only [Act.put, List.getElem_toArray, List.getElem_cons_succ, List.getElem_cons_zero, List.setIfInBounds_toArray, List.set_cons_zero, List.set_cons_succ] at hInv ⊢
    -- operation 8: Op.call { value (Operand.func 37), args := #[t17], argTypes 
    refine wpAnyK_one (i := 8) (by kernel_rfl) rfl hInv (fun K hK => ?_)
    go_simp
    go_at_call 37
    refine (clone2_any e.s _ HE.out).mono ?_
    rintro r w2 ⟨rfl, hb2⟩
    dsimp only
    obtain ⟨g0, h2⟩ := HS2.out w2 hb2
    have H2 := Lib.hid h2
    have hHeld := g0
    clear hb2 h2 g0
    refine hK.out _ _ (fun _ => hHeld) (fun hInv => ?_)
    clear hK K
    try simp only [Act.put, List.getElem_toArray, List.getElem_cons_succ, List.getElem_cons_zero, List.setIfInBounds_toArray, List.set_cons_zero, List.set_cons_succ] at hInv ⊢
    refine wpAnyK_pure (i := 11) (v := ?_) rfl (by kernel_rfl) (by kernel_rfl) (by kernel_rfl) (by kernel_rfl) (fun _ _ _ h => h) hInv (Or.inl ⟨by rfl, ?_⟩) (fun _ => hHeld) ?_
    rotate_left
    · (intro w hSw; (try dsimp only [DeedIn] at hSw); go_simp; (try with_reducible rfl))
    intro hInv
    try simp only [Act.put, List.getElem_toArray, List.getElem_cons_succ, List.getElem_cons_zero, List.setIfInBounds_toArray, List.set_cons_zero, List.set_cons_succ] at hInv ⊢
    -- operation 12: Op.buildSlice 28 1 #[(0, t21)]
    refine wpAnyK_one (i := 12) (by kernel_rfl) rfl hInv (fun K hK => ?_)
    go_simp
    obtain ⟨g0, h3⟩ := H2.out
    have HINS := Lib.hid h3
    have hHeld := g0
    clear g0 h3
    refine hK.out _ _ (fun _ => hHeld) (fun hInv => ?_)
    clear hK K
    try simp only [Act.put, List.getElem_toArray, List.getElem_cons_succ, List.getElem_cons_zero, List.setIfInBounds_toArray, List.set_cons_zero, List.set_cons_succ] at hInv ⊢
    -- operation 13: Op.call { value (Operand.func 36), args := #[t14, t15, t22],
    refine wpAnyK_one (i := 13) (by kernel_rfl) rfl hInv (fun K hK => ?_)
    go_simp
    refine HINS.out.mono ?_
    rintro r w8 ⟨A8, c8, rfl, g0, g4, h9⟩
    dsimp only
    have H9 := Lib.hid h9
    clear h9
    have hHeld := g0
    obtain ⟨p0, _⟩ := g0
    refine hK.out _ _ (fun _ => hHeld) (fun hInv => ?_)
    clear hK K
    try simp only [Act.put, List.getElem_toArray, List.getElem_cons_succ, List.getElem_cons_zero, List.setIfInBounds_toArray, List.set_cons_zero, List.set_cons_succ] at hInv ⊢
    refine wpAnyK_pure (i := 14) (v := ?_) rfl (by kernel_rfl) (by kernel_rfl) (by kernel_rfl) (by kernel_rfl) (fun _ _ _ h => h) hInv (Or.inl ⟨by rfl, ?_⟩) (fun _ => hHeld) ?_
    rotate_left
    · (intro w hSw; (try dsimp only [DeedIn] at hSw); go_simp; (try with_reducible rfl))
    intro hInv
    try simp only [Act.put, List.getElem_toArray, List.getElem_cons_succ, List.getElem_cons_zero, List.setIfInBounds_toArray, List.set_cons_zero, List.set_cons_succ] at hInv ⊢
    refine wpAnyK_pure (i := 15) (v := ?_) rfl (by kernel_rfl) (by kernel_rfl) (by kernel_rfl) (by kernel_rfl) (fun _ _ _ h => h) hInv (Or.inl ⟨by rfl, ?_⟩) (fun _ => hHeld) ?_
    rotate_left
    · (intro w hSw; (try dsimp only [DeedIn] at hSw); go_simp; (try with_reducible rfl))
    intro hInv
    try simp only [Act.put, List.getElem_toArray, List.getElem_cons_succ, List.getElem_cons_zero, List.setIfInBounds_toArray, List.set_cons_zero, List.set_cons_succ] at hInv ⊢
    -- operation 16: Op.store 28 t25 t23
    refine wpAnyK_one (i := 16) (by kernel_rfl) rfl hInv (fun K hK => ?_)
    go_simp
    refine hK.out _ _ (fun h => absurd (show true = false from h) (by decide)) (fun hInv => ?_)
    clear hK K
    try simp only [Act.put, List.getElem_toArray, List.getElem_cons_succ, List.getElem_cons_zero, List.setIfInBounds_toArray, List.set_cons_zero, List.set_cons_succ] at hInv ⊢
    refine wpAnyK_done (by kernel_rfl) ?_ _
    go_wp2_with fail
    go_ret
    exact ⟨rfl, H9.out⟩
end Go.Proofs.Ytiaclfldgagalaa

/-
  New, Insert, Delete.
-/
namespace Go.Proofs.Ytiaclfldgagalaa
open Go.RowKit Go.Lib

/-- the program's tree: its block, its entries -/
def TreeV (K B : Nat) (D : Nat → Prop) (w : World) (tb : Nat) (l : List En) : Prop := ∃ (d : Nat) (t : Tr d), Sub B D w tb t ∧ Root K t ∧ ents t = l
theorem change_all {ins : Bool} {f : Nat} {cap : Array Value} {e : En} {lim : Nat} : ∀ d, ChgC ins f cap e lim d
  | 0 => change_leaf
  | d + 1 => change_node (change_all d)
theorem ent_ins : Ent 35 := fun args w => by
  simp [callFunc, Try.func35, Try.f35]
theorem ent_del : Ent 38 := fun args w => by
  simp [callFunc, Try.func38, Try.f38]
theorem deed_del (e : En) (lim : Nat) (w : World) : Deed false 38 #[] e lim w := fun w' B D b ks _ hP _ hB hk => by
  simp only [Array.append_empty]
  exact (delete1_any hP e hk hB).mono fun r w'' h => h
theorem deed_ins {e : En} {lim ec : Nat} {w : World} (hec : Blk w ec 35 #[.string e.s, .int .i64 e.p, .int .i64 e.k]) (hl : lim ≤ ec) (hes : e.s.size ≤ 281474976710656) : Deed true 35 #[.pointer (some ⟨ec, 0, none⟩)] e lim w := fun w' B D b ks hb hP hlim hB hk =>
  (insert1_any hP e hk hB (hec.below hb hec.lt) (fun h => by have := hlim _ h; omega) hes).mono fun r w'' h => h
theorem chg_fst {K d : Nat} {t : Tr d} (h : Root K t) (ins : Bool) (e : En) : (chgT ins t e).1 = (if ins then !plB (ents t) e else plB (ents t) e) := (chg_ok ins t e h.cnt h.one h.ord).dd
set_option maxRecDepth 100000 in
set_option maxHeartbeats 3200000 in
theorem insert_any {K B : Nat} {D : Nat → Prop} {w : World} {tb : Nat} {l : List En} (e : En) (h : TreeV K B D w tb l) (hB : B ≤ w.heap.size) (hK : K ≤ 281474976710656) (hes : e.s.size ≤ K) :
    Calls Try.prog 18 #[.pointer (some ⟨tb, 0, none⟩), e.val] w fun r w' => r = .returned (.bool (!plB l e)) ∧ TreeV K B (Ext D w w') w' tb (insL l e) ∧ Chg D w w' := by
  obtain ⟨d, t, hS, hR, rfl⟩ := h
  obtain ⟨w1, hw1⟩ : ∃ w1, w1 = w.alloc (.cells #[.string e.s, .int .i64 e.p, .int .i64 e.k] 35) := ⟨_, rfl⟩
  have hb1 : Below w.heap.size w w1 := by rw [hw1]; exact (Below.refl _ w).alloc (Nat.le_refl _) _
  have k1 : Blk w1 w.heap.size 35 #[.string e.s, .int .i64 e.p, .int .i64 e.k] := by rw [hw1]; exact Blk.new _ _ _
  have hTC := treechg_any (hS.below hb1) hR hes ent_ins (deed_ins k1 (Nat.le_refl _) (Nat.le_trans hes hK)) (fun k hk => (hS.foot k hk).2) hb1.size (Nat.le_trans hB hb1.size) change_all
  have hfst := chg_fst hR true e
  obtain ⟨h1, h2⟩ := root_ok hR true hes
  have HTC := Lib.hid hTC
  unfold En.val at HTC
  have H := Lib.hid (And.intro hS (And.intro hB (And.intro hb1 (And.intro hfst (And.intro h1 h2)))))
  have c0 := k1.cell 0
  have c1 := k1.cell 1
  have c2 := k1.cell 2
  simp only [List.getElem?_toArray, List.getElem?_cons_zero, List.getElem?_cons_succ] at c0 c1 c2
  have HW1 := Lib.hid hw1
  clear hS hR hB hb1 hTC hfst h1 h2 k1 hes hw1
  go_enter Try.func18, Try.ntmps18
  unfold En.val
  go_wp2_with fail
  rw [← HW1.out]
  go_wp2_with (first
    | (go_at_call 34; refine HTC.out.mono ?_; rintro r w2 ⟨rfl, hS2, hC2⟩; have H2 := Lib.hid (And.intro hS2 hC2); clear hS2 hC2))
  go_ret
  obtain ⟨hS, hB, hb1, hfst, h1, h2⟩ := H.out
  obtain ⟨hS2, hC2⟩ := H2.out
  have s1 := hb1.size
  have s2 := hC2.size
  refine ⟨by rw [hfst]; rfl, ⟨_, _, Sub.more hS2 (fun k hk => hk.imp id fun hk => ⟨by omega, hk.2⟩) (fun k hk => ?_), h1, h2⟩, (Chg.of_below hb1).trans hC2⟩
  rcases hk with hk | hk
  · have h3 := hS.foot k hk
    exact ⟨h3.1, by omega⟩
  · exact ⟨by omega, hk.2⟩
set_option maxRecDepth 100000 in
set_option maxHeartbeats 3200000 in
theorem delete_any {K B : Nat} {D : Nat → Prop} {w : World} {tb : Nat} {l : List En} (e : En) (h : TreeV K B D w tb l) (hB : B ≤ w.heap.size) (hes : e.s.size ≤ K) :
    Calls Try.prog 19 #[.pointer (some ⟨tb, 0, none⟩), e.val] w fun r w' => r = .returned (.bool (plB l e)) ∧ TreeV K B (Ext D w w') w' tb (delL l e) ∧ Chg D w w' := by
  obtain ⟨d, t, hS, hR, rfl⟩ := h
  obtain ⟨w1, hw1⟩ : ∃ w1, w1 = w.alloc (.cells #[.string e.s, .int .i64 e.p, .int .i64 e.k] 35) := ⟨_, rfl⟩
  have hb1 : Below w.heap.size w w1 := by rw [hw1]; exact (Below.refl _ w).alloc (Nat.le_refl _) _
  have k1 : Blk w1 w.heap.size 35 #[.string e.s, .int .i64 e.p, .int .i64 e.k] := by rw [hw1]; exact Blk.new _ _ _
  have hTC := treechg_any (hS.below hb1) hR hes ent_del (deed_del e w.heap.size w1) (fun k hk => (hS.foot k hk).2) hb1.size (Nat.le_trans hB hb1.size) change_all
  have hfst := chg_fst hR false e
  obtain ⟨h1, h2⟩ := root_ok hR false hes
  have HTC := Lib.hid hTC
  unfold En.val at HTC
  have H := Lib.hid (And.intro hS (And.intro hB (And.intro hb1 (And.intro hfst (And.intro h1 h2)))))
  have c0 := k1.cell 0
  have c1 := k1.cell 1
  have c2 := k1.cell 2
  simp only [List.getElem?_toArray, List.getElem?_cons_zero, List.getElem?_cons_succ] at c0 c1 c2
  have HW1 := Lib.hid hw1
  clear hS hR hB hb1 hTC hfst h1 h2 k1 hes hw1
  go_enter Try.func19, Try.ntmps19
  unfold En.val
  go_wp2_with fail
  rw [← HW1.out]
  go_wp2_with (first
    | (go_at_call 34; refine HTC.out.mono ?_; rintro r w2 ⟨rfl, hS2, hC2⟩; have H2 := Lib.hid (And.intro hS2 hC2); clear hS2 hC2))
  go_ret
  obtain ⟨hS, hB, hb1, hfst, h1, h2⟩ := H.out
  obtain ⟨hS2, hC2⟩ := H2.out
  have s1 := hb1.size
  have s2 := hC2.size
  refine ⟨by rw [hfst]; rfl, ⟨_, _, Sub.more hS2 (fun k hk => hk.imp id fun hk => ⟨by omega, hk.2⟩) (fun k hk => ?_), h1, h2⟩, (Chg.of_below hb1).trans hC2⟩
  rcases hk with hk | hk
  · have h3 := hS.foot k hk
    exact ⟨h3.1, by omega⟩
  · exact ⟨by omega, hk.2⟩
set_option maxRecDepth 100000 in
set_option maxHeartbeats 3200000 in
theorem new_any (K : Nat) (w : World) (B : Nat) (hB : B ≤ w.heap.size) : Calls Try.prog 11 #[] w fun e w' => ∃ tb D, e = .returned (.pointer (some ⟨tb, 0, none⟩)) ∧ TreeV K B D w' tb [] ∧ (∀ k, D k → w.heap.size ≤ k) ∧ Below w.heap.size w w' := by
  obtain ⟨w1, hw1⟩ : ∃ w1, w1 = w.alloc (.cells #[.slice none 0 0, .slice none 0 0] 63) := ⟨_, rfl⟩
  have hb1 : Below w.heap.size w w1 := by rw [hw1]; exact (Below.refl _ w).alloc (Nat.le_refl _) _
  have k1 : Blk w1 w.heap.size 63 #[.slice none 0 0, .slice none 0 0] := by rw [hw1]; exact Blk.new _ _ _
  have HF := Lib.hid (show ∃ tb D, (Ending.returned (.pointer (some ⟨w.heap.size, 0, none⟩)) : Ending) = .returned (.pointer (some ⟨tb, 0, none⟩)) ∧ TreeV K B D w1 tb [] ∧ (∀ k, D k → w.heap.size ≤ k) ∧ Below w.heap.size w w1 from by
    refine ⟨w.heap.size, fun k => k = w.heap.size, rfl, ⟨0, ([] : List En), ?_, ⟨trivial, fun h => absurd (show 0 < 0 from h) (Nat.lt_irrefl _), Nat.zero_le _, List.Pairwise.nil, fun y hy => by cases hy⟩, rfl⟩, fun k hk => Nat.le_of_eq hk.symm, hb1⟩
    exact ⟨63, none, 0, none, 0, ⟨k1, .inr rfl, World.ownsRow_nil _ _ _ _, World.ownsRow_nil _ _ _ _⟩, rfl, fun k hk => (by cases hk), fun k hk => (by cases hk), fun k hk => ⟨by rw [hk]; exact hB, by rw [hk]; exact k1.lt⟩⟩)
  have HW1 := Lib.hid hw1
  clear hb1 k1 hB hw1
  go_enter Try.func11, Try.ntmps11
  go_wp2_with fail
  go_ret
  rw [← HW1.out]
  exact HF.out
end Go.Proofs.Ytiaclfldgagalaa

/-
  Tree.from; Count.
-/
namespace Go.Proofs.Ytiaclfldgagalaa
open Go.RowKit Go.Lib Go.Shelf
attribute [local go_sem] Oper.semAt_some

theorem from_all : ∀ d, FromOk d
  | 0 => from_leaf
  | d + 1 => from_node (from_all d)
def lowE (s : ByteArray) : En := ⟨s, minI, minI⟩
set_option maxRecDepth 100000 in
set_option maxHeartbeats 1600000 in
theorem treefrom_any (w : World) (tb : Nat) (s : ByteArray) : Calls Try.prog 32 #[.pointer (some ⟨tb, 0, none⟩), .string s] w fun r w' => r = .returned (.func (.func 56) #[] #[.pointer (some ⟨w.heap.size, 0, none⟩), .pointer (some ⟨w.heap.size + 1, 0, none⟩)]) ∧
    w' = (w.alloc (.cells #[.pointer (some ⟨tb, 0, none⟩)] 70)).alloc (.cells #[.string s, .int .i64 minI, .int .i64 minI] 35) := by
  have HPF := Lib.hid (pagefrom_any w tb (lowE s))
  unfold En.val lowE minI at HPF
  unfold minI
  go_enter Try.func32, Try.ntmps32
  go_wp2_with (first
    | (go_at_call 46; refine HPF.out.mono ?_; rintro r w' ⟨rfl, hw⟩; have HW := Lib.hid hw; clear hw))
  go_ret
  exact ⟨rfl, HW.out⟩
theorem below_more {w A C : World} {row : Option Nat} (h : Below w.heap.size w A) (hg : A.grownBy C row) (hr : ∀ r, row = some r → w.heap.size ≤ r) : Below w.heap.size w C :=
  ⟨hg.os.trans h.os, hg.tape.trans h.tape, hg.output.trans h.output, Nat.le_trans h.size hg.size, fun k hk => (hg.block k (Nat.lt_of_lt_of_le hk h.size) fun e => by have := hr k e.symm; omega).trans (h.block k hk)⟩
theorem blk_grown {A C : World} {b : Nat} {t : TypeId} {cs : Array Value} {row : Option Nat} (h : Blk A b t cs) (hg : A.grownBy C row) (hr : ∀ r, row = some r → ∃ o : Obj, A.heap[r]? = some o ∧ o.isCells = false) : Blk C b t cs := by
  refine (hg.block b h.lt fun ee => ?_).trans h
  obtain ⟨o, ho, hc⟩ := hr b ee.symm
  rw [show A.heap[b]? = _ from h] at ho
  cases ho
  cases hc
/-- what Tree.from hands back, ranged over -/
theorem tree_seq {K B d tb : Nat} {D : Nat → Prop} {w w1 wk : World} {t : Tr d} {s : ByteArray} (hS : Sub B D w tb t) (hR : Root K t) (hb : Below w.heap.size w w1) (hwk : wk = (w1.alloc (.cells #[.pointer (some ⟨tb, 0, none⟩)] 70)).alloc (.cells #[.string s, .int .i64 minI, .int .i64 minI] 35)) :
    wk.heap.size = w1.heap.size + 2 ∧ Below w1.heap.size w1 wk ∧ (∀ k, (D k ∨ k = w1.heap.size ∨ k = w1.heap.size + 1) → k < wk.heap.size ∧ (k < w.heap.size ∨ w1.heap.size ≤ k)) ∧
      SeqO Fence.wide Try.prog 56 #[.pointer (some ⟨w1.heap.size, 0, none⟩), .pointer (some ⟨w1.heap.size + 1, 0, none⟩)] (fun x : En => #[x.val]) (fromL (lowE s) (ents t)) (fun k => D k ∨ k = w1.heap.size ∨ k = w1.heap.size + 1) wk := by
  obtain ⟨wm, hwm⟩ : ∃ wm, wm = w1.alloc (.cells #[.pointer (some ⟨tb, 0, none⟩)] 70) := ⟨_, rfl⟩
  rw [← hwm] at hwk
  have hsm : wm.heap.size = w1.heap.size + 1 := by rw [hwm]; simp
  have hsk : wk.heap.size = w1.heap.size + 2 := by rw [hwk]; simp [hsm]
  have hbk : Below w1.heap.size w1 wk := by
    rw [hwk, hwm]
    exact ((Below.refl _ w1).alloc (Nat.le_refl _) _).alloc (by simp) _
  have kp : Blk wk w1.heap.size 70 #[.pointer (some ⟨tb, 0, none⟩)] := by
    rw [hwk]
    refine Blk.alloc ?_ _
    rw [hwm]
    exact Blk.new _ _ _
  have ke : Blk wk (w1.heap.size + 1) 35 #[.string (lowE s).s, .int .i64 (lowE s).p, .int .i64 (lowE s).k] := by
    have h := Blk.new wm 35 #[.string s, .int .i64 minI, .int .i64 minI]
    rw [← hwk, hsm] at h
    exact h
  have hs1 := hb.size
  refine ⟨hsk, hbk, fun k hk => ?_, from_all d (hS.below (hb.trans (hbk.mono hs1))) ⟨hR.cnt, hR.one, by have := hR.few; omega, hR.ord⟩ kp ke (fun h => by have := (hS.foot _ h).2; omega) (fun h => by have := (hS.foot _ h).2; omega)⟩
  rcases hk with hk | rfl | rfl
  · have := (hS.foot k hk).2
    exact ⟨by omega, .inl this⟩
  · exact ⟨by omega, .inr (Nat.le_refl _)⟩
  · exact ⟨by omega, .inr (by omega)⟩
set_option maxRecDepth 100000 in
set_option maxHeartbeats 4000000 in
theorem count_any {K B : Nat} {D : Nat → Prop} {w : World} {tb : Nat} {l : List En} (h : TreeV K B D w tb l) (hl : l.length ≤ 1000000) (hlow : fromL (lowE ⟨#[]⟩) l = l) :
    Calls Try.prog 17 #[.pointer (some ⟨tb, 0, none⟩)] w fun r w' => r = .returned (.int .i64 l.length) ∧ Below w.heap.size w w' := by
  obtain ⟨d, t, hS, hR, hent⟩ := h
  have hdd : ∀ k : Nat, (Fence.wide.depth.isSome = true → 1 ≤ k) := fun k h => by cases h
  obtain ⟨n, _⟩ : ∃ n : Nat, True := ⟨0, trivial⟩
  refine (callsIn_wide (n := n)).1 ?_
  have HTF := Lib.hid (fun w1 => treefrom_any w1 tb ⟨#[]⟩)
  refine callsIn_of_wp_marks Try.func17 rfl trivial ?_
  simp only [Try.ntmps17, List.size_toArray, List.length_cons, List.length_nil, Nat.reduceAdd, Nat.reduceSub, Array.replicate_succ, Array.replicate_zero, List.push_toArray, List.append_toArray, List.nil_append, List.cons_append]
  gi_wp2_with (first
    | (refine ⟨trivial, hdd _, ?_⟩; gi_at_call 32; refine (callsIn_wide.2 (HTF.out _)).mono ?_; rintro r wk ⟨rfl, hwk⟩; have HWK := Lib.hid hwk; clear hwk))
  obtain ⟨w1, hw1⟩ : ∃ w1, w1 = w.alloc (.cells #[.int .i64 0] 3) := ⟨_, rfl⟩
  have hb1 : Below w.heap.size w w1 := by rw [hw1]; exact (Below.refl _ w).alloc (Nat.le_refl _) _
  have kc : Blk w1 w.heap.size 3 #[.int .i64 0] := by rw [hw1]; exact Blk.new _ _ _
  have hwk := HWK.out
  rw [← hw1] at hwk
  have s1 : w1.heap.size = w.heap.size + 1 := by rw [hw1]; simp
  obtain ⟨hsk, hbk, hSk, hseq⟩ := tree_seq hS hR hb1 hwk
  rw [hent, hlow] at hseq
  rw [s1] at hseq hSk hsk
  have kck := kc.below hbk kc.lt
  have hbw := hb1.trans (hbk.mono hb1.size)
  have HB := Lib.hid (And.intro hsk (And.intro hbw kck))
  clear HTF HWK hw1 hwk kc hb1 hbk
  refine range_own (w := wk) (w0 := wk) rfl rfl (gf := 56) (lb := #[.pointer (some ⟨w.heap.size + 1, 0, none⟩), .pointer (some ⟨w.heap.size + 1 + 1, 0, none⟩)]) rfl trivial ent_from hseq (Chg.refl _ _) (fun k hk => (hSk k hk).1) (fun _ k => k = w.heap.size) (fun _ _ _ _ _ _ h => h) (fun _ => rfl)
    (fun pre W' => Blk W' w.heap.size 3 #[.int .i64 (pre.length : Int)] ∧ Below w.heap.size w W' ∧ wk.heap.size + 2 ≤ W'.heap.size)
    (fun _ _ _ => False) ?_ ?_ ?_ ?_
    (fun pre z a' W' => (Blk W' w.heap.size 3 #[.int .i64 (pre.length : Int)] ∧ Below w.heap.size w W' ∧ wk.heap.size + 2 ≤ W'.heap.size) ∧ a' = { tmps := #[.pointer (some ⟨tb, 0, none⟩), undef, .int .i64 0, .pointer (some ⟨w.heap.size, 0, none⟩), .pointer (some ⟨tb, 0, none⟩), .func (.func 56) #[] #[.pointer (some ⟨w.heap.size + 1, 0, none⟩), .pointer (some ⟨w.heap.size + 1 + 1, 0, none⟩)], .agg #[.string z.s, .int .i64 z.p, .int .i64 z.k], undef, undef, undef], defers := [] })
    ?_ ?_ ?_ ?_ ?_
  · rintro pre A C row ⟨h1, h2, h3⟩ hg hr
    exact ⟨blk_grown h1 hg fun r e => (hr r e).2, below_more h2 hg fun r e => by have := (hr r e).1; omega, Nat.le_trans h3 hg.size⟩
  · intro c pre A C row h
    exact h.elim
  · rintro pre W' ⟨h1, h2, h3⟩
    exact ⟨h3, by omega, by omega, fun k hk => by rw [hk]; exact h1.lt⟩
  · intro o
    refine ⟨⟨(kck.alloc _).alloc _, ((hbw.alloc hbw.size _).alloc (by simp; omega) _), by simp⟩, fun k hk h => ?_⟩
    have := hSk k hk
    have hf := fun h => (hS.foot k h).2
    rcases hk with hk | hk | hk
    · have := hf hk; omega
    · omega
    · omega
  · rintro pre z a' _ A C row ⟨⟨h1, h2, h3⟩, h4⟩ hg hr
    exact ⟨⟨blk_grown h1 hg fun r e => (hr r e).2, below_more h2 hg fun r e => by have := (hr r e).1; omega, Nat.le_trans h3 hg.size⟩, h4⟩
  · rintro m' l' pre z Wr hI _ K hK
    have HKK := Lib.hid (hK _ Wr (KeepM.refl _ _) ⟨hI, rfl⟩)
    clear hI hK hseq hSk
    unfold En.val
    gi_wp2
    simp only [List.zip_toArray, List.zip_cons_cons, List.zip_nil_right, List.size_toArray, List.length_cons, List.length_nil]
    exact HKK.out
  · rintro m' l' pre z a' Wb ⟨⟨h1, h2, h3⟩, rfl⟩ ⟨post, hpost⟩
    have hlen : pre.length + 1 ≤ 1000000 := by
      have := congrArg List.length hpost
      simp at this
      omega
    have b0 := h1.cell 0
    simp only [List.getElem?_toArray, List.getElem?_cons_zero] at b0
    have f0 := h1.frozen 0
    obtain ⟨q, hq⟩ : ∃ q, q = pre.length := ⟨_, rfl⟩
    rw [← hq] at b0 hlen
    have b4 : IntKind.i64.wrap ((q : Int) + 1) = (q : Int) + 1 := by rw [IntKind.wrap_i64]; omega
    have HE := Lib.hid (And.intro h1 (And.intro h2 (And.intro h3 hq)))
    clear h1 h2 h3 hq hpost hseq hSk
    gi_wp2
    obtain ⟨h1, h2, h3, hq⟩ := HE.out
    refine ⟨⟨(Chg.refl (fun k => k = w.heap.size) Wb).setCell (fun _ => rfl) _, fun k h => .inl h⟩, ?_, h2.setCell (p := ⟨w.heap.size, 0, none⟩) (Nat.le_refl _) _, by simpa using h3⟩
    have h5 := h1.put 0 (.int .i64 ((q : Int) + 1))
    have h6 : ((pre ++ [z]).length : Int) = (q : Int) + 1 := by rw [hq]; simp
    rw [h6]
    exact h5
  · rintro o W' ⟨h1, h2, h3⟩ _ hD
    have b0 := h1.cell 0
    simp only [List.getElem?_toArray, List.getElem?_cons_zero] at b0
    have HE := Lib.hid (And.intro h2 hD)
    clear h1 h2 h3 hD hseq hSk
    gi_wp2
    refine ⟨by simp, .inl ⟨_, _, rfl, run_takeDeferred HE.out.2, ?_⟩⟩
    exact ⟨_, results_tmp rfl _ _ _, rfl, below_more HE.out.1 (grownBy_putObj' W' _ _) fun r e => by cases e; have := HB.out.1; omega⟩
  · rintro c pre W' _ h
    exact h.elim
end Go.Proofs.Ytiaclfldgagalaa

/-
  The entries whose key is at or above one; up to a key: plain mathematics.
-/
namespace Go.Proofs.Ytiaclfldgagalaa
open Go.RowKit Go.Lib

theorem ord_low {s : ByteArray} {a : En} (h : NumOk a) : ordE a (lowE s) < 0 ↔ cmpS a.s s < 0 := by
  unfold ordE
  show (if cmpS a.s s ≠ 0 then cmpS a.s s else if cmpI a.p minI ≠ 0 then cmpI a.p minI else cmpI a.k minI) < 0 ↔ _
  have h1 : 0 ≤ cmpI a.p minI := by unfold cmpI; split <;> (try split) <;> (have := h.1; omega)
  have h2 : 0 ≤ cmpI a.k minI := by unfold cmpI; split <;> (try split) <;> (have := h.2; omega)
  split
  · exact Iff.rfl
  · split <;> omega
theorem ordB_key {a b : En} (h : ordE a b < 0) : cmpS a.s b.s ≤ 0 := by
  unfold ordE at h
  split at h
  · omega
  · omega
theorem from_low {s : ByteArray} : ∀ {l : List En}, Srt l → (∀ a ∈ l, NumOk a) → fromL (lowE s) l = l.filter fun a => decide (0 ≤ cmpS a.s s)
  | [], _, _ => rfl
  | a :: r, hs, hn => by
    obtain ⟨h1, h2⟩ := List.pairwise_cons.1 hs
    have ha := ord_low (s := s) (hn a (by simp))
    unfold fromL
    rw [plN]
    by_cases h : ordE a (lowE s) < 0
    · rw [if_pos h, List.drop_succ_cons]
      have h3 : ¬ 0 ≤ cmpS a.s s := by have := ha.1 h; omega
      rw [List.filter_cons_of_neg (by simpa using h3)]
      exact from_low h2 fun x hx => hn x (by simp [hx])
    · rw [if_neg h, List.drop_zero]
      have h3 : 0 ≤ cmpS a.s s := by
        have h4 : ¬ cmpS a.s s < 0 := fun h' => h (ha.2 h')
        omega
      refine (List.filter_eq_self.2 fun x hx => ?_).symm
      rcases List.mem_cons.1 hx with rfl | hx
      · simpa using h3
      · have h5 := ordB_key (h1 x hx)
        have h6 := good_cmpS.anti a.s s
        have h7 := good_cmpS.anti x.s s
        have h8 := good_cmpS.trans s a.s x.s (by omega) h5
        simp
        omega
theorem cmp_empty (s : ByteArray) : 0 ≤ cmpS s ⟨#[]⟩ := by
  unfold cmpS
  cases h : s.data.toList with
  | nil => simp [compareBytes]
  | cons a l => simp [compareBytes]
theorem from_first {l : List En} (hs : Srt l) (hn : ∀ a ∈ l, NumOk a) : fromL (lowE ⟨#[]⟩) l = l := by
  rw [from_low hs hn]
  exact List.filter_eq_self.2 fun x _ => by simpa using cmp_empty x.s
/-- what is taken while it holds is what it holds of, where it does not hold again -/
theorem while_filter {α : Type} {R : α → α → Prop} {p : α → Bool} : ∀ {l : List α}, l.Pairwise R → (∀ a b, R a b → p b = true → p a = true) → l.takeWhile p = l.filter p
  | [], _, _ => rfl
  | a :: r, hs, hp => by
    obtain ⟨h1, h2⟩ := List.pairwise_cons.1 hs
    by_cases h : p a = true
    · rw [List.takeWhile_cons_of_pos h, List.filter_cons_of_pos h, while_filter h2 hp]
    · rw [List.takeWhile_cons_of_neg h, List.filter_cons_of_neg h]
      refine (List.filter_eq_nil_iff.2 fun x hx hpx => h (hp a x (h1 x hx) hpx)).symm
theorem find_low {s : ByteArray} {l : List En} (hs : Srt l) (hn : ∀ a ∈ l, NumOk a) : (fromL (lowE s) l).takeWhile (fun a => decide (a.s = s)) = fndL s l := by
  rw [from_low hs hn]
  have h1 : (l.filter fun a => decide (0 ≤ cmpS a.s s)).Pairwise fun a b => 0 ≤ cmpS a.s s ∧ ordE a b < 0 := by
    refine List.Pairwise.imp_of_mem (fun {a b} ha _ h => ⟨?_, h⟩) (hs.filter _)
    simpa using (List.mem_filter.1 ha).2
  rw [while_filter h1 fun a b h hb => ?_, List.filter_filter]
  · unfold fndL
    refine List.filter_congr fun a _ => ?_
    by_cases h : a.s = s
    · have := (good_cmpS.zero a.s s).2 h
      simp [h]
      have h9 := (good_cmpS.zero s s).2 rfl
      omega
    · simp [h]
  · have hb' : b.s = s := by simpa using hb
    have h2 := ordB_key h.2
    rw [hb'] at h2
    have := (good_cmpS.zero a.s s).1 (by have := h.1; omega)
    simpa using this
theorem range_low {f t : ByteArray} {most : Int} {l : List En} (hs : Srt l) (hn : ∀ a ∈ l, NumOk a) : ((fromL (lowE f) l).takeWhile (fun a => decide (cmpS a.s t < 0))).take most.toNat = rngL f t most l := by
  rw [from_low hs hn, while_filter (hs.filter _) fun a b h hb => ?_, List.filter_filter]
  · unfold rngL
    congr 1
    refine List.filter_congr fun a _ => ?_
    unfold inR
    rw [Bool.and_comm]
  · have hb' : cmpS b.s t < 0 := by simpa using hb
    have h2 := good_cmpS.strict' _ _ _ (ordB_key h) hb'
    simpa using h2
end Go.Proofs.Ytiaclfldgagalaa
