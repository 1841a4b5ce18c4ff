/-
  The document's own tree: Insert, Delete; Same.
-/
import Derived.Test.YtiaclfldgagalaaM01
import Derived.Deep.RegionHeld3
namespace Go.Proofs.Ytiaclfldgagalaa
open Go.RowKit Go.Lib

/-- what a call that changes the tree leaves -/
def RtTo (B tb : Nat) (D : Nat → Prop) (w : World) (l : List En) (w' : World) : Prop := RtV B (Ext D w w') w' tb l ∧ Chg D w w'
theorem RtTo.same {B tb : Nat} {D : Nat → Prop} {w w' : World} {l : List En} (h : RtV B D w tb l) (h1 : Below w.heap.size w w') (hB : B ≤ w.heap.size) : RtTo B tb D w l w' := by
  obtain ⟨A, n, c, h⟩ := h
  have h2 := h.below h1
  exact ⟨⟨A, n, c, h2.blk, h2.own, h2.len, .inl h2.domt, fun k hk => .inl (h2.domv k hk), fun k hk => hk.elim (fun hk => h2.foot k hk) fun hk => ⟨by omega, hk.2⟩⟩, Chg.of_below h1⟩
theorem RtX.store {B tb : Nat} {D : Nat → Prop} {w w5 w6 : World} {A A5 : Option Addr} {n c n5 c5 : Nat} {l l' : List En} (h : RtX B D w tb A n c l) (hB : B ≤ w.heap.size) (hb : Below w.heap.size w w5)
    (hown : w5.ownsRow w.heap.size 35 3 (.slice A5 n5 c5) n5 (ecs l')) (hn : n5 = l'.length) (hw6 : w6 = w5.setCell ⟨tb, 0, none⟩ (.slice A5 n5 c5)) : RtTo B tb D w l' w6 := by
  have hlt := h.blk.lt
  have hb5 := h.blk.below hb hlt
  have hc6 : Chg (fun k => k = tb) w5 w6 := by rw [hw6]; exact (Chg.refl (fun k => k = tb) w5).setCell (p := ⟨tb, 0, none⟩) (fun _ => rfl) _
  have s5 := hb.size
  have s6 := hc6.size
  refine ⟨⟨A5, n5, c5, by rw [hw6]; exact hb5.put 0 _, ?_, hn, .inl h.domt, fun k hk => .inr ⟨(hown.lt k hk).1, by have := (hown.lt k hk).2; omega⟩, fun k hk => hk.elim (fun hk => ⟨(h.foot k hk).1, by have := (h.foot k hk).2; omega⟩) fun hk => ⟨by omega, hk.2⟩⟩, ?_⟩
  · exact own_chg (own_baseN hown hB) hc6 fun k hk he => by have := (hown.lt k hk).1; omega
  · exact (Chg.of_below hb).trans' hc6 fun k _ hk => by subst hk; exact h.domt
/-- the first entries, and the others -/
theorem RtX.cut {B tb : Nat} {D : Nat → Prop} {w : World} {g n c : Nat} {l : List En} (h : RtX B D w tb (some ⟨g, 0, none⟩) n c l) (k : Nat) :
    (∀ ad, (some ⟨g, 0, none⟩ : Option Addr) = some ad → ∀ j u, (ecs (l.take k))[j]? = some u → w.cell? (ad.add j) = some u) ∧
    (∀ ad, (some ⟨g, k * 3, none⟩ : Option Addr) = some ad → ∀ j u, (ecs (l.drop k))[j]? = some u → w.cell? (ad.add j) = some u) := by
  have hc := h.own.cells (g := g) rfl
  refine ⟨fun ad ha j u hu => ?_, fun ad ha j u hu => ?_⟩
  · injection ha with ha
    subst ha
    rw [← ecs_take, List.getElem?_take] at hu
    split at hu
    · exact hc j u hu
    · cases hu
  · injection ha with ha
    subst ha
    rw [← ecs_drop, List.getElem?_drop] at hu
    have h1 := hc _ u hu
    rw [Addr.add_lit, Nat.zero_add] at h1
    rw [Addr.add_lit]
    exact h1
theorem Chg.of_belowB {B : Nat} {w w1 : World} (h : Below B w w1) : Chg (fun q => B ≤ q) w w1 := ⟨h.os, h.tape, h.output, h.size, fun k _ hn => h.block k (by omega)⟩
theorem ins_no {l : List En} {e : En} (h : plB l e = true) : insL l e = l := by rw [insL, if_pos h]
theorem ins_yes {l : List En} {e : En} (h : plB l e = false) : insL l e = l.take (plN e l) ++ [e] ++ l.drop (plN e l) := by rw [insL, if_neg (by rw [h]; simp)]
theorem del_no {l : List En} {e : En} (h : plB l e = false) : delL l e = l := by rw [delL, if_neg (by rw [h]; simp)]
theorem del_yes {l : List En} {e : En} (h : plB l e = true) : delL l e = l.take (plN e l) ++ l.drop (plN e l + 1) := by rw [delL, if_pos h]
theorem plB_lt {l : List En} {e : En} (h : plB l e = true) : plN e l < l.length := by
  unfold plB at h
  rcases Nat.lt_or_ge (plN e l) l.length with h1 | h1
  · exact h1
  · rw [List.getElem?_eq_none h1] at h; cases h

set_option maxRecDepth 100000 in
set_option maxHeartbeats 1600000 in
theorem sameE_yes {w : World} {A A' : Option Addr} {n n' c c' B B' : Nat} {l : List En} (hn : n = l.length) (hn' : n' = l.length) (h1 : w.ownsRow B 35 3 (.slice A n c) n (ecs l)) (h2 : w.ownsRow B' 35 3 (.slice A' n' c') n' (ecs l)) (hl : l.length ≤ 1000000) :
    Calls Try.prog 15 #[.slice A n c, .slice A' n' c'] w fun e w' => e = .returned (.bool true) ∧ Below w.heap.size w w' := by
  obtain rfl : n' = n := by rw [hn, hn']
  have H := Lib.hid (And.intro h1 (And.intro h2 hn))
  have hnl : n' ≤ 1000000 := by omega
  clear h1 h2 hn hn'
  go_enter Try.func15, Try.ntmps15
  go_wp2_with fail
  go_loopw [5] (fun i wr => ∃ k d : Nat, k ≤ n' ∧ i = .int .i64 k ∧ wr = w.drewN d) (fun i _ => n' - (intOf i).toNat)
  case atStart => exact ⟨0, 0, by omega, rfl, rfl⟩
  case round =>
    obtain ⟨k, d, hk, rfl, hw⟩ := hrel
    have HW := Lib.hid hw
    have hk0 : (0 : Int) ≤ (k : Int) := Int.natCast_nonneg _
    by_cases hlt : k < n'
    · have hk1 : (k : Int) < (n' : Int) := by omega
      have hkl : k < l.length := by rw [← H.out.2.2]; exact hlt
      obtain ⟨g, cap, hv, _, _⟩ := H.out.1.form (by omega)
      injection hv with v1 v2 v3
      clear v2 v3
      subst v1
      obtain ⟨g', cap', hv', _, _⟩ := H.out.2.1.form (by omega)
      injection hv' with v1 v2 v3
      clear v2 v3
      subst v1
      obtain ⟨a1, a2, a3⟩ := ecs_at hkl
      have hu := fun j (hj : j < n' * 3) => H.out.1.cellAt j hj
      have hu' := fun j (hj : j < n' * 3) => H.out.2.1.cellAt j hj
      have c0 : wr.cell? ⟨g, k * 3, none⟩ = some (.string l[k].s) := by rw [hw]; exact (hu _ (by omega)).trans a1
      have c1 : wr.cell? ⟨g, k * 3 + 1, none⟩ = some (.int .i64 l[k].p) := by rw [hw]; exact (hu _ (by omega)).trans a2
      have c2 : wr.cell? ⟨g, k * 3 + 2, none⟩ = some (.int .i64 l[k].k) := by rw [hw]; exact (hu _ (by omega)).trans a3
      have d0 : wr.cell? ⟨g', k * 3, none⟩ = some (.string l[k].s) := by rw [hw]; exact (hu' _ (by omega)).trans a1
      have d1 : wr.cell? ⟨g', k * 3 + 1, none⟩ = some (.int .i64 l[k].p) := by rw [hw]; exact (hu' _ (by omega)).trans a2
      have d2 : wr.cell? ⟨g', k * 3 + 2, none⟩ = some (.int .i64 l[k].k) := by rw [hw]; exact (hu' _ (by omega)).trans a3
      obtain ⟨x, hx⟩ : ∃ x, x = l[k] := ⟨_, rfl⟩
      rw [← hx] at c0 c1 c2 d0 d1 d2
      have e1 : (x.s.toList == x.s.toList) = true := by rw [str_beq]; simp
      clear hw a1 a2 a3 hu hu' hx
      go_wp2_with fail
      go_quiet (fail)
      go_wp2_with fail
      go_roundw
      case rel => exact ⟨k + 1, _, by omega, by go_num, by rw [HW.out]; exact World.drewN_drewN _ _ _⟩
      case measure => simp [intOf]; omega
    · have hkn : ¬ ((k : Int) < (n' : Int)) := by omega
      have hb : Below w.heap.size w wr := by rw [hw]; exact below_dN (Below.refl _ _) _
      have HB := Lib.hid hb
      clear hw hb
      go_wp2_with fail
      go_ret
      exact ⟨rfl, HB.out⟩

set_option maxRecDepth 100000 in
set_option maxHeartbeats 12800000 in
theorem rinsert_any {B tb : Nat} {D : Nat → Prop} {w : World} {l : List En} (h : RtV B D w tb l) (hs : Small l) (hB : B ≤ w.heap.size) (e : En) (he : e.s.size ≤ 30000000000000) :
    Calls Try.prog 26 #[.pointer (some ⟨tb, 0, none⟩), e.val] w fun r w' => r = .returned (.bool (!plB l e)) ∧ RtTo B tb D w (insL l e) w' := by
  obtain ⟨i0, hi, hz0, hz1, hz2⟩ := info_parts Try.infoent
  obtain ⟨w1, hw1⟩ : ∃ w1, w1 = w.alloc (.cells #[.string e.s, .int .i64 e.p, .int .i64 e.k] 35) := ⟨_, rfl⟩
  have hb1 : Below w.heap.size w w1 := by rw [hw1]; exact (Below.refl _ w).alloc (Nat.le_refl _) _
  have s1 : w1.heap.size = w.heap.size + 1 := by rw [hw1]; simp
  have k1 : Blk w1 w.heap.size 35 #[.string e.s, .int .i64 e.p, .int .i64 e.k] := by rw [hw1]; exact Blk.new _ _ _
  have HP := Lib.hid (rplace_any (h.below hb1) hs e he)
  have HW1 := Lib.hid hw1
  have hpl := plN_le e l
  have H := Lib.hid (And.intro h (And.intro hb1 (And.intro k1 hs.few)))
  have HPL := Lib.hid hpl
  clear h hb1 hw1 k1 hs hpl
  unfold En.val at HP ⊢
  go_enter Try.func26, Try.ntmps26
  go_wp2_with fail
  rw [← HW1.out]
  refine HP.out.mono ?_
  rintro r w2 ⟨rfl, hb2⟩
  have s2 := hb2.size
  have hbw2 := H.out.2.1.trans (hb2.mono H.out.2.1.size)
  have k2 := H.out.2.2.1.below hb2 (by omega)
  have c0 := k2.cell 0
  have c1 := k2.cell 1
  have c2 := k2.cell 2
  simp only [List.getElem?_toArray, List.getElem?_cons_zero, List.getElem?_cons_succ] at c0 c1 c2
  have H2 := Lib.hid (And.intro hbw2 k2)
  clear hb2 hbw2 k2
  cases hpb : plB l e with
  | true =>
    have HN := Lib.hid (ins_no hpb)
    have HNB := Lib.hid hpb
    clear hpb
    go_wp2_with fail
    go_ret
    exact ⟨by rw [HNB.out]; rfl, by rw [HN.out]; exact RtTo.same H.out.1 H2.out.1 hB⟩
  | false =>
    have hiy := ins_yes hpb
    have HPB := Lib.hid hpb
    obtain ⟨k, hk⟩ : ∃ k, k = plN e l := ⟨_, rfl⟩
    rw [← hk] at hiy ⊢
    have hkl : k ≤ l.length := by rw [hk]; exact HPL.out
    have HIY := Lib.hid (And.intro hiy hk)
    obtain ⟨A, n, c, hX⟩ := H.out.1
    have hn := hX.len
    have hnf : n ≤ 1000000 := by rw [hn]; exact H.out.2.2.2
    have hX2 := hX.below H2.out.1
    obtain ⟨A', c', hv, hnc, hcm⟩ := own_shapeN hX.own
    injection hv with hv1 hv2 hv3
    clear hv1 hv2
    subst hv3
    have hcm' := hcm
    unfold maxLen at hcm'
    have hk0 : (0 : Int) ≤ (k : Int) := Int.natCast_nonneg _
    have hkn : (k : Int) ≤ (n : Int) := by omega
    have hkc : (k : Int) ≤ (c : Int) := by omega
    have hnci : (n : Int) ≤ (c : Int) := by omega
    obtain ⟨w3, hw3⟩ : ∃ w3, w3 = w2.alloc (.cells #[] 35) := ⟨_, rfl⟩
    have hb3 : Below w2.heap.size w2 w3 := by rw [hw3]; exact (Below.refl _ w2).alloc (Nat.le_refl _) _
    have ho3 : w3.ownsRow w2.heap.size 35 3 (.slice (some ⟨w2.heap.size, 0, none⟩) 0 0) 0 (ecs []) := by
      rw [hw3]
      have h9 := World.ownsRow_lit (base := w2.heap.size) (size := 3) (e := 35) w2 #[] 0 (by simp) (by simp [maxLen]) (by simp)
      exact h9
    have hX3 := hX2.below hb3
    have hl3 := hX3.cell
    have k3 := H2.out.2.below hb3 H2.out.2.lt
    have s3 := hb3.size
    have HW3 := Lib.hid hw3
    have H3 := Lib.hid (And.intro hX (And.intro hX3 (And.intro ho3 (And.intro hb3 k3))))
    have HLN := Lib.hid hn
    have HKL := Lib.hid hkl
    rw [hw3] at hl3
    clear hX hX2 hX3 hb3 ho3 k3 hw3 hiy hk hpb hn hkl
    rcases hA : A with _ | ad
    · have hn0 : n = 0 ∧ c = 0 := by
        rcases H3.out.1.own.2 with ⟨e1, _⟩ | ⟨g1, cap, cur, e1, _⟩
        · cases e1; exact ⟨rfl, rfl⟩
        · rw [hA] at e1; cases e1
      obtain ⟨e1, e2⟩ := hn0
      have hkz : k = 0 := by omega
      rw [hA, e1, e2] at hl3 H3
      have HL0 := Lib.hid (show l = [] from List.eq_nil_of_length_eq_zero (by rw [← HLN.out]; exact e1))
      subst hA
      subst e2
      subst hkz
      subst e1
      clear hkn hkc hnci hnc
      have HXw3 := Lib.hid (And.intro H3.out.2.1 (And.intro H3.out.2.2.2.2 (And.intro (Below.refl w2.heap.size w3) H3.out.2.2.1)))
      have HO3 := Lib.hid H3.out.2.2.1
      rw [HW3.out] at HO3
      go_wp2_with (at_builtin; refine wpList_append_rs _ rfl (.tmp 16) (.tmp 22) 28 rfl w2.heap.size 35 i0 (.agg #[.string ⟨#[]⟩, .int .i64 0, .int .i64 0]) 3 32 Try.underlying28 hi hz0 hz1 hz2 rfl (by decide) _ 0 _ rfl HO3.out (none) 0 0 (ecs []) rfl ?aq1 ?aq2 ?aq3 ?aq4 ?aq5 ?aq6 ?aq7 ?_)
      try (case aq1 => rfl)
      try (case aq2 => exact fun _ => rfl)
      try (case aq3 => intro ad ha; cases ha)
      try (case aq4 => exact ecs_one _)
      try (case aq5 => first | (unfold maxLen; omega) | (simp [maxLen]; omega))
      try (case aq6 => first | omega | (simp; done) | (simp; omega))
      try (case aq7 => first | omega | (simp; done) | (simp; omega))
      intro v4 w4 ho4 hg4
      rw [← HW3.out] at hg4
      try rw [Nat.zero_add] at ho4
      rw [show ecs [] ++ ecs [] = ecs [] from rfl] at ho4
      obtain ⟨A4, c4, rfl, _, _⟩ := own_shapeN ho4
      have hbqw4 : Below w2.heap.size w3 w4 := below_ownN HXw3.out.2.2.2 hg4 s3
      have sqw4 := hbqw4.size
      have hXw4 := HXw3.out.1.chg (Chg.of_belowB hbqw4) fun q hq he => by have := (H3.out.1.foot q hq).2; have := H2.out.1.size; omega
      have kqw4 := HXw3.out.2.1.below hbqw4 (by have := H2.out.2.lt; omega)
      have HXw4 := Lib.hid (And.intro hXw4 (And.intro kqw4 (And.intro (HXw3.out.2.2.1.trans hbqw4) ho4)))
      have l4 := hXw4.cell
      have m0 := kqw4.cell 0
      have m1 := kqw4.cell 1
      have m2 := kqw4.cell 2
      simp only [List.getElem?_toArray, List.getElem?_cons_zero, List.getElem?_cons_succ] at m0 m1 m2
      clear ho4 hg4 hbqw4 hXw4 kqw4 hl3 c0 c1 c2
      go_wp2_with (at_builtin; refine wpList_append_own _ rfl (.tmp 24) (.tmp 26) 28 rfl w2.heap.size 35 i0 (.agg #[.string ⟨#[]⟩, .int .i64 0, .int .i64 0]) 3 32 Try.underlying28 hi hz0 hz1 hz2 rfl (by decide) _ 0 _ rfl (HXw4.out.2.2.2.alloc _) ⟨w4.heap.size, 0, none⟩ 1 1 [.string e.s, .int .i64 e.p, .int .i64 e.k] rfl rfl (World.news_of_block (heap_alloc_new w4 _)) ?bn2 ?bn3 ?bn4 ?bn5 ?_)
      case bn2 => first | (intro u hu; simp at hu; rcases hu with rfl | rfl | rfl <;> rfl) | (refine ⟨?_, ?_, ?_⟩ <;> rfl)
      case bn3 => first | (unfold maxLen; omega) | (simp [maxLen]; omega)
      case bn4 => first | omega | (simp; omega)
      case bn5 => first | omega | (simp; omega)
      intro v5 w5 ho5 hg5 _
      obtain ⟨A5, c5, rfl, _, _⟩ := own_shapeN ho5
      have hbqw5 : Below w2.heap.size w4 w5 := ((Below.refl w2.heap.size w4).alloc (by omega) _).trans (below_ownN (HXw4.out.2.2.2.alloc _) hg5 (by simp; omega))
      have sqw5 := hbqw5.size
      have hXw5 := HXw4.out.1.chg (Chg.of_belowB hbqw5) fun q hq he => by have := (H3.out.1.foot q hq).2; have := H2.out.1.size; omega
      have kqw5 := HXw4.out.2.1.below hbqw5 (by have := H2.out.2.lt; omega)
      have HXw5 := Lib.hid (And.intro hXw5 (And.intro kqw5 (And.intro (HXw4.out.2.2.1.trans hbqw5) ho5)))
      have l5 := hXw5.cell
      clear ho5 hg5 hbqw5 hXw5 kqw5 l4 m0 m1 m2
      go_wp2_with (at_builtin; refine wpList_append_rs _ rfl (.tmp 29) (.tmp 35) 28 rfl w2.heap.size 35 i0 (.agg #[.string ⟨#[]⟩, .int .i64 0, .int .i64 0]) 3 32 Try.underlying28 hi hz0 hz1 hz2 rfl (by decide) _ (0 + 1) _ rfl HXw5.out.2.2.2 (none) 0 0 (ecs []) rfl ?dqq1 ?dqq2 ?dqq3 ?dqq4 ?dqq5 ?dqq6 ?dqq7 ?_)
      try (case dqq1 => rfl)
      try (case dqq2 => exact fun _ => rfl)
      try (case dqq3 => intro ad ha; cases ha)
      try (case dqq4 => exact ecs_one _)
      try (case dqq5 => first | (unfold maxLen; omega) | (simp [maxLen]; omega))
      try (case dqq6 => first | omega | (simp; done) | (simp; omega))
      try (case dqq7 => first | omega | (simp; done) | (simp; omega))
      intro v6 w6 ho6 hg6
      obtain ⟨A6, c6, rfl, _, _⟩ := own_shapeN ho6
      have hbq6 : Below w2.heap.size w5 w6 := below_ownN HXw5.out.2.2.2 hg6 (by have := H2.out.1.size; omega)
      have hbt : Below w.heap.size w w6 := (H2.out.1.trans (H3.out.2.2.2.1.mono H2.out.1.size)).trans ((HXw5.out.2.2.1.trans hbq6).mono H2.out.1.size)
      have kt := H3.out.1.blk.below hbt H3.out.1.blk.lt
      have l6 := kt.cell 0
      have f6 := kt.frozen 0
      simp only [List.getElem?_toArray, List.getElem?_cons_zero] at l6
      have HF := Lib.hid (show RtTo B tb D w (insL l e) (w6.setCell ⟨tb, 0, none⟩ (.slice A6 (0 + 1 + 0) c6)) from by
        refine H3.out.1.store hB hbt (own_baseN (by rw [HIY.out.1]; simpa [ecs_append, ecs, En.vs, HL0.out] using ho6) H2.out.1.size) ?_ rfl
        rw [HIY.out.1]
        simp [HL0.out])
      clear ho6 hg6 hbq6 hbt kt
      go_wp2_with fail
      go_ret
      exact ⟨by rw [HPB.out]; rfl, HF.out⟩
    · obtain ⟨g, hg⟩ : ∃ g, ad = ⟨g, 0, none⟩ := by
        rcases H3.out.1.own.2 with ⟨e1, _⟩ | ⟨g1, cap, cur, e1, _⟩
        · rw [hA] at e1; cases e1
        · rw [hA] at e1; cases e1; exact ⟨g1, rfl⟩
      subst hg
      rw [hA] at hl3 H3
      clear hA
      have HXw3 := Lib.hid (And.intro H3.out.2.1 (And.intro H3.out.2.2.2.2 (And.intro (Below.refl w2.heap.size w3) H3.out.2.2.1)))
      have HO3 := Lib.hid H3.out.2.2.1
      rw [HW3.out] at HO3
      go_wp2_with (at_builtin; refine wpList_append_rs _ rfl (.tmp 16) (.tmp 22) 28 rfl w2.heap.size 35 i0 (.agg #[.string ⟨#[]⟩, .int .i64 0, .int .i64 0]) 3 32 Try.underlying28 hi hz0 hz1 hz2 rfl (by decide) _ 0 _ rfl HO3.out (some ⟨g, 0, none⟩) k c (ecs (l.take k)) rfl ?aqqq1 ?aqqq2 ?aqqq3 ?aqqq4 ?aqqq5 ?aqqq6 ?aqqq7 ?_)
      try (case aqqq1 => rw [ecs_len, List.length_take, Nat.min_eq_left HKL.out])
      try (case aqqq2 => intro ha; cases ha)
      try (case aqqq3 => rw [← HW3.out]; exact (H3.out.2.1.cut k).1)
      try (case aqqq4 => exact ecs_one _)
      try (case aqqq5 => first | (unfold maxLen; omega) | (simp [maxLen]; omega))
      try (case aqqq6 => first | omega | (simp; done) | (simp; omega))
      try (case aqqq7 => first | omega | (simp; done) | (simp; omega))
      intro v4 w4 ho4 hg4
      rw [← HW3.out] at hg4
      try rw [Nat.zero_add] at ho4
      rw [show ecs [] ++ ecs (l.take k) = ecs (l.take k) from rfl] at ho4
      obtain ⟨A4, c4, rfl, _, _⟩ := own_shapeN ho4
      have hbqw4 : Below w2.heap.size w3 w4 := below_ownN HXw3.out.2.2.2 hg4 s3
      have sqw4 := hbqw4.size
      have hXw4 := HXw3.out.1.chg (Chg.of_belowB hbqw4) fun q hq he => by have := (H3.out.1.foot q hq).2; have := H2.out.1.size; omega
      have kqw4 := HXw3.out.2.1.below hbqw4 (by have := H2.out.2.lt; omega)
      have HXw4 := Lib.hid (And.intro hXw4 (And.intro kqw4 (And.intro (HXw3.out.2.2.1.trans hbqw4) ho4)))
      have l4 := hXw4.cell
      have m0 := kqw4.cell 0
      have m1 := kqw4.cell 1
      have m2 := kqw4.cell 2
      simp only [List.getElem?_toArray, List.getElem?_cons_zero, List.getElem?_cons_succ] at m0 m1 m2
      clear ho4 hg4 hbqw4 hXw4 kqw4 hl3 c0 c1 c2
      go_wp2_with (at_builtin; refine wpList_append_own _ rfl (.tmp 24) (.tmp 26) 28 rfl w2.heap.size 35 i0 (.agg #[.string ⟨#[]⟩, .int .i64 0, .int .i64 0]) 3 32 Try.underlying28 hi hz0 hz1 hz2 rfl (by decide) _ k _ rfl (HXw4.out.2.2.2.alloc _) ⟨w4.heap.size, 0, none⟩ 1 1 [.string e.s, .int .i64 e.p, .int .i64 e.k] rfl rfl (World.news_of_block (heap_alloc_new w4 _)) ?bs2 ?bs3 ?bs4 ?bs5 ?_)
      case bs2 => first | (intro u hu; simp at hu; rcases hu with rfl | rfl | rfl <;> rfl) | (refine ⟨?_, ?_, ?_⟩ <;> rfl)
      case bs3 => first | (unfold maxLen; omega) | (simp [maxLen]; omega)
      case bs4 => first | omega | (simp; omega)
      case bs5 => first | omega | (simp; omega)
      intro v5 w5 ho5 hg5 _
      obtain ⟨A5, c5, rfl, _, _⟩ := own_shapeN ho5
      have hbqw5 : Below w2.heap.size w4 w5 := ((Below.refl w2.heap.size w4).alloc (by omega) _).trans (below_ownN (HXw4.out.2.2.2.alloc _) hg5 (by simp; omega))
      have sqw5 := hbqw5.size
      have hXw5 := HXw4.out.1.chg (Chg.of_belowB hbqw5) fun q hq he => by have := (H3.out.1.foot q hq).2; have := H2.out.1.size; omega
      have kqw5 := HXw4.out.2.1.below hbqw5 (by have := H2.out.2.lt; omega)
      have HXw5 := Lib.hid (And.intro hXw5 (And.intro kqw5 (And.intro (HXw4.out.2.2.1.trans hbqw5) ho5)))
      have l5 := hXw5.cell
      clear ho5 hg5 hbqw5 hXw5 kqw5 l4 m0 m1 m2
      by_cases hce : k = c
      · subst hce
        have HD0 := Lib.hid (show l.drop k = [] from List.drop_eq_nil_of_le (by rw [← HLN.out]; omega))
        have hnk := Lib.hid (show n = k by omega)
        go_wp2_with (at_builtin; refine wpList_append_rs _ rfl (.tmp 29) (.tmp 35) 28 rfl w2.heap.size 35 i0 (.agg #[.string ⟨#[]⟩, .int .i64 0, .int .i64 0]) 3 32 Try.underlying28 hi hz0 hz1 hz2 rfl (by decide) _ (k + 1) _ rfl HXw5.out.2.2.2 (some ⟨g, 0, none⟩) 0 0 (ecs []) rfl ?dqqqq1 ?dqqqq2 ?dqqqq3 ?dqqqq4 ?dqqqq5 ?dqqqq6 ?dqqqq7 ?_)
        try (case dqqqq1 => rfl)
        try (case dqqqq2 => intro ha; cases ha)
        try (case dqqqq3 => intro ad ha j u hu; simp [ecs] at hu)
        try (case dqqqq4 => exact ecs_one _)
        try (case dqqqq5 => first | (unfold maxLen; omega) | (simp [maxLen]; omega))
        try (case dqqqq6 => first | omega | (simp; done) | (simp; omega))
        try (case dqqqq7 => first | omega | (simp; done) | (simp; omega))
        intro v6 w6 ho6 hg6
        obtain ⟨A6, c6, rfl, _, _⟩ := own_shapeN ho6
        have hbq6 : Below w2.heap.size w5 w6 := below_ownN HXw5.out.2.2.2 hg6 (by have := H2.out.1.size; omega)
        have hbt : Below w.heap.size w w6 := (H2.out.1.trans (H3.out.2.2.2.1.mono H2.out.1.size)).trans ((HXw5.out.2.2.1.trans hbq6).mono H2.out.1.size)
        have kt := H3.out.1.blk.below hbt H3.out.1.blk.lt
        have l6 := kt.cell 0
        have f6 := kt.frozen 0
        simp only [List.getElem?_toArray, List.getElem?_cons_zero] at l6
        have HF := Lib.hid (show RtTo B tb D w (insL l e) (w6.setCell ⟨tb, 0, none⟩ (.slice A6 (k + 1 + 0) c6)) from by
          refine H3.out.1.store hB hbt (own_baseN (by rw [HIY.out.1]; simpa [ecs_append, ecs, En.vs, HD0.out] using ho6) H2.out.1.size) ?_ rfl
          rw [HIY.out.1]
          simp [HD0.out]; have := HLN.out; have := HKL.out; omega)
        clear ho6 hg6 hbq6 hbt kt
        go_wp2_with fail
        go_ret
        exact ⟨by rw [HPB.out]; rfl, HF.out⟩
      · have hce1 : ¬ ((k : Nat) : Int) = (c : Int) := by omega
        have hce2 : ¬ c = k := fun h => hce h.symm
        go_wp2_with (at_builtin; refine wpList_append_rs _ rfl (.tmp 29) (.tmp 35) 28 rfl w2.heap.size 35 i0 (.agg #[.string ⟨#[]⟩, .int .i64 0, .int .i64 0]) 3 32 Try.underlying28 hi hz0 hz1 hz2 rfl (by decide) _ (k + 1) _ rfl HXw5.out.2.2.2 (some ⟨g, k * 3, none⟩) (n - k) (c - k) (ecs (l.drop k)) rfl ?dqqqqq1 ?dqqqqq2 ?dqqqqq3 ?dqqqqq4 ?dqqqqq5 ?dqqqqq6 ?dqqqqq7 ?_)
        try (case dqqqqq1 => rw [ecs_len, List.length_drop, ← HLN.out])
        try (case dqqqqq2 => intro ha; cases ha)
        try (case dqqqqq3 => exact (HXw5.out.1.cut k).2)
        try (case dqqqqq4 => exact ecs_one _)
        try (case dqqqqq5 => first | (unfold maxLen; omega) | (simp [maxLen]; omega))
        try (case dqqqqq6 => first | omega | (simp; done) | (simp; omega))
        try (case dqqqqq7 => first | omega | (simp; done) | (simp; omega))
        intro v6 w6 ho6 hg6
        obtain ⟨A6, c6, rfl, _, _⟩ := own_shapeN ho6
        have hbq6 : Below w2.heap.size w5 w6 := below_ownN HXw5.out.2.2.2 hg6 (by have := H2.out.1.size; omega)
        have hbt : Below w.heap.size w w6 := (H2.out.1.trans (H3.out.2.2.2.1.mono H2.out.1.size)).trans ((HXw5.out.2.2.1.trans hbq6).mono H2.out.1.size)
        have kt := H3.out.1.blk.below hbt H3.out.1.blk.lt
        have l6 := kt.cell 0
        have f6 := kt.frozen 0
        simp only [List.getElem?_toArray, List.getElem?_cons_zero] at l6
        have HF := Lib.hid (show RtTo B tb D w (insL l e) (w6.setCell ⟨tb, 0, none⟩ (.slice A6 (k + 1 + (n - k)) c6)) from by
          refine H3.out.1.store hB hbt (own_baseN (by rw [HIY.out.1]; simpa [ecs_append, ecs, En.vs] using ho6) H2.out.1.size) ?_ rfl
          rw [HIY.out.1]
          simp; have := HLN.out; have := HKL.out; omega)
        clear ho6 hg6 hbq6 hbt kt
        go_wp2_with fail
        go_ret
        exact ⟨by rw [HPB.out]; rfl, HF.out⟩

set_option maxRecDepth 100000 in
set_option maxHeartbeats 12800000 in
theorem rdelete_any {B tb : Nat} {D : Nat → Prop} {w : World} {l : List En} (h : RtV B D w tb l) (hs : Small l) (hB : B ≤ w.heap.size) (e : En) (he : e.s.size ≤ 30000000000000) :
    Calls Try.prog 27 #[.pointer (some ⟨tb, 0, none⟩), e.val] w fun r w' => r = .returned (.bool (plB l e)) ∧ RtTo B tb D w (delL l e) w' := by
  obtain ⟨i0, hi, hz0, hz1, hz2⟩ := info_parts Try.infoent
  obtain ⟨w1, hw1⟩ : ∃ w1, w1 = w.alloc (.cells #[.string e.s, .int .i64 e.p, .int .i64 e.k] 35) := ⟨_, rfl⟩
  have hb1 : Below w.heap.size w w1 := by rw [hw1]; exact (Below.refl _ w).alloc (Nat.le_refl _) _
  have s1 : w1.heap.size = w.heap.size + 1 := by rw [hw1]; simp
  have k1 : Blk w1 w.heap.size 35 #[.string e.s, .int .i64 e.p, .int .i64 e.k] := by rw [hw1]; exact Blk.new _ _ _
  have HP := Lib.hid (rplace_any (h.below hb1) hs e he)
  have HW1 := Lib.hid hw1
  have hpl := plN_le e l
  have H := Lib.hid (And.intro h (And.intro hb1 (And.intro k1 hs.few)))
  have HPL := Lib.hid hpl
  clear h hb1 hw1 k1 hs hpl
  unfold En.val at HP ⊢
  go_enter Try.func27, Try.ntmps27
  go_wp2_with fail
  rw [← HW1.out]
  refine HP.out.mono ?_
  rintro r w2 ⟨rfl, hb2⟩
  have s2 := hb2.size
  have hbw2 := H.out.2.1.trans (hb2.mono H.out.2.1.size)
  have k2 := H.out.2.2.1.below hb2 (by omega)
  have c0 := k2.cell 0
  have c1 := k2.cell 1
  have c2 := k2.cell 2
  simp only [List.getElem?_toArray, List.getElem?_cons_zero, List.getElem?_cons_succ] at c0 c1 c2
  have H2 := Lib.hid (And.intro hbw2 k2)
  clear hb2 hbw2 k2
  cases hpb : plB l e with
  | false =>
    have HN := Lib.hid (del_no hpb)
    have HNB := Lib.hid hpb
    clear hpb
    go_wp2_with fail
    go_ret
    exact ⟨by rw [HNB.out]; rfl, by rw [HN.out]; exact RtTo.same H.out.1 H2.out.1 hB⟩
  | true =>
    have hiy := del_yes hpb
    have HPB := Lib.hid hpb
    obtain ⟨k, hk⟩ : ∃ k, k = plN e l := ⟨_, rfl⟩
    rw [← hk] at hiy ⊢
    have hkl : k ≤ l.length := by rw [hk]; exact HPL.out
    have HIY := Lib.hid (And.intro hiy hk)
    obtain ⟨A, n, c, hX⟩ := H.out.1
    have hn := hX.len
    have hnf : n ≤ 1000000 := by rw [hn]; exact H.out.2.2.2
    have hX2 := hX.below H2.out.1
    obtain ⟨A', c', hv, hnc, hcm⟩ := own_shapeN hX.own
    injection hv with hv1 hv2 hv3
    clear hv1 hv2
    subst hv3
    have hcm' := hcm
    unfold maxLen at hcm'
    have hk0 : (0 : Int) ≤ (k : Int) := Int.natCast_nonneg _
    have hkn : (k : Int) ≤ (n : Int) := by omega
    have hkc : (k : Int) ≤ (c : Int) := by omega
    have hnci : (n : Int) ≤ (c : Int) := by omega
    obtain ⟨w3, hw3⟩ : ∃ w3, w3 = w2.alloc (.cells #[] 35) := ⟨_, rfl⟩
    have hb3 : Below w2.heap.size w2 w3 := by rw [hw3]; exact (Below.refl _ w2).alloc (Nat.le_refl _) _
    have ho3 : w3.ownsRow w2.heap.size 35 3 (.slice (some ⟨w2.heap.size, 0, none⟩) 0 0) 0 (ecs []) := by
      rw [hw3]
      have h9 := World.ownsRow_lit (base := w2.heap.size) (size := 3) (e := 35) w2 #[] 0 (by simp) (by simp [maxLen]) (by simp)
      exact h9
    have hX3 := hX2.below hb3
    have hl3 := hX3.cell
    have k3 := H2.out.2.below hb3 H2.out.2.lt
    have s3 := hb3.size
    have HW3 := Lib.hid hw3
    have H3 := Lib.hid (And.intro hX (And.intro hX3 (And.intro ho3 (And.intro hb3 k3))))
    have HLN := Lib.hid hn
    have HKL := Lib.hid hkl
    rw [hw3] at hl3
    clear hX hX2 hX3 hb3 ho3 k3 hw3 hiy hk hpb hn hkl
    have hkl2 : k < n := by rw [HLN.out, HIY.out.2]; exact plB_lt HPB.out
    have hkn2 : (k : Int) < (n : Int) := by omega
    have hkc2 : (k : Int) + 1 ≤ (c : Int) := by omega
    have hkn3 : (k : Int) + 1 ≤ (n : Int) := by omega
    rcases hA : A with _ | ad
    · exfalso
      rcases H3.out.1.own.2 with ⟨e1, _⟩ | ⟨g1, cap, cur, e1, _⟩
      · cases e1; omega
      · rw [hA] at e1; cases e1
    · obtain ⟨g, hg⟩ : ∃ g, ad = ⟨g, 0, none⟩ := by
        rcases H3.out.1.own.2 with ⟨e1, _⟩ | ⟨g1, cap, cur, e1, _⟩
        · rw [hA] at e1; cases e1
        · rw [hA] at e1; cases e1; exact ⟨g1, rfl⟩
      subst hg
      rw [hA] at hl3 H3
      clear hA
      have HXw3 := Lib.hid (And.intro H3.out.2.1 (And.intro H3.out.2.2.2.2 (And.intro (Below.refl w2.heap.size w3) H3.out.2.2.1)))
      have HO3 := Lib.hid H3.out.2.2.1
      rw [HW3.out] at HO3
      go_wp2_with (at_builtin; refine wpList_append_rs _ rfl (.tmp 17) (.tmp 23) 28 rfl w2.heap.size 35 i0 (.agg #[.string ⟨#[]⟩, .int .i64 0, .int .i64 0]) 3 32 Try.underlying28 hi hz0 hz1 hz2 rfl (by decide) _ 0 _ rfl HO3.out (some ⟨g, 0, none⟩) k c (ecs (l.take k)) rfl ?aqqqqqq1 ?aqqqqqq2 ?aqqqqqq3 ?aqqqqqq4 ?aqqqqqq5 ?aqqqqqq6 ?aqqqqqq7 ?_)
      try (case aqqqqqq1 => rw [ecs_len, List.length_take, Nat.min_eq_left HKL.out])
      try (case aqqqqqq2 => intro ha; cases ha)
      try (case aqqqqqq3 => rw [← HW3.out]; exact (H3.out.2.1.cut k).1)
      try (case aqqqqqq4 => exact ecs_one _)
      try (case aqqqqqq5 => first | (unfold maxLen; omega) | (simp [maxLen]; omega))
      try (case aqqqqqq6 => first | omega | (simp; done) | (simp; omega))
      try (case aqqqqqq7 => first | omega | (simp; done) | (simp; omega))
      intro v4 w4 ho4 hg4
      rw [← HW3.out] at hg4
      try rw [Nat.zero_add] at ho4
      rw [show ecs [] ++ ecs (l.take k) = ecs (l.take k) from rfl] at ho4
      obtain ⟨A4, c4, rfl, _, _⟩ := own_shapeN ho4
      have hbqw4 : Below w2.heap.size w3 w4 := below_ownN HXw3.out.2.2.2 hg4 s3
      have sqw4 := hbqw4.size
      have hXw4 := HXw3.out.1.chg (Chg.of_belowB hbqw4) fun q hq he => by have := (H3.out.1.foot q hq).2; have := H2.out.1.size; omega
      have kqw4 := HXw3.out.2.1.below hbqw4 (by have := H2.out.2.lt; omega)
      have HXw4 := Lib.hid (And.intro hXw4 (And.intro kqw4 (And.intro (HXw3.out.2.2.1.trans hbqw4) ho4)))
      have l4 := hXw4.cell
      have m0 := kqw4.cell 0
      have m1 := kqw4.cell 1
      have m2 := kqw4.cell 2
      simp only [List.getElem?_toArray, List.getElem?_cons_zero, List.getElem?_cons_succ] at m0 m1 m2
      clear ho4 hg4 hbqw4 hXw4 kqw4 hl3 c0 c1 c2
      by_cases hce : (k + 1) = c
      · have hce1 : (((k + 1) : Nat) : Int) = (c : Int) := by omega
        have HD0 := Lib.hid (show l.drop (k + 1) = [] from List.drop_eq_nil_of_le (by rw [← HLN.out]; omega))
        have hnk := Lib.hid (show n = (k + 1) by omega)
        go_wp2_with (at_builtin; refine wpList_append_rs _ rfl (.tmp 26) (.tmp 33) 28 rfl w2.heap.size 35 i0 (.agg #[.string ⟨#[]⟩, .int .i64 0, .int .i64 0]) 3 32 Try.underlying28 hi hz0 hz1 hz2 rfl (by decide) _ (k) _ rfl HXw4.out.2.2.2 (some ⟨g, 0, none⟩) 0 0 (ecs []) rfl ?dqqqqqqq1 ?dqqqqqqq2 ?dqqqqqqq3 ?dqqqqqqq4 ?dqqqqqqq5 ?dqqqqqqq6 ?dqqqqqqq7 ?_)
        try (case dqqqqqqq1 => rfl)
        try (case dqqqqqqq2 => intro ha; cases ha)
        try (case dqqqqqqq3 => intro ad ha j u hu; simp [ecs] at hu)
        try (case dqqqqqqq4 => exact ecs_one _)
        try (case dqqqqqqq5 => first | (unfold maxLen; omega) | (simp [maxLen]; omega))
        try (case dqqqqqqq6 => first | omega | (simp; done) | (simp; omega))
        try (case dqqqqqqq7 => first | omega | (simp; done) | (simp; omega))
        intro v6 w6 ho6 hg6
        obtain ⟨A6, c6, rfl, _, _⟩ := own_shapeN ho6
        have hbq6 : Below w2.heap.size w4 w6 := below_ownN HXw4.out.2.2.2 hg6 (by have := H2.out.1.size; omega)
        have hbt : Below w.heap.size w w6 := (H2.out.1.trans (H3.out.2.2.2.1.mono H2.out.1.size)).trans ((HXw4.out.2.2.1.trans hbq6).mono H2.out.1.size)
        have kt := H3.out.1.blk.below hbt H3.out.1.blk.lt
        have l6 := kt.cell 0
        have f6 := kt.frozen 0
        simp only [List.getElem?_toArray, List.getElem?_cons_zero] at l6
        have HF := Lib.hid (show RtTo B tb D w (delL l e) (w6.setCell ⟨tb, 0, none⟩ (.slice A6 (k + 0) c6)) from by
          refine H3.out.1.store hB hbt (own_baseN (by rw [HIY.out.1]; simpa [ecs_append, ecs, En.vs, HD0.out] using ho6) H2.out.1.size) ?_ rfl
          rw [HIY.out.1]
          simp [HD0.out]; have := HLN.out; have := HKL.out; omega)
        clear ho6 hg6 hbq6 hbt kt
        go_wp2_with fail
        go_ret
        exact ⟨by rw [HPB.out]; rfl, HF.out⟩
      · have hce1 : ¬ (((k + 1) : Nat) : Int) = (c : Int) := by omega
        have hce2 : ¬ c = (k + 1) := fun h => hce h.symm
        go_wp2_with (at_builtin; refine wpList_append_rs _ rfl (.tmp 26) (.tmp 33) 28 rfl w2.heap.size 35 i0 (.agg #[.string ⟨#[]⟩, .int .i64 0, .int .i64 0]) 3 32 Try.underlying28 hi hz0 hz1 hz2 rfl (by decide) _ (k) _ rfl HXw4.out.2.2.2 (some ⟨g, (k + 1) * 3, none⟩) (n - (k + 1)) (c - (k + 1)) (ecs (l.drop (k + 1))) rfl ?dqqqqqqqq1 ?dqqqqqqqq2 ?dqqqqqqqq3 ?dqqqqqqqq4 ?dqqqqqqqq5 ?dqqqqqqqq6 ?dqqqqqqqq7 ?_)
        try (case dqqqqqqqq1 => rw [ecs_len, List.length_drop, ← HLN.out])
        try (case dqqqqqqqq2 => intro ha; cases ha)
        try (case dqqqqqqqq3 => exact (HXw4.out.1.cut (k + 1)).2)
        try (case dqqqqqqqq4 => exact ecs_one _)
        try (case dqqqqqqqq5 => first | (unfold maxLen; omega) | (simp [maxLen]; omega))
        try (case dqqqqqqqq6 => first | omega | (simp; done) | (simp; omega))
        try (case dqqqqqqqq7 => first | omega | (simp; done) | (simp; omega))
        intro v6 w6 ho6 hg6
        obtain ⟨A6, c6, rfl, _, _⟩ := own_shapeN ho6
        have hbq6 : Below w2.heap.size w4 w6 := below_ownN HXw4.out.2.2.2 hg6 (by have := H2.out.1.size; omega)
        have hbt : Below w.heap.size w w6 := (H2.out.1.trans (H3.out.2.2.2.1.mono H2.out.1.size)).trans ((HXw4.out.2.2.1.trans hbq6).mono H2.out.1.size)
        have kt := H3.out.1.blk.below hbt H3.out.1.blk.lt
        have l6 := kt.cell 0
        have f6 := kt.frozen 0
        simp only [List.getElem?_toArray, List.getElem?_cons_zero] at l6
        have HF := Lib.hid (show RtTo B tb D w (delL l e) (w6.setCell ⟨tb, 0, none⟩ (.slice A6 (k + (n - (k + 1))) c6)) from by
          refine H3.out.1.store hB hbt (own_baseN (by rw [HIY.out.1]; simpa [ecs_append, ecs, En.vs] using ho6) H2.out.1.size) ?_ rfl
          rw [HIY.out.1]
          simp; have := HLN.out; have := HKL.out; omega)
        clear ho6 hg6 hbq6 hbt kt
        go_wp2_with fail
        go_ret
        exact ⟨by rw [HPB.out]; rfl, HF.out⟩
end Go.Proofs.Ytiaclfldgagalaa

/-
  A tree's pages: plain mathematics; how they are read.
-/
namespace Go.Proofs.Ytiaclfldgagalaa
open Go.RowKit Go.Lib

/-- entries in order, each once -/
def Srt (l : List En) : Prop := l.Pairwise fun a b => ordE a b < 0
/-- a row of structs that is read -/
structure RowG {α : Type} (cell : α → List Value) (S : Nat) (w : World) (B : Nat) (A : Option Addr) (vs : List α) : Prop where
  lo : 0 < vs.length → ∃ ad, A = some ad ∧ ad.block < B
  cell : ∀ i (hi : i < vs.length) j u, (cell vs[i])[j]? = some u → ∃ ad, A = some ad ∧ w.cell? (ad.add (i * S + j)) = some u
theorem RowG.below {α : Type} {cell : α → List Value} {S : Nat} {w w' : World} {B C : Nat} {A : Option Addr} {vs : List α} (h : RowG cell S w B A vs) (hb : Below C w w') (hC : B ≤ C) : RowG cell S w' B A vs := by
  refine ⟨h.lo, fun i hi j u hu => ?_⟩
  obtain ⟨ad, rfl, hc⟩ := h.cell i hi j u hu
  obtain ⟨ad', e, hlt⟩ := h.lo (by omega)
  obtain rfl := Option.some.inj e
  exact ⟨ad, rfl, (hb.cell (p := ad.add (i * S + j)) (by rw [addr_block]; omega)).trans hc⟩
theorem RowG.more {α : Type} {cell : α → List Value} {S : Nat} {w : World} {B C : Nat} {A : Option Addr} {vs : List α} (h : RowG cell S w B A vs) (hC : B ≤ C) : RowG cell S w C A vs :=
  ⟨fun h0 => by obtain ⟨ad, e, hlt⟩ := h.lo h0; exact ⟨ad, e, by omega⟩, h.cell⟩

/-- a page of a tree, as it is told: its keys lie at KA, its kids' numbers at IA -/
structure Tp where
  leaf : Bool
  keys : List En
  kids : List Nat
  KA : Option Addr
  Kc : Nat
  IA : Option Addr
  Ic : Nat
def tpv (x : Tp) : List Value := [.bool x.leaf, .slice x.KA x.keys.length x.Kc, .slice x.IA x.kids.length x.Ic]
def intv (n : Nat) : List Value := [.int .i64 n]
structure Tp.In (w : World) (x : Tp) : Prop where
  keys : RowG En.vs 3 w w.heap.size x.KA x.keys
  kids : RowG intv 1 w w.heap.size x.IA x.kids
  kcap : x.keys.length ≤ x.Kc ∧ x.Kc ≤ maxLen
  icap : x.kids.length ≤ x.Ic ∧ x.Ic ≤ maxLen
  zero : x.KA = none → x.Kc = 0
structure PgsIn (w : World) (A : Option Addr) (ps : List Tp) : Prop where
  row : RowG tpv 3 w w.heap.size A ps
  pg : ∀ x ∈ ps, x.In w
theorem Tp.In.below {w w' : World} {x : Tp} (h : x.In w) (hb : Below w.heap.size w w') : x.In w' := ⟨(h.keys.below hb (Nat.le_refl _)).more hb.size, (h.kids.below hb (Nat.le_refl _)).more hb.size, h.kcap, h.icap, h.zero⟩
theorem PgsIn.below {w w' : World} {A : Option Addr} {ps : List Tp} (h : PgsIn w A ps) (hb : Below w.heap.size w w') : PgsIn w' A ps := ⟨(h.row.below hb (Nat.le_refl _)).more hb.size, fun x hx => (h.pg x hx).below hb⟩
/-- a page, where it is read -/
theorem PgsIn.at_ {w : World} {A : Option Addr} {ps : List Tp} (h : PgsIn w A ps) {i : Nat} (hi : i < ps.length) : ∃ ad, A = some ad ∧ ad.block < w.heap.size ∧ w.cell? (ad.add (i * 3)) = some (.bool ps[i].leaf) ∧
    w.cell? ⟨(ad.add (i * 3)).block, (ad.add (i * 3)).off + 1, none⟩ = some (.slice ps[i].KA ps[i].keys.length ps[i].Kc) ∧ w.cell? ⟨(ad.add (i * 3)).block, (ad.add (i * 3)).off + 2, none⟩ = some (.slice ps[i].IA ps[i].kids.length ps[i].Ic) := by
  obtain ⟨ad, rfl, hlt⟩ := h.row.lo (by omega)
  have get : ∀ j u, (tpv ps[i])[j]? = some u → w.cell? (ad.add (i * 3 + j)) = some u := fun j u hu => by
    obtain ⟨ad', e, hc⟩ := h.row.cell i hi j u hu
    obtain rfl := Option.some.inj e
    exact hc
  have addr_field : ∀ (a : Addr) (j : Nat), 0 < j → (⟨a.block, a.off + j, none⟩ : Addr) = a.add j := fun a j hj => by unfold Addr.add; rw [if_neg (by omega)]
  refine ⟨ad, rfl, hlt, get 0 _ rfl, ?_, ?_⟩
  · rw [addr_field _ _ (by omega), addr_add]; exact get 1 _ rfl
  · rw [addr_field _ _ (by omega), addr_add]; exact get 2 _ rfl
/-- a kid's number -/
theorem kid_at {w : World} {B : Nat} {A : Option Addr} {vs : List Nat} (h : RowG intv 1 w B A vs) {i : Nat} (hi : i < vs.length) : ∃ ad, A = some ad ∧ ad.block < B ∧ w.cell? (ad.add i) = some (.int .i64 vs[i]) := by
  obtain ⟨ad, rfl, hlt⟩ := h.lo (by omega)
  obtain ⟨ad', e, hc⟩ := h.cell i hi 0 _ rfl
  obtain rfl := Option.some.inj e
  rw [Nat.mul_one, Nat.add_zero] at hc
  exact ⟨ad, rfl, hlt, hc⟩

/-- the keys of a page -/
structure KeysOk (root leaf : Bool) (lo hi : Option En) (ks : List En) : Prop where
  most : ks.length ≤ 4
  least : root = false → 2 ≤ ks.length
  one : leaf = false → 1 ≤ ks.length
  srt : Srt ks
  low : ∀ k ∈ ks, ∀ e, lo = some e → ¬ ordE k e < 0
  high : ∀ k ∈ ks, ∀ e, hi = some e → ordE k e < 0
def loOf (lo : Option En) (ks : List En) (j : Nat) : Option En := if j = 0 then lo else ks[j - 1]?
def hiOf (hi : Option En) (ks : List En) (j : Nat) : Option En := if j < ks.length then ks[j]? else hi
/-- page `at'` has depth d below it, the entries es, and sz pages with itself -/
def Shp (ps : List Tp) : Nat → Bool → Option En → Option En → Nat → List En → Nat → Prop
  | 0, root, lo, hi, at', es, sz => ∃ x, ps[at']? = some x ∧ x.leaf = true ∧ x.kids = [] ∧ x.keys = es ∧ KeysOk root true lo hi es ∧ sz = 1
  | d + 1, root, lo, hi, at', es, sz => ∃ (x : Tp) (parts : List (List En)) (szs : List Nat), ps[at']? = some x ∧ x.leaf = false ∧ x.kids.length = x.keys.length + 1 ∧ parts.length = x.kids.length ∧ szs.length = x.kids.length ∧ KeysOk root false lo hi x.keys ∧
      es = parts.flatten ∧ sz = 1 + szs.sum ∧ ∀ j (h1 : j < x.kids.length) (h2 : j < parts.length) (h3 : j < szs.length), at' < x.kids[j] ∧ Shp ps d false (loOf lo x.keys j) (hiOf hi x.keys j) x.kids[j] parts[j] szs[j]
/-- a tree's pages, with its entries -/
structure PgsOk (K : Nat) (ps : List Tp) (l : List En) : Prop where
  shp : ∃ d, Shp ps d true none none 0 l ps.length
  kids : (ps.map fun x => x.kids.length).sum + 1 = ps.length
  key : ∀ x ∈ ps, ∀ e ∈ x.keys, e.s.size ≤ K

theorem sum_bd (c : Nat) : ∀ (xs : List Nat) (ys : List (List En)), xs.length = ys.length → (∀ j (h : j < xs.length) (h' : j < ys.length), xs[j] + c ≤ ys[j].length) → xs.sum + c * xs.length ≤ ys.flatten.length
  | [], [], _, _ => by simp
  | x :: xs, y :: ys, hl, h => by
    have h0 := h 0 (by simp) (by simp)
    have ih := sum_bd c xs ys (by simpa using hl) fun j hj hj' => by
      have := h (j + 1) (by simpa using hj) (by simpa using hj')
      simpa using this
    simp only [List.getElem_cons_zero] at h0
    simp only [List.sum_cons, List.length_cons, List.flatten_cons, List.length_append, Nat.mul_add, Nat.mul_one]
    omega
theorem len_bd (k : Nat) : ∀ (ys : List (List En)), (∀ j (h : j < ys.length), k ≤ ys[j].length) → k * ys.length ≤ ys.flatten.length
  | [], _ => by simp
  | y :: ys, h => by
    have h0 := h 0 (by simp)
    have ih := len_bd k ys fun j hj => by
      have := h (j + 1) (by simpa using hj)
      simpa using this
    simp only [List.getElem_cons_zero] at h0
    simp only [List.length_cons, List.flatten_cons, List.length_append, Nat.mul_add, Nat.mul_one]
    omega
/-- what lies below a page that isn't the root -/
theorem shp_low {ps : List Tp} : ∀ (d : Nat) {lo hi : Option En} {at' : Nat} {es : List En} {sz : Nat}, Shp ps d false lo hi at' es sz → sz + 1 ≤ es.length ∧ 2 * 3 ^ d ≤ es.length
  | 0, lo, hi, at', es, sz, h => by
    obtain ⟨x, _, _, _, _, hk, rfl⟩ := h
    have := hk.least rfl
    omega
  | d + 1, lo, hi, at', es, sz, h => by
    obtain ⟨x, parts, szs, _, _, hkl, hpl, hsl, hk, rfl, rfl, hj⟩ := h
    have hm := hk.least rfl
    have h1 := sum_bd 1 szs parts (by omega) fun j h1 h2 => (shp_low d (hj j (by omega) h2 h1).2).1
    have h2 := len_bd (2 * 3 ^ d) parts fun j h1 => (shp_low d (hj j (by omega) h1 (by omega)).2).2
    refine ⟨by omega, ?_⟩
    have : 3 * (2 * 3 ^ d) ≤ 2 * 3 ^ d * parts.length := by rw [Nat.mul_comm 3]; exact Nat.mul_le_mul_left _ (by omega)
    rw [Nat.pow_succ]
    omega
/-- what lies below the root -/
theorem shp_root {ps : List Tp} {d : Nat} {es : List En} {sz : Nat} (h : Shp ps d true none none 0 es sz) : sz ≤ es.length + 1 ∧ (d = 0 → es.length ≤ 4) ∧ ∀ d', d = d' + 1 → 2 * (2 * 3 ^ d') ≤ es.length := by
  cases d with
  | zero =>
    obtain ⟨x, _, _, _, _, hk, rfl⟩ := h
    exact ⟨by omega, fun _ => hk.most, fun d' hd => by omega⟩
  | succ d =>
    obtain ⟨x, parts, szs, _, _, hkl, hpl, hsl, hk, rfl, rfl, hj⟩ := h
    have hm := hk.one rfl
    have h1 := sum_bd 1 szs parts (by omega) fun j h1 h2 => (shp_low d (hj j (by omega) h2 h1).2).1
    have h2 := len_bd (2 * 3 ^ d) parts fun j h1 => (shp_low d (hj j (by omega) h1 (by omega)).2).2
    refine ⟨by omega, fun h => by omega, fun d' hd => ?_⟩
    obtain rfl : d' = d := by omega
    have : 2 * 3 ^ d' * 2 ≤ 2 * 3 ^ d' * parts.length := Nat.mul_le_mul_left _ (by omega)
    omega
/-- five entries lie in three pages -/
theorem shp_five {ps : List Tp} {d : Nat} {es : List En} {sz : Nat} (h : Shp ps d true none none 0 es sz) (h5 : es.length = 5) : sz = 3 ∧ ∃ x, ps[0]? = some x ∧ x.leaf = false ∧ x.keys.length = 1 := by
  obtain ⟨_, r2, r3⟩ := shp_root h
  cases d with
  | zero => have := r2 rfl; omega
  | succ d =>
    have hd0 : d = 0 := by
      rcases Nat.eq_zero_or_pos d with h0 | h0
      · exact h0
      · have := r3 d rfl
        have h3 : 3 ^ 1 ≤ 3 ^ d := Nat.pow_le_pow_right (by omega) h0
        omega
    subst hd0
    obtain ⟨x, parts, szs, hx, hlf, hkl, hpl, hsl, hk, rfl, rfl, hj⟩ := h
    have hm := hk.one rfl
    have h2 := len_bd 2 parts fun j h1 => by
      have := (shp_low 0 (hj j (by omega) h1 (by omega)).2).2
      simpa using this
    have hp2 : parts.length = 2 := by omega
    have hs : szs = [1, 1] := by
      match szs, (show szs.length = 2 by omega) with
      | [a, b], _ =>
        obtain ⟨_, _, _, _, _, _, ha⟩ := (hj 0 (by omega) (by omega) (by simp)).2
        obtain ⟨_, _, _, _, _, _, hb⟩ := (hj 1 (by omega) (by omega) (by simp)).2
        simp at ha hb
        rw [ha, hb]
    exact ⟨by rw [hs]; rfl, x, hx, hlf, by omega⟩
end Go.Proofs.Ytiaclfldgagalaa

/-
  What the laws want of the program's tree, as one predicate T with a contract for each call; both trees beside one another; told.
-/
namespace Go.Proofs.Ytiaclfldgagalaa
open Go.RowKit Go.Lib

def minI : Int := -9223372036854775808
/-- an entry's numbers are such as Go has -/
def NumOk (e : En) : Prop := minI ≤ e.p ∧ minI ≤ e.k
/-- a tree's contract: T B D w tb l: at block tb lies a tree with the entries l, in the footprint D -/
structure Impl (K : Nat) (T : Nat → (Nat → Prop) → World → Nat → List En → Prop) : Prop where
  below : ∀ {B D w w' tb l}, T B D w tb l → Below w.heap.size w w' → T B D w' tb l
  chg : ∀ {B D w w' tb l} {F : Nat → Prop}, T B D w tb l → Chg F w w' → (∀ k, D k → ¬ F k) → T B D w' tb l
  foot : ∀ {B D w tb l}, T B D w tb l → ∀ {k}, D k → B ≤ k ∧ k < w.heap.size
  srt : ∀ {B D w tb l}, T B D w tb l → Srt l
  new : ∀ (w : World) (B : Nat), B ≤ w.heap.size → Calls Try.prog 11 #[] w fun e w' => ∃ tb D, e = .returned (.pointer (some ⟨tb, 0, none⟩)) ∧ T B D w' tb [] ∧ (∀ k, D k → w.heap.size ≤ k) ∧ Below w.heap.size w w'
  ins : ∀ {B D w tb l} (e : En), T B D w tb l → l.length ≤ 1000000 → B ≤ w.heap.size → e.s.size ≤ K → NumOk e → Calls Try.prog 18 #[.pointer (some ⟨tb, 0, none⟩), e.val] w fun r w' => r = .returned (.bool (!plB l e)) ∧ T B (Ext D w w') w' tb (insL l e) ∧ Chg D w w'
  del : ∀ {B D w tb l} (e : En), T B D w tb l → Small l → B ≤ w.heap.size → e.s.size ≤ K → Calls Try.prog 19 #[.pointer (some ⟨tb, 0, none⟩), e.val] w fun r w' => r = .returned (.bool (plB l e)) ∧ T B (Ext D w w') w' tb (delL l e) ∧ Chg D w w'
  has : ∀ {B D w tb l} (e : En), T B D w tb l → Small l → e.s.size ≤ 1000 → Calls Try.prog 22 #[.pointer (some ⟨tb, 0, none⟩), e.val] w fun r w' => r = .returned (.bool (plB l e)) ∧ Below w.heap.size w w'
  find : ∀ {B D w tb l} (s : ByteArray), T B D w tb l → Small l → s.size ≤ 1000 → Calls Try.prog 25 #[.pointer (some ⟨tb, 0, none⟩), .string s] w fun r w' => ∃ A c n, r = .returned (.slice A n c) ∧ n = (fndL s l).length ∧ w'.ownsRow w.heap.size 33 2 (.slice A n c) n (rcs (fndL s l)) ∧ Below w.heap.size w w'
  range : ∀ {B D w tb l} (f t : ByteArray) (most : Int), T B D w tb l → Small l → f.size ≤ 1000 → t.size ≤ 1000 → Calls Try.prog 24 #[.pointer (some ⟨tb, 0, none⟩), .string f, .string t, .int .i64 most] w fun r w' => ∃ A c n, r = .returned (.slice A n c) ∧ n = (rngL f t most l).length ∧ w'.ownsRow w.heap.size 35 3 (.slice A n c) n (ecs (rngL f t most l)) ∧ Below w.heap.size w w'
  all : ∀ {B D w tb l}, T B D w tb l → Small l → Calls Try.prog 16 #[.pointer (some ⟨tb, 0, none⟩)] w fun r w' => ∃ A c n, r = .returned (.slice A n c) ∧ n = l.length ∧ w'.ownsRow w.heap.size 35 3 (.slice A n c) n (ecs l) ∧ Below w.heap.size w w'
  count : ∀ {B D w tb l}, T B D w tb l → Small l → Calls Try.prog 17 #[.pointer (some ⟨tb, 0, none⟩)] w fun r w' => r = .returned (.int .i64 l.length) ∧ Below w.heap.size w w'
  twice : ∀ {B D w tb l}, T B D w tb l → Small l → Calls Try.prog 13 #[.pointer (some ⟨tb, 0, none⟩)] w fun r w' => r = .returned (twRes (twL l)) ∧ Below w.heap.size w w'
  pages : ∀ {B D w tb l}, T B D w tb l → Small l → Calls Try.prog 20 #[.pointer (some ⟨tb, 0, none⟩)] w fun r w' => ∃ A n c ps, r = .returned (.slice A n c) ∧ n = ps.length ∧ PgsIn w' A ps ∧ PgsOk K ps l ∧ Below w.heap.size w w'

abbrev TrP := Nat → (Nat → Prop) → World → Nat → List En → Prop
/-- the program's tree (tb, D, l) and the document's (rb, E, m), apart, made since w0 -/
structure Tq (T : TrP) (w0 w : World) (tb rb : Nat) (D E : Nat → Prop) (l m : List En) : Prop where
  t : T w0.heap.size D w tb l
  r : RtV w0.heap.size E w rb m
  dis : ∀ k, D k → ¬ E k
  low : Below w0.heap.size w0 w
section
variable {K : Nat} {T : TrP} (I : Impl K T) {w0 w w' : World} {tb rb : Nat} {D E : Nat → Prop} {l m l' m' : List En}
include I
theorem Tq.below (h : Tq T w0 w tb rb D E l m) (hb : Below w.heap.size w w') : Tq T w0 w' tb rb D E l m := ⟨I.below h.t hb, h.r.below hb, h.dis, h.low.trans (hb.mono h.low.size)⟩
theorem Tq.stepT (h : Tq T w0 w tb rb D E l m) (ht : T w0.heap.size (Ext D w w') w' tb l') (hc : Chg D w w') : Tq T w0 w' tb rb (Ext D w w') E l' m :=
  ⟨ht, h.r.chg hc fun k hk hd => h.dis k hd hk, fun k hk he => hk.elim (fun hf => h.dis k hf he) fun hf => by have := (h.r.foot he).2; omega, h.low.trans (hc.below (fun k hk => (I.foot h.t hk).1) h.low.size)⟩
theorem Tq.stepR (h : Tq T w0 w tb rb D E l m) (hr : RtTo w0.heap.size rb E w m' w') : Tq T w0 w' tb rb D (Ext E w w') l m' :=
  ⟨I.chg h.t hr.2 h.dis, hr.1, fun k hk he => he.elim (fun hf => h.dis k hk hf) fun hf => by have := (I.foot h.t hk).2; omega, h.low.trans (hr.2.below (fun k hk => (h.r.foot hk).1) h.low.size)⟩
end
/-- a call, as it came in -/
structure C8 where
  what : Int
  nn : Int
  e : En
  t : ByteArray
def c8cell (x : C8) : List Value := [.int .i64 x.what, .int .i64 x.nn, .string x.e.s, .int .i64 x.e.p, .int .i64 x.e.k, .string x.t]
/-- and block b has the argument -/
structure Tz (T : TrP) (w0 w : World) (tb rb : Nat) (D E : Nat → Prop) (l m : List En) (b : Nat) (x : C8) : Prop where
  q : Tq T w0 w tb rb D E l m
  blk : Blk w b 37 #[.int .i64 x.what, .int .i64 x.nn, .string x.e.s, .int .i64 x.e.p, .int .i64 x.e.k, .string x.t]
  nd : ¬ D b
  ne : ¬ E b
section
variable {K : Nat} {T : TrP} (I : Impl K T) {w0 w w' : World} {tb rb b : Nat} {D E : Nat → Prop} {l m l' m' : List En} {x : C8}
theorem Tz.cells (h : Tz T w0 w tb rb D E l m b x) : w.cell? ⟨b, 0, none⟩ = some (.int .i64 x.what) ∧ w.cell? ⟨b, 1, none⟩ = some (.int .i64 x.nn) ∧ w.cell? ⟨b, 2, none⟩ = some (.string x.e.s) ∧ w.cell? ⟨b, 3, none⟩ = some (.int .i64 x.e.p) ∧ w.cell? ⟨b, 4, none⟩ = some (.int .i64 x.e.k) ∧ w.cell? ⟨b, 5, none⟩ = some (.string x.t) :=
  ⟨h.blk.cell 0, h.blk.cell 1, h.blk.cell 2, h.blk.cell 3, h.blk.cell 4, h.blk.cell 5⟩
include I
theorem Tq.made (h : Tq T w0 w tb rb D E l m) (x : C8) : Tz T w0 (w.alloc (.cells #[.int .i64 x.what, .int .i64 x.nn, .string x.e.s, .int .i64 x.e.p, .int .i64 x.e.k, .string x.t] 37)) tb rb D E l m w.heap.size x :=
  ⟨h.below I ((Below.refl _ _).alloc (Nat.le_refl _) _), Blk.new _ _ _, fun hf => absurd (I.foot h.t hf).2 (Nat.lt_irrefl _), fun hf => absurd (h.r.foot hf).2 (Nat.lt_irrefl _)⟩
theorem Tz.below (h : Tz T w0 w tb rb D E l m b x) (hb : Below w.heap.size w w') : Tz T w0 w' tb rb D E l m b x := ⟨h.q.below I hb, h.blk.below hb h.blk.lt, h.nd, h.ne⟩
theorem Tz.drewN (h : Tz T w0 w tb rb D E l m b x) (d : Nat) : Tz T w0 (w.drewN d) tb rb D E l m b x := h.below I (below_dN (Below.refl _ _) d)
theorem Tz.stepT (h : Tz T w0 w tb rb D E l m b x) (ht : T w0.heap.size (Ext D w w') w' tb l') (hc : Chg D w w') : Tz T w0 w' tb rb (Ext D w w') E l' m b x :=
  ⟨h.q.stepT I ht hc, h.blk.chg hc h.nd, fun hk => hk.elim h.nd fun hf => (by have := h.blk.lt; omega), h.ne⟩
theorem Tz.stepR (h : Tz T w0 w tb rb D E l m b x) (hr : RtTo w0.heap.size rb E w m' w') : Tz T w0 w' tb rb D (Ext E w w') l m' b x :=
  ⟨h.q.stepR I hr, h.blk.chg hr.2 h.ne, h.nd, fun hk => hk.elim h.ne fun hf => (by have := h.blk.lt; omega)⟩
end
def c8arg (x : C8) : Value := .agg #[.int .i64 x.what, .int .i64 x.nn, .string x.e.s, .int .i64 x.e.p, .int .i64 x.e.k, .string x.t]
/-- keys short, entries few -/
structure Sm (l : List En) (n : Nat) : Prop where
  few : l.length ≤ n
  key : ∀ e ∈ l, e.s.size ≤ 1000
theorem Sm.small {l : List En} {n : Nat} (h : Sm l n) (hn : n ≤ 1000000) : Small l := ⟨Nat.le_trans h.few hn, fun e he => by have := h.key e he; omega⟩
theorem Sm.nil (n : Nat) : Sm [] n := ⟨Nat.zero_le _, fun e he => by cases he⟩
theorem Sm.ins {l : List En} {n : Nat} (h : Sm l n) {e : En} (he : e.s.size ≤ 1000) : Sm (insL l e) (n + 1) := by
  unfold insL
  split
  · exact ⟨by have := h.few; omega, h.key⟩
  · refine ⟨by have := h.few; have := plN_le e l; simp; omega, fun x hx => ?_⟩
    rcases List.mem_append.1 hx with hx | hx
    · rcases List.mem_append.1 hx with hx | hx
      · exact h.key x (List.mem_of_mem_take hx)
      · rw [List.mem_singleton.1 hx]; exact he
    · exact h.key x (List.mem_of_mem_drop hx)
theorem Sm.del {l : List En} {n : Nat} (h : Sm l n) (e : En) : Sm (delL l e) (n + 1) := by
  unfold delL
  split
  · refine ⟨by have := h.few; simp; omega, fun x hx => ?_⟩
    rcases List.mem_append.1 hx with hx | hx
    · exact h.key x (List.mem_of_mem_take hx)
    · exact h.key x (List.mem_of_mem_drop hx)
  · exact ⟨by have := h.few; omega, h.key⟩
theorem Sm.more {l : List En} {n m : Nat} (h : Sm l n) (hm : n ≤ m) : Sm l m := ⟨Nat.le_trans h.few hm, h.key⟩
def Told8 (T : TrP) (w0 : World) (tb rb n : Nat) (e : Ending) (w' : World) : Prop := e = .returned (.bool true) ∧ ∃ D E l, Tq T w0 w' tb rb D E l l ∧ Sm l (n + 1)
end Go.Proofs.Ytiaclfldgagalaa
