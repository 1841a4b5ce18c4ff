/-
  page.change, at a page with pages below.
-/
import Derived.Test.YtiaclfldgagalaaM12
import Derived.Test.YtiaclfldgagalaaM11
namespace Go.Proofs.Ytiaclfldgagalaa
open Go.RowKit Go.Lib

set_option maxRecDepth 100000 in
set_option maxHeartbeats 12800000 in
theorem change_node {ins : Bool} {f : Nat} {cap : Array Value} {e : En} {lim d : Nat} (IH : ChgC ins f cap e lim d) : ChgC ins f cap e lim (d + 1) := by
  intro B D w b x h hk hlim hll hcf hdd hB
  have hmx : Try.prog.follows .mixedOrders = true := by kernel_rfl
  obtain ⟨D0, kl, hN, hut, hD, hf⟩ := h
  obtain ⟨t', ht', hokt, hone, hpl, hgd⟩ := hk.way e
  have hkl : kl.length = x.1.length + 1 := by
    have h3 : x.2.length = kl.length := by rw [hut, List.length_map]
    have h4 : x.2.length = x.1.length + 1 := hk.cnt.1
    omega
  have hx10 : x.1.length ≤ 10 := hk.few
  have hx1 : 1 ≤ x.1.length := hk.one (Nat.succ_pos _)
  obtain ⟨j, hj⟩ : ∃ j, j = wayN x.1 e := ⟨_, rfl⟩
  rw [← hj] at ht'
  obtain ⟨y, hy, hyt⟩ : ∃ y, kl[j]? = some y ∧ y.t = t' := by
    rw [hut, List.getElem?_map] at ht'
    cases hk : kl[j]? with
    | none => rw [hk] at ht'; cases ht'
    | some y => rw [hk] at ht'; exact ⟨y, rfl, Option.some.inj ht'⟩
  subst hyt
  have hjl := (List.getElem?_eq_some_iff.1 hy).1
  have hym := List.mem_of_getElem? hy
  obtain ⟨q1, hq1⟩ : ∃ q1, q1 = (chgT ins y.t e).1 := ⟨_, rfl⟩
  obtain ⟨t2, ht2⟩ : ∃ t2, t2 = (chgT ins y.t e).2 := ⟨_, rfl⟩
  have hok := chg_ok ins y.t e hokt.cnt hokt.one hokt.ord
  rw [← hq1, ← ht2] at hok
  have hch : chgT ins x e = if q1 then (true, mendT (putKid x e j t2) j) else (false, x) := by
    rw [hq1, ht2]
    show (match x.2[wayN x.1 e]? with | some t => _ | none => _) = _
    rw [← hj, ht']
    rfl
  obtain ⟨n, hn⟩ : ∃ n, n = plN e x.1 := ⟨_, rfl⟩
  obtain ⟨p, hp⟩ : ∃ p, p = plB x.1 e := ⟨_, rfl⟩
  have hpn : p = true → n < x.1.length := fun h => by rw [hn]; exact (plB_at (by rw [← hp]; exact h)).1
  obtain ⟨ks', hks'⟩ : ∃ ks', ks' = if p then x.1.set n (leastT t2) else x.1 := ⟨_, rfl⟩
  have hks'l : ks'.length = x.1.length := by rw [hks']; split <;> simp
  obtain ⟨w1, hw1⟩ : ∃ w1, w1 = w.alloc (.cells #[.string e.s, .int .i64 e.p, .int .i64 e.k] 35) := ⟨_, rfl⟩
  have hb1 : Below w.heap.size w w1 := by rw [hw1]; exact (Below.refl _ w).alloc (Nat.le_refl _) _
  have k1 : Blk w1 w.heap.size 35 #[.string e.s, .int .i64 e.p, .int .i64 e.k] := by rw [hw1]; exact Blk.new _ _ _
  have s1 : w.heap.size < w1.heap.size := by rw [hw1]; simp
  have hN1 := hN.below hb1
  have hFN := find_any hN1.pg hk.srt (by show x.1.length ≤ 1000000; omega) e
  have hFN2 : Calls Try.prog 43 #[.pointer (some ⟨b, 0, none⟩), e.val] w1 fun r w2 => r = .returned (.tuple #[.int .i64 n, .bool p]) ∧ Below w.heap.size w w2 ∧ Blk w2 w.heap.size 35 #[.string e.s, .int .i64 e.p, .int .i64 e.k] ∧
      Calls Try.prog 40 #[.pointer (some ⟨b, 0, none⟩)] w2 (fun r w' => r = .returned (.bool false) ∧ w2 = w') ∧
      Calls Try.prog 42 #[.pointer (some ⟨b, 0, none⟩), e.val] w2 (fun r w3 => r = .returned (.int .i64 j) ∧ Below w.heap.size w w3 ∧ Blk w3 w.heap.size 35 #[.string e.s, .int .i64 e.p, .int .i64 e.k]) := by
    refine hFN.mono ?_
    rintro r w2 ⟨rfl, hb2⟩
    have hb2' := hb1.trans (hb2.mono hb1.size)
    have hN2 := hN.below hb2'
    have k2 := k1.below hb2 s1
    refine ⟨by rw [hn, hp], hb2', k2, leaf_no hN2.pg (by rw [List.length_map]; omega) (by rw [List.length_map]; omega), ?_⟩
    refine (way_any hN2.pg hk.srt (by show x.1.length ≤ 1000000; omega) e).mono ?_
    rintro r w3 ⟨rfl, hb3⟩
    exact ⟨by rw [hj], hb2'.trans (hb3.mono hb2'.size), k2.below hb3 k2.lt⟩
  have HFN := Lib.hid hFN2
  unfold En.val at HFN
  have c0 := k1.cell 0
  have c1 := k1.cell 1
  have c2 := k1.cell 2
  simp only [List.getElem?_toArray, List.getElem?_cons_zero, List.getElem?_cons_succ] at c0 c1 c2
  have HW1 := Lib.hid hw1
  -- the page below, changed, from any world after these calls
  have hIH : ∀ w4, Below w.heap.size w w4 → Calls Try.prog 48 #[.pointer (some ⟨y.p, 0, none⟩), e.val, .func (.func f) #[] cap] w4 fun r w5 => r = .returned (.bool q1) ∧
      Node B (Sub B) D0 w5 b x.1 (kl.take j ++ ⟨y.p, Ext y.D w4 w5, t2⟩ :: kl.drop (j + 1)) ∧ (∀ k, NF D0 (kl.take j ++ ⟨y.p, Ext y.D w4 w5, t2⟩ :: kl.drop (j + 1)) k → Ext (NF D0 kl) w4 w5 k) ∧ Chg (NF D0 kl) w4 w5 := by
    intro w4 hb4
    have hN4 := hN.below hb4
    refine (IH (hN4.sub y hym) hokt (fun k hk => hlim k (hD k (.inr ⟨y, hym, hk⟩))) (Nat.le_trans hll hb4.size) hcf (hdd.below hb4) (Nat.le_trans hB hb4.size)).mono ?_
    rintro r w5 ⟨rfl, hS⟩
    rw [← ht2] at hS
    have h5 := kid_put hN4 hy hS
    exact ⟨by rw [hq1], h5⟩
  have HIH := Lib.hid hIH
  have HT := Lib.hid (show 1 ≤ (keysT t2).length ∧ (keysT t2).length ≤ 5 by
    have h1 := hok.lo
    have h2 := hok.hi
    have h3 := hgd.1
    have h4 := hgd.2.1
    omega)
  have H := Lib.hid (And.intro hN (And.intro hB (And.intro hkl (And.intro hx10 (And.intro hx1 (And.intro hut (And.intro hD (And.intro hf (And.intro hk (And.intro hgd hok))))))))))
  have HC := Lib.hid (And.intro hch (And.intro hks' hks'l))
  have HP := Lib.hid (And.intro hn (And.intro hp hpn))
  have HY := Lib.hid (And.intro hy (And.intro hjl hym))
  clear IH hN hut hD hf hk hlim hll hcf hdd hB ht' hokt hone hpl hgd hkl hx10 hx1 hj hjl hym hq1 ht2 hok hch hn hp hpn hks' hks'l hb1 k1 s1 hN1 hFN hFN2 hIH hy hw1
  go_enter Try.func48, Try.ntmps48
  unfold En.val
  go_wp2_with fail
  rw [← HW1.out]
  go_wp2_with (first
    | (go_at_call 43; refine HFN.out.mono ?_; rintro r w2 ⟨rfl, hb2, k2, hlf, hwy⟩; have HLF := Lib.hid hlf; have HWY := Lib.hid hwy; have d0 := k2.cell 0; have d1 := k2.cell 1; have d2 := k2.cell 2; simp only [List.getElem?_toArray, List.getElem?_cons_zero, List.getElem?_cons_succ] at d0 d1 d2; clear hb2 k2 hlf hwy)
    | (go_at_call 40; refine HLF.out.mono ?_; rintro r w' ⟨rfl, rfl⟩)
    | (go_at_call 42; refine HWY.out.mono ?_; rintro r w3 ⟨rfl, hb3, k3⟩; have HB3 := Lib.hid hb3; have HK3 := Lib.hid k3; clear hb3 k3))
  obtain ⟨g, c, KA, kc, a1, a2, _⟩ := kid_cells (H.out.1.below HB3.out) HY.out.1
  obtain ⟨nq, hnq⟩ : ∃ nq, nq = kl.length := ⟨_, rfl⟩
  rw [← hnq] at a1
  have hn0 : (0 : Int) ≤ (j : Int) := by omega
  have hn1 : (j : Int) < (nq : Int) := by have := HY.out.2.1; omega
  have b0 := HK3.out.cell 0
  have b1 := HK3.out.cell 1
  have b2 := HK3.out.cell 2
  simp only [List.getElem?_toArray, List.getElem?_cons_zero, List.getElem?_cons_succ] at b0 b1 b2
  have HNQ := Lib.hid hnq
  clear hnq
  go_still_tail 9, (by kernel_rfl)
  repeat still_step
  change wpList _ _ _ _ _ w3.drew
  have hb4 : Below w.heap.size w w3.drew := HB3.out.trans ((Below.refl _ w3).drew.mono HB3.out.size)
  have HI4 := Lib.hid (HIH.out w3.drew hb4)
  unfold En.val at HI4
  have HB4 := Lib.hid hb4
  clear hb4
  obtain ⟨w4, hw4⟩ : ∃ w4, w4 = w3.drew := ⟨_, rfl⟩
  rw [← hw4] at HI4 HB4 ⊢
  clear hw4 c0 c1 c2 d0 d1 d2 a1 a2 b0 b1 b2
  go_upto_if 36 with (first
    | (go_at_call 48; refine HI4.out.mono ?_; rintro r w5 ⟨rfl, hN5, hF5, hC5⟩; have HN5 := Lib.hid (And.intro hN5 (And.intro hF5 hC5)); clear hN5 hF5 hC5))
  cases q1 with
  | false =>
    obtain ⟨hN5, hF5, hC5⟩ := HN5.out
    obtain ⟨hN, hB, hkl, hx10, hx1, hut, hD, hf, hk, hgd, hok⟩ := H.out
    have hsame := hok.same rfl
    have s5 := hC5.size
    have s4 := HB4.out.size
    have HR := Lib.hid (show (chgT ins x e).1 = false ∧ SubTo B D w b (chgT ins x e).2 w5 by
      rw [HC.out.1]
      refine ⟨rfl, ?_, ?_⟩
      · refine Node.to hN5 ?_ (fun k hk => ?_) (fun k hk => ?_)
        · show x.2 = _
          rw [hut]
          conv => lhs; rw [cut1 HY.out.1]
          simp [hsame]
        · rcases hF5 k hk with h | h
          · exact .inl (hD k h)
          · exact .inr ⟨by omega, h.2⟩
        · rcases hk with hk | hk
          · have := hf k hk
            exact ⟨this.1, by omega⟩
          · exact ⟨by omega, hk.2⟩
      · exact (Chg.of_below HB4.out).trans (hC5.mono fun k _ hk => hD k hk))
    clear hN5 hF5 hC5 hN hB hkl hx10 hx1 hut hD hf hk hgd hok hsame s5 s4
    go_wp2_with fail
    go_ret
    rw [HR.out.1]
    exact ⟨rfl, HR.out.2⟩
  | true =>
    obtain ⟨z, hz⟩ : ∃ z : Kid d, z = ⟨y.p, Ext y.D w4 w5, t2⟩ := ⟨_, rfl⟩
    rw [← hz] at HN5
    have HZ := Lib.hid hz
    clear hz
    obtain ⟨kl', hkl'⟩ : ∃ kl', kl' = kl.take j ++ z :: kl.drop (j + 1) := ⟨_, rfl⟩
    rw [← hkl'] at HN5
    have HKL := Lib.hid hkl'
    clear hkl'
    have HZJ := Lib.hid (show kl'[j]? = some z by
      have hjt : (kl.take j).length = j := by have := HY.out.2.1; simp; omega
      rw [HKL.out, List.getElem?_append_right (by omega), hjt, Nat.sub_self]; rfl)
    go_upto_if 37 with fail
    go_cut [] (fun wx => Node B (Sub B) D0 wx b ks' kl' ∧ (∀ k, NF D0 kl' k → Ext (NF D0 kl) w wx k) ∧ Chg (NF D0 kl) w wx)
    case first =>
      cases p with
      | false =>
        have hFx : ∀ k, NF D0 kl' k → Ext (NF D0 kl) w w5 k := fun k hk => (HN5.out.2.1 k hk).imp id fun h => ⟨Nat.le_trans HB4.out.size h.1, h.2⟩
        have HR := Lib.hid (show Node B (Sub B) D0 w5 b ks' kl' ∧ (∀ k, NF D0 kl' k → Ext (NF D0 kl) w w5 k) ∧ Chg (NF D0 kl) w w5 from ⟨by rw [HC.out.2.1]; exact HN5.out.1, hFx, (Chg.of_below HB4.out).trans HN5.out.2.2⟩)
        clear hFx
        go_wp2_with fail
        go_meet
        exact HR.out
      | true =>
        have hnl : n < x.1.length := HP.out.2.2 rfl
        obtain ⟨tp, KA, Kc, IA, Ic, hP5⟩ := HN5.out.1.pg
        obtain ⟨gk, hKA, -⟩ := hP5.key hnl
        subst hKA
        obtain ⟨g5, c5, KA5, kc5, i1, i2, -⟩ := kid_cells HN5.out.1 HZJ.out
        have i0 := hP5.cells.1
        obtain ⟨nk, hnk⟩ : ∃ nk, nk = x.1.length := ⟨_, rfl⟩
        obtain ⟨nz, hnz⟩ : ∃ nz, nz = kl'.length := ⟨_, rfl⟩
        rw [← hnk] at i0
        rw [← hnz] at i1
        have hl5 : kl'.length = kl.length := by rw [HKL.out]; have := HY.out.2.1; simp; omega
        have m1 : (j : Int) < (nz : Int) := by have := HY.out.2.1; omega
        have m2 : (n : Int) < (nk : Int) := by omega
        have m3 : (0 : Int) ≤ (n : Int) := by omega
        obtain ⟨x2, hx2⟩ : ∃ x2, x2 = leastT t2 := ⟨_, rfl⟩
        have hzp : z.p = y.p := by rw [HZ.out]
        have hS : ∀ w6, Below w5.heap.size w5 w6 → (w6.cell? ⟨b, 0, none⟩ = some (.slice (some ⟨gk, 0, none⟩) nk Kc) ∧ w6.cell? ⟨b, 1, none⟩ = some (.slice (some ⟨g5, 0, none⟩) nz c5) ∧ w6.cell? ⟨g5, j, none⟩ = some (.pointer (some ⟨y.p, 0, none⟩))) ∧
            w6.frozen? ⟨gk, n * 3, none⟩ = false ∧ w6.frozen? ⟨gk, n * 3 + 1, none⟩ = false ∧ w6.frozen? ⟨gk, n * 3 + 2, none⟩ = false ∧ w6.cell? ⟨gk, n * 3, none⟩ = some (.string (x.1[n]'hnl).s) ∧ w6.cell? ⟨gk, n * 3 + 1, none⟩ = some (.int .i64 (x.1[n]'hnl).p) ∧ w6.cell? ⟨gk, n * 3 + 2, none⟩ = some (.int .i64 (x.1[n]'hnl).k) ∧
            Node B (Sub B) D0 (putEn w6 gk n x2) b ks' kl' ∧ (∀ k, NF D0 kl' k → Ext (NF D0 kl) w (putEn w6 gk n x2) k) ∧ Chg (NF D0 kl) w (putEn w6 gk n x2) := by
          intro w6 hb6
          have hP6 := hP5.below hb6
          have hN6 := HN5.out.1.below hb6
          obtain ⟨gk', hKA', e0, e1, e2⟩ := hP6.key hnl
          injection hKA' with hKA'
          injection hKA' with hKA'
          subst hKA'
          obtain ⟨cur, hcur⟩ := own_row hP6.x.keys gk rfl
          have h60 : w6.cell? ⟨b, 0, none⟩ = some (.slice (some ⟨gk, 0, none⟩) nk Kc) := by rw [hnk]; exact hP6.cells.1
          have h61 := (hb6.cell (p := ⟨b, 1, none⟩) (hP5.foot b hP5.db).2).trans i1
          obtain ⟨g6, c6, KA6, kc6, o1, o2, -⟩ := kid_cells hN6 HZJ.out
          rw [h61] at o1
          injection o1 with o1
          injection o1 with o1 o3 o4
          injection o1 with o1
          injection o1 with o1
          subst o1
          have hi6 : w6.cell? ⟨g5, j, none⟩ = some (.pointer (some ⟨y.p, 0, none⟩)) := by rw [← hzp]; exact o2
          obtain ⟨q1, q2⟩ := key_put (n := n) hN6 h60 x2
          have hks : ks' = x.1.set n x2 := by rw [HC.out.2.1, hx2]; rfl
          have s4 := HB4.out.size
          have s5 := HN5.out.2.2.size
          have s6 := hb6.size
          have s7 := q2.size
          refine ⟨⟨h60, h61, hi6⟩, hcur.frozen _, hcur.frozen _, hcur.frozen _, e0, e1, e2, by rw [hks]; exact q1, fun k hk => ?_, ?_⟩
          · rcases HN5.out.2.1 k hk with h | h
            · exact .inl h
            · exact .inr ⟨by omega, by have := h.2; omega⟩
          · refine (((Chg.of_below HB4.out).trans HN5.out.2.2).trans (Chg.of_below hb6)).trans (q2.mono fun k _ hk => .inl hk)
        have hzt : z.t = t2 := by rw [HZ.out]
        have ht1 := HT.out.1
        have ht5 := HT.out.2
        have hls := least_any ((HN5.out.1.sub z (List.mem_of_getElem? HZJ.out)).below ((Below.refl _ w5).drew)) (by rw [hzt]; exact H.out.2.2.2.2.2.2.2.2.2.2.cnt) (by rw [hzt]; exact ht1) (by rw [hzt]; omega)
        rw [hzt, hzp, ← hx2] at hls
        have HLS := Lib.hid hls
        have HS6 := Lib.hid (fun w6 (h : Below w5.drew.heap.size w5.drew w6) => hS w6 (((Below.refl _ w5).drew).trans h))
        have hw0 := (hS _ ((Below.refl _ w5).drew)).1
        clear hP5 hl5 hS hls hnk hnz hx2 hzp i0 i1 i2 hzt ht1 ht5
        go_wp2_with fail
        refine wp_region_K (fun w' => w'.cell? ⟨b, 0, none⟩ = some (.slice (some ⟨gk, 0, none⟩) nk Kc) ∧ w'.cell? ⟨b, 1, none⟩ = some (.slice (some ⟨g5, 0, none⟩) nz c5) ∧ w'.cell? ⟨g5, j, none⟩ = some (.pointer (some ⟨y.p, 0, none⟩))) 14 (by kernel_rfl) hw0 (fun hHeld hInv => ?_)
        refine wpAnyK_pure (i := 0) (v := ?_) rfl (by kernel_rfl) (by kernel_rfl) (by kernel_rfl) (by kernel_rfl) (fun _ _ _ h => h) hInv (Or.inl ⟨by rfl, ?_⟩) (fun _ => hHeld) ?_
        rotate_left
        · (intro w hSw; (try dsimp only at hSw); go_simp; (try with_reducible rfl))
        intro hInv
        try simp only [Act.put, List.getElem_toArray, List.getElem_cons_zero, List.setIfInBounds_toArray, List.set_cons_zero, List.set_cons_succ] at hInv ⊢
        refine wpAnyK_pure (i := 1) (v := ?_) rfl (by kernel_rfl) (by kernel_rfl) (by kernel_rfl) (by kernel_rfl) (fun _ _ _ h => h) hInv (Or.inl ⟨by rfl, ?_⟩) (fun _ => hHeld) ?_
        rotate_left
        · (intro w hSw; (try dsimp only at hSw); go_simp; (try with_reducible rfl))
        intro hInv
        try simp only [Act.put, List.getElem_toArray, List.getElem_cons_succ, List.getElem_cons_zero, List.setIfInBounds_toArray, List.set_cons_zero, List.set_cons_succ] at hInv ⊢
        refine wpAnyK_pure (i := 2) (v := ?_) rfl (by kernel_rfl) (by kernel_rfl) (by kernel_rfl) (by kernel_rfl) (fun _ _ _ h => h) hInv (Or.inl ⟨by rfl, ?_⟩) (fun _ => hHeld) ?_
        rotate_left
        · (intro w hSw; (try dsimp only at hSw); go_simp; (try with_reducible rfl))
        intro hInv
        try simp only [Act.put, List.getElem_toArray, List.getElem_cons_succ, List.getElem_cons_zero, List.setIfInBounds_toArray, List.set_cons_zero, List.set_cons_succ] at hInv ⊢
        refine wpAnyK_load (i := 3) (v := ?_) rfl (by kernel_rfl) (by kernel_rfl) (by kernel_rfl) (by kernel_rfl) (by kernel_rfl) (fun _ _ _ h => h) hInv (Or.inl ⟨by rfl, ?_⟩) hHeld ?_
        rotate_left
        · (intro w hSw; (try dsimp only at hSw); go_simp; (try with_reducible rfl))
        intro hInv
        try simp only [Act.put, List.getElem_toArray, List.getElem_cons_succ, List.getElem_cons_zero, List.setIfInBounds_toArray, List.set_cons_zero, List.set_cons_succ] at hInv ⊢
        refine wpAnyK_pure (i := 4) (v := ?_) rfl (by kernel_rfl) (by kernel_rfl) (by kernel_rfl) (by kernel_rfl) (fun _ _ _ h => h) hInv (Or.inl ⟨by rfl, ?_⟩) (fun _ => hHeld) ?_
        rotate_left
        · (intro w hSw; (try dsimp only at hSw); go_simp; (try with_reducible rfl))
        intro hInv
        try simp only [Act.put, List.getElem_toArray, List.getElem_cons_succ, List.getElem_cons_zero, List.setIfInBounds_toArray, List.set_cons_zero, List.set_cons_succ] at hInv ⊢
        refine wpAnyK_pure (i := 5) (v := ?_) rfl (by kernel_rfl) (by kernel_rfl) (by kernel_rfl) (by kernel_rfl) (fun _ _ _ h => h) hInv (Or.inl ⟨by rfl, ?_⟩) (fun _ => hHeld) ?_
        rotate_left
        · (intro w hSw; (try dsimp only at hSw); go_simp; (try with_reducible rfl))
        intro hInv
        try simp only [Act.put, List.getElem_toArray, List.getElem_cons_succ, List.getElem_cons_zero, List.setIfInBounds_toArray, List.set_cons_zero, List.set_cons_succ] at hInv ⊢
        refine wpAnyK_pure (i := 6) (v := ?_) rfl (by kernel_rfl) (by kernel_rfl) (by kernel_rfl) (by kernel_rfl) (fun _ _ _ h => h) hInv (Or.inl ⟨by rfl, ?_⟩) (fun _ => hHeld) ?_
        rotate_left
        · (intro w hSw; (try dsimp only at hSw); go_simp; (try with_reducible rfl))
        intro hInv
        try simp only [Act.put, List.getElem_toArray, List.getElem_cons_succ, List.getElem_cons_zero, List.setIfInBounds_toArray, List.set_cons_zero, List.set_cons_succ] at hInv ⊢
        refine wpAnyK_pure (i := 7) (v := ?_) rfl (by kernel_rfl) (by kernel_rfl) (by kernel_rfl) (by kernel_rfl) (fun _ _ _ h => h) hInv (Or.inl ⟨by rfl, ?_⟩) (fun _ => hHeld) ?_
        rotate_left
        · (intro w hSw; (try dsimp only at hSw); go_simp; (try with_reducible rfl))
        intro hInv
        try simp only [Act.put, List.getElem_toArray, List.getElem_cons_succ, List.getElem_cons_zero, List.setIfInBounds_toArray, List.set_cons_zero, List.set_cons_succ] at hInv ⊢
        refine wpAnyK_load (i := 8) (v := ?_) rfl (by kernel_rfl) (by kernel_rfl) (by kernel_rfl) (by kernel_rfl) (by kernel_rfl) (fun _ _ _ h => h) hInv (Or.inl ⟨by rfl, ?_⟩) hHeld ?_
        rotate_left
        · (intro w hSw; (try dsimp only at hSw); go_simp; (try with_reducible rfl))
        intro hInv
        try simp only [Act.put, List.getElem_toArray, List.getElem_cons_succ, List.getElem_cons_zero, List.setIfInBounds_toArray, List.set_cons_zero, List.set_cons_succ] at hInv ⊢
        refine wpAnyK_pure (i := 9) (v := ?_) rfl (by kernel_rfl) (by kernel_rfl) (by kernel_rfl) (by kernel_rfl) (fun _ _ _ h => h) hInv (Or.inl ⟨by rfl, ?_⟩) (fun _ => hHeld) ?_
        rotate_left
        · (intro w hSw; (try dsimp only at hSw); go_simp; (try with_reducible rfl))
        intro hInv
        try simp only [Act.put, List.getElem_toArray, List.getElem_cons_succ, List.getElem_cons_zero, List.setIfInBounds_toArray, List.set_cons_zero, List.set_cons_succ] at hInv ⊢
        refine wpAnyK_pure (i := 10) (v := ?_) rfl (by kernel_rfl) (by kernel_rfl) (by kernel_rfl) (by kernel_rfl) (fun _ _ _ h => h) hInv (Or.inl ⟨by rfl, ?_⟩) (fun _ => hHeld) ?_
        rotate_left
        · (intro w hSw; (try dsimp only at hSw); go_simp; (try with_reducible rfl))
        intro hInv
        try simp only [Act.put, List.getElem_toArray, List.getElem_cons_succ, List.getElem_cons_zero, List.setIfInBounds_toArray, List.set_cons_zero, List.set_cons_succ] at hInv ⊢
        refine wpAnyK_load (i := 11) (v := ?_) rfl (by kernel_rfl) (by kernel_rfl) (by kernel_rfl) (by kernel_rfl) (by kernel_rfl) (fun _ _ _ h => h) hInv (Or.inl ⟨by rfl, ?_⟩) hHeld ?_
        rotate_left
        · (intro w hSw; (try dsimp only at hSw); go_simp; (try with_reducible rfl))
        intro hInv
        try simp only [Act.put, List.getElem_toArray, List.getElem_cons_succ, List.getElem_cons_zero, List.setIfInBounds_toArray, List.set_cons_zero, List.set_cons_succ] at hInv ⊢
        -- operation 12: Op.call { value (Operand.func 57), args := #[t49], argTypes 
        refine wpAnyK_one (i := 12) (by kernel_rfl) rfl hInv (fun K hK => ?_)
        go_simp
        go_at_call 57
        refine HLS.out.mono ?_
        rintro r w6 ⟨rfl, hb6⟩
        dsimp only
        obtain ⟨g0, f0, f1, f2, e0, e1, e2, h6⟩ := HS6.out w6 hb6
        have H6 := Lib.hid h6
        have hHeld := g0
        clear hb6 h6 g0
        refine hK.out _ _ (fun _ => hHeld) (fun hInv => ?_)
        clear hK K
        try simp only [Act.put, List.getElem_toArray, List.getElem_cons_succ, List.getElem_cons_zero, List.setIfInBounds_toArray, List.set_cons_zero, List.set_cons_succ] at hInv ⊢
        refine wpAnyK_pure (i := 13) (v := ?_) rfl (by kernel_rfl) (by kernel_rfl) (by kernel_rfl) (by kernel_rfl) (fun _ _ _ h => h) hInv (Or.inl ⟨by rfl, ?_⟩) (fun _ => hHeld) ?_
        rotate_left
        · (intro w hSw; (try dsimp only at hSw); go_simp; (try with_reducible rfl))
        intro hInv
        try simp only [Act.put, List.getElem_toArray, List.getElem_cons_succ, List.getElem_cons_zero, List.setIfInBounds_toArray, List.set_cons_zero, List.set_cons_succ] at hInv ⊢
        -- operation 14: Op.store 35 t51 t50
        refine wpAnyK_one (i := 14) (by kernel_rfl) rfl hInv (fun K hK => ?_)
        unfold En.val
        go_simp
        refine hK.out _ _ (fun h => absurd (show true = false from h) (by decide)) (fun hInv => ?_)
        clear hK K
        try simp only [Act.put, List.getElem_toArray, List.getElem_cons_succ, List.getElem_cons_zero, List.setIfInBounds_toArray, List.set_cons_zero, List.set_cons_succ] at hInv ⊢
        refine wpAnyK_done (by kernel_rfl) ?_ _
        go_wp2_with fail
        go_meet
        exact H6.out
    case rest =>
      rename World => wx
      obtain ⟨hNx, hFx, hCx⟩ := hcut
      obtain ⟨hN, hB, hkl, hx10, hx1, hut, hD, hf, hk, hgd, hok⟩ := H.out
      have hjl := HY.out.2.1
      have hks'l := HC.out.2.2
      have hzt : z.t = t2 := by rw [HZ.out]
      have hl5 : kl'.length = kl.length := by rw [HKL.out]; simp; omega
      have hjt : (kl.take j).length = j := by simp; omega
      have hgood : ∀ u ∈ kl, GoodT u.t := fun u hu => hk.cnt.2 u.t (by rw [hut]; exact List.mem_map.2 ⟨u, hu, rfl⟩)
      have hmend := mend_any hNx HZJ.out (by omega) (by omega) (by omega)
        (fun u hu => by
          rw [HKL.out, List.take_append_of_le_length (by omega), List.take_take, Nat.min_self] at hu
          exact hgood u (List.mem_of_mem_take hu))
        (fun u hu => by
          rw [HKL.out, List.drop_append, List.drop_eq_nil_of_le (by omega), hjt, show j + 1 - j = 1 by omega] at hu
          simp at hu
          exact hgood u (List.mem_of_mem_drop hu))
        (by rw [hzt]; exact hok.cnt) (by rw [hzt]; exact HT.out.1) (by rw [hzt]; exact HT.out.2) (Nat.le_trans hB hCx.size)
      have hput : (ks', kl'.map Kid.t) = putKid x e j t2 := by
        rw [HC.out.2.1, HKL.out, HP.out.1, HP.out.2.1]
        show _ = (if plB x.1 e then x.1.set (plN e x.1) (leastT t2) else x.1, x.2.take j ++ t2 :: x.2.drop (j + 1))
        rw [hut, ← hzt]
        simp
      rw [hput] at hmend
      have HM := Lib.hid hmend
      have HX := Lib.hid (And.intro hFx hCx)
      clear hNx hFx hCx hN hB hkl hx10 hx1 hut hD hf hk hgd hok hjl hks'l hzt hl5 hjt hgood hmend hput
      go_wp2_with (first
        | (go_at_call 58; refine HM.out.mono ?_; rintro r w7 ⟨rfl, hN7⟩; have HN7 := Lib.hid hN7; clear hN7))
      go_ret
      rw [HC.out.1]
      refine ⟨rfl, ?_, ?_⟩
      · obtain ⟨D7, kl7, hN7, ht7, hF7, hC7⟩ := HN7.out
        have sx := HX.out.2.size
        have s7 := hC7.size
        have hf := H.out.2.2.2.2.2.2.2.1
        refine Node.to hN7 ht7 (fun k hk => ?_) (fun k hk => ?_)
        · rcases hF7 k hk with h | h
          · rcases HX.out.1 k h with h | h
            · exact .inl (H.out.2.2.2.2.2.2.1 k h)
            · exact .inr ⟨h.1, by have := h.2; omega⟩
          · exact .inr ⟨by omega, h.2⟩
        · have hB := H.out.2.1
          rcases hk with hk | hk
          · have := hf k hk
            exact ⟨this.1, by omega⟩
          · exact ⟨by omega, hk.2⟩
      · obtain ⟨D7, kl7, hN7, ht7, hF7, hC7⟩ := HN7.out
        refine (HX.out.2.mono fun k _ hk => H.out.2.2.2.2.2.2.1 k hk).trans' hC7 fun k hk0 hk => ?_
        rcases HX.out.1 k hk with h | h
        · exact H.out.2.2.2.2.2.2.1 k h
        · exact absurd h.1 (by omega)
end Go.Proofs.Ytiaclfldgagalaa

/-
  A page's two rows, held by another block.
-/
namespace Go.Proofs.Ytiaclfldgagalaa
open Go.RowKit Go.Lib

def Moved (D : Nat → Prop) (p b' : Nat) (k : Nat) : Prop := (D k ∧ k ≠ p) ∨ k = b'
/-- block p holds a page's two cells, block b' the same ones -/
structure Twin (w w' : World) (p b' : Nat) : Prop where
  ok : ∃ t t' c0 c1, Blk w p t #[c0, c1] ∧ Blk w' b' t' #[c0, c1] ∧ (t' = 61 ∨ t' = 63)
theorem PgV.move {B : Nat} {D F : Nat → Prop} {w w' : World} {p b' : Nat} {ks : List En} {ps : List Nat} (h : PgV B D w p ks ps) (ht : Twin w w' p b') (hc : Chg F w w') (hF : ∀ k, D k → k ≠ p → ¬ F k) (hb : B ≤ b') : PgV B (Moved D p b') w' b' ks ps := by
  obtain ⟨t, KA, Kc, IA, Ic, hP⟩ := h
  obtain ⟨t1, t2, c0, c1, q1, q2, q3⟩ := ht.ok
  obtain ⟨e, _⟩ := q1.same hP.x.blk
  have hkn := hP.key_ne
  simp at e
  obtain ⟨rfl, rfl⟩ := e
  refine ⟨t2, KA, Kc, IA, Ic, ⟨q2, q3, own_chg hP.x.keys hc fun k hk => hF k (hP.dk k hk) fun e => hkn.1 (by rw [← e]; exact hk), own_chg hP.x.kids hc fun k hk => hF k (hP.di k hk) fun e => hkn.2.1 (by rw [← e]; exact hk)⟩, .inr rfl,
    fun k hk => .inl ⟨hP.dk k hk, fun e => hkn.1 (by rw [← e]; exact hk)⟩, fun k hk => .inl ⟨hP.di k hk, fun e => hkn.2.1 (by rw [← e]; exact hk)⟩, fun k hk => ?_⟩
  rcases hk with hk | hk
  · exact ⟨(hP.foot k hk.1).1, Nat.lt_of_lt_of_le (hP.foot k hk.1).2 hc.size⟩
  · rw [hk]; exact ⟨hb, q2.lt⟩
theorem Sub.move {B : Nat} : ∀ {d : Nat} {D F : Nat → Prop} {w w' : World} {p b' : Nat} {t : Tr d} (_ : Sub B D w p t) (_ : Twin w w' p b') (_ : Chg F w w') (_ : ∀ k, D k → k ≠ p → ¬ F k) (_ : B ≤ b') (_ : ¬ D b' ∨ b' = p), Sub B (Moved D p b') w' b' t
  | 0, _, _, _, _, _, _, _, h, ht, hc, hF, hb, _ => PgV.move h ht hc hF hb
  | d + 1, D, F, w, w', p, b', x, ⟨D0, kl, hN, hut, hD, hf⟩, ht, hc, hF, hb, hn => by
    have hp : D0 p := by
      obtain ⟨t, KA, Kc, IA, Ic, hP⟩ := hN.pg
      exact hP.db
    have hkid : ∀ u ∈ kl, ∀ k, u.D k → D k ∧ k ≠ p := fun u hu k hk => ⟨hD k (.inr ⟨u, hu, hk⟩), fun e => hN.dis0 u hu p hp (by rw [← e]; exact hk)⟩
    refine Node.to (D0 := Moved D0 p b') (kl := kl) ⟨hN.pg.move ht hc (fun k hk => hF k (hD k (.inl hk))) hb, fun u hu k hk hk' => ?_, hN.dis, fun u hu => (hN.sub u hu).chg hc fun k hk => hF k (hkid u hu k hk).1 (hkid u hu k hk).2⟩ hut (fun k hk => ?_) (fun k hk => ?_)
    · rcases hk with hk | hk
      · exact hN.dis0 u hu k hk.1 hk'
      · rw [hk] at hk'
        rcases hn with h | h
        · exact h (hkid u hu _ hk').1
        · exact (hkid u hu _ hk').2 h
    · rcases hk with hk | ⟨u, hu, hk⟩
      · exact hk.imp (fun h => ⟨hD k (.inl h.1), h.2⟩) id
      · exact .inl (hkid u hu k hk)
    · rcases hk with hk | hk
      · exact ⟨(hf k hk.1).1, Nat.lt_of_lt_of_le (hf k hk.1).2 hc.size⟩
      · obtain ⟨t1, t2, c0, c1, q1, q2, q3⟩ := ht.ok
        rw [hk]; exact ⟨hb, q2.lt⟩
/-- a page's block, its two cells -/
theorem Sub.two {B d : Nat} {D : Nat → Prop} {w : World} {b : Nat} {t : Tr d} (h : Sub B D w b t) (hc : Cnt t) : ∃ ty KA Kc IA Ic m, Blk w b ty #[.slice KA (keysT t).length Kc, .slice IA m Ic] ∧ (ty = 61 ∨ ty = 63) ∧ (d = 0 → m = 0) ∧ (∀ d', d = d' + 1 → m = (keysT t).length + 1) := by
  obtain ⟨D0, ps, ⟨ty, KA, Kc, IA, Ic, hP⟩, _, h0, h1⟩ := h.page
  exact ⟨ty, KA, Kc, IA, Ic, ps.length, hP.x.blk, hP.x.tt, fun e => by rw [h0 e]; rfl, fun d' e => h1 hc d' e⟩
end Go.Proofs.Ytiaclfldgagalaa

/-
  Tree.change: the tree grows or shrinks with it.
-/
namespace Go.Proofs.Ytiaclfldgagalaa
open Go.RowKit Go.Lib

def SubR (B : Nat) (D : Nat → Prop) (w : World) (b : Nat) (r : RT) : Prop := Sub B D w b r.t
theorem grow_few {d : Nat} {t : Tr d} (h : (keysT t).length ≤ 4) : growT t = ⟨d, t⟩ := by unfold growT; rw [if_neg (by omega)]
theorem root_same {K d : Nat} {t : Tr d} (h : Root K t) : shrinkT (growT t) = ⟨d, t⟩ := by
  rw [grow_few h.few]
  refine shrink_none fun d' x hx => ?_
  cases hx
  have h1 := h.one (Nat.succ_pos _)
  have h2 := h.cnt.1
  have h3 : 1 ≤ x.1.length := h1
  omega
/-- the old root below a new one -/
theorem grown_node {B tb ob pb : Nat} {D : Nat → Prop} {w8 : World} {d : Nat} {t2 : Tr d} (hS : Sub B (Moved D tb ob) w8 ob t2) {ty : TypeId} (hty : ty = 61 ∨ ty = 63) (hT : Blk w8 tb ty #[.slice none 0 0, .slice (some ⟨pb, 0, none⟩) 1 1]) (hP : Blk w8 pb 70 #[.pointer (some ⟨ob, 0, none⟩)]) (hb : B ≤ tb) (hbp : B ≤ pb) (h1 : tb ≠ ob) (h2 : pb ≠ ob) (h3 : ¬ D pb) :
    Node B (Sub B) (fun k => k = tb ∨ k = pb) w8 tb [] [⟨ob, Moved D tb ob, t2⟩] := by
  refine ⟨⟨ty, none, 0, some ⟨pb, 0, none⟩, 1, ⟨hT, hty, World.ownsRow_nil _ _ _ _, own_of_cur (cur := [.pointer (some ⟨ob, 0, none⟩)]) hP hbp (Nat.le_refl _) (by simp [maxLen]) rfl _ rfl⟩, .inl rfl, fun k hk => (by cases hk), fun k hk => ?_, fun k hk => ?_⟩, fun u hu k hk hk' => ?_, List.pairwise_singleton _ _, fun u hu => ?_⟩
  · injection hk with hk
    exact .inr hk.symm
  · rcases hk with rfl | rfl
    · exact ⟨hb, hT.lt⟩
    · exact ⟨hbp, hP.lt⟩
  · rw [List.mem_singleton] at hu
    subst hu
    rcases hk' with hk' | hk'
    · rcases hk with rfl | rfl
      · exact hk'.2 rfl
      · exact h3 hk'.1
    · rcases hk with rfl | rfl
      · exact h1 hk'
      · exact h2 hk'
  · rw [List.mem_singleton] at hu
    subst hu
    exact hS
theorem grow_cnt {d : Nat} {t2 : Tr d} (hc : Cnt t2) (h6 : (keysT t2).length ≤ 6) (ho : (flat t2).Pairwise ltM) : Cnt (growT t2).t := by
  by_cases h4 : 4 < (keysT t2).length
  · have hg : growT t2 = ⟨d + 1, splitAt (([] : List En), [t2]) 0⟩ := by unfold growT; rw [if_pos h4]
    rw [hg]
    have hsp := splitAt_spec (ks := []) (ts := [t2]) (i := 0) (t := t2) rfl rfl (by simp) (by simp) hc (by omega) (by omega) (by simpa [flatN, weave] using ho)
    exact ⟨hsp.2.1, hsp.2.2.1⟩
  · rw [grow_few (by omega)]
    exact hc
/-- a root with one page below takes that page's rows -/
theorem shrink_mem {B tb : Nat} {D : Nat → Prop} {wx : World} {r : RT} (h : SubR B D wx tb r) (hc : Cnt r.t) :
    ∃ ty KA n Kc IA m Ic, Blk wx tb ty #[.slice KA n Kc, .slice IA m Ic] ∧ m ≤ n + 1 ∧ n = (keysT r.t).length ∧ ((m ≠ 1 ∧ shrinkT r = r) ∨ (m = 1 ∧ ∃ g p KA2 n2 Kc2 IA2 m2 Ic2, IA = some ⟨g, 0, none⟩ ∧ wx.cell? ⟨g, 0, none⟩ = some (.pointer (some ⟨p, 0, none⟩)) ∧
      wx.cell? ⟨p, 0, none⟩ = some (.slice KA2 n2 Kc2) ∧ wx.cell? ⟨p, 1, none⟩ = some (.slice IA2 m2 Ic2) ∧ SubR B D ((wx.setCell ⟨tb, 0, none⟩ (.slice KA2 n2 Kc2)).setCell ⟨tb, 1, none⟩ (.slice IA2 m2 Ic2)) tb (shrinkT r))) := by
  obtain ⟨d, t⟩ := r
  obtain ⟨ty, KA, Kc, IA, Ic, m, hb, hty, m0, m1⟩ := Sub.two h hc
  refine ⟨ty, KA, _, Kc, IA, m, Ic, hb, ?_, rfl, ?_⟩
  · rcases Nat.eq_zero_or_pos d with h0 | h0
    · rw [m0 h0]; omega
    · exact Nat.le_of_eq (m1 (d - 1) (show d = d - 1 + 1 by have h0 : 0 < d := h0; omega))
  · match d, t, h, hc, hb, m0, m1 with
    | 0, t, h, hc, hb, m0, m1 => exact .inl ⟨by rw [m0 rfl]; omega, rfl⟩
    | d + 1, x, h, hc, hb, m0, m1 =>
      have hm := m1 d rfl
      have hx : x.2.length = m := by rw [hm]; exact hc.1
      by_cases h1 : m = 1
      · refine .inr ⟨h1, ?_⟩
        obtain ⟨u, hu⟩ := List.length_eq_one_iff.1 (hx.trans h1)
        obtain ⟨D0, kl, hN, hut, hD, hf⟩ := h
        have hut' : x.2 = kl.map Kid.t := hut
        rw [hu] at hut'
        obtain ⟨y, hkl⟩ : ∃ y, kl = [y] := by
          have : kl.length = 1 := by have := congrArg List.length hut'; simpa using this.symm
          exact List.length_eq_one_iff.1 this
        subst hkl
        have hyt : u = y.t := by simpa using hut'
        subst hyt
        obtain ⟨g, c, _, _, e1, e2, _⟩ := kid_cells hN (j := 0) (y := y) rfl
        have hcy : Cnt y.t := (hc.2 y.t (by rw [hu]; simp)).2.2
        obtain ⟨ty2, KA2, Kc2, IA2, Ic2, m2, hb2, hty2, _, _⟩ := (hN.sub y (by simp)).two hcy
        have a1 := hb.cell 1
        simp only [List.getElem?_toArray, List.getElem?_cons_zero, List.getElem?_cons_succ] at a1
        rw [e1] at a1
        injection a1 with a1
        injection a1 with a1
        refine ⟨g, y.p, KA2, _, Kc2, IA2, m2, Ic2, a1.symm, e2, (hb2.cell 0).trans rfl, (hb2.cell 1).trans rfl, ?_⟩
        rw [shrink_one hu]
        have hdb : D0 tb := by
          obtain ⟨t, KA, Kc, IA, Ic, hP⟩ := hN.pg
          exact hP.db
        have hny : ¬ y.D tb := fun h => hN.dis0 y (by simp) tb hdb h
        have hc8 : Chg (fun k => k = tb) wx ((wx.setCell ⟨tb, 0, none⟩ (.slice KA2 (keysT y.t).length Kc2)).setCell ⟨tb, 1, none⟩ (.slice IA2 m2 Ic2)) := ((Chg.refl (fun k => k = tb) wx).setCell (fun _ => rfl) _).setCell (fun _ => rfl) _
        have hmv := (hN.sub y (by simp)).move ⟨⟨ty2, ty, _, _, hb2, (hb.put 0 _).put 1 _, hty⟩⟩ hc8 (fun k hk _ e => hny (by rw [← e]; exact hk)) (hf tb (hD tb (.inl hdb))).1 (.inl hny)
        refine hmv.more (fun k hk => ?_) (fun k hk => ⟨(hf k hk).1, Nat.lt_of_lt_of_le (hf k hk).2 hc8.size⟩)
        rcases hk with hk | hk
        · exact hD k (.inr ⟨y, by simp, hk.1⟩)
        · rw [hk]; exact hD tb (.inl hdb)
      · exact .inl ⟨h1, shrink_none fun d' x' hx' => by cases hx'; omega⟩
set_option maxRecDepth 100000 in
set_option maxHeartbeats 6400000 in
theorem treechg_any {K : Nat} {ins : Bool} {f : Nat} {cap : Array Value} {e : En} {lim B d tb : Nat} {D : Nat → Prop} {w : World} {t : Tr d} (h : Sub B D w tb t) (hk : Root K t) (_hes : e.s.size ≤ K) (hcf : Ent f) (hdd : Deed ins f cap e lim w) (hlim : ∀ k, D k → k < lim) (hll : lim ≤ w.heap.size) (hB : B ≤ w.heap.size) (HALL : ∀ d, ChgC ins f cap e lim d) :
    Calls Try.prog 34 #[.pointer (some ⟨tb, 0, none⟩), e.val, .func (.func f) #[] cap] w fun r w' => r = .returned (.bool (chgT ins t e).1) ∧ SubR B (Ext D w w') w' tb (shrinkT (growT (chgT ins t e).2)) ∧ Chg D w w' := by
  have hmx : Try.prog.follows .mixedOrders = true := by kernel_rfl
  have hok := chg_ok ins t e hk.cnt hk.one hk.ord
  obtain ⟨q1, hq1⟩ : ∃ q1, q1 = (chgT ins t e).1 := ⟨_, rfl⟩
  obtain ⟨t2, ht2⟩ : ∃ t2, t2 = (chgT ins t e).2 := ⟨_, rfl⟩
  rw [← hq1, ← ht2] at hok ⊢
  obtain ⟨w1, hw1⟩ : ∃ w1, w1 = w.alloc (.cells #[.string e.s, .int .i64 e.p, .int .i64 e.k] 35) := ⟨_, rfl⟩
  have hb1 : Below w.heap.size w w1 := by rw [hw1]; exact (Below.refl _ w).alloc (Nat.le_refl _) _
  have k1 : Blk w1 w.heap.size 35 #[.string e.s, .int .i64 e.p, .int .i64 e.k] := by rw [hw1]; exact Blk.new _ _ _
  obtain ⟨w2, hw2⟩ : ∃ w2, w2 = w1.drew := ⟨_, rfl⟩
  have hb2 : Below w.heap.size w w2 := by rw [hw2]; exact hb1.trans ((Below.refl _ w1).drew.mono hb1.size)
  have hPC := HALL d (h.below hb2) ⟨hk.cnt, hk.one, by have := hk.few; omega, hk.ord⟩ hlim (Nat.le_trans hll hb2.size) hcf (hdd.below hb2) (Nat.le_trans hB hb2.size)
  rw [← hq1, ← ht2] at hPC
  have HPC := Lib.hid hPC
  unfold En.val at HPC
  have c0 := k1.cell 0
  have c1 := k1.cell 1
  have c2 := k1.cell 2
  simp only [List.getElem?_toArray, List.getElem?_cons_zero, List.getElem?_cons_succ] at c0 c1 c2
  have HW1 := Lib.hid hw1
  have HW2 := Lib.hid hw2
  have H := Lib.hid (And.intro h (And.intro hk (And.intro hB (And.intro hb2 hok))))
  clear h hk _hes hcf hdd hlim hll hB HALL hok hq1 ht2 hb1 k1 hb2 hPC hw1 hw2
  go_enter Try.func34, Try.ntmps34
  unfold En.val
  go_wp2_with fail
  rw [← HW1.out]
  go_still_tail 5, (by kernel_rfl)
  repeat still_step
  change wpList _ _ _ _ _ w1.drew
  rw [← HW2.out]
  clear c0 c1 c2
  go_upto_if 14 with (first
    | (go_at_call 48; refine HPC.out.mono ?_; rintro r w5 ⟨rfl, hS5, hC5⟩; have HS5 := Lib.hid (And.intro hS5 hC5); clear hS5 hC5))
  cases q1 with
  | false =>
    have HR := Lib.hid (show SubR B (Ext D w w5) w5 tb (shrinkT (growT t2)) ∧ Chg D w w5 by
      obtain ⟨h, hk, hB, hb2, hok⟩ := H.out
      rw [hok.same rfl, root_same hk]
      have := hok.same rfl
      have s5 := HS5.out.2.size
      have s2 := hb2.size
      refine ⟨?_, (Chg.of_below hb2).trans HS5.out.2⟩
      have h5 := HS5.out.1
      rw [this] at h5
      exact h5.more (fun k hk => hk.imp id fun hk => ⟨by omega, hk.2⟩) (fun k hk => by
        rcases hk with hk | hk
        · have := h.foot k hk
          exact ⟨this.1, by omega⟩
        · exact ⟨by omega, hk.2⟩))
    go_wp2_with fail
    go_ret
    exact ⟨rfl, HR.out⟩
  | true =>
    obtain ⟨ty5, KA, Kc, IA, Ic, m5, hB5, hty5, -, -⟩ := HS5.out.1.two H.out.2.2.2.2.cnt
    obtain ⟨nk, hnk⟩ : ∃ nk, nk = (keysT t2).length := ⟨_, rfl⟩
    rw [← hnk] at hB5
    have a0 := hB5.cell 0
    have a1 := hB5.cell 1
    simp only [List.getElem?_toArray, List.getElem?_cons_zero, List.getElem?_cons_succ] at a0 a1
    have hext : ∀ k, Ext D w2 w5 k → Ext D w w5 k := fun k hk => hk.imp id fun hk => ⟨by have := H.out.2.2.2.1.size; omega, hk.2⟩
    have hfoot : ∀ k, Ext D w w5 k → B ≤ k ∧ k < w5.heap.size := fun k hk => by
      have s5 := HS5.out.2.size
      have s2 := H.out.2.2.2.1.size
      have hB := H.out.2.2.1
      rcases hk with hk | hk
      · have := H.out.1.foot k hk
        exact ⟨this.1, by omega⟩
      · exact ⟨by omega, hk.2⟩
    have HS := Lib.hid (show Sub B (Ext D w w5) w5 tb t2 ∧ Chg D w w5 from ⟨HS5.out.1.more hext hfoot, (Chg.of_below H.out.2.2.2.1).trans HS5.out.2⟩)
    have HTB := Lib.hid (And.intro (show D tb from H.out.1.db) hB5)
    have HTY := Lib.hid hty5
    have HNK := Lib.hid hnk
    have hn10 : (nk : Int) ≤ 10 := by have := H.out.2.2.2.2.hi; have := H.out.2.1.few; omega
    clear hB5 hext hfoot hnk hty5
    go_upto_if 21 with fail
    go_cut [] (fun wx => SubR B (Ext D w wx) wx tb (growT t2) ∧ Chg D w wx)
    case first =>
      by_cases h4 : 4 < nk
      · have i4 : (4 : Int) < (nk : Int) := by omega
        have ht0 : tb < w5.heap.size := HTB.out.2.lt
        have ht1 : tb ≠ w5.heap.size := by omega
        have ht2 : w5.heap.size ≠ tb := by omega
        have g0 := HTB.out.2.frozen 0
        have g1 := HTB.out.2.frozen 1
        obtain ⟨w8, hw8⟩ : ∃ w8, w8 = ((((w5.setCell ⟨tb, 0, none⟩ (.slice none 0 0)).setCell ⟨tb, 1, none⟩ (.slice (some ⟨w5.heap.size + 1, 0, none⟩) 1 1)).alloc (.cells #[.slice KA nk Kc, .slice IA m5 Ic] 61)).alloc (.cells #[.pointer (some ⟨w5.heap.size, 0, none⟩)] 70)) := ⟨_, rfl⟩
        have HG : Hid (Calls Try.prog 49 #[.pointer (some ⟨tb, 0, none⟩), .int .i64 0] w8 fun r w9 => r = .returned (.tuple #[]) ∧ SubR B (Ext D w w9) w9 tb (growT t2) ∧ Chg D w w9) := Lib.hid (by
          have hc8 : Chg (fun k => k = tb) w5 w8 := by
            rw [hw8]
            exact ((((Chg.refl (fun k => k = tb) w5).setCell (fun _ => rfl) _).setCell (fun _ => rfl) _).alloc _).alloc _
          have hkt : Blk w8 tb ty5 #[.slice none 0 0, .slice (some ⟨w5.heap.size + 1, 0, none⟩) 1 1] := by
            rw [hw8]
            exact (((HTB.out.2.put 0 _).put 1 _).alloc _).alloc _
          have hko : Blk w8 w5.heap.size 61 #[.slice KA nk Kc, .slice IA m5 Ic] := by
            rw [hw8]
            have h := Blk.new ((w5.setCell ⟨tb, 0, none⟩ (.slice none 0 0)).setCell ⟨tb, 1, none⟩ (.slice (some ⟨w5.heap.size + 1, 0, none⟩) 1 1)) 61 #[.slice KA nk Kc, .slice IA m5 Ic]
            simp only [World.size_setCell] at h
            exact h.alloc _
          have hkp : Blk w8 (w5.heap.size + 1) 70 #[.pointer (some ⟨w5.heap.size, 0, none⟩)] := by
            rw [hw8]
            have h := Blk.new (((w5.setCell ⟨tb, 0, none⟩ (.slice none 0 0)).setCell ⟨tb, 1, none⟩ (.slice (some ⟨w5.heap.size + 1, 0, none⟩) 1 1)).alloc (.cells #[.slice KA nk Kc, .slice IA m5 Ic] 61)) 70 #[.pointer (some ⟨w5.heap.size, 0, none⟩)]
            simp only [World.size_alloc, World.size_setCell] at h
            exact h
          obtain ⟨hS, hC⟩ := HS.out
          have hB := H.out.2.2.1
          have s5 := hC.size
          have s8 := hc8.size
          have hp8 := hkp.lt
          have hmv : Sub B (Moved (Ext D w w5) tb w5.heap.size) w8 w5.heap.size t2 := hS.move ⟨⟨ty5, _, _, _, HTB.out.2, hko, .inl rfl⟩⟩ hc8 (fun k _ hk => hk) (by omega) (.inl fun h => by have := (hS.foot _ h).2; omega)
          have hnode := grown_node hmv HTY.out hkt hkp (hS.foot tb hS.db).1 (by omega) (by omega) (by omega) (fun h => by have := (hS.foot _ h).2; omega)
          refine (split_node hnode (j := 0) (y := ⟨w5.heap.size, Moved (Ext D w w5) tb w5.heap.size, t2⟩) rfl rfl H.out.2.2.2.2.cnt (by rw [← HNK.out]; omega) (by rw [← HNK.out]; omega) (by simp) (by omega)).mono ?_
          rintro r w9 ⟨rfl, D9, z, z2, hz, hz2, hN9, hF9, hC9⟩
          have s9 := hC9.size
          have hin : ∀ k, NF (fun k => k = tb ∨ k = w5.heap.size + 1) [⟨w5.heap.size, Moved (Ext D w w5) tb w5.heap.size, t2⟩] k → Ext D w w8 k := fun k hk => by
            rcases hk with (rfl | rfl) | ⟨u, hu, hk⟩
            · exact .inl HTB.out.1
            · exact .inr ⟨by omega, hp8⟩
            · rw [List.mem_singleton] at hu
              subst hu
              rcases hk with hk | hk
              · exact hk.1.imp id fun h => ⟨h.1, by omega⟩
              · exact .inr ⟨by rw [hk]; omega, by rw [hk]; exact hko.lt⟩
          refine ⟨rfl, ?_, ((hC.trans (hc8.mono fun k _ hk => by rw [hk]; exact HTB.out.1)).trans' hC9 fun k hk0 hk => ?_)⟩
          · have hg : growT t2 = ⟨d + 1, ([(splitT t2).2.1], [(splitT t2).1, (splitT t2).2.2])⟩ := by unfold growT; rw [if_pos (by rw [← HNK.out]; exact h4)]; rfl
            rw [hg]
            refine Node.to hN9 (by simp [hz, hz2]) (fun k hk => ?_) (fun k hk => ?_)
            · rcases hF9 k hk with h | h
              · exact (hin k h).imp id fun h => ⟨h.1, by omega⟩
              · exact .inr ⟨by omega, h.2⟩
            · rcases hk with hk | hk
              · have h1 := H.out.1.foot k hk
                have := H.out.2.2.2.1.size
                exact ⟨h1.1, by omega⟩
              · exact ⟨by omega, hk.2⟩
          · rcases hin k hk with h | h
            · exact h
            · have := h.1; omega)
        have HW8 := Lib.hid hw8
        clear hw8
        go_wp2_with fail
        rw [← HW8.out]
        refine HG.out.mono ?_
        rintro r w9 ⟨rfl, h9⟩
        have H9 := Lib.hid h9
        clear h9
        go_wp2_with fail
        go_meet
        exact H9.out
      · have i4 : ¬ (4 : Int) < (nk : Int) := by omega
        have HR := Lib.hid (show SubR B (Ext D w w5) w5 tb (growT t2) ∧ Chg D w w5 by
          rw [grow_few (by rw [← HNK.out]; omega)]
          exact HS.out)
        go_wp2_with fail
        go_meet
        exact HR.out
    case rest =>
      rename World => wx
      obtain ⟨hRx, hCx⟩ := hcut
      obtain ⟨ty, KB, n, Kd, IB, m, Id, hb, hmn, hn, hcase⟩ := shrink_mem hRx (grow_cnt H.out.2.2.2.2.cnt (by have := H.out.2.2.2.2.hi; have := H.out.2.1.few; omega) H.out.2.2.2.2.ord)
      have c0 := hb.cell 0
      have c1 := hb.cell 1
      simp only [List.getElem?_toArray, List.getElem?_cons_zero, List.getElem?_cons_succ] at c0 c1
      have f0 := hb.frozen 0
      have f1 := hb.frozen 1
      have HRX := Lib.hid (And.intro hRx hCx)
      rcases hcase with ⟨hm1, hsh⟩ | ⟨hm1, g, p, KA2, n2, Kc2, IA2, m2, Ic2, rfl, e0, e1, e2, hfin⟩
      · have i1 : ¬ (m : Int) = 1 := by omega
        have HSH := Lib.hid hsh
        clear hRx hCx hb hmn hn hm1 hsh
        go_wp2_with fail
        go_ret
        rw [HSH.out]
        exact ⟨rfl, HRX.out⟩
      · subst hm1
        have HF := Lib.hid (And.intro hfin (show D tb from HTB.out.1))
        clear hRx hCx hb hmn hn hfin
        go_wp2_with fail
        go_ret
        refine ⟨rfl, ?_, HRX.out.2.trans (((Chg.refl D wx).setCell (fun _ => HF.out.2) _).setCell (fun _ => HF.out.2) _)⟩
        have h := HF.out.1
        have hsz : ((wx.setCell ⟨tb, 0, none⟩ (.slice KA2 n2 Kc2)).setCell ⟨tb, 1, none⟩ (.slice IA2 m2 Ic2)).heap.size = wx.heap.size := by simp only [World.size_setCell]
        unfold Ext at h ⊢
        rw [hsz]
        exact h
end Go.Proofs.Ytiaclfldgagalaa
