/-
  Range.
-/
import Derived.Test.YtiaclfldgagalaaM16
import Derived.Laws.Cover1
import Derived.Test.YtiaclfldgagalaaM11
namespace Go.Proofs.Ytiaclfldgagalaa
open Go.RowKit Go.Lib Go.Shelf
attribute [local go_sem] Oper.semAt_some

theorem lessB_cmp : ∀ x y : List UInt8, Op.bytesLess x y = decide (compareBytes x y < 0)
  | [], [] => rfl
  | [], _ :: _ => rfl
  | _ :: _, [] => rfl
  | a :: x, b :: y => by
    rw [Op.bytesLess, compareBytes]
    by_cases h1 : a < b
    · simp [h1]
    · by_cases h2 : b < a
      · have h3 : ¬ a = b := fun e => by subst e; exact h1 h2
        simp [h1, h2, h3]
      · have h3 : a = b := UInt8.le_antisymm (UInt8.not_lt.1 h2) (UInt8.not_lt.1 h1)
        subst h3
        simp [h1, lessB_cmp x y]
theorem str_less (a b : ByteArray) : Op.bytesLess a.toList b.toList = decide (cmpS a b < 0) := by
  rw [lessB_cmp, ByteArray.toList_eq, ByteArray.toList_eq]; rfl
theorem rng_all {t : ByteArray} {most : Int} {xs : List En} (h : ∀ y ∈ xs, cmpS y.s t < 0) (hm : xs.length ≤ most.toNat) : (xs.takeWhile (fun a => decide (cmpS a.s t < 0))).take most.toNat = xs := by
  rw [tw_all (p := fun a : En => decide (cmpS a.s t < 0)) fun y hy => decide_eq_true (h y hy), List.take_of_length_le hm]
theorem rng_cut {t : ByteArray} {most : Int} {ys q : List En} {x : En} (h : ∀ y ∈ ys, cmpS y.s t < 0) (hm : ys.length ≤ most.toNat) (hx : ¬ cmpS x.s t < 0 ∨ most ≤ (ys.length : Int)) : ((ys ++ ([x] ++ q)).takeWhile (fun a => decide (cmpS a.s t < 0))).take most.toNat = ys := by
  by_cases hc : cmpS x.s t < 0
  · have h1 : most ≤ (ys.length : Int) := hx.resolve_left fun h => h hc
    have h2 : most.toNat = ys.length := by omega
    rw [List.takeWhile_append_of_pos fun y hy => decide_eq_true (h y hy), h2, List.take_left]
  · rw [tw_cut (p := fun a : En => decide (cmpS a.s t < 0)) (decide_eq_false hc) fun y hy => decide_eq_true (h y hy), List.take_of_length_le hm]
set_option maxRecDepth 100000 in
set_option maxHeartbeats 4000000 in
theorem range_tree {K B : Nat} {D : Nat → Prop} {w : World} {tb : Nat} {l : List En} (f u : ByteArray) (most : Int) (h : TreeV K B D w tb l) (hl : l.length ≤ 1000000) (hlow : ((fromL (lowE f) l).takeWhile (fun a => decide (cmpS a.s u < 0))).take most.toNat = rngL f u most l) :
    Calls Try.prog 24 #[.pointer (some ⟨tb, 0, none⟩), .string f, .string u, .int .i64 most] w fun r w' => ∃ A c n, r = .returned (.slice A n c) ∧ n = (rngL f u most l).length ∧ w'.ownsRow w.heap.size 35 3 (.slice A n c) n (ecs (rngL f u most l)) ∧ Below w.heap.size w w' := by
  obtain ⟨d, t, hS, hR, hent⟩ := h
  obtain ⟨i0, hi, hz0, hz1, hz2⟩ := info_parts Try.infoent
  have hdd : ∀ k : Nat, (Fence.wide.depth.isSome = true → 1 ≤ k) := fun k h => by cases h
  obtain ⟨n0, _⟩ : ∃ n : Nat, True := ⟨0, trivial⟩
  refine (callsIn_wide (n := n0)).1 ?_
  have HTF := Lib.hid (fun w1 => treefrom_any w1 tb f)
  refine callsIn_of_wp_marks Try.func24 rfl trivial ?_
  simp only [Try.ntmps24, List.size_toArray, List.length_cons, List.length_nil, Nat.reduceAdd, Nat.reduceSub, Array.replicate_succ, Array.replicate_zero, List.push_toArray, List.append_toArray, List.nil_append, List.cons_append]
  obtain ⟨w1, hw1⟩ : ∃ w1, w1 = ((w.alloc (.cells #[.string u] 9)).alloc (.cells #[.int .i64 most] 3)).alloc (.cells #[.slice none 0 0] 28) := ⟨_, rfl⟩
  gi_wp2_with (first
    | (refine ⟨trivial, hdd _, ?_⟩; gi_at_call 32; refine (callsIn_wide.2 (HTF.out _)).mono ?_; rintro r wk ⟨rfl, hwk⟩; have HWK := Lib.hid hwk; clear hwk))
  have hb1 : Below w.heap.size w w1 := by rw [hw1]; exact (((Below.refl _ w).alloc (Nat.le_refl _) _).alloc (by simp) _).alloc (by simp; omega) _
  have hwk := HWK.out
  rw [← hw1] at hwk
  have s1 : w1.heap.size = w.heap.size + 1 + 1 + 1 := by rw [hw1]; simp
  have kk1 : Blk w1 w.heap.size 9 #[.string u] := by rw [hw1]; exact ((Blk.new w 9 #[.string u]).alloc _).alloc _
  have km1 : Blk w1 (w.heap.size + 1) 3 #[.int .i64 most] := by
    have h := (Blk.new (w.alloc (.cells #[.string u] 9)) 3 #[.int .i64 most]).alloc (.cells #[.slice none 0 0] 28)
    rw [← hw1, World.size_alloc] at h
    exact h
  have kc1 : Blk w1 (w.heap.size + 1 + 1) 28 #[.slice none 0 0] := by
    have h := Blk.new ((w.alloc (.cells #[.string u] 9)).alloc (.cells #[.int .i64 most] 3)) 28 #[.slice none 0 0]
    rw [← hw1, World.size_alloc, World.size_alloc] at h
    exact h
  obtain ⟨hsk, hbk, hSk, hseq⟩ := tree_seq hS hR hb1 hwk
  rw [hent] at hseq
  rw [s1] at hseq hSk hsk
  have hxl : (fromL (lowE f) l).length ≤ 1000000 := by unfold fromL; rw [List.length_drop]; omega
  obtain ⟨xs, hxs⟩ : ∃ xs, xs = fromL (lowE f) l := ⟨_, rfl⟩
  rw [← hxs] at hseq hxl hlow
  have kk := kk1.below hbk kk1.lt
  have km := km1.below hbk km1.lt
  have kc := kc1.below hbk kc1.lt
  have hbw := hb1.trans (hbk.mono hb1.size)
  clear HTF HWK hw1 hwk kk1 km1 kc1 hb1 hbk hxs
  refine range_own (w := wk) (w0 := wk) rfl rfl (gf := 56) (lb := #[.pointer (some ⟨w.heap.size + 1 + 1 + 1, 0, none⟩), .pointer (some ⟨w.heap.size + 1 + 1 + 1 + 1, 0, none⟩)]) rfl trivial ent_from hseq (Chg.refl _ _) (fun k hk => (hSk k hk).1) (MineC (w.heap.size + 1 + 1)) (MineC.ok _) (fun _ => rfl)
    (fun pre W' => ((∀ y ∈ pre, cmpS y.s u < 0) ∧ pre.length ≤ most.toNat) ∧ Col (wk.heap.size + 2) (w.heap.size + 1 + 1) 28 35 3 ecs pre W' ∧ (Blk W' w.heap.size 9 #[.string u] ∧ Blk W' (w.heap.size + 1) 3 #[.int .i64 most]) ∧ Below w.heap.size w W' ∧ wk.heap.size + 2 ≤ W'.heap.size)
    (fun c pre W' => c = .exit 0 ∧ ∃ ys x, pre = ys ++ [x] ∧ ((∀ y ∈ ys, cmpS y.s u < 0) ∧ ys.length ≤ most.toNat) ∧ (¬ cmpS x.s u < 0 ∨ most ≤ (ys.length : Int)) ∧ Col (wk.heap.size + 2) (w.heap.size + 1 + 1) 28 35 3 ecs ys W' ∧ Below w.heap.size w W') ?_ ?_ ?_ ?_
    (fun pre z a' W' => (((∀ y ∈ pre, cmpS y.s u < 0) ∧ pre.length ≤ most.toNat) ∧ Col (wk.heap.size + 2) (w.heap.size + 1 + 1) 28 35 3 ecs pre W' ∧ (Blk W' w.heap.size 9 #[.string u] ∧ Blk W' (w.heap.size + 1) 3 #[.int .i64 most]) ∧ Below w.heap.size w W' ∧ wk.heap.size + 2 ≤ W'.heap.size) ∧ ∃ Bx, Blk W' Bx 35 #[.string z.s, .int .i64 z.p, .int .i64 z.k] ∧
      a' = { tmps := #[.pointer (some ⟨tb, 0, none⟩), .string f, .string u, .int .i64 most, undef, undef, .pointer (some ⟨w.heap.size, 0, none⟩), .pointer (some ⟨w.heap.size + 1, 0, none⟩), .slice none 0 0, .pointer (some ⟨w.heap.size + 1 + 1, 0, none⟩), .pointer (some ⟨Bx, 0, none⟩), .pointer (some ⟨tb, 0, none⟩), .string f, .func (.func 56) #[] #[.pointer (some ⟨w.heap.size + 1 + 1 + 1, 0, none⟩), .pointer (some ⟨w.heap.size + 1 + 1 + 1 + 1, 0, none⟩)], .agg #[.string z.s, .int .i64 z.p, .int .i64 z.k], undef, undef, undef, undef, undef, undef, undef, undef, undef, undef, undef, undef, undef, undef, undef], defers := [] })
    ?_ ?_ ?_ ?_ ?_
  · rintro pre A C row ⟨h0, h1, hk, h2, h3⟩ hg hr
    exact ⟨h0, h1.grown hg fun r e => (hr r e).2, ⟨blk_grown hk.1 hg fun r e => (hr r e).2, blk_grown hk.2 hg fun r e => (hr r e).2⟩, below_more h2 hg fun r e => by have := (hr r e).1; omega, Nat.le_trans h3 hg.size⟩
  · rintro c pre A C row ⟨hc, ys, x, e1, e2, e3, h1, h2⟩ hg hr
    exact ⟨hc, ys, x, e1, e2, e3, h1.grown hg fun r e => (hr r e).2, below_more h2 hg fun r e => by have := (hr r e).1; omega⟩
  · rintro pre W' ⟨h0, h1, hk, h2, h3⟩
    refine ⟨h3, fun h => ?_, fun h => ?_, fun k hk => (h1.mine hk).1⟩
    · have := (h1.mine h).2; omega
    · have := (h1.mine h).2; omega
  · intro o
    have hc0 : Col (wk.heap.size + 2) (w.heap.size + 1 + 1) 28 35 3 ecs [] ((wk.alloc (.deferred (some []))).alloc (.loop o)) := ⟨none, 0, 0, (kc.alloc _).alloc _, rfl, World.ownsRow_nil _ _ _ _⟩
    refine ⟨⟨⟨fun y hy => (by cases hy), Nat.zero_le _⟩, hc0, ⟨(kk.alloc _).alloc _, (km.alloc _).alloc _⟩, ((hbw.alloc hbw.size _).alloc (by simp; omega) _), by simp⟩, fun k hk h => ?_⟩
    have h1 := hSk k hk
    have hf := fun h => (hS.foot k h).2
    have h2 := (hc0.mine h).2
    rcases hk with hk | hk | hk
    · have := hf hk; omega
    · omega
    · omega
  · rintro pre z a' _ A C row ⟨⟨h0, h1, hk, h2, h3⟩, Bx, h4, h5⟩ hg hr
    exact ⟨⟨h0, h1.grown hg fun r e => (hr r e).2, ⟨blk_grown hk.1 hg fun r e => (hr r e).2, blk_grown hk.2 hg fun r e => (hr r e).2⟩, below_more h2 hg fun r e => by have := (hr r e).1; omega, Nat.le_trans h3 hg.size⟩, Bx, blk_grown h4 hg fun r e => (hr r e).2, h5⟩
  · rintro m' l' pre z Wr ⟨h0, h1, hk, h2, h3⟩ _ K hK
    have HKK := Lib.hid (fun (o : Obj) (ho : o = .cells #[.string z.s, .int .i64 z.p, .int .i64 z.k] 35) => hK _ (Wr.alloc o) ((KeepM.refl _ Wr).grown (MineC.ok _) (World.grownBy_alloc Wr o none) (fun r e => by cases e))
      ⟨⟨h0, h1.grown (World.grownBy_alloc Wr o none) (fun r e => by cases e), ⟨hk.1.alloc _, hk.2.alloc _⟩, h2.alloc h2.size _, by simp; omega⟩, Wr.heap.size, by rw [ho]; exact Blk.new Wr _ _, rfl⟩)
    clear h0 h1 hk h2 h3 hK hseq hSk
    unfold En.val
    gi_wp2
    exact HKK.out _ rfl
  · rintro m' l' pre z a' Wb ⟨⟨h0, h1, hk, h2, h3⟩, Bx, h4, rfl⟩ ⟨post, hpost⟩
    obtain ⟨A1, n1, c1, hb, hn, ho⟩ := h1
    have hlen : pre.length + 1 ≤ 1000000 := by
      have := congrArg List.length hpost
      simp at this
      omega
    have hn1 : n1 + 1 ≤ 1000000 := by omega
    have l0 := hb.cell 0
    have f0 := hb.frozen 0
    have q0 := hk.1.cell 0
    have q1 := hk.2.cell 0
    have x0 := h4.cell 0
    have x1 := h4.cell 1
    have x2 := h4.cell 2
    simp only [List.getElem?_toArray, List.getElem?_cons_zero, List.getElem?_cons_succ] at l0 q0 q1 x0 x1 x2
    have hWa : Below Wb.heap.size Wb (Wb.alloc (.cells #[.string z.s, .int .i64 z.p, .int .i64 z.k] 35)) := (Below.refl _ Wb).alloc (Nat.le_refl _) _
    have hoa := own_chg ho (Chg.of_below (F := Non) hWa) fun _ _ h => h
    have hnew := Blk.new Wb 35 #[.string z.s, .int .i64 z.p, .int .i64 z.k]
    have HE := Lib.hid (And.intro hb (And.intro hn (And.intro ho (And.intro h2 (And.intro h3 hWa)))))
    have HO := Lib.hid (And.intro hoa hnew)
    have HK := Lib.hid (And.intro h0 hk)
    have HSK := Lib.hid hsk
    clear hsk
    have hlz := str_less z.s u
    by_cases hzs : cmpS z.s u < 0 ∧ (n1 : Int) < most
    · have e1 : Op.bytesLess z.s.toList u.toList = true := by rw [hlz]; exact decide_eq_true hzs.1
      have e2 : ¬ most ≤ (n1 : Int) := by omega
      have e3 : decide (most ≤ (n1 : Int)) = false := decide_eq_false e2
      have HZ := Lib.hid hzs
      clear hb hn ho h0 hk h2 h3 h4 hWa hseq hpost hoa hnew hSk hzs hlz
      gi_wp2_with (gi_at_builtin; refine wpListIn_append_row rfl _ _ 28 rfl (wk.heap.size + 2) 35 i0 (.agg #[.string ⟨#[]⟩, .int .i64 0, .int .i64 0]) 3 32 Try.underlying28 hi hz0 hz1 hz2 rfl (by decide) _ n1 _ HO.out.1 (by rfl) (some ⟨Wb.heap.size, 0, none⟩) 1 1 [.string z.s, .int .i64 z.p, .int .i64 z.k] (by rfl) rfl (fun h => by cases h) (fun ad ha j u hu => by cases ha; rw [Addr.add_lit, Nat.zero_add]; exact (HO.out.2.cell j).trans (by simpa using hu)) (by intro u hu; simp at hu; rcases hu with rfl | rfl | rfl <;> rfl) (by simp [maxLen]; omega) (by omega) (by have := HE.out.2.2.2.2.1; simp; omega) ?_; intro A' c' w5 hR5; rw [ecs_more] at hR5; have HC := Lib.hid (Col.more HE.out.1 HE.out.2.1 HE.out.2.2.1 (by decide) HE.out.2.2.2.2.2 HE.out.2.2.2.2.1 hR5); have HS5 := Lib.hid hR5; have f5 : w5.frozen? ⟨w.heap.size + 1 + 1, 0, none⟩ = false := (bx_after HE.out.1 HE.out.2.2.1 (by decide) HE.out.2.2.2.2.2 hR5).frozen 0; have l5 := (bx_after HE.out.1 HE.out.2.2.1 (by decide) HE.out.2.2.2.2.2 hR5).cell 0; simp only [List.getElem?_toArray, List.getElem?_cons_zero] at l5; clear hR5)
      obtain ⟨hb, hn, ho, h2, h3, hWa⟩ := HE.out
      have hsk := HSK.out
      obtain ⟨hc1, hc2⟩ := HC.out
      have hks : ¬ MineC (w.heap.size + 1 + 1) Wb w.heap.size := fun h => by have := (Col.mine ⟨A1, n1, c1, hb, hn, ho⟩ h).2; omega
      have hks2 : ¬ MineC (w.heap.size + 1 + 1) Wb (w.heap.size + 1) := fun h => by have := (Col.mine ⟨A1, n1, c1, hb, hn, ho⟩ h).2; omega
      refine ⟨hc2, ⟨fun y hy => ?_, by have := HZ.out.2; simp; omega⟩, hc1, ⟨HK.out.2.1.chg hc2.chg hks, HK.out.2.2.chg hc2.chg hks2⟩, ?_, Nat.le_trans h3 hc2.chg.size⟩
      · rcases List.mem_append.1 hy with hy | hy
        · exact HK.out.1.1 y hy
        · rw [List.mem_singleton.1 hy]; exact HZ.out.1
      · refine (h2.trans (hc2.chg.below (fun k hk => ?_) h2.size))
        have := (Col.mine ⟨A1, n1, c1, hb, hn, ho⟩ hk).2
        omega
    · have HZ := Lib.hid (show ¬ cmpS z.s u < 0 ∨ most ≤ (n1 : Int) from by
        by_cases h : cmpS z.s u < 0
        · exact .inr (by have := fun h' => hzs ⟨h, h'⟩; omega)
        · exact .inl h)

      clear hb hn ho h0 hk h2 h3 h4 hWa hseq hpost hoa hnew hSk hzs
      by_cases hz1 : cmpS z.s u < 0
      · have e1 : Op.bytesLess z.s.toList u.toList = true := by rw [hlz]; exact decide_eq_true hz1
        have e2 : most ≤ (n1 : Int) := HZ.out.resolve_left fun h => h hz1
        have e3 : decide (most ≤ (n1 : Int)) = true := decide_eq_true e2
        clear hlz hz1
        gi_wp2
        obtain ⟨hb, hn, ho, h2, h3, hWa⟩ := HE.out
        have hsk := HSK.out
        exact ⟨KeepM.refl _ _, rfl, pre, z, rfl, HK.out.1, by rw [← hn]; exact HZ.out, ⟨A1, n1, c1, hb, hn, ho⟩, h2⟩
      · have e1 : Op.bytesLess z.s.toList u.toList = false := by rw [hlz]; exact decide_eq_false hz1
        clear hlz hz1
        gi_wp2
        obtain ⟨hb, hn, ho, h2, h3, hWa⟩ := HE.out
        have hsk := HSK.out
        exact ⟨KeepM.refl _ _, rfl, pre, z, rfl, HK.out.1, by rw [← hn]; exact HZ.out, ⟨A1, n1, c1, hb, hn, ho⟩, h2⟩
  · rintro o W' ⟨h0, h1, hk, h2, h3⟩ _ hD
    obtain ⟨A1, n1, c1, hb, hn, ho⟩ := h1
    have hfx : xs = rngL f u most l := by rw [← hlow]; exact (rng_all h0.1 h0.2).symm
    rw [hfx] at hn ho
    have l0 := hb.cell 0
    simp only [List.getElem?_toArray, List.getElem?_cons_zero] at l0
    have HE := Lib.hid (And.intro hn (And.intro ho (And.intro h2 hD)))
    clear hb hn ho h0 hk h2 h3 hD hseq hSk
    have HSK := Lib.hid hsk
    clear hsk
    gi_wp2
    have hsk := HSK.out
    refine ⟨by simp, .inl ⟨_, _, rfl, run_takeDeferred HE.out.2.2.2, ?_⟩⟩
    exact ⟨_, results_tmp rfl _ _ _, A1, c1, n1, rfl, HE.out.1, own_to_lt (own_grown HE.out.2.1 (grownBy_putObj' W' _ _) fun r e => by cases e; exact ⟨_, HE.out.2.2.2, rfl⟩) (by omega), below_more HE.out.2.2.1 (grownBy_putObj' W' _ _) fun r e => by cases e; omega⟩
  · rintro c pre W' hpre ⟨rfl, ys, x, rfl, h0, hx, h1, h2⟩ hD
    obtain ⟨A1, n1, c1, hb, hn, ho⟩ := h1
    have hfx : ys = rngL f u most l := by
      obtain ⟨q, hq⟩ := hpre
      rw [← hlow, ← hq, List.append_assoc]
      exact (rng_cut h0.1 h0.2 hx).symm
    rw [hfx] at hn ho
    have l0 := hb.cell 0
    simp only [List.getElem?_toArray, List.getElem?_cons_zero] at l0
    have HE := Lib.hid (And.intro hn (And.intro ho (And.intro h2 hD)))
    clear hb hn ho h0 h2 hD hseq hSk
    have HSK := Lib.hid hsk
    clear hsk
    gi_wp2
    have hsk := HSK.out
    refine ⟨by simp, .inl ⟨_, _, rfl, run_takeDeferred HE.out.2.2.2, ?_⟩⟩
    exact ⟨_, results_tmp rfl _ _ _, A1, c1, n1, rfl, HE.out.1, own_to_lt (own_grown HE.out.2.1 (grownBy_putObj' W' _ _) fun r e => by cases e; exact ⟨_, HE.out.2.2.2, rfl⟩) (by omega), below_more HE.out.2.2.1 (grownBy_putObj' W' _ _) fun r e => by cases e; omega⟩
end Go.Proofs.Ytiaclfldgagalaa

/-
  Twice.
-/
namespace Go.Proofs.Ytiaclfldgagalaa
open Go.RowKit Go.Lib Go.Shelf
attribute [local go_sem] Oper.semAt_some

theorem tw_pre : ∀ {ys : List En} {y : En} (r : List En), twL (ys ++ [y]) = none → twL (ys ++ y :: r) = twL (y :: r)
  | [], _, _, _ => rfl
  | [a], y, r, h => by
    simp only [List.cons_append, List.nil_append, twL] at h ⊢
    by_cases e : y.s = a.s
    · rw [if_pos e] at h; cases h
    · rw [if_neg e]
  | a :: b :: ys, y, r, h => by
    simp only [List.cons_append, twL] at h ⊢
    by_cases e : b.s = a.s
    · rw [if_pos e] at h; cases h
    · rw [if_neg e] at h ⊢
      exact tw_pre (ys := b :: ys) r h
theorem results_cell2 {fn : Func} {p q : Tmp} {ty tz : TypeId} (h : fn.results = #[.cell p ty, .cell q tz]) (tmps : Array Value) (P : Program) (w : World) {a b : Addr} {u v : Value} (h1 : tmps.getD p undef = .pointer (some a)) (h2 : tmps.getD q undef = .pointer (some b)) (hu : (loadVar ty a).run P w = .ok u w) (hv : (loadVar tz b).run P w = .ok v w) :
    (results fn tmps).run P w = .ok (.tuple #[u, v]) w := by
  simp only [Array.getD_eq_getD_getElem?] at h1 h2
  simp [results, h, Sem.run_bind, h1, h2, asAddr, Result.andThen, hu, hv]
/-- what the four boxes hold -/
structure Tw4 (z : Nat) (W : World) (a : ByteArray) (b : Bool) (c : ByteArray) (d : Bool) : Prop where
  r0 : Blk W z 9 #[.string a]
  r1 : Blk W (z + 1) 4 #[.bool b]
  l0 : Blk W (z + 1 + 1) 9 #[.string c]
  l1 : Blk W (z + 1 + 1 + 1) 4 #[.bool d]
theorem Tw4.grown {z : Nat} {A C : World} {a c : ByteArray} {b d : Bool} {row : Option Nat} (h : Tw4 z A a b c d) (hg : A.grownBy C row) (hr : ∀ r, row = some r → ∃ o : Obj, A.heap[r]? = some o ∧ o.isCells = false) : Tw4 z C a b c d :=
  ⟨blk_grown h.r0 hg hr, blk_grown h.r1 hg hr, blk_grown h.l0 hg hr, blk_grown h.l1 hg hr⟩
/-- the last one before, if there is one -/
def Last (pre : List En) (c : ByteArray) (d : Bool) : Prop := twL pre = none ∧ ((pre = [] ∧ d = false) ∨ ∃ ys y, pre = ys ++ [y] ∧ d = true ∧ c = y.s)
theorem Last.on {pre : List En} {c : ByteArray} {d : Bool} {x : En} (h : Last pre c d) (hx : ¬ (d = true ∧ x.s = c)) : Last (pre ++ [x]) x.s true := by
  refine ⟨?_, .inr ⟨pre, x, rfl, rfl, rfl⟩⟩
  rcases h.2 with ⟨rfl, _⟩ | ⟨ys, y, rfl, h1, rfl⟩
  · rfl
  · rw [List.append_assoc, List.singleton_append, tw_pre [x] h.1, twL, if_neg (fun e => hx ⟨h1, e⟩)]
    rfl
theorem Last.hit {pre q : List En} {c : ByteArray} {x : En} (h : Last pre c true) (hx : x.s = c) : twL (pre ++ ([x] ++ q)) = some c := by
  rcases h.2 with ⟨_, h1⟩ | ⟨ys, y, rfl, h1, rfl⟩
  · cases h1
  · rw [List.append_assoc, List.singleton_append, tw_pre _ h.1, List.singleton_append, twL, if_pos hx, hx]
set_option maxRecDepth 100000 in
set_option maxHeartbeats 4000000 in
theorem twice_tree {K B : Nat} {D : Nat → Prop} {w : World} {tb : Nat} {l : List En} (h : TreeV K B D w tb l) (hlow : fromL (lowE ⟨#[]⟩) l = l) :
    Calls Try.prog 13 #[.pointer (some ⟨tb, 0, none⟩)] w fun r w' => r = .returned (twRes (twL l)) ∧ Below w.heap.size w w' := by
  obtain ⟨d, t, hS, hR, hent⟩ := h
  have hdd : ∀ k : Nat, (Fence.wide.depth.isSome = true → 1 ≤ k) := fun k h => by cases h
  obtain ⟨n0, _⟩ : ∃ n : Nat, True := ⟨0, trivial⟩
  refine (callsIn_wide (n := n0)).1 ?_
  have HTF := Lib.hid (fun w1 => treefrom_any w1 tb ⟨#[]⟩)
  refine callsIn_of_wp_marks Try.func13 rfl trivial ?_
  simp only [Try.ntmps13, List.size_toArray, List.length_cons, List.length_nil, Nat.reduceAdd, Nat.reduceSub, Array.replicate_succ, Array.replicate_zero, List.push_toArray, List.append_toArray, List.nil_append, List.cons_append]
  obtain ⟨w1, hw1⟩ : ∃ w1, w1 = (((w.alloc (.cells #[.string ⟨#[]⟩] 9)).alloc (.cells #[.bool false] 4)).alloc (.cells #[.string ⟨#[]⟩] 9)).alloc (.cells #[.bool false] 4) := ⟨_, rfl⟩
  gi_wp2_with (first
    | (refine ⟨trivial, hdd _, ?_⟩; gi_at_call 32; refine (callsIn_wide.2 (HTF.out _)).mono ?_; rintro r wk ⟨rfl, hwk⟩; have HWK := Lib.hid hwk; clear hwk))
  have hb1 : Below w.heap.size w w1 := by rw [hw1]; exact ((((Below.refl _ w).alloc (Nat.le_refl _) _).alloc (by simp) _).alloc (by simp; omega) _).alloc (by simp; omega) _
  have hwk := HWK.out
  rw [← hw1] at hwk
  have s1 : w1.heap.size = w.heap.size + 1 + 1 + 1 + 1 := by rw [hw1]; simp
  have k4 : Tw4 w.heap.size w1 ⟨#[]⟩ false ⟨#[]⟩ false := by
    have a0 := (((Blk.new w 9 #[.string ⟨#[]⟩]).alloc (.cells #[.bool false] 4)).alloc (.cells #[.string ⟨#[]⟩] 9)).alloc (.cells #[.bool false] 4)
    have a1 := ((Blk.new (w.alloc (.cells #[.string ⟨#[]⟩] 9)) 4 #[.bool false]).alloc (.cells #[.string ⟨#[]⟩] 9)).alloc (.cells #[.bool false] 4)
    have a2 := (Blk.new ((w.alloc (.cells #[.string ⟨#[]⟩] 9)).alloc (.cells #[.bool false] 4)) 9 #[.string ⟨#[]⟩]).alloc (.cells #[.bool false] 4)
    have a3 := Blk.new (((w.alloc (.cells #[.string ⟨#[]⟩] 9)).alloc (.cells #[.bool false] 4)).alloc (.cells #[.string ⟨#[]⟩] 9)) 4 #[.bool false]
    rw [← hw1] at a0 a1 a2 a3
    simp only [World.size_alloc] at a1 a2 a3
    exact ⟨a0, a1, a2, a3⟩
  obtain ⟨hsk, hbk, hSk, hseq⟩ := tree_seq hS hR hb1 hwk
  rw [hent, hlow] at hseq
  rw [s1] at hseq hSk hsk
  have hbw := hb1.trans (hbk.mono hb1.size)
  have kk := k4.grown (grown_below hbk) (fun r e => by cases e)
  clear HTF HWK hw1 hwk k4 hb1 hbk hlow
  refine range_own (w := wk) (w0 := wk) rfl rfl (gf := 56) (lb := #[.pointer (some ⟨w.heap.size + 1 + 1 + 1 + 1, 0, none⟩), .pointer (some ⟨w.heap.size + 1 + 1 + 1 + 1 + 1, 0, none⟩)]) rfl trivial ent_from hseq (Chg.refl _ _) (fun k hk => (hSk k hk).1) (fun _ k => w.heap.size ≤ k ∧ k < w.heap.size + 4) (fun _ _ _ _ _ _ h => h) (fun _ => rfl)
    (fun pre W' => (∃ c d, Tw4 w.heap.size W' ⟨#[]⟩ false c d ∧ Last pre c d) ∧ Below w.heap.size w W' ∧ wk.heap.size + 2 ≤ W'.heap.size)
    (fun c pre W' => c = .ret ∧ ∃ cc c' d', twL l = some cc ∧ Tw4 w.heap.size W' cc true c' d' ∧ Below w.heap.size w W') ?_ ?_ ?_ ?_
    (fun pre z a' W' => ((∃ c d, Tw4 w.heap.size W' ⟨#[]⟩ false c d ∧ Last pre c d) ∧ Below w.heap.size w W' ∧ wk.heap.size + 2 ≤ W'.heap.size) ∧ ∃ Bx, Blk W' Bx 35 #[.string z.s, .int .i64 z.p, .int .i64 z.k] ∧ a' = { tmps := #[.pointer (some ⟨tb, 0, none⟩), undef, .pointer (some ⟨w.heap.size, 0, none⟩), .pointer (some ⟨w.heap.size + 1, 0, none⟩), .pointer (some ⟨w.heap.size + 1 + 1, 0, none⟩), .pointer (some ⟨w.heap.size + 1 + 1 + 1, 0, none⟩), .pointer (some ⟨Bx, 0, none⟩), .pointer (some ⟨tb, 0, none⟩), .func (.func 56) #[] #[.pointer (some ⟨w.heap.size + 1 + 1 + 1 + 1, 0, none⟩), .pointer (some ⟨w.heap.size + 1 + 1 + 1 + 1 + 1, 0, none⟩)], .agg #[.string z.s, .int .i64 z.p, .int .i64 z.k], undef, undef, undef, undef, undef, undef, undef, undef, undef, undef], defers := [] })
    ?_ ?_ ?_ ?_ ?_
  · rintro pre A C row ⟨⟨c, d, h1, h0⟩, h2, h3⟩ hg hr
    exact ⟨⟨c, d, h1.grown hg fun r e => (hr r e).2, h0⟩, below_more h2 hg fun r e => by have := (hr r e).1; omega, Nat.le_trans h3 hg.size⟩
  · rintro c pre A C row ⟨hc, cc, c', d', e1, h1, h2⟩ hg hr
    exact ⟨hc, cc, c', d', e1, h1.grown hg fun r e => (hr r e).2, below_more h2 hg fun r e => by have := (hr r e).1; omega⟩
  · rintro pre W' ⟨_, h2, h3⟩
    exact ⟨h3, by omega, by omega, fun k hk => by omega⟩
  · intro o
    refine ⟨⟨⟨_, _, kk.grown (grown_below (((Below.refl _ wk).alloc (Nat.le_refl _) _).alloc (by simp) _)) (fun r e => by cases e), rfl, .inl ⟨rfl, rfl⟩⟩, ((hbw.alloc hbw.size _).alloc (by simp; omega) _), by simp⟩, fun k hk h => ?_⟩
    have h1 := hSk k hk
    have hf := fun h => (hS.foot k h).2
    rcases hk with hk | hk | hk
    · have := hf hk; omega
    · omega
    · omega
  · rintro pre z a' _ A C row ⟨⟨⟨c, d, h1, h0⟩, h2, h3⟩, Bx, h4, h5⟩ hg hr
    exact ⟨⟨⟨c, d, h1.grown hg fun r e => (hr r e).2, h0⟩, below_more h2 hg fun r e => by have := (hr r e).1; omega, Nat.le_trans h3 hg.size⟩, Bx, blk_grown h4 hg fun r e => (hr r e).2, h5⟩
  · rintro m' l' pre z Wr ⟨⟨c, d, h1, h0⟩, h2, h3⟩ _ K hK
    have HKK := Lib.hid (fun (o : Obj) (ho : o = .cells #[.string z.s, .int .i64 z.p, .int .i64 z.k] 35) => hK _ (Wr.alloc o) ((KeepM.refl _ Wr).grown (fun _ _ _ _ _ _ h => h) (World.grownBy_alloc Wr o none) (fun r e => by cases e))
      ⟨⟨⟨c, d, h1.grown (World.grownBy_alloc Wr o none) (fun r e => by cases e), h0⟩, h2.alloc h2.size _, by simp; omega⟩, Wr.heap.size, by rw [ho]; exact Blk.new Wr _ _, rfl⟩)
    have HSK := Lib.hid hsk
    clear h1 h0 h2 h3 hK hseq hSk hsk
    unfold En.val
    gi_wp2
    exact HKK.out _ rfl
  · rintro m' l' pre z a' Wb ⟨⟨⟨c, d, h1, h0⟩, h2, h3⟩, Bx, h4, rfl⟩ ⟨post, hpost⟩
    have r0 := h1.r0.cell 0
    have r1 := h1.r1.cell 0
    have l0 := h1.l0.cell 0
    have l1 := h1.l1.cell 0
    have x0 := h4.cell 0
    simp only [List.getElem?_toArray, List.getElem?_cons_zero] at r0 r1 l0 l1 x0
    have f0 := h1.r0.frozen 0
    have f1 := h1.r1.frozen 0
    have f2 := h1.l0.frozen 0
    have f3 := h1.l1.frozen 0
    have HE := Lib.hid (And.intro h1 (And.intro h0 (And.intro h2 (And.intro h3 hpost))))
    have HSK := Lib.hid hsk
    clear h1 h0 h2 h3 h4 hpost hsk hseq hSk
    have goOn : ∀ (c : ByteArray) (d : Bool), Tw4 w.heap.size Wb ⟨#[]⟩ false c d → Last pre c d → ¬ (d = true ∧ z.s = c) → roundEnd (fun _ k => w.heap.size ≤ k ∧ k < w.heap.size + 4) (fun pre W' => (∃ c d, Tw4 w.heap.size W' ⟨#[]⟩ false c d ∧ Last pre c d) ∧ Below w.heap.size w W' ∧ wk.heap.size + 2 ≤ W'.heap.size) (fun c pre W' => c = .ret ∧ ∃ cc c' d', twL l = some cc ∧ Tw4 w.heap.size W' cc true c' d' ∧ Below w.heap.size w W') (pre ++ [z]) Wb .normal ⟨#[], []⟩ ((Wb.setCell ⟨w.heap.size + 1 + 1, 0, none⟩ (.string z.s)).setCell ⟨w.heap.size + 1 + 1 + 1, 0, none⟩ (.bool true)) := fun c d h1 h0 hx => by
      refine ⟨⟨((Chg.refl (fun k => w.heap.size ≤ k ∧ k < w.heap.size + 4) Wb).setCell (fun _ => ⟨by show w.heap.size ≤ w.heap.size + 1 + 1; omega, by show w.heap.size + 1 + 1 < w.heap.size + 4; omega⟩) _).setCell (fun _ => ⟨by show w.heap.size ≤ w.heap.size + 1 + 1 + 1; omega, by show w.heap.size + 1 + 1 + 1 < w.heap.size + 4; omega⟩) _, fun k h => .inl h⟩, ⟨z.s, true, ⟨(h1.r0.far (by first | (simp; done) | (simp; omega)) _).far (by first | (simp; done) | (simp; omega)) _, (h1.r1.far (by first | (simp; done) | (simp; omega)) _).far (by first | (simp; done) | (simp; omega)) _, (h1.l0.put 0 _).far (by first | (simp; done) | (simp; omega)) _, (h1.l1.far (by first | (simp; done) | (simp; omega)) _).put 0 _⟩, h0.on hx⟩, ?_, by simpa using HE.out.2.2.2.1⟩
      exact (HE.out.2.2.1.setCell (p := ⟨w.heap.size + 1 + 1, 0, none⟩) (by first | (simp; done) | (simp; omega)) _).setCell (p := ⟨w.heap.size + 1 + 1 + 1, 0, none⟩) (by first | (simp; done) | (simp; omega)) _
    have HG := Lib.hid goOn
    clear goOn
    cases d with
    | false =>
      gi_wp2
      exact HG.out c false HE.out.1 HE.out.2.1 (by simp)
    | true =>
      by_cases hx : z.s = c
      · have e1 : (z.s.toList == c.toList) = true := by rw [str_beq]; exact decide_eq_true hx
        have e2 : decide (z.s = c) = true := decide_eq_true hx
        have HX := Lib.hid hx
        clear hx
        gi_wp2
        obtain ⟨h1, h0, h2, h3, hpost⟩ := HE.out
        refine ⟨⟨((Chg.refl (fun k => w.heap.size ≤ k ∧ k < w.heap.size + 4) Wb).setCell (fun _ => ⟨Nat.le_refl _, by show w.heap.size < w.heap.size + 4; omega⟩) _).setCell (fun _ => ⟨by show w.heap.size ≤ w.heap.size + 1; omega, by show w.heap.size + 1 < w.heap.size + 4; omega⟩) _, fun k h => .inl h⟩, rfl, c, c, true, ?_, ⟨(h1.r0.put 0 _).far (by first | (simp; done) | (simp; omega)) _, (h1.r1.far (by first | (simp; done) | (simp; omega)) _).put 0 _, (h1.l0.far (by first | (simp; done) | (simp; omega)) _).far (by first | (simp; done) | (simp; omega)) _, (h1.l1.far (by first | (simp; done) | (simp; omega)) _).far (by first | (simp; done) | (simp; omega)) _⟩, ?_⟩
        · rw [hpost]; exact h0.hit HX.out
        · exact (h2.setCell (p := ⟨w.heap.size, 0, none⟩) (Nat.le_refl _) _).setCell (p := ⟨w.heap.size + 1, 0, none⟩) (by simp) _
      · have e1 : (z.s.toList == c.toList) = false := by rw [str_beq]; exact decide_eq_false hx
        have e2 : decide (z.s = c) = false := decide_eq_false hx
        have HX := Lib.hid hx
        clear hx
        gi_wp2
        exact HG.out c true HE.out.1 HE.out.2.1 (fun h => HX.out h.2)
  · rintro o W' ⟨⟨c, d, h1, h0⟩, h2, h3⟩ _ hD
    have r0 := h1.r0.cell 0
    have r1 := h1.r1.cell 0
    simp only [List.getElem?_toArray, List.getElem?_cons_zero] at r0 r1
    have f0 := h1.r0.frozen 0
    have f1 := h1.r1.frozen 0
    obtain ⟨W3, hW3⟩ : ∃ W3, W3 = (W'.setCell ⟨w.heap.size, 0, none⟩ (.string ⟨#[]⟩)).setCell ⟨w.heap.size + 1, 0, none⟩ (.bool false) := ⟨_, rfl⟩
    have k3 : Tw4 w.heap.size W3 ⟨#[]⟩ false c d := by
      rw [hW3]
      exact ⟨(h1.r0.put 0 _).far (by first | (simp; done) | (simp; omega)) _, (h1.r1.far (by first | (simp; done) | (simp; omega)) _).put 0 _, (h1.l0.far (by first | (simp; done) | (simp; omega)) _).far (by first | (simp; done) | (simp; omega)) _, (h1.l1.far (by first | (simp; done) | (simp; omega)) _).far (by first | (simp; done) | (simp; omega)) _⟩
    have hD3 : W3.heap[wk.heap.size]? = some (.deferred (some [])) := by
      rw [hW3]
      exact (Below.heap_setCell _ _ _ _ (by show wk.heap.size ≠ w.heap.size + 1; omega)).trans ((Below.heap_setCell _ _ _ _ (by show wk.heap.size ≠ w.heap.size; omega)).trans hD)
    have hb3 : Below w.heap.size w W3 := by
      rw [hW3]
      exact (h2.setCell (p := ⟨w.heap.size, 0, none⟩) (Nat.le_refl _) _).setCell (p := ⟨w.heap.size + 1, 0, none⟩) (by simp) _
    have hg := grownBy_putObj' W3 wk.heap.size (.deferred none)
    have hr : ∀ r, some wk.heap.size = some r → ∃ o : Obj, W3.heap[r]? = some o ∧ o.isCells = false := fun r e => by cases e; exact ⟨_, hD3, rfl⟩
    have k5 := k3.grown hg hr
    have hb5 := below_more hb3 hg fun r e => by cases e; omega
    have q0 := k5.r0.cell 0
    have q1 := k5.r1.cell 0
    simp only [List.getElem?_toArray, List.getElem?_cons_zero] at q0 q1
    have HE := Lib.hid (And.intro hD3 (And.intro hb5 (And.intro h0.1 (And.intro q0 q1))))
    have HW3 := Lib.hid hW3
    have HSK := Lib.hid hsk
    clear h1 h0 h2 h3 hD hsk hseq hSk hW3 k3 hD3 hb3 hg hr k5 hb5 q0 q1
    gi_wp2
    rw [← HW3.out]
    obtain ⟨hD3, hb5, h0, q0, q1⟩ := HE.out
    refine ⟨by simp, .inl ⟨_, _, rfl, run_takeDeferred hD3, ?_⟩⟩
    exact ⟨_, results_cell2 (u := .string ⟨#[]⟩) (v := .bool false) rfl _ _ _ rfl rfl (by go_simp) (by go_simp), by rw [h0]; rfl, hb5⟩
  · rintro c pre W' hpre ⟨rfl, cc, c', d', e1, h1, h2⟩ hD
    have hg := grownBy_putObj' W' wk.heap.size (.deferred none)
    have hr : ∀ r, some wk.heap.size = some r → ∃ o : Obj, W'.heap[r]? = some o ∧ o.isCells = false := fun r e => by cases e; exact ⟨_, hD, rfl⟩
    have k5 := h1.grown hg hr
    have hb5 := below_more h2 hg fun r e => by cases e; omega
    have q0 := k5.r0.cell 0
    have q1 := k5.r1.cell 0
    simp only [List.getElem?_toArray, List.getElem?_cons_zero] at q0 q1
    have HE := Lib.hid (And.intro hD (And.intro hb5 (And.intro e1 (And.intro q0 q1))))
    have HSK := Lib.hid hsk
    clear h1 e1 h2 hD hsk hseq hSk hg hr k5 hb5 q0 q1
    gi_wp2
    obtain ⟨hD3, hb5, h0, q0, q1⟩ := HE.out
    refine ⟨by simp, .inl ⟨_, _, rfl, run_takeDeferred hD3, ?_⟩⟩
    exact ⟨_, results_cell2 (u := .string cc) (v := .bool true) rfl _ _ _ rfl rfl (by go_simp) (by go_simp), by rw [h0]; rfl, hb5⟩
end Go.Proofs.Ytiaclfldgagalaa

/-
  The landed tree, as the laws want it: what needs no walk.
-/
namespace Go.Proofs.Ytiaclfldgagalaa
open Go.RowKit Go.Lib

section
variable {K B tb : Nat} {D F : Nat → Prop} {w w' : World} {l : List En}
theorem TreeV.below (h : TreeV K B D w tb l) (hb : Below w.heap.size w w') : TreeV K B D w' tb l := by
  obtain ⟨d, t, h1, h2, h3⟩ := h
  exact ⟨d, t, h1.below hb, h2, h3⟩
theorem TreeV.chg (h : TreeV K B D w tb l) (hc : Chg F w w') (hd : ∀ k, D k → ¬ F k) : TreeV K B D w' tb l := by
  obtain ⟨d, t, h1, h2, h3⟩ := h
  exact ⟨d, t, h1.chg hc hd, h2, h3⟩
theorem TreeV.foot (h : TreeV K B D w tb l) {k : Nat} (hk : D k) : B ≤ k ∧ k < w.heap.size := by
  obtain ⟨d, t, h1, h2, h3⟩ := h
  exact h1.foot k hk
theorem TreeV.srt (h : TreeV K B D w tb l) : Srt l := by
  obtain ⟨d, t, h1, h2, rfl⟩ := h
  exact entsF_srt h2.ord
theorem TreeV.has (h : TreeV K B D w tb l) (e : En) : Calls Try.prog 22 #[.pointer (some ⟨tb, 0, none⟩), e.val] w fun r w' => r = .returned (.bool (plB l e)) ∧ Below w.heap.size w w' := by
  obtain ⟨d, t, h1, h2, rfl⟩ := h
  exact has_any h1 ⟨h2.cnt, h2.one, by have := h2.few; omega, h2.ord⟩ e
end
end Go.Proofs.Ytiaclfldgagalaa

/-
  Pages: the pages told and the pages known, in memory.
-/
namespace Go.Proofs.Ytiaclfldgagalaa
open Go.RowKit Go.Lib

/-- a page known: where it lies, its tree -/
structure Qe where
  d : Nat
  p : Nat
  D : Nat → Prop
  t : Tr d
def Qe.rt (y : Qe) : RT := ⟨y.d, y.t⟩
def tpcs (ps : List Tp) : List Value := ps.flatMap tpv
def nints (l : List Nat) : List Value := l.map fun n : Nat => .int .i64 (n : Int)
theorem nints_append (a b : List Nat) : nints (a ++ b) = nints a ++ nints b := by simp [nints]
theorem tpcs_append (a b : List Tp) : tpcs (a ++ b) = tpcs a ++ tpcs b := by simp [tpcs]
/-- a told page's rows are of the call's own -/
structure TpOwn (B : Nat) (w : World) (x : Tp) : Prop where
  keys : w.ownsRow B 35 3 (.slice x.KA x.keys.length x.Kc) x.keys.length (ecs x.keys)
  kids : w.ownsRow B 3 1 (.slice x.IA x.kids.length x.Ic) x.kids.length (nints x.kids)
structure PgSt (K B : Nat) (w0 : World) {d : Nat} (t : Tr d) (w : World) (LA : Option Addr) (n lc : Nat) (PA : Option Addr) (N pc : Nat) (ps : List Tp) (ql : List Qe) : Prop where
  low : Below w0.heap.size w0 w
  list : w.ownsRow w0.heap.size 50 3 (.slice LA n lc) n (tpcs ps)
  pages : w.ownsRow w0.heap.size 70 1 (.slice PA N pc) N (pcs (ql.map Qe.p))
  own : ∀ x ∈ ps, TpOwn w0.heap.size w x
  sub : ∀ y ∈ ql, Sub B y.D w0 y.p y.t
  bfs : Bfs K ps (ql.map Qe.rt) ⟨d, t⟩
  ln : n = ps.length
  lN : N = ql.length
theorem own_dif {w : World} {B B' : Nat} {e e' : TypeId} {s s' n n' : Nat} {v v' : Value} {xs xs' : List Value} (h : w.ownsRow B e s v n xs) (h' : w.ownsRow B' e' s' v' n' xs') (ht : e ≠ e') {k : Nat} (hk : v.ownBlock = some k) : v'.ownBlock ≠ some k := fun hk' => by
  obtain ⟨cur, hb⟩ := own_row h k hk
  exact own_ne h' hb (fun e => ht e.symm) hk'
/-- the pages below one, as they are known -/
theorem sub_open {B : Nat} {w0 : World} : ∀ y : Qe, Sub B y.D w0 y.p y.t → ∃ (D0 : Nat → Prop) (kl : List Qe), PgV B D0 w0 y.p (keysT y.t) (kl.map Qe.p) ∧ kidsR y.rt = kl.map Qe.rt ∧ ∀ z ∈ kl, Sub B z.D w0 z.p z.t
  | ⟨0, p, D, t⟩, h => ⟨D, [], h, rfl, fun z hz => by cases hz⟩
  | ⟨d + 1, p, D, x⟩, ⟨D0, kl, hn, he, _, _⟩ => by
    refine ⟨D0, kl.map fun z => ⟨d, z.p, z.D, z.t⟩, ?_, ?_, fun z hz => ?_⟩
    · rw [List.map_map]; exact hn.pg
    · show x.2.map _ = _
      rw [he, List.map_map, List.map_map]
      rfl
    · obtain ⟨y, hy, rfl⟩ := List.mem_map.1 hz
      exact hn.sub y hy
/-- while a page's kids are told -/
structure PgIn (B0 : Nat) (w1 : World) (PV : Value) (tg : Nat) (lf : Bool) (KA : Option Addr) (nk Kc N : Nat) (qs : List Nat) (a b Nb : Nat) (IA : Option Addr) (ic : Nat) (PA : Option Addr) (pc : Nat) (w : World) : Prop where
  chg : Chg (fun k => PV.ownBlock = some k ∨ k = tg) w1 w
  told : Blk w tg 50 #[.bool lf, .slice KA nk Kc, .slice IA a ic]
  kids : w.ownsRow w1.heap.size 3 1 (.slice IA a ic) a (nints (List.range' N a))
  pages : w.ownsRow B0 70 1 (.slice PA Nb pc) Nb (pcs qs)
  nb : Nb = N + b
  pblk : ∀ k, (Value.slice PA Nb pc).ownBlock = some k → PV.ownBlock = some k ∨ w1.heap.size ≤ k
section
variable {B0 tg nk Kc N a b Nb ic ic' pc pc' : Nat} {w1 w wa w5 : World} {PV : Value} {lf : Bool} {KA IA IA' PA PA' : Option Addr} {qs : List Nat}
theorem range_more (N a : Nat) : List.range' N (a + 1) = List.range' N a ++ [N + a] := by
  have h := List.range'_concat (s := N) (n := a) (step := 1)
  rw [h, Nat.one_mul]
/-- one number more -/
theorem PgIn.kid (h : PgIn B0 w1 PV tg lf KA nk Kc N qs a b Nb IA ic PA pc w) (hab : a = b) (hwa : Below w.heap.size w wa) (h5 : RowTo w1.heap.size 3 1 (.slice IA a ic) wa (.slice IA' (a + 1) ic') (a + 1) (nints (List.range' N a) ++ [.int .i64 (Nb : Int)]) w5) :
    Blk w5 tg 50 #[.bool lf, .slice KA nk Kc, .slice IA a ic] ∧ PgIn B0 w1 PV tg lf KA nk Kc N qs (a + 1) b Nb IA' ic' PA pc (w5.setCell ⟨tg, 2, none⟩ (.slice IA' (a + 1) ic')) := by
  have hca : Chg Non w wa := Chg.of_below hwa
  have kids_a := own_chg h.kids hca fun _ _ hf => hf
  have pages_a := own_chg h.pages hca fun _ _ hf => hf
  have told_a := h.told.below hwa h.told.lt
  have told5 := told_a.chg h5.chg (own_ne kids_a told_a (by decide))
  have s1 := h.chg.size
  have s2 := hwa.size
  have pages5 := own_chg pages_a h5.chg fun k hk hk' => own_dif pages_a kids_a (by decide) hk hk'
  have hset : Chg (fun k => k = tg) w5 (w5.setCell ⟨tg, 2, none⟩ (.slice IA' (a + 1) ic')) := (Chg.refl (fun k => k = tg) w5).setCell (fun _ => rfl) _
  refine ⟨told5, ((h.chg.trans' hca fun i _ hf => hf.elim).trans' h5.chg fun i hi hk => ?_).trans' hset fun i _ hk => .inr hk, ?_, ?_, ?_, h.nb, h.pblk⟩
  · have := (kids_a.lt i hk).1
    omega
  · have h6 := told5.put 2 (.slice IA' (a + 1) ic')
    exact h6
  · rw [range_more, nints_append, hab, ← h.nb, ← hab]
    exact own_chg h5.own hset fun k hk e => own_ne h5.own told5 (by decide) (e ▸ hk)
  · exact own_chg pages5 hset fun k hk e => own_ne pages5 told5 (by decide) (e ▸ hk)
/-- one page more -/
theorem PgIn.page {p : Nat} (h : PgIn B0 w1 PV tg lf KA nk Kc N qs a b Nb IA ic PA pc w) (hwa : Below w.heap.size w wa) (h5 : RowTo B0 70 1 (.slice PA Nb pc) wa (.slice PA' (Nb + 1) pc') (Nb + 1) (pcs qs ++ [.pointer (some ⟨p, 0, none⟩)]) w5) :
    PgIn B0 w1 PV tg lf KA nk Kc N (qs ++ [p]) a (b + 1) (Nb + 1) IA ic PA' pc' w5 := by
  have hca : Chg Non w wa := Chg.of_below hwa
  have kids_a := own_chg h.kids hca fun _ _ hf => hf
  have pages_a := own_chg h.pages hca fun _ _ hf => hf
  have told_a := h.told.below hwa h.told.lt
  have told5 := told_a.chg h5.chg (own_ne pages_a told_a (by decide))
  have s1 := h.chg.size
  have s2 := hwa.size
  refine ⟨(h.chg.trans' hca fun i _ hf => hf.elim).trans' h5.chg fun i hi hk => ?_, told5, own_chg kids_a h5.chg fun k hk hk' => own_dif kids_a pages_a (by decide) hk hk', ?_, by rw [h.nb]; omega, fun k hk => ?_⟩
  · rcases h.pblk i hk with h6 | h6
    · exact .inl h6
    · omega
  · rw [pcs_append]
    exact h5.own
  · rcases h5.blk k hk with h6 | h6
    · exact h.pblk k h6
    · exact .inr (by omega)
end
/-- a page told -/
theorem PgSt.more {K0 B : Nat} {w0 : World} {d : Nat} {t : Tr d} {w w1 w8 wc w9 : World} {LA LA' PA PA' KA IA : Option Addr} {n lc lc' N pc pc' nk Kc K NK ic tg : Nat} {ps : List Tp} {ql kl : List Qe} {y : Qe} {lf : Bool}
    (h : PgSt K0 B w0 t w LA n lc PA N pc ps ql) (hy : ql[n]? = some y) (hkl : kidsR y.rt = kl.map Qe.rt) (hks : ∀ z ∈ kl, Sub B z.D w0 z.p z.t) (hK : K = kl.length) (hlf : lf = kl.isEmpty) (hnk : nk = (keysT y.t).length)
    (hw1 : Below w.heap.size w w1) (htg : w.heap.size ≤ tg) {cs1 : Array Value} (ht1 : Blk w1 tg 50 cs1) (hke : w1.ownsRow w.heap.size 35 3 (.slice KA nk Kc) nk (ecs (keysT y.t)))
    (h8 : PgIn w0.heap.size w1 (.slice PA N pc) tg lf KA nk Kc N ((ql ++ kl).map Qe.p) K K NK IA ic PA' pc' w8) (hwc : Below w8.heap.size w8 wc)
    (h9 : RowTo w0.heap.size 50 3 (.slice LA n lc) wc (.slice LA' (n + 1) lc') (n + 1) (tpcs ps ++ [.bool lf, .slice KA nk Kc, .slice IA K ic]) w9) :
    PgSt K0 B w0 t w9 LA' (n + 1) lc' PA' NK pc' (ps ++ [⟨lf, keysT y.t, List.range' N K, KA, Kc, IA, ic⟩]) (ql ++ kl) := by
  have c1 : Chg Non w w1 := Chg.of_below hw1
  have cc : Chg Non w8 wc := Chg.of_below hwc
  have s0 := h.low.size
  have s1 := hw1.size
  have s8 := h8.chg.size
  have sc := hwc.size
  have hPblk : ∀ k, (Value.slice PA N pc).ownBlock = some k → w0.heap.size ≤ k ∧ k < w.heap.size := fun k hk => h.pages.lt k hk
  have stay : ∀ {e : TypeId} {s m : Nat} {v : Value} {xs : List Value} {B' : Nat}, w.ownsRow B' e s v m xs → e ≠ 70 → wc.ownsRow B' e s v m xs := fun {e s m v xs B'} ho he => by
    have a1 := own_chg ho c1 fun _ _ hf => hf
    have a8 := own_chg a1 h8.chg fun k hk hf => by
      rcases hf with hf | hf
      · exact own_dif ho h.pages he hk hf
      · have := (ho.lt k hk).2
        omega
    exact own_chg a8 cc fun _ _ hf => hf
  have list_c := stay h.list (by decide)
  have fin : ∀ {e : TypeId} {s m : Nat} {v : Value} {xs : List Value} {B' : Nat}, wc.ownsRow B' e s v m xs → e ≠ 50 → w9.ownsRow B' e s v m xs := fun {e s m v xs B'} ho he => own_chg ho h9.chg fun k hk hf => own_dif ho list_c he hk hf
  have low8 : Below w0.heap.size w0 w8 := by
    have a1 := h.low.trans (hw1.mono s0)
    refine a1.trans (h8.chg.below (fun k hk => ?_) (by omega))
    rcases hk with hk | hk
    · exact (hPblk k hk).1
    · omega
  have low9 : Below w0.heap.size w0 w9 := by
    have a1 := low8.trans (hwc.mono (by omega))
    exact a1.trans (h9.chg.below (fun k hk => (list_c.lt k hk).1) (by omega))
  have hn := h.ln
  have hN := h.lN
  have hkl2 : (kidsR y.rt).length = K := by rw [hkl, List.length_map, hK]
  refine ⟨low9, ?_, ?_, fun x hx => ?_, fun z hz => ?_, ?_, by simp [hn], by rw [h8.nb, hN, hK]; simp⟩
  · rw [tpcs_append]
    have e9 := h9.own
    have e : tpcs [⟨lf, keysT y.t, List.range' N K, KA, Kc, IA, ic⟩] = [.bool lf, .slice KA nk Kc, .slice IA K ic] := by simp [tpcs, tpv, hnk]
    rw [e]
    exact e9
  · exact fin (own_chg h8.pages cc fun _ _ hf => hf) (by decide)
  · rcases List.mem_append.1 hx with hx | hx
    · have ho := h.own x hx
      exact ⟨fin (stay ho.keys (by decide)) (by decide), fin (stay ho.kids (by decide)) (by decide)⟩
    · rw [List.mem_singleton] at hx
      subst hx
      refine ⟨?_, ?_⟩
      · show w9.ownsRow _ _ 3 (.slice KA (keysT y.t).length Kc) (keysT y.t).length (ecs (keysT y.t))
        rw [← hnk]
        have p1 := own_chg h.pages c1 fun _ _ hf => hf
        have a8 := own_chg (own_to_lt hke s0) h8.chg fun k hk hf => by
          rcases hf with hf | hf
          · exact own_dif hke p1 (by decide) hk hf
          · exact own_ne hke ht1 (by decide) (hf ▸ hk)
        exact fin (own_chg a8 cc fun _ _ hf => hf) (by decide)
      · show w9.ownsRow _ _ 1 (.slice IA (List.range' N K).length ic) (List.range' N K).length (nints (List.range' N K))
        rw [List.length_range']
        exact fin (own_chg (own_to_lt h8.kids (by omega)) cc fun _ _ hf => hf) (by decide)
  · rcases List.mem_append.1 hz with hz | hz
    · exact h.sub z hz
    · exact hks z hz
  · rw [List.map_append, ← hkl]
    have hb := h.bfs
    refine hb.step (r := y.rt) ?_ ?_ rfl ?_
    · rw [← hn, List.getElem?_map, hy]
      rfl
    · show lf = _
      rw [hkl, hlf]
      cases kl <;> rfl
    · show List.range' N K = _
      rw [List.length_map, ← hN, hkl2]
theorem nints_flat : ∀ l : List Nat, nints l = l.flatMap intv
  | [] => rfl
  | a :: l => by
    have ih := nints_flat l
    show _ :: nints l = _
    rw [ih]
    rfl
theorem flat_cell {α : Type} {cell : α → List Value} {S : Nat} (hS : ∀ a, (cell a).length = S) : ∀ (vs : List α) (i j : Nat) (hi : i < vs.length), j < S → (vs.flatMap cell)[i * S + j]? = (cell vs[i])[j]?
  | a :: vs, 0, j, _, hj => by
    rw [List.flatMap_cons, Nat.zero_mul, Nat.zero_add, List.getElem?_append_left (by rw [hS]; exact hj)]
    rfl
  | a :: vs, i + 1, j, hi, hj => by
    have hi' : i < vs.length := by simpa using hi
    rw [List.flatMap_cons, List.getElem?_append_right (by rw [hS, Nat.add_mul]; omega), hS, show (i + 1) * S + j - S = i * S + j by rw [Nat.add_mul]; omega, flat_cell hS vs i j hi' hj]
    rfl
theorem RowG.of_rows {α : Type} {cell : α → List Value} {S : Nat} {w : World} {base : Nat} {e : TypeId} {A : Option Addr} {n c : Nat} {vs : List α} (hS : ∀ a, (cell a).length = S) (h : w.ownsRow base e S (.slice A n c) n (vs.flatMap cell)) (hn : n = vs.length) : RowG cell S w w.heap.size A vs := by
  refine ⟨fun h0 => ?_, fun i hi j u hu => ?_⟩
  · obtain ⟨g, rfl⟩ := own_form' h (by omega)
    exact ⟨_, rfl, (h.lt g rfl).2⟩
  · obtain ⟨g, rfl⟩ := own_form' h (by omega)
    refine ⟨_, rfl, ?_⟩
    have hj : j < S := by
      have := (List.getElem?_eq_some_iff.1 hu).1
      rwa [hS] at this
    rw [World.ownsRow.cells h rfl (i * S + j) u (by rw [flat_cell hS vs i j hi hj]; exact hu)]
theorem PgSt.fin {K0 B : Nat} {w0 : World} {d : Nat} {t : Tr d} {w : World} {LA PA : Option Addr} {n lc N pc : Nat} {ps : List Tp} {ql : List Qe} (h : PgSt K0 B w0 t w LA n lc PA N pc ps ql) (hR : Root K0 t) (hnN : N ≤ n) : n = ps.length ∧ PgsIn w LA ps ∧ PgsOk K0 ps (ents t) ∧ Below w0.heap.size w0 w := by
  refine ⟨h.ln, ⟨RowG.of_rows (fun _ => rfl) h.list h.ln, fun x hx => ?_⟩, h.bfs.all hR (by rw [List.length_map, ← h.lN, ← h.ln]; exact hnN), h.low⟩
  have ho := h.own x hx
  refine ⟨RowG.of_rows (fun _ => rfl) ho.keys rfl, ?_, own_caps ho.keys, own_caps ho.kids, fun e => ?_⟩
  · have h1 := ho.kids
    rw [nints_flat] at h1
    exact RowG.of_rows (fun _ => rfl) h1 rfl
  · have h1 := ho.keys
    rw [e] at h1
    exact (own_nil h1).2.1
end Go.Proofs.Ytiaclfldgagalaa
