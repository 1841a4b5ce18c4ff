/-
  slices.Delete on a row of one's own.
-/
import Derived.Test.YtiaclfldgagalaaM03
import Derived.Deep.RegionLaw
import Derived.Laws.Externs
import Derived.Test.YtiaclfldgagalaaM05
import Derived.Lib.SliceRun
namespace Go.Proofs.Ytiaclfldgagalaa
open Go.RowKit Go.Lib

theorem Try.zeroone : ∀ v ∈ (Value.agg #[.string ⟨#[]⟩, .int .i64 0, .int .i64 0]).cells, v.oneCell' = true := by
  intro v hv
  have h : v ∈ [Value.string ⟨#[]⟩, .int .i64 0, .int .i64 0] := by simpa [Value.cells] using hv
  rcases h with _ | ⟨_, _ | ⟨_, _ | ⟨_, h⟩⟩⟩ <;> first | rfl | cases h

set_option maxRecDepth 100000 in
set_option maxHeartbeats 6400000 in
theorem edel_any {w : World} {B n c : Nat} {A : Option Addr} {xs : List Value} (hown : w.ownsRow B 35 3 (.slice A n c) n xs) (hx1 : ∀ u ∈ xs, u.oneCell' = true) {i j : Nat} (hij : i < j) (hj : j ≤ n) (hn : n ≤ 1000000) :
    Calls Try.prog 39 #[.slice A n c, .int .i64 i, .int .i64 j] w fun r w' => r = .returned (.slice A (n - (j - i)) c) ∧ RowTo B 35 3 (.slice A n c) w (.slice A (n - (j - i)) c) (n - (j - i)) (xs.take (i * 3) ++ xs.drop (j * 3)) w' := by
  obtain ⟨i0, hi, hz0, hz1, hz2⟩ := info_parts Try.infoent
  obtain ⟨g, rfl⟩ := own_form' hown (by omega)
  obtain ⟨hnc, hcm⟩ := own_caps hown
  have hcm' := hcm
  unfold maxLen at hcm'
  have hxl := hown.1
  have hf := own_first (w := w.drew) (i := i) hown (by omega)
  have hcells : ∀ q u, (xs.drop (j * 3))[q]? = some u → w.drew.cell? ((⟨g, j * 3, none⟩ : Addr).add q) = some u := by
    intro q u hu
    rw [List.getElem?_drop] at hu
    rw [Addr.add_lit]
    exact (hown.cellAt (j * 3 + q) (by have := (List.getElem?_eq_some_iff.1 hu).1; omega)).trans hu
  have hdl : (xs.drop (j * 3)).length = (n - j) * 3 := by rw [List.length_drop, hxl, Nat.sub_mul]
  have hd1 : ∀ u ∈ xs.drop (j * 3), u.oneCell' = true := fun u hu => hx1 u (List.mem_of_mem_drop hu)
  have htl : (xs.take (i * 3)).length = i * 3 := by rw [List.length_take, hxl]; omega
  have e1 : i + (n - j) = n - (j - i) := by omega
  obtain ⟨ys, hys⟩ : ∃ ys, ys = xs.take (i * 3) := ⟨_, rfl⟩
  obtain ⟨zs, hzs⟩ : ∃ zs, zs = xs.drop (j * 3) := ⟨_, rfl⟩
  rw [← hys] at hf htl ⊢
  rw [← hzs] at hcells hdl hd1 ⊢
  have H := Lib.hid (And.intro hf (And.intro hcells (And.intro hdl (And.intro hd1 (And.intro htl e1)))))
  have H0 := Lib.hid (And.intro hown hx1)
  have a1 : (i : Int) ≤ (j : Int) := by omega
  have a2 : (j : Int) ≤ (n : Int) := by omega
  have a3 : (n : Int) ≤ (c : Int) := by omega
  have a4 : (0 : Int) ≤ (i : Int) := by omega
  have a5 : ((i : Int) == (j : Int)) = false := by rw [beq_eq_false_iff_ne]; omega
  have a6 : ¬ (c = i) := by omega
  have a7 : (i : Int) ≤ (c : Int) := by omega
  have a8 : (i : Int) ≤ (n : Int) := by omega
  clear hown hx1 hxl hf hcells hdl hd1 htl e1 hys hzs
  have HRES : Hid (∀ q, q = i + (n - j) → ∀ w5, w5.ownsRow B 35 3 (.slice (some ⟨g, 0, none⟩) q c) q (ys ++ zs) → w.drew.grownBy w5 (some g) →
      ∃ w6, (∀ ty, (Builtin.clear_ #[28] ty #[.slice (some ⟨g, q * 3, none⟩) (n - q) (c - q)]).run Try.prog w5 = .ok (.tuple #[]) w6) ∧ RowTo B 35 3 (.slice (some ⟨g, 0, none⟩) n c) w (.slice (some ⟨g, 0, none⟩) (n - (j - i)) c) (n - (j - i)) (ys ++ zs) w6) := Lib.hid (by
    intro q hq w5 ho5 hg5
    obtain rfl : q = n - (j - i) := by omega
    obtain ⟨cur, hg, hB, hnc5, hcm5, hcl, htk, hxl⟩ := own_cur ho5
    have hm : n * 3 ≤ c * 3 := Nat.mul_le_mul_right _ hnc
    obtain ⟨cs, hcs, hr⟩ := run_clear_k (P := Try.prog) w5 28 35 35 i0 (.agg #[.string ⟨#[]⟩, .int .i64 0, .int .i64 0]) 3 Try.underlying28 hi hz0 rfl Try.zeroone g ((n - (j - i)) * 3) (n - (n - (j - i))) (c - (n - (j - i))) (by omega) cur hg (by rw [hcl]; omega)
    refine ⟨_, hr, own_of_cur (setRow_heap w5 g _ _ _ _ hg) hB hnc5 hcm5 (by rw [length_splice _ _ _ (by rw [hcl, hcs]; omega), hcl]) _ ?_, fun k hk => .inl hk, ?_⟩
    · rw [← htk]
      unfold splice
      rw [List.take_append_of_le_length (by rw [List.length_take, hcl]; omega), List.take_take, Nat.min_self]
    · have h1 : Chg (fun k => some g = some k) w w5 := ⟨hg5.os, hg5.tape, hg5.output, hg5.size, fun k hk hn => hg5.block k hk fun e => hn e.symm⟩
      exact h1.setRow (fun _ => rfl) _)
  have a9 : ((i + (n - j) : Nat) : Int) ≤ (n : Int) := by omega
  have a10 : ((i + (n - j) : Nat) : Int) ≤ (c : Int) := by omega
  have a11 : ¬ (c = i + (n - j)) := by omega
  have b1 : (0 : Int) ≤ ((i + (n - j) : Nat) : Int) := by omega
  by_cases hcj : c = j
  · have HZ := Lib.hid (show zs = [] from List.eq_nil_of_length_eq_zero (by rw [H.out.2.2.1]; omega))
    obtain rfl : j = n := by omega
    obtain rfl : c = j := by omega
    clear a9 a10 a11 b1 a3 hcm
    go_enter Try.func39, Try.ntmps39
    go_wp2_with fail
    go_region_law (refine step_append_fits rfl _ _ 28 rfl B 35 i0 3 Try.underlying28 hi hz1 g i c ys H.out.1 (by rfl) ⟨g, 0, none⟩ 0 0 zs (by rfl) (by rw [HZ.out]; rfl) (by intro q u hu; rw [HZ.out] at hu; cases hu) H.out.2.2.2.1 (by omega) ?_; intro w5 ho5 hg5)
    all_goals
      obtain ⟨w6, hr6, hR⟩ := HRES.out i (by omega) w5 ho5 hg5
      have HR := Lib.hid hR
      clear ho5 hg5 hR
      go_wp2_with (at_builtin; refine wpList_clear2 _ rfl _ 28 rfl _ (by rfl) (hr6 _) ?_)
      go_ret
      have he : i = c - (c - i) := by omega
      exact ⟨by first | omega | (rw [← he]; rfl) | (simp; omega), HR.out⟩
  · go_enter Try.func39, Try.ntmps39
    go_wp2_with fail
    go_region_law (refine step_append_fits rfl _ _ 28 rfl B 35 i0 3 Try.underlying28 hi hz1 g i c ys H.out.1 (by rfl) ⟨g, j * 3, none⟩ (n - j) (c - j) zs (by rfl) H.out.2.2.1 H.out.2.1 H.out.2.2.2.1 (by omega) ?_; intro w5 ho5 hg5)
    all_goals
      obtain ⟨w6, hr6, hR⟩ := HRES.out _ rfl w5 ho5 hg5
      have HR := Lib.hid hR
      clear ho5 hg5 hR
      go_wp2_with (at_builtin; refine wpList_clear2 _ rfl _ 28 rfl _ (by rfl) (hr6 _) ?_)
      go_ret
      have he := H.out.2.2.2.2.2
      exact ⟨by first | omega | (rw [← he]; rfl) | (simp; omega), HR.out⟩
end Go.Proofs.Ytiaclfldgagalaa

/-
  slices.Insert of one element on a row of one's own.
-/
namespace Go.Proofs.Ytiaclfldgagalaa
open Go.RowKit Go.Lib

theorem Chg.undrew {F : Nat → Prop} {w w' : World} (h : Chg F w.drew w') : Chg F w w' := ⟨h.os, h.tape, h.output, h.size, h.block⟩
theorem Blk.shape {w : World} {b : Nat} {t : TypeId} {cs : Array Value} (h : Blk w b t cs) : w.shape? b = some (t, cs.size) := by
  unfold Blk at h
  simp [World.shape?, h]
theorem heap_shape {w : World} {b : Nat} {t : TypeId} {cs : Array Value} (h : w.heap[b]? = some (.cells cs t (0, 0))) : w.shape? b = some (t, cs.size) := Blk.shape h
theorem splice_fill {α : Type} (cur us zs : List α) (p : Nat) (h : p + us.length + zs.length ≤ cur.length) : (splice (splice cur p us) (p + us.length) zs).take (p + us.length + zs.length) = cur.take p ++ us ++ zs := by
  have h1 : (cur.take p ++ us).length = p + us.length := by simp; omega
  have e1 : (splice cur p us).take (p + us.length) = cur.take p ++ us := by
    unfold splice
    rw [← List.append_assoc, ← h1, List.take_left]
  have h2 : (cur.take p ++ us ++ zs).length = p + us.length + zs.length := by rw [List.length_append, h1]
  rw [splice, e1, ← List.append_assoc, ← h2, List.take_left]
theorem splice_shift {α : Type} (cur us zs : List α) (p : Nat) (h : p + us.length + zs.length ≤ cur.length) : (splice (splice cur (p + us.length) zs) p us).take (p + us.length + zs.length) = cur.take p ++ us ++ zs := by
  have h0 : (cur.take (p + us.length)).length = p + us.length := by simp; omega
  have h1 : (cur.take (p + us.length) ++ zs).length = p + us.length + zs.length := by rw [List.length_append, h0]
  have e1 : (splice cur (p + us.length) zs).take p = cur.take p := by
    unfold splice
    rw [List.take_append_of_le_length (by omega), List.take_take, Nat.min_eq_left (by omega)]
  have e2 : (splice cur (p + us.length) zs).drop (p + us.length) = zs ++ cur.drop (p + us.length + zs.length) := by
    unfold splice
    rw [List.drop_append_of_le_length (by omega), List.drop_eq_nil_of_le (by omega), List.nil_append]
  rw [splice, e1, e2]
  have h2 : (cur.take p ++ us ++ zs).length = p + us.length + zs.length := by simp; omega
  rw [show cur.take p ++ (us ++ (zs ++ cur.drop (p + us.length + zs.length))) = (cur.take p ++ us ++ zs) ++ cur.drop (p + us.length + zs.length) by simp, ← h2, List.take_left]

set_option maxRecDepth 100000 in
set_option maxHeartbeats 6400000 in
theorem eins_end {w : World} {B n c : Nat} {A : Option Addr} {xs : List Value} (hown : w.ownsRow B 35 3 (.slice A n c) n xs) (hn : n ≤ 1000000) (hB : B ≤ w.heap.size) {vb : Nat} {us : List Value} (hv : Blk w vb 35 us.toArray) (hul : us.length = 3) (hu1 : ∀ u ∈ us, u.oneCell' = true) :
    Calls Try.prog 36 #[.slice A n c, .int .i64 n, .slice (some ⟨vb, 0, none⟩) 1 1] w fun r w' => ∃ A' c', r = .returned (.slice A' (n + 1) c') ∧ RowTo B 35 3 (.slice A n c) w (.slice A' (n + 1) c') (n + 1) (xs ++ us) w' := by
  obtain ⟨i0, hi, hz0, hz1, hz2⟩ := info_parts Try.infoent
  obtain ⟨hnc, hcm⟩ := own_caps hown
  have hcm' := hcm
  unfold maxLen at hcm'
  have hvc : ∀ ad, (some ⟨vb, 0, none⟩ : Option Addr) = some ad → ∀ j u, us[j]? = some u → w.cell? (ad.add j) = some u := by
    intro ad ha j u hu
    injection ha with ha
    subst ha
    rw [Addr.add_lit, Nat.zero_add, hv.cell]
    simpa using hu
  have H := Lib.hid (And.intro hown (And.intro hvc hul))
  have a1 : (0 : Int) ≤ (n : Int) := by omega
  have a2 : (n : Int) ≤ (c : Int) := by omega
  have a3 : ((n : Int) == (n : Int)) = true := by simp
  rcases own_form2 hown with ⟨rfl, rfl, rfl, hx⟩ | ⟨g, rfl⟩
  · have HX := Lib.hid hx
    clear hown hvc hul hx hv hcm hcm' hnc a1 a2 a3
    go_enter Try.func36, Try.ntmps36
    go_wp2_with (at_builtin; refine wpList_append_row rfl _ _ 28 rfl B 35 i0 (.agg #[.string ⟨#[]⟩, .int .i64 0, .int .i64 0]) 3 32 Try.underlying28 hi hz0 hz1 hz2 rfl (by decide) _ 0 xs H.out.1 (by rfl) (some ⟨vb, 0, none⟩) 1 1 us (by rfl) H.out.2.2 (fun h => by cases h) H.out.2.1 hu1 (by simp [maxLen]) (by omega) hB ?_; intro A' c' w5 hR; have HR := Lib.hid hR; clear hR)
    go_ret
    exact ⟨A', c', rfl, HR.out⟩
  · by_cases hcn : c = n
    · subst hcn
      clear hown hvc hul hv hcm
      go_enter Try.func36, Try.ntmps36
      go_wp2_with (at_builtin; refine wpList_append_row rfl _ _ 28 rfl B 35 i0 (.agg #[.string ⟨#[]⟩, .int .i64 0, .int .i64 0]) 3 32 Try.underlying28 hi hz0 hz1 hz2 rfl (by decide) _ c xs H.out.1 (by rfl) (some ⟨vb, 0, none⟩) 1 1 us (by rfl) H.out.2.2 (fun h => by cases h) H.out.2.1 hu1 (by simp [maxLen]; omega) (by omega) hB ?_; intro A' c' w5 hR; have HR := Lib.hid hR; clear hR)
      go_ret
      exact ⟨A', c', rfl, HR.out⟩
    · clear hown hvc hul hv hcm
      go_enter Try.func36, Try.ntmps36
      go_wp2_with (at_builtin; refine wpList_append_row rfl _ _ 28 rfl B 35 i0 (.agg #[.string ⟨#[]⟩, .int .i64 0, .int .i64 0]) 3 32 Try.underlying28 hi hz0 hz1 hz2 rfl (by decide) _ n xs H.out.1 (by rfl) (some ⟨vb, 0, none⟩) 1 1 us (by rfl) H.out.2.2 (fun h => by cases h) H.out.2.1 hu1 (by simp [maxLen]; omega) (by omega) hB ?_; intro A' c' w5 hR; have HR := Lib.hid hR; clear hR)
      go_ret
      exact ⟨A', c', rfl, HR.out⟩

set_option maxRecDepth 100000 in
set_option maxHeartbeats 6400000 in
theorem eins_room {w : World} {B n c g : Nat} {xs : List Value} (hown : w.ownsRow B 35 3 (.slice (some ⟨g, 0, none⟩) n c) n xs) (hx1 : ∀ u ∈ xs, u.oneCell' = true) {i : Nat} (hin : i < n) (hroom : n + 1 ≤ c) (hn : n ≤ 1000000) {vb : Nat} {us : List Value} (hv : Blk w vb 35 us.toArray) (hul : us.length = 3) (hu1 : ∀ u ∈ us, u.oneCell' = true) (hne : vb ≠ g) :
    Calls Try.prog 36 #[.slice (some ⟨g, 0, none⟩) n c, .int .i64 i, .slice (some ⟨vb, 0, none⟩) 1 1] w fun r w' => r = .returned (.slice (some ⟨g, 0, none⟩) (n + 1) c) ∧ RowTo B 35 3 (.slice (some ⟨g, 0, none⟩) n c) w (.slice (some ⟨g, 0, none⟩) (n + 1) c) (n + 1) (xs.take (i * 3) ++ us ++ xs.drop (i * 3)) w' := by
  obtain ⟨i0, hi, hz0, hz1, hz2⟩ := info_parts Try.infoent
  obtain ⟨hnc, hcm⟩ := own_caps hown
  have hcm' := hcm
  unfold maxLen at hcm'
  obtain ⟨cur, hg, hBg, _, _, hcl, htk, hxl⟩ := own_cur hown
  have hm : n * 3 ≤ c * 3 := Nat.mul_le_mul_right _ hnc
  have hm1 : (n + 1) * 3 ≤ c * 3 := Nat.mul_le_mul_right _ hroom
  obtain ⟨zs, hzs⟩ : ∃ zs, zs = xs.drop (i * 3) := ⟨_, rfl⟩
  have hzl : zs.length = (n - i) * 3 := by rw [hzs, List.length_drop, hxl, Nat.sub_mul]
  have hz1' : ∀ u ∈ zs, u.oneCell' = true := fun u hu => hx1 u (by rw [hzs] at hu; exact List.mem_of_mem_drop hu)
  have hov : ∀ lb cb, (callFunc 50 #[.slice (some ⟨vb, 0, none⟩) 1 1, .slice (some ⟨g, (i + 1) * 3, none⟩) lb cb]).run Try.prog w = .ok (.value (.bool false)) w := fun lb cb => by
    rw [run_callFunc_extern Try.func50 (by kernel_rfl) (by kernel_rfl) (by kernel_rfl) (e := Extern.SlicesOverlaps.overlaps #[28, 28] #[4]) (by kernel_rfl),
      run_overlaps_apart w 28 4 35 Try.underlying28 3 Try.sizeOf35 ⟨vb, 0, none⟩ ⟨g, (i + 1) * 3, none⟩ 1 1 lb cb hne _ _ _ _ (Blk.shape hv) (heap_shape hg) (by rw [List.size_toArray, hcl]; omega) (hv.frozen 0) (hv.frozen _)]
    rfl
  have hcp1 : ∀ ty dc sc, (Builtin.copy_ #[28, 28] ty #[.slice (some ⟨g, (i + 1) * 3, none⟩) (n - i) dc, .slice (some ⟨g, i * 3, none⟩) (n + 1 - i) sc]).run Try.prog w.drew = .ok (goInt ((min (n + 1 - i) (n - i) : Nat) : Int)) (w.drew.setRow g (splice cur ((i + 1) * 3) zs).toArray) := fun ty dc sc =>
    run_copy_k w.drew _ _ ty 35 i0 3 Try.underlying28 hi hz1 g ((i + 1) * 3) (n - i) dc ⟨g, i * 3, none⟩ (n + 1 - i) sc cur 35 zs hg (by rw [hzl, Nat.min_eq_right (by omega)]) (fun j v hj => by
      rw [Addr.add_lit]
      refine (hown.cellAt (i * 3 + j) ?_).trans ?_
      · have := (List.getElem?_eq_some_iff.1 hj).1; omega
      · rw [hzs, List.getElem?_drop] at hj; exact hj) (by rw [hzl, hcl]; omega) hz1'
  obtain ⟨w5, hw5⟩ : ∃ w5, w5 = w.drew.setRow g (splice cur ((i + 1) * 3) zs).toArray := ⟨_, rfl⟩
  have hg5 : w5.heap[g]? = some (.cells (splice cur ((i + 1) * 3) zs).toArray 35 (0, 0)) := by rw [hw5]; exact setRow_heap w.drew g _ _ _ _ hg
  have hc5 : Chg (fun k => some g = some k) w w5 := by rw [hw5]; exact Chg.undrew (chg_setRow w.drew g _)
  have hv5 : Blk w5 vb 35 us.toArray := hv.chg hc5 (fun e => hne (Option.some.inj e).symm)
  have hl5 : (splice cur ((i + 1) * 3) zs).length = c * 3 := by rw [length_splice _ _ _ (by rw [hcl, hzl]; omega), hcl]
  have hcp2 : ∀ ty dc, (Builtin.copy_ #[28, 28] ty #[.slice (some ⟨g, i * 3, none⟩) (n + 1 - i) dc, .slice (some ⟨vb, 0, none⟩) 1 1]).run Try.prog w5 = .ok (goInt ((min 1 (n + 1 - i) : Nat) : Int)) (w5.setRow g (splice (splice cur ((i + 1) * 3) zs) (i * 3) us).toArray) := fun ty dc =>
    run_copy_k w5 _ _ ty 35 i0 3 Try.underlying28 hi hz1 g (i * 3) (n + 1 - i) dc ⟨vb, 0, none⟩ 1 1 _ 35 us hg5 (by rw [hul, Nat.min_eq_left (by omega)]) (fun j v hj => by
      rw [Addr.add_lit, Nat.zero_add, hv5.cell]
      simpa using hj) (by rw [hul, hl5]; omega) hu1
  have hfin : RowTo B 35 3 (.slice (some ⟨g, 0, none⟩) n c) w (.slice (some ⟨g, 0, none⟩) (n + 1) c) (n + 1) (xs.take (i * 3) ++ us ++ xs.drop (i * 3)) (w5.setRow g (splice (splice cur ((i + 1) * 3) zs) (i * 3) us).toArray) := by
    refine ⟨own_of_cur (setRow_heap w5 g _ _ _ _ hg5) hBg hroom hcm (by rw [length_splice _ _ _ (by rw [hl5, hul]; omega), hl5]) _ ?_, fun k hk => .inl hk, hc5.setRow (fun _ => rfl) _⟩
    have h1 := splice_shift cur us zs (i * 3) (by rw [hul, hzl, hcl]; omega)
    rw [hul, hzl, show i * 3 + 3 = (i + 1) * 3 by omega, show (i + 1) * 3 + (n - i) * 3 = (n + 1) * 3 by omega] at h1
    rw [h1, ← hzs, ← htk, List.take_take, Nat.min_eq_left (by omega)]
  have HF := Lib.hid hfin
  rw [← hw5] at hcp1
  obtain ⟨w6, hw6⟩ : ∃ w6, w6 = w5.setRow g (splice (splice cur ((i + 1) * 3) zs) (i * 3) us).toArray := ⟨_, rfl⟩
  rw [← hw6] at hcp2 HF
  have HOV := Lib.hid hov
  have HC1 := Lib.hid hcp1
  have HC2 := Lib.hid hcp2
  have b1 : ((i : Int) == (n : Int)) = false := by rw [beq_eq_false_iff_ne]; omega
  have b2 : (0 : Int) ≤ (i : Int) := by omega
  have b3 : (n : Int) + 1 ≤ (c : Int) := by omega
  have b4 : (i : Int) < (n : Int) := by omega
  have b5 : ¬ (c = i) := by omega
  have b6 : ¬ (c = i + 1) := by omega
  have b7 : IntKind.i64.wrap ((i : Int) + 1) = (i : Int) + 1 := by rw [IntKind.wrap_i64]; omega
  have b8 : (0 : Int) ≤ (i : Int) + 1 := by omega
  have b9 : ((i : Int) + 1).toNat = i + 1 := by omega
  have b10 : (i : Int) + 1 ≤ (c : Int) := by omega
  have b11 : (i : Int) ≤ (n : Int) + 1 := by omega
  have b12 : (i : Int) + 1 ≤ (n : Int) + 1 := by omega
  clear hown hx1 hv hu1 hg hBg hcl htk hxl hm hm1 hzl hz1' hov hcp1 hcp2 hg5 hc5 hv5 hl5 hfin hw5 hw6 hul hzs
  go_enter Try.func36, Try.ntmps36
  go_wp2_with (simp only [HOV.out])
  go_region_law (refine step_copy2 rfl _ _ 28 28 rfl (.slice (some ⟨g, (i + 1) * 3, none⟩) (n - i) (c - (i + 1))) (.slice (some ⟨g, i * 3, none⟩) (n + 1 - i) (c - i)) (by simp [Act.eval, Act.put]) (by simp [Act.eval, Act.put]) (HC1.out _ _ _) ?_)
  all_goals
    have hq := HC2.out 3 (c - i)
    go_wp2_with fail
    go_ret
    exact ⟨rfl, HF.out⟩

set_option maxRecDepth 100000 in
set_option maxHeartbeats 6400000 in
theorem eins_grow {w : World} {B n c g : Nat} {xs : List Value} (hown : w.ownsRow B 35 3 (.slice (some ⟨g, 0, none⟩) n c) n xs) (hx1 : ∀ u ∈ xs, u.oneCell' = true) {i : Nat} (hin : i < n) (hroom : c < n + 1) (hn : n ≤ 1000000) (hB : B ≤ w.heap.size) {vb : Nat} {us : List Value} (hv : Blk w vb 35 us.toArray) (hul : us.length = 3) (hu1 : ∀ u ∈ us, u.oneCell' = true) :
    Calls Try.prog 36 #[.slice (some ⟨g, 0, none⟩) n c, .int .i64 i, .slice (some ⟨vb, 0, none⟩) 1 1] w fun r w' => ∃ A' c', r = .returned (.slice A' (n + 1) c') ∧ RowTo B 35 3 (.slice (some ⟨g, 0, none⟩) n c) w (.slice A' (n + 1) c') (n + 1) (xs.take (i * 3) ++ us ++ xs.drop (i * 3)) w' := by
  obtain ⟨i0, hi, hz0, hz1, hz2⟩ := info_parts Try.infoent
  obtain ⟨hnc, hcm⟩ := own_caps hown
  have hcm' := hcm
  unfold maxLen at hcm'
  have hxl := hown.1
  obtain rfl : c = n := by omega
  obtain ⟨q, hq⟩ : ∃ q, q = c + 1 - i := ⟨_, rfl⟩
  obtain ⟨zs, hzs⟩ : ∃ zs, zs = xs.drop (i * 3) := ⟨_, rfl⟩
  have hzl : zs.length = (c - i) * 3 := by rw [hzs, List.length_drop, hxl, Nat.sub_mul]
  have hz1' : ∀ u ∈ zs, u.oneCell' = true := fun u hu => hx1 u (by rw [hzs] at hu; exact List.mem_of_mem_drop hu)
  have hzc : ∀ (W : World), Below w.heap.size w W → ∀ j v, zs[j]? = some v → W.cell? ((⟨g, i * 3, none⟩ : Addr).add j) = some v := fun W hW j v hj => by
    have hlt := (hown.lt g rfl).2
    rw [Addr.add_lit, hW.cell (p := ⟨g, i * 3 + j, none⟩) hlt]
    refine (hown.cellAt (i * 3 + j) ?_).trans ?_
    · have := (List.getElem?_eq_some_iff.1 hj).1; omega
    · rw [hzs, List.getElem?_drop] at hj; exact hj
  obtain ⟨c', cur, hap, hc1, hc2, hcl, htk⟩ := run_append_zeros (P := Try.prog) w 28 3 35 i0 (.agg #[.string ⟨#[]⟩, .int .i64 0, .int .i64 0]) 3 32 Try.underlying28 Try.underlying3 hi hz0 hz1 hz2 rfl (by decide) (own_first hown (show i ≤ c by omega)) q (by omega) (by omega) (by omega) (by decide)
  have hqe : i + q = c + 1 := by omega
  rw [hqe] at hap hc1
  have hqi : (q : Int) = (c : Int) + 1 - (i : Int) := by omega
  rw [hqi] at hap
  obtain ⟨w4, hw4⟩ : ∃ w4, w4 = w.drew.alloc (.cells cur.toArray 35) := ⟨_, rfl⟩
  have hg4 : w4.heap[w.heap.size]? = some (.cells cur.toArray 35 (0, 0)) := by rw [hw4]; exact heap_alloc_new w.drew _
  have hb4 : Below w.heap.size w w4 := by rw [hw4]; exact ((Below.refl _ w).drew).alloc (Nat.le_refl _) _
  have hv4 := hv.below hb4 hv.lt
  rw [← hw4] at hap
  have hm1 : (c + 1) * 3 ≤ c' * 3 := Nat.mul_le_mul_right _ hc1
  have hcp1 : ∀ ty dc, (Builtin.copy_ #[28, 28] ty #[.slice (some ⟨w.heap.size, i * 3, none⟩) (c + 1 - i) dc, .slice (some ⟨vb, 0, none⟩) 1 1]).run Try.prog w4 = .ok (goInt ((min 1 (c + 1 - i) : Nat) : Int)) (w4.setRow w.heap.size (splice cur (i * 3) us).toArray) := fun ty dc =>
    run_copy_k w4 _ _ ty 35 i0 3 Try.underlying28 hi hz1 w.heap.size (i * 3) (c + 1 - i) dc ⟨vb, 0, none⟩ 1 1 _ 35 us hg4 (by rw [hul, Nat.min_eq_left (by omega)]) (fun j v hj => by
      rw [Addr.add_lit, Nat.zero_add, hv4.cell]
      simpa using hj) (by rw [hul, hcl]; omega) hu1
  obtain ⟨w5, hw5⟩ : ∃ w5, w5 = w4.setRow w.heap.size (splice cur (i * 3) us).toArray := ⟨_, rfl⟩
  have hg5 : w5.heap[w.heap.size]? = some (.cells (splice cur (i * 3) us).toArray 35 (0, 0)) := by rw [hw5]; exact setRow_heap w4 _ _ _ _ _ hg4
  have hb5 : Below w.heap.size w w5 := by rw [hw5]; exact below_setRow hb4 (Nat.le_refl _) _
  have hl5 : (splice cur (i * 3) us).length = c' * 3 := by rw [length_splice _ _ _ (by rw [hcl, hul]; omega), hcl]
  rw [← hw5] at hcp1
  have hcp2 : ∀ ty dc sc, (Builtin.copy_ #[28, 28] ty #[.slice (some ⟨w.heap.size, (i + 1) * 3, none⟩) (c - i) dc, .slice (some ⟨g, i * 3, none⟩) (c - i) sc]).run Try.prog w5.drew = .ok (goInt ((min (c - i) (c - i) : Nat) : Int)) (w5.drew.setRow w.heap.size (splice (splice cur (i * 3) us) ((i + 1) * 3) zs).toArray) := fun ty dc sc =>
    run_copy_k w5.drew _ _ ty 35 i0 3 Try.underlying28 hi hz1 w.heap.size ((i + 1) * 3) (c - i) dc ⟨g, i * 3, none⟩ (c - i) sc _ 35 zs hg5 (by rw [hzl, Nat.min_self]) (hzc w5.drew hb5.drew) (by rw [hzl, hl5]; omega) hz1'
  obtain ⟨w6, hw6⟩ : ∃ w6, w6 = w5.drew.setRow w.heap.size (splice (splice cur (i * 3) us) ((i + 1) * 3) zs).toArray := ⟨_, rfl⟩
  have hfin : RowTo B 35 3 (.slice (some ⟨g, 0, none⟩) c c) w (.slice (some ⟨w.heap.size, 0, none⟩) (c + 1) c') (c + 1) (xs.take (i * 3) ++ us ++ xs.drop (i * 3)) w6 := by
    have hb6 : Below w.heap.size w w6 := by rw [hw6]; exact below_setRow hb5.drew (Nat.le_refl _) _
    refine ⟨own_to_lt (B := w.heap.size) (own_of_cur (by rw [hw6]; exact setRow_heap w5.drew _ _ _ _ _ hg5) (Nat.le_refl _) hc1 hc2 (by rw [length_splice _ _ _ (by rw [hl5, hzl]; omega), hl5]) _ ?_) hB, fun k hk => .inr (by cases hk; exact Nat.le_refl _), Chg.of_below hb6⟩
    have h1 := splice_fill cur us zs (i * 3) (by rw [hul, hzl, hcl]; omega)
    rw [hul, hzl, show i * 3 + 3 = (i + 1) * 3 by omega, show (i + 1) * 3 + (c - i) * 3 = (c + 1) * 3 by omega] at h1
    rw [h1, ← hzs, htk]
  rw [← hw6] at hcp2
  have HF := Lib.hid hfin
  have HA := Lib.hid hap
  have HC1 := Lib.hid hcp1
  have HC2 := Lib.hid hcp2
  obtain ⟨gn, hgn⟩ : ∃ gn, gn = w.heap.size := ⟨_, rfl⟩
  rw [← hgn] at HF HA HC1 HC2
  have b1 : ((i : Int) == (c : Int)) = false := by rw [beq_eq_false_iff_ne]; omega
  have b2 : (0 : Int) ≤ (i : Int) := by omega
  have b3 : (c : Int) < (c : Int) + 1 := by omega
  have b4 : (i : Int) < (c : Int) := by omega
  have b5 : ¬ (c = i) := by omega
  have b6 : ¬ (c' = i + 1) := by omega
  have b7 : IntKind.i64.wrap ((i : Int) + 1) = (i : Int) + 1 := by rw [IntKind.wrap_i64]; omega
  have b8 : (0 : Int) ≤ (i : Int) + 1 := by omega
  have b9 : ((i : Int) + 1).toNat = i + 1 := by omega
  have b11 : (i : Int) ≤ (c : Int) + 1 := by omega
  have b12 : (i : Int) + 1 ≤ (c : Int) + 1 := by omega
  have b13 : ¬ (c' = i) := by omega
  have b14 : (c : Int) + 1 ≤ (c' : Int) := by omega
  have b15 : (c' : Int) ≤ 9223372036854775807 := by unfold maxLen at hc2; omega
  have b16 : i ≤ c := by omega
  clear hown hx1 hv hu1 hcl htk hxl hm1 hzl hz1' hcp1 hcp2 hg5 hl5 hfin hw5 hw6 hul hzs hap hzc hqe hqi hg4 hb4 hv4 hb5 hw4 hq hc2 hgn hcm hB
  go_enter Try.func36, Try.ntmps36
  go_wp2_with (at_builtin; refine wpList_append2 _ rfl _ _ 28 3 rfl _ _ (by rfl) (by rfl) (HA.out _) ?_; have hq := HC1.out 3 (c' - i))
  go_region_law (refine step_copy2 rfl _ _ 28 28 rfl (.slice (some ⟨gn, (i + 1) * 3, none⟩) (c - i) (c' - (i + 1))) (.slice (some ⟨g, i * 3, none⟩) (c - i) (c - i)) (by simp [Act.eval, Act.put]) (by simp [Act.eval, Act.put]) (HC2.out _ _ _) ?_)
  all_goals
    go_wp2_with fail
    go_ret
    exact ⟨_, _, rfl, HF.out⟩
/-- slices.Insert of one element -/
theorem eins_any {w : World} {B n c : Nat} {A : Option Addr} {xs : List Value} (hown : w.ownsRow B 35 3 (.slice A n c) n xs) (hx1 : ∀ u ∈ xs, u.oneCell' = true) {i : Nat} (hi : i ≤ n) (hn : n ≤ 1000000) (hB : B ≤ w.heap.size) {vb : Nat} {us : List Value} (hv : Blk w vb 35 us.toArray) (hul : us.length = 3) (hu1 : ∀ u ∈ us, u.oneCell' = true) (hne : (Value.slice A n c).ownBlock ≠ some vb) :
    Calls Try.prog 36 #[.slice A n c, .int .i64 i, .slice (some ⟨vb, 0, none⟩) 1 1] w fun r w' => ∃ A' c', r = .returned (.slice A' (n + 1) c') ∧ RowTo B 35 3 (.slice A n c) w (.slice A' (n + 1) c') (n + 1) (xs.take (i * 3) ++ us ++ xs.drop (i * 3)) w' := by
  have hxl := hown.1
  rcases Nat.lt_or_ge i n with h | h
  · obtain ⟨g, rfl⟩ := own_form' hown (by omega)
    rcases Nat.lt_or_ge c (n + 1) with hr | hr
    · exact eins_grow hown hx1 h hr hn hB hv hul hu1
    · exact (eins_room hown hx1 h hr hn hv hul hu1 (fun e => hne (by rw [e]; rfl))).mono fun r w' h => ⟨_, _, h⟩
  · obtain rfl : i = n := by omega
    have h1 : xs.take (i * 3) = xs := List.take_of_length_le (by omega)
    have h2 : xs.drop (i * 3) = [] := List.drop_eq_nil_of_le (by omega)
    rw [h1, h2, List.append_nil]
    exact eins_end hown hn hB hv hul hu1
end Go.Proofs.Ytiaclfldgagalaa

/-
  slices.Insert of one page on a row of one's own.
-/
namespace Go.Proofs.Ytiaclfldgagalaa
open Go.RowKit Go.Lib

set_option maxRecDepth 100000 in
set_option maxHeartbeats 6400000 in
theorem pins_end {w : World} {B n c : Nat} {A : Option Addr} {xs : List Value} (hown : w.ownsRow B 70 1 (.slice A n c) n xs) (hn : n ≤ 1000000) (hB : B ≤ w.heap.size) {vb : Nat} {us : List Value} (hv : Blk w vb 70 us.toArray) (hul : us.length = 1) (hu1 : ∀ u ∈ us, u.oneCell' = true) :
    Calls Try.prog 61 #[.slice A n c, .int .i64 n, .slice (some ⟨vb, 0, none⟩) 1 1] w fun r w' => ∃ A' c', r = .returned (.slice A' (n + 1) c') ∧ RowTo B 70 1 (.slice A n c) w (.slice A' (n + 1) c') (n + 1) (xs ++ us) w' := by
  obtain ⟨i0, hi, hz0, hz1, hz2⟩ := info_parts Try.infoptr
  obtain ⟨hnc, hcm⟩ := own_caps hown
  have hcm' := hcm
  unfold maxLen at hcm'
  have hvc : ∀ ad, (some ⟨vb, 0, none⟩ : Option Addr) = some ad → ∀ j u, us[j]? = some u → w.cell? (ad.add j) = some u := by
    intro ad ha j u hu
    injection ha with ha
    subst ha
    rw [Addr.add_lit, Nat.zero_add, hv.cell]
    simpa using hu
  have H := Lib.hid (And.intro hown (And.intro hvc hul))
  have a1 : (0 : Int) ≤ (n : Int) := by omega
  have a2 : (n : Int) ≤ (c : Int) := by omega
  have a3 : ((n : Int) == (n : Int)) = true := by simp
  rcases own_form2 hown with ⟨rfl, rfl, rfl, hx⟩ | ⟨g, rfl⟩
  · have HX := Lib.hid hx
    clear hown hvc hul hx hv hcm hcm' hnc a1 a2 a3
    go_enter Try.func61, Try.ntmps61
    go_wp2_with (at_builtin; refine wpList_append_row rfl _ _ 59 rfl B 70 i0 (.pointer none) 1 8 Try.underlying59 hi hz0 hz1 hz2 rfl (by decide) _ 0 xs H.out.1 (by rfl) (some ⟨vb, 0, none⟩) 1 1 us (by rfl) H.out.2.2 (fun h => by cases h) H.out.2.1 hu1 (by simp [maxLen]) (by omega) hB ?_; intro A' c' w5 hR; have HR := Lib.hid hR; clear hR)
    go_ret
    exact ⟨A', c', rfl, HR.out⟩
  · by_cases hcn : c = n
    · subst hcn
      clear hown hvc hul hv hcm
      go_enter Try.func61, Try.ntmps61
      go_wp2_with (at_builtin; refine wpList_append_row rfl _ _ 59 rfl B 70 i0 (.pointer none) 1 8 Try.underlying59 hi hz0 hz1 hz2 rfl (by decide) _ c xs H.out.1 (by rfl) (some ⟨vb, 0, none⟩) 1 1 us (by rfl) H.out.2.2 (fun h => by cases h) H.out.2.1 hu1 (by simp [maxLen]; omega) (by omega) hB ?_; intro A' c' w5 hR; have HR := Lib.hid hR; clear hR)
      go_ret
      exact ⟨A', c', rfl, HR.out⟩
    · clear hown hvc hul hv hcm
      go_enter Try.func61, Try.ntmps61
      go_wp2_with (at_builtin; refine wpList_append_row rfl _ _ 59 rfl B 70 i0 (.pointer none) 1 8 Try.underlying59 hi hz0 hz1 hz2 rfl (by decide) _ n xs H.out.1 (by rfl) (some ⟨vb, 0, none⟩) 1 1 us (by rfl) H.out.2.2 (fun h => by cases h) H.out.2.1 hu1 (by simp [maxLen]; omega) (by omega) hB ?_; intro A' c' w5 hR; have HR := Lib.hid hR; clear hR)
      go_ret
      exact ⟨A', c', rfl, HR.out⟩

set_option maxRecDepth 100000 in
set_option maxHeartbeats 6400000 in
theorem pins_room {w : World} {B n c g : Nat} {xs : List Value} (hown : w.ownsRow B 70 1 (.slice (some ⟨g, 0, none⟩) n c) n xs) (hx1 : ∀ u ∈ xs, u.oneCell' = true) {i : Nat} (hin : i < n) (hroom : n + 1 ≤ c) (hn : n ≤ 1000000) {vb : Nat} {us : List Value} (hv : Blk w vb 70 us.toArray) (hul : us.length = 1) (hu1 : ∀ u ∈ us, u.oneCell' = true) (hne : vb ≠ g) :
    Calls Try.prog 61 #[.slice (some ⟨g, 0, none⟩) n c, .int .i64 i, .slice (some ⟨vb, 0, none⟩) 1 1] w fun r w' => r = .returned (.slice (some ⟨g, 0, none⟩) (n + 1) c) ∧ RowTo B 70 1 (.slice (some ⟨g, 0, none⟩) n c) w (.slice (some ⟨g, 0, none⟩) (n + 1) c) (n + 1) (xs.take (i) ++ us ++ xs.drop (i)) w' := by
  obtain ⟨i0, hi, hz0, hz1, hz2⟩ := info_parts Try.infoptr
  obtain ⟨hnc, hcm⟩ := own_caps hown
  have hcm' := hcm
  unfold maxLen at hcm'
  obtain ⟨cur, hg, hBg, _, _, hcl, htk, hxl⟩ := own_cur hown
  rw [Nat.mul_one] at hcl htk hxl
  have hm : n ≤ c := hnc
  have hm1 : (n + 1) ≤ c := hroom
  obtain ⟨zs, hzs⟩ : ∃ zs, zs = xs.drop (i) := ⟨_, rfl⟩
  have hzl : zs.length = (n - i) := by rw [hzs, List.length_drop, hxl]
  have hz1' : ∀ u ∈ zs, u.oneCell' = true := fun u hu => hx1 u (by rw [hzs] at hu; exact List.mem_of_mem_drop hu)
  have hov : ∀ lb cb, (callFunc 69 #[.slice (some ⟨vb, 0, none⟩) 1 1, .slice (some ⟨g, (i + 1), none⟩) lb cb]).run Try.prog w = .ok (.value (.bool false)) w := fun lb cb => by
    rw [run_callFunc_extern Try.func69 (by kernel_rfl) (by kernel_rfl) (by kernel_rfl) (e := Extern.SlicesOverlaps.overlaps #[59, 59] #[4]) (by kernel_rfl),
      run_overlaps_apart w 59 4 70 Try.underlying59 1 Try.sizeOf70 ⟨vb, 0, none⟩ ⟨g, (i + 1), none⟩ 1 1 lb cb hne _ _ _ _ (Blk.shape hv) (heap_shape hg) (by rw [List.size_toArray, hcl]; omega) (hv.frozen 0) (hv.frozen _)]
    rfl
  have hcp1 : ∀ ty dc sc, (Builtin.copy_ #[59, 59] ty #[.slice (some ⟨g, (i + 1), none⟩) (n - i) dc, .slice (some ⟨g, i, none⟩) (n + 1 - i) sc]).run Try.prog w.drew = .ok (goInt ((min (n + 1 - i) (n - i) : Nat) : Int)) (w.drew.setRow g (splice cur ((i + 1)) zs).toArray) := fun ty dc sc =>
    run_copy_k w.drew _ _ ty 70 i0 1 Try.underlying59 hi hz1 g ((i + 1)) (n - i) dc ⟨g, i, none⟩ (n + 1 - i) sc cur 70 zs hg (by rw [hzl, Nat.min_eq_right (by omega), Nat.mul_one]) (fun j v hj => by
      rw [Addr.add_lit]
      refine (hown.cellAt (i + j) ?_).trans ?_
      · have := (List.getElem?_eq_some_iff.1 hj).1; omega
      · rw [hzs, List.getElem?_drop] at hj; exact hj) (by rw [hzl, hcl]; omega) hz1'
  obtain ⟨w5, hw5⟩ : ∃ w5, w5 = w.drew.setRow g (splice cur ((i + 1)) zs).toArray := ⟨_, rfl⟩
  have hg5 : w5.heap[g]? = some (.cells (splice cur ((i + 1)) zs).toArray 70 (0, 0)) := by rw [hw5]; exact setRow_heap w.drew g _ _ _ _ hg
  have hc5 : Chg (fun k => some g = some k) w w5 := by rw [hw5]; exact Chg.undrew (chg_setRow w.drew g _)
  have hv5 : Blk w5 vb 70 us.toArray := hv.chg hc5 (fun e => hne (Option.some.inj e).symm)
  have hl5 : (splice cur ((i + 1)) zs).length = c := by rw [length_splice _ _ _ (by rw [hcl, hzl]; omega), hcl]
  have hcp2 : ∀ ty dc, (Builtin.copy_ #[59, 59] ty #[.slice (some ⟨g, i, none⟩) (n + 1 - i) dc, .slice (some ⟨vb, 0, none⟩) 1 1]).run Try.prog w5 = .ok (goInt ((min 1 (n + 1 - i) : Nat) : Int)) (w5.setRow g (splice (splice cur ((i + 1)) zs) (i) us).toArray) := fun ty dc =>
    run_copy_k w5 _ _ ty 70 i0 1 Try.underlying59 hi hz1 g (i) (n + 1 - i) dc ⟨vb, 0, none⟩ 1 1 _ 70 us hg5 (by rw [hul, Nat.min_eq_left (by omega)]) (fun j v hj => by
      rw [Addr.add_lit, Nat.zero_add, hv5.cell]
      simpa using hj) (by rw [hul, hl5]; omega) hu1
  have hfin : RowTo B 70 1 (.slice (some ⟨g, 0, none⟩) n c) w (.slice (some ⟨g, 0, none⟩) (n + 1) c) (n + 1) (xs.take (i) ++ us ++ xs.drop (i)) (w5.setRow g (splice (splice cur ((i + 1)) zs) (i) us).toArray) := by
    refine ⟨own_of_cur (setRow_heap w5 g _ _ _ _ hg5) hBg hroom hcm (by rw [Nat.mul_one, length_splice _ _ _ (by rw [hl5, hul]; omega), hl5]) _ ?_, fun k hk => .inl hk, hc5.setRow (fun _ => rfl) _⟩
    have h1 := splice_shift cur us zs (i) (by rw [hul, hzl, hcl]; omega)
    rw [hul, hzl, show i + 1 = (i + 1) by omega, show (i + 1) + (n - i) = (n + 1) by omega] at h1
    rw [Nat.mul_one, h1, ← hzs, ← htk, List.take_take, Nat.min_eq_left (by omega)]
  have HF := Lib.hid hfin
  rw [← hw5] at hcp1
  obtain ⟨w6, hw6⟩ : ∃ w6, w6 = w5.setRow g (splice (splice cur ((i + 1)) zs) (i) us).toArray := ⟨_, rfl⟩
  rw [← hw6] at hcp2 HF
  have HOV := Lib.hid hov
  have HC1 := Lib.hid hcp1
  have HC2 := Lib.hid hcp2
  have b1 : ((i : Int) == (n : Int)) = false := by rw [beq_eq_false_iff_ne]; omega
  have b2 : (0 : Int) ≤ (i : Int) := by omega
  have b3 : (n : Int) + 1 ≤ (c : Int) := by omega
  have b4 : (i : Int) < (n : Int) := by omega
  have b5 : ¬ (c = i) := by omega
  have b6 : ¬ (c = i + 1) := by omega
  have b7 : IntKind.i64.wrap ((i : Int) + 1) = (i : Int) + 1 := by rw [IntKind.wrap_i64]; omega
  have b8 : (0 : Int) ≤ (i : Int) + 1 := by omega
  have b9 : ((i : Int) + 1).toNat = i + 1 := by omega
  have b10 : (i : Int) + 1 ≤ (c : Int) := by omega
  have b11 : (i : Int) ≤ (n : Int) + 1 := by omega
  have b12 : (i : Int) + 1 ≤ (n : Int) + 1 := by omega
  clear hown hx1 hv hu1 hg hBg hcl htk hxl hm hm1 hzl hz1' hov hcp1 hcp2 hg5 hc5 hv5 hl5 hfin hw5 hw6 hul hzs
  go_enter Try.func61, Try.ntmps61
  go_wp2_with (simp only [HOV.out])
  go_region_law (refine step_copy2 rfl _ _ 59 59 rfl (.slice (some ⟨g, (i + 1), none⟩) (n - i) (c - (i + 1))) (.slice (some ⟨g, i, none⟩) (n + 1 - i) (c - i)) (by simp [Act.eval, Act.put]) (by simp [Act.eval, Act.put]) (HC1.out _ _ _) ?_)
  all_goals
    have hq := HC2.out 3 (c - i)
    go_wp2_with fail
    go_ret
    exact ⟨rfl, HF.out⟩

set_option maxRecDepth 100000 in
set_option maxHeartbeats 6400000 in
theorem pins_grow {w : World} {B n c g : Nat} {xs : List Value} (hown : w.ownsRow B 70 1 (.slice (some ⟨g, 0, none⟩) n c) n xs) (hx1 : ∀ u ∈ xs, u.oneCell' = true) {i : Nat} (hin : i < n) (hroom : c < n + 1) (hn : n ≤ 1000000) (hB : B ≤ w.heap.size) {vb : Nat} {us : List Value} (hv : Blk w vb 70 us.toArray) (hul : us.length = 1) (hu1 : ∀ u ∈ us, u.oneCell' = true) :
    Calls Try.prog 61 #[.slice (some ⟨g, 0, none⟩) n c, .int .i64 i, .slice (some ⟨vb, 0, none⟩) 1 1] w fun r w' => ∃ A' c', r = .returned (.slice A' (n + 1) c') ∧ RowTo B 70 1 (.slice (some ⟨g, 0, none⟩) n c) w (.slice A' (n + 1) c') (n + 1) (xs.take (i) ++ us ++ xs.drop (i)) w' := by
  obtain ⟨i0, hi, hz0, hz1, hz2⟩ := info_parts Try.infoptr
  obtain ⟨hnc, hcm⟩ := own_caps hown
  have hcm' := hcm
  unfold maxLen at hcm'
  have hxl := hown.1
  rw [Nat.mul_one] at hxl
  obtain rfl : c = n := by omega
  obtain ⟨q, hq⟩ : ∃ q, q = c + 1 - i := ⟨_, rfl⟩
  obtain ⟨zs, hzs⟩ : ∃ zs, zs = xs.drop (i) := ⟨_, rfl⟩
  have hzl : zs.length = (c - i) := by rw [hzs, List.length_drop, hxl]
  have hz1' : ∀ u ∈ zs, u.oneCell' = true := fun u hu => hx1 u (by rw [hzs] at hu; exact List.mem_of_mem_drop hu)
  have hzc : ∀ (W : World), Below w.heap.size w W → ∀ j v, zs[j]? = some v → W.cell? ((⟨g, i, none⟩ : Addr).add j) = some v := fun W hW j v hj => by
    have hlt := (hown.lt g rfl).2
    rw [Addr.add_lit, hW.cell (p := ⟨g, i + j, none⟩) hlt]
    refine (hown.cellAt (i + j) ?_).trans ?_
    · have := (List.getElem?_eq_some_iff.1 hj).1; omega
    · rw [hzs, List.getElem?_drop] at hj; exact hj
  obtain ⟨c', cur, hap, hc1, hc2, hcl, htk⟩ := run_append_zeros (P := Try.prog) w 59 3 70 i0 (.pointer none) 1 8 Try.underlying59 Try.underlying3 hi hz0 hz1 hz2 rfl (by decide) (own_first hown (show i ≤ c by omega)) q (by omega) (by omega) (by omega) (by decide)
  rw [Nat.mul_one] at hcl htk
  try simp only [Nat.mul_one] at htk
  have hqe : i + q = c + 1 := by omega
  rw [hqe] at hap hc1
  have hqi : (q : Int) = (c : Int) + 1 - (i : Int) := by omega
  rw [hqi] at hap
  obtain ⟨w4, hw4⟩ : ∃ w4, w4 = w.drew.alloc (.cells cur.toArray 70) := ⟨_, rfl⟩
  have hg4 : w4.heap[w.heap.size]? = some (.cells cur.toArray 70 (0, 0)) := by rw [hw4]; exact heap_alloc_new w.drew _
  have hb4 : Below w.heap.size w w4 := by rw [hw4]; exact ((Below.refl _ w).drew).alloc (Nat.le_refl _) _
  have hv4 := hv.below hb4 hv.lt
  rw [← hw4] at hap
  have hm1 : (c + 1) ≤ c' := hc1
  have hcp1 : ∀ ty dc, (Builtin.copy_ #[59, 59] ty #[.slice (some ⟨w.heap.size, i, none⟩) (c + 1 - i) dc, .slice (some ⟨vb, 0, none⟩) 1 1]).run Try.prog w4 = .ok (goInt ((min 1 (c + 1 - i) : Nat) : Int)) (w4.setRow w.heap.size (splice cur (i) us).toArray) := fun ty dc =>
    run_copy_k w4 _ _ ty 70 i0 1 Try.underlying59 hi hz1 w.heap.size (i) (c + 1 - i) dc ⟨vb, 0, none⟩ 1 1 _ 70 us hg4 (by rw [hul, Nat.min_eq_left (by omega)]) (fun j v hj => by
      rw [Addr.add_lit, Nat.zero_add, hv4.cell]
      simpa using hj) (by rw [hul, hcl]; omega) hu1
  obtain ⟨w5, hw5⟩ : ∃ w5, w5 = w4.setRow w.heap.size (splice cur (i) us).toArray := ⟨_, rfl⟩
  have hg5 : w5.heap[w.heap.size]? = some (.cells (splice cur (i) us).toArray 70 (0, 0)) := by rw [hw5]; exact setRow_heap w4 _ _ _ _ _ hg4
  have hb5 : Below w.heap.size w w5 := by rw [hw5]; exact below_setRow hb4 (Nat.le_refl _) _
  have hl5 : (splice cur (i) us).length = c' := by rw [length_splice _ _ _ (by rw [hcl, hul]; omega), hcl]
  rw [← hw5] at hcp1
  have hcp2 : ∀ ty dc sc, (Builtin.copy_ #[59, 59] ty #[.slice (some ⟨w.heap.size, (i + 1), none⟩) (c - i) dc, .slice (some ⟨g, i, none⟩) (c - i) sc]).run Try.prog w5.drew = .ok (goInt ((min (c - i) (c - i) : Nat) : Int)) (w5.drew.setRow w.heap.size (splice (splice cur (i) us) ((i + 1)) zs).toArray) := fun ty dc sc =>
    run_copy_k w5.drew _ _ ty 70 i0 1 Try.underlying59 hi hz1 w.heap.size ((i + 1)) (c - i) dc ⟨g, i, none⟩ (c - i) sc _ 70 zs hg5 (by rw [hzl, Nat.min_self, Nat.mul_one]) (hzc w5.drew hb5.drew) (by rw [hzl, hl5]; omega) hz1'
  obtain ⟨w6, hw6⟩ : ∃ w6, w6 = w5.drew.setRow w.heap.size (splice (splice cur (i) us) ((i + 1)) zs).toArray := ⟨_, rfl⟩
  have hfin : RowTo B 70 1 (.slice (some ⟨g, 0, none⟩) c c) w (.slice (some ⟨w.heap.size, 0, none⟩) (c + 1) c') (c + 1) (xs.take (i) ++ us ++ xs.drop (i)) w6 := by
    have hb6 : Below w.heap.size w w6 := by rw [hw6]; exact below_setRow hb5.drew (Nat.le_refl _) _
    refine ⟨own_to_lt (B := w.heap.size) (own_of_cur (by rw [hw6]; exact setRow_heap w5.drew _ _ _ _ _ hg5) (Nat.le_refl _) hc1 hc2 (by rw [Nat.mul_one, length_splice _ _ _ (by rw [hl5, hzl]; omega), hl5]) _ ?_) hB, fun k hk => .inr (by cases hk; exact Nat.le_refl _), Chg.of_below hb6⟩
    have h1 := splice_fill cur us zs (i) (by rw [hul, hzl, hcl]; omega)
    rw [hul, hzl, show i + 1 = (i + 1) by omega, show (i + 1) + (c - i) = (c + 1) by omega] at h1
    rw [Nat.mul_one, h1, ← hzs, htk]
  rw [← hw6] at hcp2
  have HF := Lib.hid hfin
  have HA := Lib.hid hap
  have HC1 := Lib.hid hcp1
  have HC2 := Lib.hid hcp2
  obtain ⟨gn, hgn⟩ : ∃ gn, gn = w.heap.size := ⟨_, rfl⟩
  rw [← hgn] at HF HA HC1 HC2
  have b1 : ((i : Int) == (c : Int)) = false := by rw [beq_eq_false_iff_ne]; omega
  have b2 : (0 : Int) ≤ (i : Int) := by omega
  have b3 : (c : Int) < (c : Int) + 1 := by omega
  have b4 : (i : Int) < (c : Int) := by omega
  have b5 : ¬ (c = i) := by omega
  have b6 : ¬ (c' = i + 1) := by omega
  have b7 : IntKind.i64.wrap ((i : Int) + 1) = (i : Int) + 1 := by rw [IntKind.wrap_i64]; omega
  have b8 : (0 : Int) ≤ (i : Int) + 1 := by omega
  have b9 : ((i : Int) + 1).toNat = i + 1 := by omega
  have b11 : (i : Int) ≤ (c : Int) + 1 := by omega
  have b12 : (i : Int) + 1 ≤ (c : Int) + 1 := by omega
  have b13 : ¬ (c' = i) := by omega
  have b14 : (c : Int) + 1 ≤ (c' : Int) := by omega
  have b15 : (c' : Int) ≤ 9223372036854775807 := by unfold maxLen at hc2; omega
  have b16 : i ≤ c := by omega
  clear hown hx1 hv hu1 hcl htk hxl hm1 hzl hz1' hcp1 hcp2 hg5 hl5 hfin hw5 hw6 hul hzs hap hzc hqe hqi hg4 hb4 hv4 hb5 hw4 hq hc2 hgn hcm hB
  go_enter Try.func61, Try.ntmps61
  go_wp2_with (at_builtin; refine wpList_append2 _ rfl _ _ 59 3 rfl _ _ (by rfl) (by rfl) (HA.out _) ?_; have hq := HC1.out 3 (c' - i))
  go_region_law (refine step_copy2 rfl _ _ 59 59 rfl (.slice (some ⟨gn, (i + 1), none⟩) (c - i) (c' - (i + 1))) (.slice (some ⟨g, i, none⟩) (c - i) (c - i)) (by simp [Act.eval, Act.put]) (by simp [Act.eval, Act.put]) (HC2.out _ _ _) ?_)
  all_goals
    go_wp2_with fail
    go_ret
    exact ⟨_, _, rfl, HF.out⟩
/-- slices.Insert of one element -/
theorem pins_any {w : World} {B n c : Nat} {A : Option Addr} {xs : List Value} (hown : w.ownsRow B 70 1 (.slice A n c) n xs) (hx1 : ∀ u ∈ xs, u.oneCell' = true) {i : Nat} (hi : i ≤ n) (hn : n ≤ 1000000) (hB : B ≤ w.heap.size) {vb : Nat} {us : List Value} (hv : Blk w vb 70 us.toArray) (hul : us.length = 1) (hu1 : ∀ u ∈ us, u.oneCell' = true) (hne : (Value.slice A n c).ownBlock ≠ some vb) :
    Calls Try.prog 61 #[.slice A n c, .int .i64 i, .slice (some ⟨vb, 0, none⟩) 1 1] w fun r w' => ∃ A' c', r = .returned (.slice A' (n + 1) c') ∧ RowTo B 70 1 (.slice A n c) w (.slice A' (n + 1) c') (n + 1) (xs.take (i) ++ us ++ xs.drop (i)) w' := by
  have hxl := hown.1
  rw [Nat.mul_one] at hxl
  rcases Nat.lt_or_ge i n with h | h
  · obtain ⟨g, rfl⟩ := own_form' hown (by omega)
    rcases Nat.lt_or_ge c (n + 1) with hr | hr
    · exact pins_grow hown hx1 h hr hn hB hv hul hu1
    · exact (pins_room hown hx1 h hr hn hv hul hu1 (fun e => hne (by rw [e]; rfl))).mono fun r w' h => ⟨_, _, h⟩
  · obtain rfl : i = n := by omega
    have h1 : xs.take (i) = xs := List.take_of_length_le (by omega)
    have h2 : xs.drop (i) = [] := List.drop_eq_nil_of_le (by omega)
    rw [h1, h2, List.append_nil]
    exact pins_end hown hn hB hv hul hu1
end Go.Proofs.Ytiaclfldgagalaa

/-
  slices.Clone; parted: a row in two.
-/
namespace Go.Proofs.Ytiaclfldgagalaa
open Go.RowKit Go.Lib

set_option maxRecDepth 100000 in
set_option maxHeartbeats 3200000 in
theorem eclone_any {w : World} {A : Option Addr} {m cc : Nat} {zs : List Value} (hl : zs.length = m * 3) (hA : A = none → m = 0) (hc : ∀ ad, A = some ad → ∀ j u, zs[j]? = some u → w.cell? (ad.add j) = some u) (h1 : ∀ u ∈ zs, u.oneCell' = true) (hm : m ≤ 1000000) :
    Calls Try.prog 41 #[.slice A m cc] w fun r w' => ∃ A' c', r = .returned (.slice A' m c') ∧ w'.ownsRow w.heap.size 35 3 (.slice A' m c') m zs ∧ Below w.heap.size w w' ∧ (A' = none → c' = 0) := by
  obtain ⟨i0, hi, hz0, hz1, hz2⟩ := info_parts Try.infoent
  have hq := fun (w : World) (a : Option Addr) (n c n' c' : Nat) => Lib.run_eql_slice_nil (P := Try.prog) w 28 35 a n c n' c' Try.underlying28
  rcases A with _ | ad
  · have hm0 := hA rfl
    subst hm0
    have hz : zs = [] := List.eq_nil_of_length_eq_zero (by omega)
    have HZ := Lib.hid hz
    clear hz hl hA hc h1
    go_enter Try.func41, Try.ntmps41
    go_wp2_with fail
    go_ret
    exact ⟨none, 0, rfl, by rw [HZ.out]; exact World.ownsRow_nil _ _ _ _, Below.refl _ _, fun _ => rfl⟩
  · have ho : (w.alloc (.cells #[] 35)).ownsRow w.heap.size 35 3 (.slice (some ⟨w.heap.size, 0, none⟩) 0 0) 0 [] := by
      have h9 := World.ownsRow_lit (base := w.heap.size) (size := 3) (e := 35) w #[] 0 (by simp) (by simp [maxLen]) (by simp)
      exact h9
    have H := Lib.hid (And.intro ho (And.intro hl (fun ad' (ha : some ad = some ad') j u (hu : zs[j]? = some u) => (show (w.alloc (.cells #[] 35)).cell? (ad'.add j) = some u from Lib.cell?_alloc_some _ (hc ad' ha j u hu)))))
    clear ho hl hA hc
    go_enter Try.func41, Try.ntmps41
    go_wp2_with (at_builtin; refine wpList_append_row rfl _ _ 28 rfl w.heap.size 35 i0 (.agg #[.string ⟨#[]⟩, .int .i64 0, .int .i64 0]) 3 32 Try.underlying28 hi hz0 hz1 hz2 rfl (by decide) _ 0 [] H.out.1 (by rfl) (some ad) m cc zs (by rfl) H.out.2.1 (fun h => by cases h) H.out.2.2 h1 (by simp [maxLen]; omega) (by omega) (by simp) ?_; intro A' c' w5 hR; have HR := Lib.hid hR; clear hR)
    go_ret
    have hR := HR.out
    rw [Nat.zero_add, List.nil_append] at hR
    refine ⟨A', c', by simp, hR.own, ?_, ?_⟩
    · exact (Chg.trans' (F := fun k => w.heap.size ≤ k) ((Chg.refl _ w).alloc _) hR.chg (fun k hk he => by cases he; exact Nat.le_refl _)).below (fun _ h => h) (Nat.le_refl _)
    · intro h
      subst h
      exact (own_nil hR.own).2.1
set_option maxRecDepth 100000 in
set_option maxHeartbeats 3200000 in
theorem eparted_any {w : World} {B n c : Nat} {A : Option Addr} {xs : List Value} (hown : w.ownsRow B 35 3 (.slice A n c) n xs) (hx1 : ∀ u ∈ xs, u.oneCell' = true) {i : Nat} (hi : i < n) (hn : n ≤ 1000000) :
    Calls Try.prog 59 #[.slice A n c, .int .i64 i] w fun r w' => ∃ A2 c2, r = .returned (.tuple #[.slice A i c, .slice A2 (n - i) c2]) ∧ RowTo B 35 3 (.slice A n c) w (.slice A i c) i (xs.take (i * 3)) w' ∧ w'.ownsRow w.heap.size 35 3 (.slice A2 (n - i) c2) (n - i) (xs.drop (i * 3)) := by
  obtain ⟨g, rfl⟩ := own_form' hown (by omega)
  obtain ⟨hnc, hcm⟩ := own_caps hown
  unfold maxLen at hcm
  have hxl := hown.1
  have hgl := hown.lt g rfl
  have hcl := eclone_any (w := w) (A := some ⟨g, i * 3, none⟩) (m := n - i) (cc := c - i) (zs := xs.drop (i * 3)) (by rw [List.length_drop, hxl, Nat.sub_mul]) (fun h => by cases h) (fun ad ha j u hu => by
    injection ha with ha
    subst ha
    rw [Addr.add_lit]
    rw [List.getElem?_drop] at hu
    exact (hown.cellAt _ (by have := (List.getElem?_eq_some_iff.1 hu).1; omega)).trans hu) (fun u hu => hx1 u (List.mem_of_mem_drop hu)) (by omega)
  have HC := Lib.hid hcl
  have HD := Lib.hid (fun (w1 : World) (hb : Below w.heap.size w w1) => edel_any (w := w1) (own_chg hown (Chg.of_below (F := Non) hb) fun _ _ h => h) hx1 hi (Nat.le_refl n) hn)
  have H := Lib.hid (And.intro hown (And.intro hxl hgl))
  have a1 : (i : Int) ≤ (n : Int) := by omega
  have a2 : (0 : Int) ≤ (i : Int) := by omega
  have a3 : ¬ (c = i) := by omega
  have a4 : i ≤ n := by omega
  clear hown hx1 hxl hgl hcl
  go_enter Try.func59, Try.ntmps59
  go_wp2_with fail
  refine HC.out.mono ?_
  rintro r w1 ⟨A2, c2, rfl, ho2, hb1, _⟩
  have HO := Lib.hid (And.intro ho2 hb1)
  have HD1 := Lib.hid (HD.out w1 hb1)
  clear ho2 hb1
  go_wp2_with fail
  refine HD1.out.mono ?_
  rintro r w2 ⟨rfl, hR⟩
  have he : n - (n - i) = i := by omega
  have hz : xs.drop (n * 3) = [] := List.drop_eq_nil_of_le (by rw [H.out.2.1]; exact Nat.le_refl _)
  rw [he, hz, List.append_nil] at hR
  have HR := Lib.hid hR
  rw [he]
  clear hR he hz
  go_wp2_with fail
  go_ret2
  refine ⟨A2, c2, rfl, ⟨HR.out.own, fun k hk => (HR.out.blk k hk).imp id fun h => Nat.le_trans HO.out.2.size h, ?_⟩, ?_⟩
  · exact (Chg.of_below (F := fun k => some g = some k) HO.out.2).trans HR.out.chg
  · refine own_chg HO.out.1 HR.out.chg fun k hk he => ?_
    have h1 := (HO.out.1.lt k hk).1
    have h2 : g = k := Option.some.inj he
    have h3 := H.out.2.2.2
    omega
end Go.Proofs.Ytiaclfldgagalaa
