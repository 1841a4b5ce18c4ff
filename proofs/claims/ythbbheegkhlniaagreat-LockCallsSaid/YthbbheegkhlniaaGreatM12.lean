/-
  slices.Insert of one element on a row of one's own.
-/
import Derived.Test.YthbbheegkhlniaaGreatM11
import Derived.Laws.Externs
import Derived.Lib.SliceRun
import Derived.Shelf.Strconv.Clone
import Derived.Deep.CutRange
namespace Go.Proofs.YthbbheegkhlniaaGreat
open Go.RowKit Go.Lib

theorem Chg.undrew {F : Nat → Prop} {w w' : World} (h : Chg F w.drew w') : Chg F w w' := ⟨h.os, h.tape, h.output, h.size, h.block⟩
theorem Blk.shape {w : World} {b : Nat} {t : TypeId} {cs : Array Value} (h : Blk w b t cs) : w.shape? b = some (t, cs.size) := by
  unfold Blk at h
  simp [World.shape?, h]
theorem heap_shape {w : World} {b : Nat} {t : TypeId} {cs : Array Value} (h : w.heap[b]? = some (.cells cs t (0, 0))) : w.shape? b = some (t, cs.size) := Blk.shape h
theorem splice_fill {α : Type} (cur us zs : List α) (p : Nat) (h : p + us.length + zs.length ≤ cur.length) : (splice (splice cur p us) (p + us.length) zs).take (p + us.length + zs.length) = cur.take p ++ us ++ zs := by
  have h1 : (cur.take p ++ us).length = p + us.length := by simp; omega
  have e1 : (splice cur p us).take (p + us.length) = cur.take p ++ us := by
    unfold splice
    rw [← List.append_assoc, ← h1, List.take_left]
  have h2 : (cur.take p ++ us ++ zs).length = p + us.length + zs.length := by rw [List.length_append, h1]
  rw [splice, e1, ← List.append_assoc, ← h2, List.take_left]
theorem splice_shift {α : Type} (cur us zs : List α) (p : Nat) (h : p + us.length + zs.length ≤ cur.length) : (splice (splice cur (p + us.length) zs) p us).take (p + us.length + zs.length) = cur.take p ++ us ++ zs := by
  have h0 : (cur.take (p + us.length)).length = p + us.length := by simp; omega
  have h1 : (cur.take (p + us.length) ++ zs).length = p + us.length + zs.length := by rw [List.length_append, h0]
  have e1 : (splice cur (p + us.length) zs).take p = cur.take p := by
    unfold splice
    rw [List.take_append_of_le_length (by omega), List.take_take, Nat.min_eq_left (by omega)]
  have e2 : (splice cur (p + us.length) zs).drop (p + us.length) = zs ++ cur.drop (p + us.length + zs.length) := by
    unfold splice
    rw [List.drop_append_of_le_length (by omega), List.drop_eq_nil_of_le (by omega), List.nil_append]
  rw [splice, e1, e2]
  have h2 : (cur.take p ++ us ++ zs).length = p + us.length + zs.length := by simp; omega
  rw [show cur.take p ++ (us ++ (zs ++ cur.drop (p + us.length + zs.length))) = (cur.take p ++ us ++ zs) ++ cur.drop (p + us.length + zs.length) by simp, ← h2, List.take_left]

set_option maxRecDepth 100000 in
set_option maxHeartbeats 6400000 in
theorem hins_end {w : World} {B n c : Nat} {A : Option Addr} {xs : List Value} (hown : w.ownsRow B 62 3 (.slice A n c) n xs) (hn : n ≤ 1000000) (hB : B ≤ w.heap.size) {vb : Nat} {us : List Value} (hv : Blk w vb 62 us.toArray) (hul : us.length = 3) (hu1 : ∀ u ∈ us, u.oneCell' = true) :
    Calls Tryz.prog 35 #[.slice A n c, .int .i64 n, .slice (some ⟨vb, 0, none⟩) 1 1] w fun r w' => ∃ A' c', r = .returned (.slice A' (n + 1) c') ∧ RowTo B 62 3 (.slice A n c) w (.slice A' (n + 1) c') (n + 1) (xs ++ us) w' := by
  obtain ⟨i0, hi, hz0, hz1, hz2⟩ := info_parts Tryz.infohd2
  obtain ⟨hnc, hcm⟩ := own_caps hown
  have hcm' := hcm
  unfold maxLen at hcm'
  have hvc : ∀ ad, (some ⟨vb, 0, none⟩ : Option Addr) = some ad → ∀ j u, us[j]? = some u → w.cell? (ad.add j) = some u := by
    intro ad ha j u hu
    injection ha with ha
    subst ha
    rw [Addr.add_lit, Nat.zero_add, hv.cell]
    simpa using hu
  have H := Lib.hid (And.intro hown (And.intro hvc hul))
  have a1 : (0 : Int) ≤ (n : Int) := by omega
  have a2 : (n : Int) ≤ (c : Int) := by omega
  have a3 : ((n : Int) == (n : Int)) = true := by simp
  rcases own_form2 hown with ⟨rfl, rfl, rfl, hx⟩ | ⟨g, rfl⟩
  · have HX := Lib.hid hx
    clear hown hvc hul hx hv hcm hcm' hnc a1 a2 a3
    go_enter Tryz.func35, Tryz.ntmps35
    go_wp2_with (at_builtin; refine wpList_append_row rfl _ _ 46 rfl B 62 i0 (.agg #[.int .i64 0, .int .i64 0, .bool false]) 3 24 Tryz.underlying46 hi hz0 hz1 hz2 rfl (by decide) _ 0 xs H.out.1 (by rfl) (some ⟨vb, 0, none⟩) 1 1 us (by rfl) H.out.2.2 (fun h => by cases h) H.out.2.1 hu1 (by simp [maxLen]) (by omega) hB ?_; intro A' c' w5 hR; have HR := Lib.hid hR; clear hR)
    go_ret
    exact ⟨A', c', rfl, HR.out⟩
  · by_cases hcn : c = n
    · subst hcn
      clear hown hvc hul hv hcm
      go_enter Tryz.func35, Tryz.ntmps35
      go_wp2_with (at_builtin; refine wpList_append_row rfl _ _ 46 rfl B 62 i0 (.agg #[.int .i64 0, .int .i64 0, .bool false]) 3 24 Tryz.underlying46 hi hz0 hz1 hz2 rfl (by decide) _ c xs H.out.1 (by rfl) (some ⟨vb, 0, none⟩) 1 1 us (by rfl) H.out.2.2 (fun h => by cases h) H.out.2.1 hu1 (by simp [maxLen]; omega) (by omega) hB ?_; intro A' c' w5 hR; have HR := Lib.hid hR; clear hR)
      go_ret
      exact ⟨A', c', rfl, HR.out⟩
    · clear hown hvc hul hv hcm
      go_enter Tryz.func35, Tryz.ntmps35
      go_wp2_with (at_builtin; refine wpList_append_row rfl _ _ 46 rfl B 62 i0 (.agg #[.int .i64 0, .int .i64 0, .bool false]) 3 24 Tryz.underlying46 hi hz0 hz1 hz2 rfl (by decide) _ n xs H.out.1 (by rfl) (some ⟨vb, 0, none⟩) 1 1 us (by rfl) H.out.2.2 (fun h => by cases h) H.out.2.1 hu1 (by simp [maxLen]; omega) (by omega) hB ?_; intro A' c' w5 hR; have HR := Lib.hid hR; clear hR)
      go_ret
      exact ⟨A', c', rfl, HR.out⟩

set_option maxRecDepth 100000 in
set_option maxHeartbeats 6400000 in
theorem hins_room {w : World} {B n c g : Nat} {xs : List Value} (hown : w.ownsRow B 62 3 (.slice (some ⟨g, 0, none⟩) n c) n xs) (hx1 : ∀ u ∈ xs, u.oneCell' = true) {i : Nat} (hin : i < n) (hroom : n + 1 ≤ c) (hn : n ≤ 1000000) {vb : Nat} {us : List Value} (hv : Blk w vb 62 us.toArray) (hul : us.length = 3) (hu1 : ∀ u ∈ us, u.oneCell' = true) (hne : vb ≠ g) :
    Calls Tryz.prog 35 #[.slice (some ⟨g, 0, none⟩) n c, .int .i64 i, .slice (some ⟨vb, 0, none⟩) 1 1] w fun r w' => r = .returned (.slice (some ⟨g, 0, none⟩) (n + 1) c) ∧ RowTo B 62 3 (.slice (some ⟨g, 0, none⟩) n c) w (.slice (some ⟨g, 0, none⟩) (n + 1) c) (n + 1) (xs.take (i * 3) ++ us ++ xs.drop (i * 3)) w' := by
  obtain ⟨i0, hi, hz0, hz1, hz2⟩ := info_parts Tryz.infohd2
  obtain ⟨hnc, hcm⟩ := own_caps hown
  have hcm' := hcm
  unfold maxLen at hcm'
  obtain ⟨cur, hg, hBg, _, _, hcl, htk, hxl⟩ := own_cur hown
  have hm : n * 3 ≤ c * 3 := Nat.mul_le_mul_right _ hnc
  have hm1 : (n + 1) * 3 ≤ c * 3 := Nat.mul_le_mul_right _ hroom
  obtain ⟨zs, hzs⟩ : ∃ zs, zs = xs.drop (i * 3) := ⟨_, rfl⟩
  have hzl : zs.length = (n - i) * 3 := by rw [hzs, List.length_drop, hxl, Nat.sub_mul]
  have hz1' : ∀ u ∈ zs, u.oneCell' = true := fun u hu => hx1 u (by rw [hzs] at hu; exact List.mem_of_mem_drop hu)
  have hov : ∀ lb cb, (callFunc 63 #[.slice (some ⟨vb, 0, none⟩) 1 1, .slice (some ⟨g, (i + 1) * 3, none⟩) lb cb]).run Tryz.prog w = .ok (.value (.bool false)) w := fun lb cb => by
    rw [run_callFunc_extern Tryz.func63 (by kernel_rfl) (by kernel_rfl) (by kernel_rfl) (e := Extern.SlicesOverlaps.overlaps #[46, 46] #[4]) (by kernel_rfl),
      run_overlaps_apart w 46 4 62 Tryz.underlying46 3 Tryz.sizeOf62 ⟨vb, 0, none⟩ ⟨g, (i + 1) * 3, none⟩ 1 1 lb cb hne _ _ _ _ (Blk.shape hv) (heap_shape hg) (by rw [List.size_toArray, hcl]; omega) (hv.frozen 0) (hv.frozen _)]
    rfl
  have hcp1 : ∀ ty dc sc, (Builtin.copy_ #[46, 46] ty #[.slice (some ⟨g, (i + 1) * 3, none⟩) (n - i) dc, .slice (some ⟨g, i * 3, none⟩) (n + 1 - i) sc]).run Tryz.prog w.drew = .ok (goInt ((min (n + 1 - i) (n - i) : Nat) : Int)) (w.drew.setRow g (splice cur ((i + 1) * 3) zs).toArray) := fun ty dc sc =>
    run_copy_k w.drew _ _ ty 62 i0 3 Tryz.underlying46 hi hz1 g ((i + 1) * 3) (n - i) dc ⟨g, i * 3, none⟩ (n + 1 - i) sc cur 62 zs hg (by rw [hzl, Nat.min_eq_right (by omega)]) (fun j v hj => by
      rw [Addr.add_lit]
      refine (hown.cellAt (i * 3 + j) ?_).trans ?_
      · have := (List.getElem?_eq_some_iff.1 hj).1; omega
      · rw [hzs, List.getElem?_drop] at hj; exact hj) (by rw [hzl, hcl]; omega) hz1'
  obtain ⟨w5, hw5⟩ : ∃ w5, w5 = w.drew.setRow g (splice cur ((i + 1) * 3) zs).toArray := ⟨_, rfl⟩
  have hg5 : w5.heap[g]? = some (.cells (splice cur ((i + 1) * 3) zs).toArray 62 (0, 0)) := by rw [hw5]; exact setRow_heap w.drew g _ _ _ _ hg
  have hc5 : Chg (fun k => some g = some k) w w5 := by rw [hw5]; exact Chg.undrew (chg_setRow w.drew g _)
  have hv5 : Blk w5 vb 62 us.toArray := hv.chg hc5 (fun e => hne (Option.some.inj e).symm)
  have hl5 : (splice cur ((i + 1) * 3) zs).length = c * 3 := by rw [length_splice _ _ _ (by rw [hcl, hzl]; omega), hcl]
  have hcp2 : ∀ ty dc, (Builtin.copy_ #[46, 46] ty #[.slice (some ⟨g, i * 3, none⟩) (n + 1 - i) dc, .slice (some ⟨vb, 0, none⟩) 1 1]).run Tryz.prog w5 = .ok (goInt ((min 1 (n + 1 - i) : Nat) : Int)) (w5.setRow g (splice (splice cur ((i + 1) * 3) zs) (i * 3) us).toArray) := fun ty dc =>
    run_copy_k w5 _ _ ty 62 i0 3 Tryz.underlying46 hi hz1 g (i * 3) (n + 1 - i) dc ⟨vb, 0, none⟩ 1 1 _ 62 us hg5 (by rw [hul, Nat.min_eq_left (by omega)]) (fun j v hj => by
      rw [Addr.add_lit, Nat.zero_add, hv5.cell]
      simpa using hj) (by rw [hul, hl5]; omega) hu1
  have hfin : RowTo B 62 3 (.slice (some ⟨g, 0, none⟩) n c) w (.slice (some ⟨g, 0, none⟩) (n + 1) c) (n + 1) (xs.take (i * 3) ++ us ++ xs.drop (i * 3)) (w5.setRow g (splice (splice cur ((i + 1) * 3) zs) (i * 3) us).toArray) := by
    refine ⟨own_of_cur (setRow_heap w5 g _ _ _ _ hg5) hBg hroom hcm (by rw [length_splice _ _ _ (by rw [hl5, hul]; omega), hl5]) _ ?_, fun k hk => .inl hk, hc5.setRow (fun _ => rfl) _⟩
    have h1 := splice_shift cur us zs (i * 3) (by rw [hul, hzl, hcl]; omega)
    rw [hul, hzl, show i * 3 + 3 = (i + 1) * 3 by omega, show (i + 1) * 3 + (n - i) * 3 = (n + 1) * 3 by omega] at h1
    rw [h1, ← hzs, ← htk, List.take_take, Nat.min_eq_left (by omega)]
  have HF := Lib.hid hfin
  rw [← hw5] at hcp1
  obtain ⟨w6, hw6⟩ : ∃ w6, w6 = w5.setRow g (splice (splice cur ((i + 1) * 3) zs) (i * 3) us).toArray := ⟨_, rfl⟩
  rw [← hw6] at hcp2 HF
  have HOV := Lib.hid hov
  have HC1 := Lib.hid hcp1
  have HC2 := Lib.hid hcp2
  have b1 : ((i : Int) == (n : Int)) = false := by rw [beq_eq_false_iff_ne]; omega
  have b2 : (0 : Int) ≤ (i : Int) := by omega
  have b3 : (n : Int) + 1 ≤ (c : Int) := by omega
  have b4 : (i : Int) < (n : Int) := by omega
  have b5 : ¬ (c = i) := by omega
  have b6 : ¬ (c = i + 1) := by omega
  have b7 : IntKind.i64.wrap ((i : Int) + 1) = (i : Int) + 1 := by rw [IntKind.wrap_i64]; omega
  have b8 : (0 : Int) ≤ (i : Int) + 1 := by omega
  have b9 : ((i : Int) + 1).toNat = i + 1 := by omega
  have b10 : (i : Int) + 1 ≤ (c : Int) := by omega
  have b11 : (i : Int) ≤ (n : Int) + 1 := by omega
  have b12 : (i : Int) + 1 ≤ (n : Int) + 1 := by omega
  clear hown hx1 hv hu1 hg hBg hcl htk hxl hm hm1 hzl hz1' hov hcp1 hcp2 hg5 hc5 hv5 hl5 hfin hw5 hw6 hul hzs
  go_enter Tryz.func35, Tryz.ntmps35
  go_wp2_with (simp only [HOV.out])
  go_region_law (refine step_copy2 rfl _ _ 46 46 rfl (.slice (some ⟨g, (i + 1) * 3, none⟩) (n - i) (c - (i + 1))) (.slice (some ⟨g, i * 3, none⟩) (n + 1 - i) (c - i)) (by simp [Act.eval, Act.put]) (by simp [Act.eval, Act.put]) (HC1.out _ _ _) ?_)
  all_goals
    have hq := HC2.out 3 (c - i)
    go_wp2_with fail
    go_ret
    exact ⟨rfl, HF.out⟩

set_option maxRecDepth 100000 in
set_option maxHeartbeats 6400000 in
theorem hins_grow {w : World} {B n c g : Nat} {xs : List Value} (hown : w.ownsRow B 62 3 (.slice (some ⟨g, 0, none⟩) n c) n xs) (hx1 : ∀ u ∈ xs, u.oneCell' = true) {i : Nat} (hin : i < n) (hroom : c < n + 1) (hn : n ≤ 1000000) (hB : B ≤ w.heap.size) {vb : Nat} {us : List Value} (hv : Blk w vb 62 us.toArray) (hul : us.length = 3) (hu1 : ∀ u ∈ us, u.oneCell' = true) :
    Calls Tryz.prog 35 #[.slice (some ⟨g, 0, none⟩) n c, .int .i64 i, .slice (some ⟨vb, 0, none⟩) 1 1] w fun r w' => ∃ A' c', r = .returned (.slice A' (n + 1) c') ∧ RowTo B 62 3 (.slice (some ⟨g, 0, none⟩) n c) w (.slice A' (n + 1) c') (n + 1) (xs.take (i * 3) ++ us ++ xs.drop (i * 3)) w' := by
  obtain ⟨i0, hi, hz0, hz1, hz2⟩ := info_parts Tryz.infohd2
  obtain ⟨hnc, hcm⟩ := own_caps hown
  have hcm' := hcm
  unfold maxLen at hcm'
  have hxl := hown.1
  obtain rfl : c = n := by omega
  obtain ⟨q, hq⟩ : ∃ q, q = c + 1 - i := ⟨_, rfl⟩
  obtain ⟨zs, hzs⟩ : ∃ zs, zs = xs.drop (i * 3) := ⟨_, rfl⟩
  have hzl : zs.length = (c - i) * 3 := by rw [hzs, List.length_drop, hxl, Nat.sub_mul]
  have hz1' : ∀ u ∈ zs, u.oneCell' = true := fun u hu => hx1 u (by rw [hzs] at hu; exact List.mem_of_mem_drop hu)
  have hzc : ∀ (W : World), Below w.heap.size w W → ∀ j v, zs[j]? = some v → W.cell? ((⟨g, i * 3, none⟩ : Addr).add j) = some v := fun W hW j v hj => by
    have hlt := (hown.lt g rfl).2
    rw [Addr.add_lit, hW.cell (p := ⟨g, i * 3 + j, none⟩) hlt]
    refine (hown.cellAt (i * 3 + j) ?_).trans ?_
    · have := (List.getElem?_eq_some_iff.1 hj).1; omega
    · rw [hzs, List.getElem?_drop] at hj; exact hj
  obtain ⟨c', cur, hap, hc1, hc2, hcl, htk⟩ := run_append_zeros (P := Tryz.prog) w 46 3 62 i0 (.agg #[.int .i64 0, .int .i64 0, .bool false]) 3 24 Tryz.underlying46 Tryz.underlying3 hi hz0 hz1 hz2 rfl (by decide) (own_first hown (show i ≤ c by omega)) q (by omega) (by omega) (by omega) (by decide)
  have hqe : i + q = c + 1 := by omega
  rw [hqe] at hap hc1
  have hqi : (q : Int) = (c : Int) + 1 - (i : Int) := by omega
  rw [hqi] at hap
  obtain ⟨w4, hw4⟩ : ∃ w4, w4 = w.drew.alloc (.cells cur.toArray 62) := ⟨_, rfl⟩
  have hg4 : w4.heap[w.heap.size]? = some (.cells cur.toArray 62 (0, 0)) := by rw [hw4]; exact heap_alloc_new w.drew _
  have hb4 : Below w.heap.size w w4 := by rw [hw4]; exact ((Below.refl _ w).drew).alloc (Nat.le_refl _) _
  have hv4 := hv.below hb4 hv.lt
  rw [← hw4] at hap
  have hm1 : (c + 1) * 3 ≤ c' * 3 := Nat.mul_le_mul_right _ hc1
  have hcp1 : ∀ ty dc, (Builtin.copy_ #[46, 46] ty #[.slice (some ⟨w.heap.size, i * 3, none⟩) (c + 1 - i) dc, .slice (some ⟨vb, 0, none⟩) 1 1]).run Tryz.prog w4 = .ok (goInt ((min 1 (c + 1 - i) : Nat) : Int)) (w4.setRow w.heap.size (splice cur (i * 3) us).toArray) := fun ty dc =>
    run_copy_k w4 _ _ ty 62 i0 3 Tryz.underlying46 hi hz1 w.heap.size (i * 3) (c + 1 - i) dc ⟨vb, 0, none⟩ 1 1 _ 62 us hg4 (by rw [hul, Nat.min_eq_left (by omega)]) (fun j v hj => by
      rw [Addr.add_lit, Nat.zero_add, hv4.cell]
      simpa using hj) (by rw [hul, hcl]; omega) hu1
  obtain ⟨w5, hw5⟩ : ∃ w5, w5 = w4.setRow w.heap.size (splice cur (i * 3) us).toArray := ⟨_, rfl⟩
  have hg5 : w5.heap[w.heap.size]? = some (.cells (splice cur (i * 3) us).toArray 62 (0, 0)) := by rw [hw5]; exact setRow_heap w4 _ _ _ _ _ hg4
  have hb5 : Below w.heap.size w w5 := by rw [hw5]; exact below_setRow hb4 (Nat.le_refl _) _
  have hl5 : (splice cur (i * 3) us).length = c' * 3 := by rw [length_splice _ _ _ (by rw [hcl, hul]; omega), hcl]
  rw [← hw5] at hcp1
  have hcp2 : ∀ ty dc sc, (Builtin.copy_ #[46, 46] ty #[.slice (some ⟨w.heap.size, (i + 1) * 3, none⟩) (c - i) dc, .slice (some ⟨g, i * 3, none⟩) (c - i) sc]).run Tryz.prog w5.drew = .ok (goInt ((min (c - i) (c - i) : Nat) : Int)) (w5.drew.setRow w.heap.size (splice (splice cur (i * 3) us) ((i + 1) * 3) zs).toArray) := fun ty dc sc =>
    run_copy_k w5.drew _ _ ty 62 i0 3 Tryz.underlying46 hi hz1 w.heap.size ((i + 1) * 3) (c - i) dc ⟨g, i * 3, none⟩ (c - i) sc _ 62 zs hg5 (by rw [hzl, Nat.min_self]) (hzc w5.drew hb5.drew) (by rw [hzl, hl5]; omega) hz1'
  obtain ⟨w6, hw6⟩ : ∃ w6, w6 = w5.drew.setRow w.heap.size (splice (splice cur (i * 3) us) ((i + 1) * 3) zs).toArray := ⟨_, rfl⟩
  have hfin : RowTo B 62 3 (.slice (some ⟨g, 0, none⟩) c c) w (.slice (some ⟨w.heap.size, 0, none⟩) (c + 1) c') (c + 1) (xs.take (i * 3) ++ us ++ xs.drop (i * 3)) w6 := by
    have hb6 : Below w.heap.size w w6 := by rw [hw6]; exact below_setRow hb5.drew (Nat.le_refl _) _
    refine ⟨own_to_lt (B := w.heap.size) (own_of_cur (by rw [hw6]; exact setRow_heap w5.drew _ _ _ _ _ hg5) (Nat.le_refl _) hc1 hc2 (by rw [length_splice _ _ _ (by rw [hl5, hzl]; omega), hl5]) _ ?_) hB, fun k hk => .inr (by cases hk; exact Nat.le_refl _), Chg.of_below hb6⟩
    have h1 := splice_fill cur us zs (i * 3) (by rw [hul, hzl, hcl]; omega)
    rw [hul, hzl, show i * 3 + 3 = (i + 1) * 3 by omega, show (i + 1) * 3 + (c - i) * 3 = (c + 1) * 3 by omega] at h1
    rw [h1, ← hzs, htk]
  rw [← hw6] at hcp2
  have HF := Lib.hid hfin
  have HA := Lib.hid hap
  have HC1 := Lib.hid hcp1
  have HC2 := Lib.hid hcp2
  obtain ⟨gn, hgn⟩ : ∃ gn, gn = w.heap.size := ⟨_, rfl⟩
  rw [← hgn] at HF HA HC1 HC2
  have b1 : ((i : Int) == (c : Int)) = false := by rw [beq_eq_false_iff_ne]; omega
  have b2 : (0 : Int) ≤ (i : Int) := by omega
  have b3 : (c : Int) < (c : Int) + 1 := by omega
  have b4 : (i : Int) < (c : Int) := by omega
  have b5 : ¬ (c = i) := by omega
  have b6 : ¬ (c' = i + 1) := by omega
  have b7 : IntKind.i64.wrap ((i : Int) + 1) = (i : Int) + 1 := by rw [IntKind.wrap_i64]; omega
  have b8 : (0 : Int) ≤ (i : Int) + 1 := by omega
  have b9 : ((i : Int) + 1).toNat = i + 1 := by omega
  have b11 : (i : Int) ≤ (c : Int) + 1 := by omega
  have b12 : (i : Int) + 1 ≤ (c : Int) + 1 := by omega
  have b13 : ¬ (c' = i) := by omega
  have b14 : (c : Int) + 1 ≤ (c' : Int) := by omega
  have b15 : (c' : Int) ≤ 9223372036854775807 := by unfold maxLen at hc2; omega
  have b16 : i ≤ c := by omega
  clear hown hx1 hv hu1 hcl htk hxl hm1 hzl hz1' hcp1 hcp2 hg5 hl5 hfin hw5 hw6 hul hzs hap hzc hqe hqi hg4 hb4 hv4 hb5 hw4 hq hc2 hgn hcm hB
  go_enter Tryz.func35, Tryz.ntmps35
  go_wp2_with (at_builtin; refine wpList_append2 _ rfl _ _ 46 3 rfl _ _ (by rfl) (by rfl) (HA.out _) ?_; have hq := HC1.out 3 (c' - i))
  go_region_law (refine step_copy2 rfl _ _ 46 46 rfl (.slice (some ⟨gn, (i + 1) * 3, none⟩) (c - i) (c' - (i + 1))) (.slice (some ⟨g, i * 3, none⟩) (c - i) (c - i)) (by simp [Act.eval, Act.put]) (by simp [Act.eval, Act.put]) (HC2.out _ _ _) ?_)
  all_goals
    go_wp2_with fail
    go_ret
    exact ⟨_, _, rfl, HF.out⟩
/-- slices.Insert of one element -/
theorem hins_any {w : World} {B n c : Nat} {A : Option Addr} {xs : List Value} (hown : w.ownsRow B 62 3 (.slice A n c) n xs) (hx1 : ∀ u ∈ xs, u.oneCell' = true) {i : Nat} (hi : i ≤ n) (hn : n ≤ 1000000) (hB : B ≤ w.heap.size) {vb : Nat} {us : List Value} (hv : Blk w vb 62 us.toArray) (hul : us.length = 3) (hu1 : ∀ u ∈ us, u.oneCell' = true) (hne : (Value.slice A n c).ownBlock ≠ some vb) :
    Calls Tryz.prog 35 #[.slice A n c, .int .i64 i, .slice (some ⟨vb, 0, none⟩) 1 1] w fun r w' => ∃ A' c', r = .returned (.slice A' (n + 1) c') ∧ RowTo B 62 3 (.slice A n c) w (.slice A' (n + 1) c') (n + 1) (xs.take (i * 3) ++ us ++ xs.drop (i * 3)) w' := by
  have hxl := hown.1
  rcases Nat.lt_or_ge i n with h | h
  · obtain ⟨g, rfl⟩ := own_form' hown (by omega)
    rcases Nat.lt_or_ge c (n + 1) with hr | hr
    · exact hins_grow hown hx1 h hr hn hB hv hul hu1
    · exact (hins_room hown hx1 h hr hn hv hul hu1 (fun e => hne (by rw [e]; rfl))).mono fun r w' h => ⟨_, _, h⟩
  · obtain rfl : i = n := by omega
    have h1 : xs.take (i * 3) = xs := List.take_of_length_le (by omega)
    have h2 : xs.drop (i * 3) = [] := List.drop_eq_nil_of_le (by omega)
    rw [h1, h2, List.append_nil]
    exact hins_end hown hn hB hv hul hu1
end Go.Proofs.YthbbheegkhlniaaGreat

/-
  slices.Clone of things, slices.Grow and slices.Concat of locks.
-/
namespace Go.Proofs.YthbbheegkhlniaaGreat
open Go.RowKit Go.Lib

set_option maxRecDepth 100000 in
set_option maxHeartbeats 3200000 in
theorem cloneT_any {w : World} {A : Option Addr} {m cc : Nat} {zs : List Value} (hl : zs.length = m * 3) (hA : A = none → m = 0) (hc : ∀ ad, A = some ad → ∀ j u, zs[j]? = some u → w.cell? (ad.add j) = some u) (h1 : ∀ u ∈ zs, u.oneCell' = true) (hm : m ≤ 1000000) :
    Calls Tryz.prog 58 #[.slice A m cc] w fun r w' => ∃ A' c', r = .returned (.slice A' m c') ∧ w'.ownsRow w.heap.size 32 3 (.slice A' m c') m zs ∧ Below w.heap.size w w' ∧ (A' = none → c' = 0) := by
  obtain ⟨i0, hi, hz0, hz1, hz2⟩ := info_parts Tryz.infothing
  have hq := fun (w : World) (a : Option Addr) (n c n' c' : Nat) => Lib.run_eql_slice_nil (P := Tryz.prog) w 49 32 a n c n' c' Tryz.underlying49
  rcases A with _ | ad
  · have hm0 := hA rfl
    subst hm0
    have hz : zs = [] := List.eq_nil_of_length_eq_zero (by omega)
    have HZ := Lib.hid hz
    clear hz hl hA hc h1
    go_enter Tryz.func58, Tryz.ntmps58
    go_wp2_with fail
    go_ret
    exact ⟨none, 0, rfl, by rw [HZ.out]; exact World.ownsRow_nil _ _ _ _, Below.refl _ _, fun _ => rfl⟩
  · have ho : (w.alloc (.cells #[] 32)).ownsRow w.heap.size 32 3 (.slice (some ⟨w.heap.size, 0, none⟩) 0 0) 0 [] := by
      have h9 := World.ownsRow_lit (base := w.heap.size) (size := 3) (e := 32) w #[] 0 (by simp) (by simp [maxLen]) (by simp)
      exact h9
    have H := Lib.hid (And.intro ho (And.intro hl (fun ad' (ha : some ad = some ad') j u (hu : zs[j]? = some u) => (show (w.alloc (.cells #[] 32)).cell? (ad'.add j) = some u from Lib.cell?_alloc_some _ (hc ad' ha j u hu)))))
    clear ho hl hA hc
    go_enter Tryz.func58, Tryz.ntmps58
    go_wp2_with (at_builtin; refine wpList_append_row rfl _ _ 49 rfl w.heap.size 32 i0 (.agg #[.int .i64 0, .string ⟨#[]⟩, .string ⟨#[]⟩]) 3 40 Tryz.underlying49 hi hz0 hz1 hz2 rfl (by decide) _ 0 [] H.out.1 (by rfl) (some ad) m cc zs (by rfl) H.out.2.1 (fun h => by cases h) H.out.2.2 h1 (by simp [maxLen]; omega) (by omega) (by simp) ?_; intro A' c' w5 hR; have HR := Lib.hid hR; clear hR)
    go_ret
    have hR := HR.out
    rw [Nat.zero_add, List.nil_append] at hR
    refine ⟨A', c', by simp, hR.own, ?_, ?_⟩
    · exact (Chg.trans' (F := fun k => w.heap.size ≤ k) ((Chg.refl _ w).alloc _) hR.chg (fun k hk he => by cases he; exact Nat.le_refl _)).below (fun _ h => h) (Nat.le_refl _)
    · intro h
      subst h
      exact (own_nil hR.own).2.1
set_option maxRecDepth 100000 in
set_option maxHeartbeats 3200000 in
/-- slices.Grow of nothing -/
theorem grow0_any (w : World) (n : Nat) (hn : n ≤ 1000000) :
    Calls Tryz.prog 74 #[.slice none 0 0, .int .i64 n] w fun r w' => ∃ A c, r = .returned (.slice A 0 c) ∧ w'.ownsRow w.heap.size 62 3 (.slice A 0 c) 0 [] ∧ Below w.heap.size w w' := by
  obtain ⟨i0, hi, hz0, hz1, hz2⟩ := info_parts Tryz.infohd2
  have hn0 : (0 : Int) ≤ (n : Int) := Int.natCast_nonneg _
  by_cases h0 : n = 0
  · subst h0
    clear hi hz0 hz1 hz2
    go_enter Tryz.func74, Tryz.ntmps74
    go_wp2_with fail
    go_ret
    exact ⟨none, 0, rfl, World.ownsRow_nil _ _ _ _, Below.refl _ _⟩
  · have hpos : (0 : Int) < (n : Int) := by omega
    have hap := fun ty => run_append_grow_zeros (P := Tryz.prog) w 46 3 ty 62 i0 (.agg #[.int .i64 0, .int .i64 0, .bool false]) .i64 .i64 Tryz.underlying46 Tryz.underlying3 hi hz0 none 0 0 [] (run_firstCells_none _ _ _ _ _) n (by omega) (by omega) (by omega) (by omega) (by rw [hz2]; omega) (by rw [hz2]; exact growslice_fits (by omega) (by omega))
    have hge := grownCap_ge w (0 + n) 0 62
    have hle := grownCap_le_maxLen w (0 + n) 0 62 (by unfold maxLen; omega)
    obtain ⟨c', hc'⟩ : ∃ c', c' = grownCap w (0 + n) 0 62 := ⟨_, rfl⟩
    obtain ⟨cur, hcur⟩ : ∃ cur : Array Value, cur = ([] : List Value).toArray ++ Builtin.zeroCells (Value.agg #[.int .i64 0, .int .i64 0, .bool false]).cells n ++ Builtin.zeroCells (Value.agg #[.int .i64 0, .int .i64 0, .bool false]).cells (c' - (0 + n)) := ⟨_, rfl⟩
    rw [← hc'] at hap hge hle
    rw [← hcur, Nat.zero_add] at hap
    have hsz : cur.size = c' * 3 := by
      rw [hcur]
      simp only [Array.size_append, size_zeroCells, List.size_toArray, List.length_nil, Nat.zero_add, ← Nat.add_mul]
      show (n + (c' - n)) * 3 = _
      congr 1
      omega
    obtain ⟨w1, hw1⟩ : ∃ w1, w1 = w.drew.alloc (.cells cur 62) := ⟨_, rfl⟩
    rw [← hw1] at hap
    have hb1 : Below w.heap.size w w1 := by rw [hw1]; exact ((Below.refl _ w).drew).alloc (Nat.le_refl _) _
    have hg1 : w1.heap[w.heap.size]? = some (.cells cur.toList.toArray 62 (0, 0)) := by rw [hw1]; simpa using heap_alloc_new w.drew (.cells cur 62)
    have ho := own_of_cur (B := w.heap.size) (m := 0) hg1 (Nat.le_refl _) (Nat.zero_le c') hle (by simpa using hsz) [] (by simp)
    obtain ⟨gn, hgn⟩ : ∃ gn, gn = w.heap.size := ⟨_, rfl⟩
    have H := Lib.hid (And.intro ho hb1)
    rw [← hgn] at hap
    have HG := Lib.hid hgn
    have HA := Lib.hid hap
    have hn3 : (n : Int) ≤ (c' : Int) := by omega
    have hc2 : (c' : Int) ≤ 9223372036854775807 := by unfold maxLen at hle; omega
    have hc3 : ¬ c' = 0 := by omega
    clear hap hge hle hcur hsz hb1 hg1 ho hw1 hc' hgn hi hz0 hz1 hz2
    go_enter Tryz.func74, Tryz.ntmps74
    go_wp2_with (at_builtin; refine wpList_append2 _ rfl _ _ 46 3 rfl _ _ (by rfl) (by rfl) (HA.out _) ?_)
    go_ret
    exact ⟨_, c', rfl, by rw [HG.out]; exact H.out.1, H.out.2⟩
structure CoS (w0 w : World) (v : Value) (m : Nat) (l : List Hd) : Prop where
  low : Below w0.heap.size w0 w
  own : w.ownsRow w0.heap.size 62 3 v m (heldV l)
  len : m = l.length
theorem CoS.step {w0 w w' : World} {v v' : Value} {m m' : Nat} {l k : List Hd} (h : CoS w0 w v m l) (hR : RowTo w0.heap.size 62 3 v w v' m' (heldV l ++ heldV k) w') (hm : m' = m + k.length) : CoS w0 w' v' m' (l ++ k) :=
  ⟨h.low.trans (hR.chg.below (fun q hq => (h.own.lt q hq).1) h.low.size), by rw [heldV_append]; exact hR.own, by rw [hm, h.len, List.length_append]⟩
theorem RowG.src {w : World} {B : Nat} {A : Option Addr} {l : List Hd} (h : RowG heldC 3 w B A l) : ∀ ad, A = some ad → ∀ j u, (heldV l)[j]? = some u → w.cell? (ad.add j) = some u := fun ad ha j u hu => by
  have hj : j < l.length * 3 := by have := (List.getElem?_eq_some_iff.1 hu).1; rwa [heldV_len] at this
  have hi : j / 3 < l.length := by omega
  have h1 := flat_cell (cell := heldC) (S := 3) (fun _ => rfl) l (j / 3) (j % 3) hi (by omega)
  rw [show j / 3 * 3 + j % 3 = j by omega] at h1
  have hu2 : (l.flatMap heldC)[j]? = some u := hu
  obtain ⟨ad', e, hc⟩ := h.cell (j / 3) hi (j % 3) u (h1.symm.trans hu2)
  rw [ha] at e
  obtain rfl := Option.some.inj e
  rw [show j / 3 * 3 + j % 3 = j by omega] at hc
  exact hc
theorem RowG.nil_len {w : World} {B : Nat} {A : Option Addr} {l : List Hd} (h : RowG heldC 3 w B A l) (hA : A = none) : l.length = 0 := by
  rcases Nat.eq_zero_or_pos l.length with h0 | h0
  · exact h0
  · obtain ⟨ad, e, _⟩ := h.lo h0
    rw [hA] at e
    cases e
set_option maxRecDepth 100000 in
set_option maxHeartbeats 12800000 in
/-- slices.Concat of two rows -/
theorem concat_any {w : World} {sb : Nat} {A1 A2 : Option Addr} {c1 c2 n1 n2 : Nat} {l1 l2 : List Hd} (hsb : sb < w.heap.size) (hc0 : w.cell? ⟨sb, 0, none⟩ = some (.slice A1 n1 c1)) (hc1 : w.cell? ⟨sb, 1, none⟩ = some (.slice A2 n2 c2)) (h1 : RowG heldC 3 w w.heap.size A1 l1) (h2 : RowG heldC 3 w w.heap.size A2 l2) (hn1 : n1 = l1.length) (hn2 : n2 = l2.length) (hl1 : l1.length ≤ 400000) (hl2 : l2.length ≤ 400000) :
    Calls Tryz.prog 51 #[.slice (some ⟨sb, 0, none⟩) 2 2] w fun r w' => ∃ A n c, r = .returned (.slice A n c) ∧ n = (l1 ++ l2).length ∧ w'.ownsRow w.heap.size 62 3 (.slice A n c) n (heldV (l1 ++ l2)) ∧ Below w.heap.size w w' := by
  obtain ⟨i0, hi, hz0, hz1, hz2⟩ := info_parts Tryz.infohd2
  have hi1 : (0 : Int) ≤ (n1 : Int) := Int.natCast_nonneg _
  have hi2 : (0 : Int) ≤ (n2 : Int) := Int.natCast_nonneg _
  have hn1' : n1 ≤ 400000 := by omega
  have hn2' : n2 ≤ 400000 := by omega
  have H := Lib.hid (And.intro hsb (And.intro hc0 (And.intro hc1 (And.intro h1 (And.intro h2 (And.intro hn1 hn2))))))
  clear h1 h2 hn1 hn2 hl1 hl2
  go_enter Tryz.func51, Tryz.ntmps51
  go_wp2_with fail
  go_loopw [3, 5, 11] (fun sv _ iv wr => ∃ k s : Nat, k ≤ 2 ∧ iv = .int .i64 k ∧ sv = .int .i64 s ∧ wr = w ∧ s = (if k = 0 then 0 else if k = 1 then n1 else n1 + n2)) (fun _ _ iv _ => 2 - (intOf iv).toNat)
  case atStart => exact ⟨0, 0, by omega, rfl, rfl, rfl, rfl⟩
  case round =>
    obtain ⟨k, s, hk, rfl, rfl, hwr, hs⟩ := hrel
    subst wr
    have hk3 : k = 0 ∨ k = 1 ∨ k = 2 := by omega
    rcases hk3 with rfl | rfl | rfl
    · simp at hs
      subst hs
      go_wp2_with fail
      go_roundw
      case rel => exact ⟨1, n1, by omega, by go_num, by go_num, by first | rfl | trivial, rfl⟩
      case measure => simp [intOf]
    · simp at hs
      subst hs
      go_wp2_with fail
      go_roundw
      case rel => exact ⟨2, s + n2, by omega, by go_num, by go_num, by first | rfl | trivial, rfl⟩
      case measure => simp [intOf]
    · simp at hs
      have hs9 : s ≤ 1000000 := by omega
      have hs0 : (0 : Int) ≤ (s : Int) := Int.natCast_nonneg _
      have HS := Lib.hid hs
      clear hs
      go_wp2_with (go_at_call 74; refine (grow0_any _ s hs9).mono ?_; rintro e w2 ⟨A0, c0, rfl, ho, hb⟩; have H2 := Lib.hid (show CoS w w2 (.slice A0 0 c0) 0 [] from ⟨hb, ho, rfl⟩); clear ho hb)
      go_loopw [6, 8, 27] (fun v _ iv wr => ∃ (k m : Nat) (A : Option Addr) (c : Nat), k ≤ 2 ∧ iv = .int .i64 k ∧ v = .slice A m c ∧ CoS w wr (.slice A m c) m (if k = 0 then [] else if k = 1 then l1 else l1 ++ l2)) (fun _ _ iv _ => 2 - (intOf iv).toNat)
      case atStart => exact ⟨0, 0, A0, c0, by omega, rfl, rfl, H2.out⟩
      case round =>
        obtain ⟨k, m, A, c, hk, rfl, rfl, hC⟩ := hrel
        have e0 := (hC.low.cell (p := ⟨sb, 0, none⟩) H.out.1).trans H.out.2.1
        have e1 := (hC.low.cell (p := ⟨sb, 1, none⟩) H.out.1).trans H.out.2.2.1
        have HC := Lib.hid hC
        clear hC
        have hk3 : k = 0 ∨ k = 1 ∨ k = 2 := by omega
        rcases hk3 with rfl | rfl | rfl
        · have hC := HC.out
          simp only [↓reduceIte] at hC
          have HC0 := Lib.hid hC
          have hm0 : m = 0 := hC.len
          subst hm0
          clear hC
          have hsrc := (H.out.2.2.2.1.below HC0.out.low (Nat.le_refl _)).src
          go_wp2_with (at_builtin; refine wpList_append_row rfl _ _ 46 rfl w.heap.size 62 i0 (.agg #[.int .i64 0, .int .i64 0, .bool false]) 3 24 Tryz.underlying46 hi hz0 hz1 hz2 rfl (by decide) _ 0 _ HC0.out.own (by rfl) A1 n1 c1 (heldV l1) (by rfl) (by rw [heldV_len, H.out.2.2.2.2.2.1]) (fun h => by rw [H.out.2.2.2.2.2.1]; exact H.out.2.2.2.1.nil_len h) hsrc (fun u hu => by obtain ⟨x, _, hx⟩ := List.mem_flatMap.1 hu; exact heldC_one x u hx) (by simp [maxLen]; omega) (by omega) HC0.out.low.size ?_; intro AX cX wX hRX; have HX := Lib.hid (HC0.out.step hRX (by rw [H.out.2.2.2.2.2.1])); clear hRX)
          go_roundw
          case rel =>
            have hX := HX.out
            rw [Nat.zero_add, List.nil_append] at hX
            exact ⟨1, n1, AX, cX, by omega, by go_num, by simp, hX⟩
          case measure => simp [intOf]
        · have hC := HC.out
          simp only [Nat.one_ne_zero, ↓reduceIte] at hC
          have HC0 := Lib.hid hC
          have hm0 : m = n1 := by rw [hC.len, H.out.2.2.2.2.2.1]
          subst hm0
          clear hC
          have hsrc := (H.out.2.2.2.2.1.below HC0.out.low (Nat.le_refl _)).src
          go_wp2_with (at_builtin; refine wpList_append_row rfl _ _ 46 rfl w.heap.size 62 i0 (.agg #[.int .i64 0, .int .i64 0, .bool false]) 3 24 Tryz.underlying46 hi hz0 hz1 hz2 rfl (by decide) _ m _ HC0.out.own (by rfl) A2 n2 c2 (heldV l2) (by rfl) (by rw [heldV_len, H.out.2.2.2.2.2.2]) (fun h => by rw [H.out.2.2.2.2.2.2]; exact H.out.2.2.2.2.1.nil_len h) hsrc (fun u hu => by obtain ⟨x, _, hx⟩ := List.mem_flatMap.1 hu; exact heldC_one x u hx) (by simp [maxLen]; omega) (by omega) HC0.out.low.size ?_; intro AX cX wX hRX; have HX := Lib.hid (HC0.out.step hRX (by rw [H.out.2.2.2.2.2.2])); clear hRX)
          go_roundw
          case rel => exact ⟨2, _, AX, cX, by omega, by go_num, rfl, HX.out⟩
          case measure => simp [intOf]
        · have hC := HC.out
          simp at hC
          have HC0 := Lib.hid hC
          clear hC
          go_wp2_with fail
          go_ret
          exact ⟨A, m, c, rfl, HC0.out.len, HC0.out.own, HC0.out.low⟩
end Go.Proofs.YthbbheegkhlniaaGreat

/-
  The program's locks: a thing's line.
-/
namespace Go.Proofs.YthbbheegkhlniaaGreat
open Go.RowKit Go.Lib Go.Shelf Go.Maps

theorem clone_any (s : ByteArray) (w : World) (hs : s.size ≤ 281474976710656) : Calls Tryz.prog 78 #[.string s] w fun e w' => e = .returned (.string s) ∧ Below w.heap.size w w' :=
  Any.stringslite_Clone Tryz.laysClone s w hs
set_option maxRecDepth 100000 in
theorem clone2_any (s : ByteArray) (w : World) (hs : s.size ≤ 281474976710656) : Calls Tryz.prog 59 #[.string s] w fun e w' => e = .returned (.string s) ∧ Below w.heap.size w w' := by
  have HC := Lib.hid (clone_any s w (by omega))
  clear hs
  go_enter Tryz.func59, Tryz.ntmps59
  go_wp2_with fail
  refine HC.out.mono ?_
  rintro r w1 ⟨rfl, hb⟩
  have HB := Lib.hid hb
  clear hb
  go_wp2_with fail
  go_ret
  exact ⟨rfl, HB.out⟩
/-- how many keys the maps have at most -/
structure Bnd (N : Nat) (S : Sx) : Prop where
  a : ∃ l : List Th, l.length ≤ N ∧ ∀ t, (f0 S.ls t).isSome = true → t ∈ l
  b : ∃ l : List Int, l.length ≤ N ∧ ∀ x, (S.tf x).isSome = true → x ∈ l
  c : ∃ l : List Int, l.length ≤ N ∧ ∀ x, (f2 S.wn x).isSome = true → x ∈ l
theorem mem_upd {κ : Type} [DecidableEq κ] {β : Type} {f : κ → Option β} {x : κ} {u : Option β} {l : List κ} {N : Nat} (hl : l.length ≤ N) (h : ∀ y, (f y).isSome = true → y ∈ l) : ∃ l' : List κ, l'.length ≤ N + 1 ∧ ∀ y, (upd f x u y).isSome = true → y ∈ l' := by
  refine ⟨x :: l, by simp; omega, fun y hy => ?_⟩
  by_cases e : y = x
  · rw [e]; exact List.mem_cons_self
  · rw [upd_other _ _ e] at hy
    exact List.mem_cons_of_mem _ (h y hy)
theorem mem_upd_none {κ : Type} [DecidableEq κ] {β : Type} {f : κ → Option β} {x : κ} {l : List κ} (h : ∀ y, (f y).isSome = true → y ∈ l) : ∀ y, (upd f x none y).isSome = true → y ∈ l := fun y hy => by
  by_cases e : y = x
  · rw [e, upd_same] at hy; cases hy
  · rw [upd_other _ _ e] at hy
    exact h y hy
theorem Bnd.mono {N M : Nat} {S : Sx} (h : Bnd N S) (hM : N ≤ M) : Bnd M S := by
  obtain ⟨⟨l, h1, h2⟩, ⟨k, h3, h4⟩, ⟨m, h5, h6⟩⟩ := h
  exact ⟨⟨l, by omega, h2⟩, ⟨k, by omega, h4⟩, ⟨m, by omega, h6⟩⟩
theorem zero_ptr (w : World) : (zeroValue 59).run Tryz.prog w = .ok (.pointer none) w := by kernel_rfl
theorem zero_sl (w : World) : (zeroValue 49).run Tryz.prog w = .ok nilS w := by kernel_rfl
theorem zero_want (w : World) : (zeroValue 34).run Tryz.prog w = .ok (.agg #[.int .i64 0, .string ⟨#[]⟩, .string ⟨#[]⟩, .int .i64 0]) w := by kernel_rfl
theorem iV_inj (x y : Int) (h : iV x = iV y) : x = y := by injection h
section
variable {B tb : Nat} {D : Nat → Prop} {w : World} {S : Sx}
theorem Mm.look0 (h : Mm B D w tb S) {t : Th} (hk : t.Key) : (Instr.lookup 52 (.map (some S.m0)) (.agg #[.int .i64 t.k, .string t.t, .string t.y]) true).run Tryz.prog w = .ok (.tuple #[((S.ls t).map pt).getD (.pointer none), .bool (S.ls t).isSome]) w := by
  obtain ⟨kl, hkl⟩ := th_key t hk
  have h1 := h.k0.look_ok thK Tryz.underlying52 (zero_ptr w) hkl
  rw [show (f0 S.ls t).isSome = (S.ls t).isSome by unfold f0; simp] at h1
  exact h1
theorem Mm.look0n (h : Mm B D w tb S) {t : Th} (hk : t.Key) : (Instr.lookup 52 (.map (some S.m0)) (.agg #[.int .i64 t.k, .string t.t, .string t.y]) false).run Tryz.prog w = .ok (((S.ls t).map pt).getD (.pointer none)) w := by
  obtain ⟨kl, hkl⟩ := th_key t hk
  exact h.k0.look thK Tryz.underlying52 (zero_ptr w) hkl
theorem Mm.look1 (h : Mm B D w tb S) {x : Int} (hx : NumI x) : (Instr.lookup 53 (.map (some S.m1)) (.int .i64 x) false).run Tryz.prog w = .ok ((S.tf x).getD nilS) w :=
  h.k1.look intK Tryz.underlying53 (zero_sl w) hx.key
def waV (q : Option (Th × Int)) : Value := match q with
  | some q => wantV q.1 q.2
  | none => .agg #[.int .i64 0, .string ⟨#[]⟩, .string ⟨#[]⟩, .int .i64 0]
theorem Mm.look2 (h : Mm B D w tb S) {x : Int} (hx : NumI x) : (Instr.lookup 54 (.map (some S.m2)) (.int .i64 x) true).run Tryz.prog w = .ok (.tuple #[waV (S.wn x), .bool (S.wn x).isSome]) w := by
  have h1 := h.k2.look_ok intK Tryz.underlying54 (zero_want w) hx.key
  have e1 : (f2 S.wn x).isSome = (S.wn x).isSome := by unfold f2; simp
  have e2 : (f2 S.wn x).getD (.agg #[.int .i64 0, .string ⟨#[]⟩, .string ⟨#[]⟩, .int .i64 0]) = waV (S.wn x) := by
    unfold f2 waV
    cases S.wn x <;> rfl
  rw [e1, e2] at h1
  exact h1
end
/-- locks alike but for a line that may be new -/
structure Alike (S S' : Sx) : Prop where
  h : S'.h = S.h
  v : S'.v = S.v
  tg : S'.tg = S.tg
  wn : S'.wn = S.wn
/-- what a call that changes them leaves -/
def MTo (B tb : Nat) (D : Nat → Prop) (w w' : World) (S' : Sx) : Prop := Mm B (Ext D w w') w' tb S' ∧ Chg D w w'
theorem MTo.same {B tb : Nat} {D : Nat → Prop} {w w' : World} {S : Sx} (h : Mm B D w tb S) (hb : Below w.heap.size w w') (hB : B ≤ w.heap.size) : MTo B tb D w w' S := ⟨h.up hb hB, Chg.of_below hb⟩
theorem MTo.trans {B tb : Nat} {D : Nat → Prop} {w w2 w3 : World} {S2 S3 : Sx} (h : MTo B tb D w w2 S2) (k : MTo B tb (Ext D w w2) w2 w3 S3) (hf : ∀ k, D k → B ≤ k) (hB : B ≤ w.heap.size) : MTo B tb D w w3 S3 := by
  have s2 := h.2.size
  have s3 := k.2.size
  refine ⟨k.1.more (fun q hq => ?_) fun q hq => ?_, h.2.trans' k.2 fun q hq hk => hk.elim id fun hk => by omega⟩
  · rcases hq with (hq | hq) | hq
    · exact .inl hq
    · exact .inr ⟨hq.1, by omega⟩
    · exact .inr ⟨by omega, hq.2⟩
  · rcases hq with hq | hq
    · exact ⟨hf q hq, (k.1.foot q (.inl (.inl hq))).2⟩
    · exact ⟨by omega, hq.2⟩
theorem MTo.low {B tb : Nat} {D : Nat → Prop} {w wr w' : World} {S : Sx} (hb : Below w.heap.size w wr) (hD : ∀ q, D q → B ≤ q ∧ q < w.heap.size) (hB : B ≤ w.heap.size) (k : MTo B tb D wr w' S) : MTo B tb D w w' S := by
  have s1 := hb.size
  have s2 := k.2.size
  exact ⟨k.1.more (fun q hq => hq.elim .inl fun hq => .inr ⟨by omega, hq.2⟩) fun q hq => hq.elim (fun hq => ⟨(hD q hq).1, by have := (hD q hq).2; omega⟩) fun hq => ⟨by omega, hq.2⟩, (Chg.of_below hb).trans' k.2 fun q _ hq => hq⟩
theorem MTo.below {B tb : Nat} {D : Nat → Prop} {w w' w2 : World} {S : Sx} (h : MTo B tb D w w' S) (hB : B ≤ w.heap.size) (hb : Below w'.heap.size w' w2) : MTo B tb D w w2 S :=
  ⟨(h.1.below hb).more (fun q hq => hq.elim .inl fun hq => .inr ⟨hq.1, Nat.lt_of_lt_of_le hq.2 hb.size⟩) fun q hq => by
    have s := hb.size
    have s2 := h.2.size
    rcases hq with hq | hq
    · have := h.1.foot q (.inl hq); omega
    · omega, h.2.trans' (Chg.of_below (F := D) hb) fun _ _ hk => hk⟩
/-- the thing's box while its texts are made anew -/
structure Lr (w1 w' : World) (b0 : Nat) (t : Th) : Prop where
  chg : Chg (fun q => q = b0) w1 w'
  blk : Blk w' b0 32 #[.int .i64 t.k, .string t.t, .string t.y]
theorem Lr.below {w1 w' w2 : World} {b0 : Nat} {t : Th} (h : Lr w1 w' b0 t) (hb : Below w'.heap.size w' w2) : Lr w1 w2 b0 t :=
  ⟨h.chg.trans' (Chg.of_below (F := fun q => q = b0) hb) fun _ _ hk => hk, h.blk.below hb h.blk.lt⟩
theorem Lr.set1 {w1 w' : World} {b0 : Nat} {t : Th} (h : Lr w1 w' b0 t) : Lr w1 (w'.setCell ⟨b0, 1, none⟩ (.string t.t)) b0 t :=
  ⟨h.chg.setCell (fun _ => rfl) _, h.blk.put 1 _⟩
theorem Lr.set2 {w1 w' : World} {b0 : Nat} {t : Th} (h : Lr w1 w' b0 t) : Lr w1 (w'.setCell ⟨b0, 2, none⟩ (.string t.y)) b0 t :=
  ⟨h.chg.setCell (fun _ => rfl) _, h.blk.put 2 _⟩
theorem Lr.s {w1 w' : World} {b0 : Nat} {t : Th} (h : Lr w1 w' b0 t) : w'.cell? ⟨b0, 1, none⟩ = some (.string t.t) ∧ w'.cell? ⟨b0, 2, none⟩ = some (.string t.y) := ⟨h.blk.cell 1, h.blk.cell 2⟩
set_option maxRecDepth 100000 in
set_option maxHeartbeats 12800000 in
theorem line_any {B tb N : Nat} {D : Nat → Prop} {w : World} {S : Sx} (h : Mm B D w tb S) (hB : B ≤ w.heap.size) (t : Th) (hk : t.Key) (hs1 : t.t.size ≤ 281474976710656) (hs2 : t.y.size ≤ 281474976710656) (hN : Bnd N S) (hN9 : N ≤ 900000000) (h0 : S.ls t = none → S.h t = [] ∧ S.v t = []) :
    Calls Tryz.prog 28 #[pt tb, .agg #[.int .i64 t.k, .string t.t, .string t.y]] w fun r w' => ∃ b S', r = .returned (pt b) ∧ MTo B tb D w w' S' ∧ S'.ls t = some b ∧ Alike S S' ∧ (∀ t', t' ≠ t → S'.ls t' = S.ls t') ∧ Bnd (N + 1) S' := by
  obtain ⟨w1, hw1⟩ : ∃ w1, w1 = w.alloc (.cells #[.int .i64 t.k, .string t.t, .string t.y] 32) := ⟨_, rfl⟩
  obtain ⟨hT, hB1⟩ := tg_new w t
  rw [← hw1] at hT hB1
  have HS := Lib.hid (show ∀ w', Below w1.heap.size w1 w' → w'.cell? ⟨tb, 0, none⟩ = some (.map (some S.m0)) ∧ w'.cell? ⟨w.heap.size, 0, none⟩ = some (.int .i64 t.k) ∧ w'.cell? ⟨w.heap.size, 1, none⟩ = some (.string t.t) ∧ w'.cell? ⟨w.heap.size, 2, none⟩ = some (.string t.y) ∧ (Instr.lookup 52 (.map (some S.m0)) (.agg #[.int .i64 t.k, .string t.t, .string t.y]) true).run Tryz.prog w' = .ok (.tuple #[((S.ls t).map pt).getD (.pointer none), .bool (S.ls t).isSome]) w' from fun w' hb => by
    have h1 := (h.below hB1).below hb
    have hlt : w.heap.size < w1.heap.size := by rw [hw1]; simp
    have h2 := hT.below hb hlt
    exact ⟨h1.c0, h2.k, h2.t, h2.y, h1.look0 hk⟩)
  have H := Lib.hid (And.intro h (And.intro hB (And.intro hk (And.intro hB1 (And.intro hT (And.intro hN h0))))))
  have HW := Lib.hid hw1
  have hlt1 : w.heap.size < w1.heap.size := by rw [hw1]; simp
  clear h hB hk hT hN h0 hB1 hw1
  cases hls : S.ls t with
  | some b =>
    rw [hls] at HS
    simp only [Option.map_some, Option.getD_some, Option.isSome_some] at HS
    have HL := Lib.hid hls
    clear hls
    go_enter Tryz.func28, Tryz.ntmps28
    go_upto_region 1 with fail
    rw [← HW.out]
    go_region_held3 (fun w' => w'.cell? ⟨tb, 0, none⟩ = some (.map (some S.m0)) ∧ w'.cell? ⟨w.heap.size, 0, none⟩ = some (.int .i64 t.k) ∧ w'.cell? ⟨w.heap.size, 1, none⟩ = some (.string t.t) ∧ w'.cell? ⟨w.heap.size, 2, none⟩ = some (.string t.y) ∧ (Instr.lookup 52 (.map (some S.m0)) (.agg #[.int .i64 t.k, .string t.t, .string t.y]) true).run Tryz.prog w' = .ok (.tuple #[pt b, .bool true]) w')
      (first
        | exact HS.out _ (Below.refl _ _)
        | exact HS.out _ (Below.refl _ _).drew
        | (go_split_ands; exact ⟨‹_›, ‹_›, ‹_›, ‹_›, ‹_›⟩))
      (fail)
    all_goals
      go_wp2_with fail
      go_ret
      exact ⟨b, S, rfl, (MTo.same H.out.1 (H.out.2.2.2.1.drew) H.out.2.1), HL.out, ⟨rfl, rfl, rfl, rfl⟩, fun _ _ => rfl, H.out.2.2.2.2.2.1.mono (by omega)⟩
  | none =>
    rw [hls] at HS
    simp only [Option.map_none, Option.getD_none, Option.isSome_none] at HS
    have HL := Lib.hid hls
    clear hls
    go_enter Tryz.func28, Tryz.ntmps28
    go_upto_region 1 with fail
    rw [← HW.out]
    go_region_held3 (fun w' => w'.cell? ⟨tb, 0, none⟩ = some (.map (some S.m0)) ∧ w'.cell? ⟨w.heap.size, 0, none⟩ = some (.int .i64 t.k) ∧ w'.cell? ⟨w.heap.size, 1, none⟩ = some (.string t.t) ∧ w'.cell? ⟨w.heap.size, 2, none⟩ = some (.string t.y) ∧ (Instr.lookup 52 (.map (some S.m0)) (.agg #[.int .i64 t.k, .string t.t, .string t.y]) true).run Tryz.prog w' = .ok (.tuple #[.pointer none, .bool false]) w')
      (first
        | exact HS.out _ (Below.refl _ _)
        | exact HS.out _ (Below.refl _ _).drew
        | (go_split_ands; exact ⟨‹_›, ‹_›, ‹_›, ‹_›, ‹_›⟩))
      (fail)
    go_upto_region 3 with fail
    have HK0 := Lib.hid (show Lr w1 w1.drew w.heap.size t from ⟨(Chg.refl _ _).drew, by rw [HW.out]; exact (Blk.new _ _ _).drew⟩)
    have HKS := Lib.hid (HK0.out.below (Below.refl _ _).drew)
    go_region_held3 (fun w' => w'.cell? ⟨w.heap.size, 1, none⟩ = some (.string t.t) ∧ w'.cell? ⟨w.heap.size, 2, none⟩ = some (.string t.y))
      (first
        | exact HKS.out.s
        | exact HK0.out.s
        | exact HKS.out.set1.s
        | exact HKS.out.set1.set2.s
        | go_keep)
      (first
        | (go_at_call 59; refine (clone2_any t.t _ hs1).mono ?_; rintro e w2 ⟨rfl, hb⟩; have HK2 := Lib.hid (HKS.out.below hb); clear HKS hb; have HKS := HK2; clear HK2; have z1 := HKS.out.blk.frozen 1; have z2 := HKS.out.blk.frozen 2)
        | (go_at_call 59; refine (clone2_any t.y _ hs2).mono ?_; rintro e w2 ⟨rfl, hb⟩; have HK2 := Lib.hid (HKS.out.below hb); clear HKS hb; have HKS := HK2; clear HK2; have z1 := HKS.out.blk.frozen 1; have z2 := HKS.out.blk.frozen 2))
    have hL3 := HKS.out.set1.set2
    obtain ⟨w3, hw3⟩ : ∃ w3, w3 = ((w2.setCell ⟨w.heap.size, 1, none⟩ (.string t.t)).setCell ⟨w.heap.size, 2, none⟩ (.string t.y)) := ⟨_, rfl⟩
    rw [← hw3] at hL3 ⊢
    have g0 := hL3.blk.cell 0
    have g1 := hL3.blk.cell 1
    have g2 := hL3.blk.cell 2
    simp only [List.getElem?_toArray, List.getElem?_cons_zero, List.getElem?_cons_succ] at g0 g1 g2
    have hb3 : Below w.heap.size w w3 := H.out.2.2.2.1.trans (hL3.chg.below (fun k hk => by rw [hk]; exact Nat.le_refl _) (by omega))
    obtain ⟨w4, hw4⟩ : ∃ w4, w4 = w3.alloc (.cells #[.int .i64 t.k, .string t.t, .string t.y, nilS, nilS] 64) := ⟨_, rfl⟩
    have hb4 : Below w.heap.size w w4 := by rw [hw4]; exact hb3.alloc hb3.size _
    have hbl : Blk w4 w3.heap.size 64 #[.int .i64 t.k, .string t.t, .string t.y, nilS, nilS] := by rw [hw4]; exact Blk.new _ _ _
    have c0 := (H.out.1.below hb4).c0
    have f0' : w4.cell? ⟨w.heap.size, 0, none⟩ = some (.int .i64 t.k) := by rw [hw4]; exact (hL3.blk.alloc _).cell 0
    have f1' : w4.cell? ⟨w.heap.size, 1, none⟩ = some (.string t.t) := by rw [hw4]; exact (hL3.blk.alloc _).cell 1
    have f2' : w4.cell? ⟨w.heap.size, 2, none⟩ = some (.string t.y) := by rw [hw4]; exact (hL3.blk.alloc _).cell 2
    obtain ⟨b, hb⟩ : ∃ b, b = w3.heap.size := ⟨_, rfl⟩
    rw [← hb] at hbl
    obtain ⟨kl, hkl⟩ := th_key t H.out.2.2.1
    have HB := Lib.hid (And.intro hb3 (And.intro hb4 (And.intro hbl (And.intro hb (And.intro hw4 hkl)))))
    clear hL3 hw3 hb3 hb4 hbl hw4 hkl z1 z2 HKS HK0
    go_upto_region 5 with fail
    rw [← hb, ← HB.out.2.2.2.2.1]
    clear hb g0 g1 g2
    obtain ⟨w5, hrun, hM5, hC5⟩ := MapM.store (t := 52) (e := 59) (((H.out.1.below HB.out.2.1).below (Below.refl _ _).drew).k0) thK Tryz.underlying52 (fun x y h => thV_inj h) HB.out.2.2.2.2.2 (pt b) (H.out.2.2.2.2.2.1.a.choose_spec.2) (Nat.le_trans H.out.2.2.2.2.2.1.a.choose_spec.1 (by omega))
    unfold thV at hrun
    have H5 := Lib.hid (And.intro hM5 hC5)
    clear hM5 hC5
    go_region
    go_wp2_with fail
    go_ret
    obtain ⟨hM5, hC5⟩ := H5.out
    obtain ⟨hE1, hE2⟩ := H.out.2.2.2.2.2.2 HL.out
    obtain ⟨hMm, hCg⟩ := H.out.1.newL H.out.2.1 HL.out (b := b) (by rw [HB.out.2.2.2.1]; exact HB.out.1.size) (HB.out.2.1.drew) HB.out.2.2.1.drew hM5 hC5
    have hh : ∀ (f : Th → List Hd), f t = [] → upd f t [] = f := fun f hf => by
      funext y
      by_cases e : y = t
      · rw [e, upd_same, hf]
      · rw [upd_other _ _ e]
    refine ⟨b, _, rfl, ⟨hMm, hCg⟩, by simp only [upd_same], ⟨hh _ hE1, hh _ hE2, rfl, rfl⟩, fun t' ht' => by simp only [upd_other _ _ ht'], ?_⟩
    obtain ⟨⟨l, h1, h2⟩, hb', hc'⟩ := H.out.2.2.2.2.2.1
    refine ⟨?_, ?_, ?_⟩
    · show ∃ l : List Th, l.length ≤ N + 1 ∧ ∀ t', (f0 (upd S.ls t (some b)) t').isSome = true → t' ∈ l
      rw [f0_upd]
      exact mem_upd h1 h2
    · obtain ⟨k, h3, h4⟩ := hb'
      exact ⟨k, by omega, h4⟩
    · obtain ⟨k, h3, h4⟩ := hc'
      exact ⟨k, by omega, h4⟩
end Go.Proofs.YthbbheegkhlniaaGreat
