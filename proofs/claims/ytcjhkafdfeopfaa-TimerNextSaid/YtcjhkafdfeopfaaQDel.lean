/-
  slices.Delete on a row of one's own.
-/
import Derived.Test.YtcjhkafdfeopfaaTmK
import Derived.Deep.RegionLaw
namespace Go.Proofs.Ytcjhkafdfeopfaa
open Go.RowKit Go.Lib

theorem Try.infoptr : (Try.prog.info? 50).map (fun i => (i.zero, i.size, i.bytes)) = some (some (.pointer none), 1, 8) := by kernel_rfl
theorem Try.zeroptr : ∀ v ∈ (Value.pointer none).cells, v.oneCell' = true := by
  intro v hv
  have h : v ∈ [Value.pointer none] := by simpa [Value.cells] using hv
  rcases h with _ | ⟨_, h⟩ <;> first | rfl | cases h

set_option maxRecDepth 100000 in
set_option maxHeartbeats 6400000 in
theorem qdel_any {w : World} {B n c : Nat} {A : Option Addr} {xs : List Value} (hown : w.ownsRow B 50 1 (.slice A n c) n xs) (hx1 : ∀ u ∈ xs, u.oneCell' = true) {i j : Nat} (hij : i < j) (hj : j ≤ n) (hn : n ≤ 1000000) :
    Calls Try.prog 47 #[.slice A n c, .int .i64 i, .int .i64 j] w fun r w' => r = .returned (.slice A (n - (j - i)) c) ∧ RowTo B 50 1 (.slice A n c) w (.slice A (n - (j - i)) c) (n - (j - i)) (xs.take (i * 1) ++ xs.drop (j * 1)) w' := by
  obtain ⟨i0, hi, hz0, hz1, hz2⟩ := info_parts Try.infoptr
  obtain ⟨g, rfl⟩ := own_form' hown (by omega)
  obtain ⟨hnc, hcm⟩ := own_caps hown
  have hcm' := hcm
  unfold maxLen at hcm'
  have hxl := hown.1
  have hf := own_first (w := w.drew) (i := i) hown (by omega)
  have hcells : ∀ q u, (xs.drop (j * 1))[q]? = some u → w.drew.cell? ((⟨g, j * 1, none⟩ : Addr).add q) = some u := by
    intro q u hu
    rw [List.getElem?_drop] at hu
    rw [Addr.add_lit]
    exact (hown.cellAt (j * 1 + q) (by have := (List.getElem?_eq_some_iff.1 hu).1; omega)).trans hu
  have hdl : (xs.drop (j * 1)).length = (n - j) * 1 := by rw [List.length_drop, hxl, Nat.sub_mul]
  have hd1 : ∀ u ∈ xs.drop (j * 1), u.oneCell' = true := fun u hu => hx1 u (List.mem_of_mem_drop hu)
  have htl : (xs.take (i * 1)).length = i * 1 := by rw [List.length_take, hxl]; omega
  have e1 : i + (n - j) = n - (j - i) := by omega
  obtain ⟨ys, hys⟩ : ∃ ys, ys = xs.take (i * 1) := ⟨_, rfl⟩
  obtain ⟨zs, hzs⟩ : ∃ zs, zs = xs.drop (j * 1) := ⟨_, rfl⟩
  rw [← hys] at hf htl ⊢
  rw [← hzs] at hcells hdl hd1 ⊢
  simp only [Nat.mul_one] at hf hcells hdl hd1 htl hys hzs ⊢
  have H := Lib.hid (And.intro hf (And.intro hcells (And.intro hdl (And.intro hd1 (And.intro htl e1)))))
  have H0 := Lib.hid (And.intro hown hx1)
  have a1 : (i : Int) ≤ (j : Int) := by omega
  have a2 : (j : Int) ≤ (n : Int) := by omega
  have a3 : (n : Int) ≤ (c : Int) := by omega
  have a4 : (0 : Int) ≤ (i : Int) := by omega
  have a5 : ((i : Int) == (j : Int)) = false := by rw [beq_eq_false_iff_ne]; omega
  have a6 : ¬ (c = i) := by omega
  have a7 : (i : Int) ≤ (c : Int) := by omega
  have a8 : (i : Int) ≤ (n : Int) := by omega
  clear hown hx1 hxl hf hcells hdl hd1 htl e1 hys hzs
  have HRES : Hid (∀ q, q = i + (n - j) → ∀ w5, w5.ownsRow B 50 1 (.slice (some ⟨g, 0, none⟩) q c) q (ys ++ zs) → w.drew.grownBy w5 (some g) →
      ∃ w6, (∀ ty, (Builtin.clear_ #[47] ty #[.slice (some ⟨g, q, none⟩) (n - q) (c - q)]).run Try.prog w5 = .ok (.tuple #[]) w6) ∧ RowTo B 50 1 (.slice (some ⟨g, 0, none⟩) n c) w (.slice (some ⟨g, 0, none⟩) (n - (j - i)) c) (n - (j - i)) (ys ++ zs) w6) := Lib.hid (by
    intro q hq w5 ho5 hg5
    obtain rfl : q = n - (j - i) := by omega
    obtain ⟨cur, hg, hB, hnc5, hcm5, hcl, htk, hxl⟩ := own_cur ho5
    have hm : n * 1 ≤ c * 1 := Nat.mul_le_mul_right _ hnc
    obtain ⟨cs, hcs, hr⟩ := run_clear_k (P := Try.prog) w5 47 50 50 i0 (.pointer none) 1 Try.underlying47 hi hz0 rfl Try.zeroptr g ((n - (j - i)) * 1) (n - (n - (j - i))) (c - (n - (j - i))) (by omega) cur hg (by rw [hcl]; omega)
    simp only [Nat.mul_one] at hr
    refine ⟨_, hr, own_of_cur (setRow_heap w5 g _ _ _ _ hg) hB hnc5 hcm5 (by rw [length_splice _ _ _ (by rw [hcl, hcs]; omega), hcl]) _ ?_, fun k hk => .inl hk, ?_⟩
    · rw [← htk]
      unfold splice
      rw [List.take_append_of_le_length (by rw [List.length_take, hcl]; omega), List.take_take]; simp
    · have h1 : Chg (fun k => some g = some k) w w5 := ⟨hg5.os, hg5.tape, hg5.output, hg5.size, fun k hk hn => hg5.block k hk fun e => hn e.symm⟩
      exact h1.setRow (fun _ => rfl) _)
  have a9 : ((i + (n - j) : Nat) : Int) ≤ (n : Int) := by omega
  have a10 : ((i + (n - j) : Nat) : Int) ≤ (c : Int) := by omega
  have a11 : ¬ (c = i + (n - j)) := by omega
  have b1 : (0 : Int) ≤ ((i + (n - j) : Nat) : Int) := by omega
  by_cases hcj : c = j
  · have HZ := Lib.hid (show zs = [] from List.eq_nil_of_length_eq_zero (by rw [H.out.2.2.1]; omega))
    obtain rfl : j = n := by omega
    obtain rfl : c = j := by omega
    clear a9 a10 a11 b1 a3 hcm
    go_enter Try.func47, Try.ntmps47
    go_wp2_with fail
    go_region_law (refine step_append_fits rfl _ _ 47 rfl B 50 i0 1 Try.underlying47 hi hz1 g i c ys H.out.1 (by rfl) ⟨g, 0, none⟩ 0 0 zs (by rfl) (by rw [HZ.out]; rfl) (by intro q u hu; rw [HZ.out] at hu; cases hu) H.out.2.2.2.1 (by omega) ?_; intro w5 ho5 hg5)
    all_goals
      obtain ⟨w6, hr6, hR⟩ := HRES.out i (by omega) w5 ho5 hg5
      have HR := Lib.hid hR
      clear ho5 hg5 hR
      go_wp2_with (at_builtin; refine wpList_clear2 _ rfl _ 47 rfl _ (by rfl) (hr6 _) ?_)
      go_ret
      have he : i = c - (c - i) := by omega
      exact ⟨by first | omega | (rw [← he]; rfl) | (simp; omega), HR.out⟩
  · go_enter Try.func47, Try.ntmps47
    go_wp2_with fail
    go_region_law (refine step_append_fits rfl _ _ 47 rfl B 50 i0 1 Try.underlying47 hi hz1 g i c ys H.out.1 (by rfl) ⟨g, j, none⟩ (n - j) (c - j) zs (by rfl) (by rw [H.out.2.2.1, Nat.mul_one]) H.out.2.1 H.out.2.2.2.1 (by omega) ?_; intro w5 ho5 hg5)
    all_goals
      obtain ⟨w6, hr6, hR⟩ := HRES.out _ rfl w5 ho5 hg5
      have HR := Lib.hid hR
      clear ho5 hg5 hR
      go_wp2_with (at_builtin; refine wpList_clear2 _ rfl _ 47 rfl _ (by rfl) (hr6 _) ?_)
      go_ret
      have he := H.out.2.2.2.2.2
      exact ⟨by first | omega | (rw [← he]; rfl) | (simp; omega), HR.out⟩
end Go.Proofs.Ytcjhkafdfeopfaa
