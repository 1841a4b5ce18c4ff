/-
  The document's locks: insert, drop. Written by genrke.py.
-/
import Derived.Test.YthbbheegkhlniaaGreatM25
import Derived.Deep.CutBlock
namespace Go.Proofs.YthbbheegkhlniaaGreat
open Go.RowKit Go.Lib

theorem od_from {b : Bool} {w : World} {B : Nat} {ad : Addr} {l : List Od} (h : RowG (odC b) 6 w B (some ad) l) (k : Nat) : ∀ j u, (ods b (l.drop k))[j]? = some u → w.cell? ((ad.add (k * 6)).add j) = some u := by
  intro j u hj
  have hjl := (List.getElem?_eq_some_iff.1 hj).1
  rw [ods_len, List.length_drop] at hjl
  have hq : k + j / 6 < l.length := by omega
  have hm : j % 6 < 6 := Nat.mod_lt _ (by omega)
  have hjj : j = j / 6 * 6 + j % 6 := by omega
  have h1 := flat_cell (cell := odC b) (S := 6) (fun _ => rfl) (l.drop k) (j / 6) (j % 6) (by rw [List.length_drop]; omega) hm
  rw [← hjj] at h1
  change (ods b (l.drop k))[j]? = _ at h1
  rw [h1, List.getElem_drop] at hj
  obtain ⟨ad', e, hc⟩ := h.cell (k + j / 6) hq (j % 6) u hj
  obtain rfl := Option.some.inj e
  rw [addr_add, show k * 6 + j = (k + j / 6) * 6 + j % 6 by omega]
  exact hc
theorem od_first {b : Bool} {w : World} {B : Nat} {ad : Addr} {l : List Od} (h : RowG (odC b) 6 w B (some ad) l) (k : Nat) : ∀ j u, (ods b (l.take k))[j]? = some u → w.cell? (ad.add j) = some u := by
  intro j u hj
  have h1 := od_from h 0 j u
  rw [List.drop_zero, Nat.zero_mul, addr_add, Nat.zero_add] at h1
  refine h1 ?_
  rw [← List.take_append_drop k l, ods_append]
  have hjl := (List.getElem?_eq_some_iff.1 hj).1
  rw [List.getElem?_append_left hjl]
  exact hj
/-- the locks, and a row of one's own that is being made -/
structure Bd (w0 w : World) (B tb : Nat) (D : Nat → Prop) (A : Option Addr) (n c : Nat) (A' : Option Addr) (n' c' : Nat) (l : Lk) (b : Bool) (v : Value) (m : Nat) (xs : List Od) : Prop where
  r : RkX B D w tb A n c A' n' c' l
  low : Below w0.heap.size w0 w
  own : w.ownsRow w0.heap.size 73 6 v m (ods b xs)
section
variable {w0 w w' : World} {B tb n c n' c' m m2 : Nat} {D : Nat → Prop} {A A' : Option Addr} {l : Lk} {b : Bool} {v v' : Value} {xs ys : List Od}
theorem Bd.below (h : Bd w0 w B tb D A n c A' n' c' l b v m xs) (hb : Below w.heap.size w w') : Bd w0 w' B tb D A n c A' n' c' l b v m xs :=
  ⟨h.r.below hb, h.low.trans (hb.mono h.low.size), own_chg h.own (F := Non) (Chg.of_below hb) fun _ _ hf => hf⟩
theorem Bd.new (h : RkX B D w tb A n c A' n' c' l) : Bd w (w.alloc (.cells #[] 73)) B tb D A n c A' n' c' l b (.slice (some ⟨w.heap.size, 0, none⟩) 0 0) 0 [] := by
  have hb : Below w.heap.size w (w.alloc (.cells #[] 73)) := (Below.refl _ w).alloc (Nat.le_refl _) _
  have h9 := World.ownsRow_lit (base := w.heap.size) (size := 6) (e := 73) w #[] 0 (by simp) (by simp [maxLen]) (by simp)
  exact ⟨h.below hb, hb, h9⟩
theorem Bd.step (h : Bd w0 w B tb D A n c A' n' c' l b v m xs) (hR : RowTo w0.heap.size 73 6 v w v' m2 (ods b xs ++ ods b ys) w') (hf : ∀ k, D k → k < w0.heap.size) : Bd w0 w' B tb D A n c A' n' c' l b v' m2 (xs ++ ys) := by
  refine ⟨h.r.chg hR.chg fun k hk e => ?_, h.low.trans (hR.chg.below (fun k hk => (h.own.lt k hk).1) h.low.size), by rw [ods_append]; exact hR.own⟩
  have := (h.own.lt k e).1
  have := hf k hk
  omega
/-- it is the waiters' row -/
theorem Bd.set1 {A5 : Option Addr} {c5 : Nat} (h : Bd w0 w B tb D A n c A' n' c' l true (.slice A5 m c5) m xs) (hX : RkX B D w0 tb A n c A' n' c' l) (hB : B ≤ w0.heap.size) (hm : m = xs.length) : RkTo B tb D w0 ⟨l.H, xs⟩ (w.setCell ⟨tb, 1, none⟩ (.slice A5 m c5)) := by
  have e1 := hX.blk
  have h5 := e1.below h.low e1.lt
  have hc6 : Chg (fun q => q = tb) w (w.setCell ⟨tb, 1, none⟩ (.slice A5 m c5)) := (Chg.refl (fun q => q = tb) w).setCell (p := ⟨tb, 1, none⟩) (fun _ => rfl) _
  exact hX.push1 hB (RowTo.new h.own h.low hB) hm
/-- it is the holders' row -/
theorem Bd.set0 {A5 : Option Addr} {c5 : Nat} (h : Bd w0 w B tb D A n c A' n' c' l false (.slice A5 m c5) m xs) (hX : RkX B D w0 tb A n c A' n' c' l) (hB : B ≤ w0.heap.size) (hm : m = xs.length) : RkTo B tb D w0 ⟨xs, l.W⟩ (w.setCell ⟨tb, 0, none⟩ (.slice A5 m c5)) :=
  hX.push0 hB (RowTo.new h.own h.low hB) hm
end
set_option maxRecDepth 100000 in
set_option maxHeartbeats 12800000 in
theorem rinsert_any {B tb : Nat} {D : Nat → Prop} {w0 : World} {l : Lk} (h : RkV B D w0 tb l) (hl : l.W.length ≤ 900000) (hB0 : B ≤ w0.heap.size) (p : Nat) (hp : p ≤ l.W.length) (o : Od) :
    Calls Tryz.prog 41 #[.pointer (some ⟨tb, 0, none⟩), .int .i64 p, .agg #[.int .i64 o.th.k, .string o.th.t, .string o.th.y, .int .i64 o.x, .int .i64 o.m, .bool true]] w0 fun r w' => r = .returned (.tuple #[]) ∧ RkTo B tb D w0 ⟨l.H, insL p o l.W⟩ w' := by
  obtain ⟨i0, hi, hz0, hz1, hz2⟩ := info_parts Tryz.infoone
  obtain ⟨A, n, c, A', n', c', hX0⟩ := h
  have hn' : n' ≤ 900000 := by rw [hX0.wn]; exact hl
  have hpn : p ≤ n' := by rw [hX0.wn]; exact hp
  have hn0' : (0 : Int) ≤ (n' : Int) := Int.natCast_nonneg _
  have hp0 : (0 : Int) ≤ (p : Int) := Int.natCast_nonneg _
  obtain ⟨w, hw⟩ : ∃ w, w = w0.alloc (.cells #[.int .i64 o.th.k, .string o.th.t, .string o.th.y, .int .i64 o.x, .int .i64 o.m, .bool true] 73) := ⟨_, rfl⟩
  obtain ⟨b, hb⟩ : ∃ b, b = w0.heap.size := ⟨_, rfl⟩
  have hB1 : Below w0.heap.size w0 w := by rw [hw]; exact (Below.refl _ w0).alloc (Nat.le_refl _) _
  have hX := hX0.up hB1 hB0
  have hK : Blk w b 73 #[.int .i64 o.th.k, .string o.th.t, .string o.th.y, .int .i64 o.x, .int .i64 o.m, .bool true] := by rw [hw, hb]; exact Blk.new _ _ _
  have HV := Lib.hid (show ∀ w3, RkTo B tb (Ext D w0 w) w ⟨l.H, insL p o l.W⟩ w3 → RkTo B tb D w0 ⟨l.H, insL p o l.W⟩ w3 from fun w3 k => hX0.via hB1 hB0 k)
  have HW := Lib.hid (And.intro hw hb)
  have HK := Lib.hid hK
  have HX := Lib.hid (And.intro hX (Nat.le_trans hB0 hB1.size))
  have hcaps := own_caps hX0.wo
  unfold maxLen at hcaps
  have hnc := hcaps.1
  have hcm := hcaps.2
  have hnil : A' = none → n' = 0 ∧ c' = 0 ∧ l.W = [] := fun e => by
    subst e
    obtain ⟨h1, h2, h3⟩ := own_nil hX0.wo
    exact ⟨h1, h2, List.eq_nil_of_length_eq_zero (by rw [← hX0.wn]; exact h1)⟩
  have HNIL := Lib.hid hnil
  have HWN := Lib.hid hX0.wn
  obtain ⟨D', hD'⟩ : ∃ D', D' = Ext D w0 w := ⟨_, rfl⟩
  rw [← hD'] at HX HV
  have HF := Lib.hid (show ∀ k, D' k → k < w.heap.size from fun k hk => (HX.out.1.foot k hk).2)
  clear hX hX0 hl hB0 hB1 hK hw hcaps hp hnil hD'
  go_enter Tryz.func41, Tryz.ntmps41
  go_upto_region 1 with fail
  rw [← hb, ← HW.out.1]; clear hb
  have HB1 := Lib.hid (Bd.new (b := true) HX.out.1)
  obtain ⟨w1, hw1⟩ : ∃ w1, w1 = w.alloc (.cells #[] 73) := ⟨_, rfl⟩
  rw [← hw1] at HB1
  have HW1 := Lib.hid hw1
  have c1 := HB1.out.r.c1
  clear hw1
  go_upto_region 2 with fail
  rw [← HW1.out]
  rcases A' with _ | ad
  · obtain ⟨hn0, hc0, -⟩ := HNIL.out rfl
    subst hn0 hc0
    obtain rfl : p = 0 := by omega
    go_upto_region 3 with (at_builtin; refine wpList_append_row rfl _ _ 28 rfl w.heap.size 73 i0 (.agg #[.int .i64 0, .string ⟨#[]⟩, .string ⟨#[]⟩, .int .i64 0, .int .i64 0, .bool false]) 6 64 Tryz.underlying28 hi hz0 hz1 hz2 rfl (by decide) _ 0 _ HB1.out.own (by rfl) none 0 0 [] (by rfl) rfl (fun _ => rfl) (fun ad' had => by cases had) (fun u hu => by cases hu) (by first | (simp [maxLen]; done) | (simp [maxLen]; omega)) (by omega) HB1.out.low.size ?_; intro A5 c5 w5 hR5; have hB5 := HB1.out.step (ys := []) hR5 HF.out; have HB5 := Lib.hid hB5; clear hR5 hB5)
    have HB5' := Lib.hid (HB5.out)
    have b5 := HK.out.below HB5.out.low HK.out.lt
    have k0 : w5.cell? ⟨b, 0, none⟩ = some (.int .i64 o.th.k) := b5.cell 0
    have k1 : w5.cell? ⟨b, 1, none⟩ = some (.string o.th.t) := b5.cell 1
    have k2 : w5.cell? ⟨b, 2, none⟩ = some (.string o.th.y) := b5.cell 2
    have k3 : w5.cell? ⟨b, 3, none⟩ = some (.int .i64 o.x) := b5.cell 3
    have k4 : w5.cell? ⟨b, 4, none⟩ = some (.int .i64 o.m) := b5.cell 4
    have k5 : w5.cell? ⟨b, 5, none⟩ = some (.bool true) := b5.cell 5
    obtain ⟨w6, hw6⟩ : ∃ w6, w6 = w5.alloc (.cells #[.int .i64 o.th.k, .string o.th.t, .string o.th.y, .int .i64 o.x, .int .i64 o.m, .bool true] 73) := ⟨_, rfl⟩
    have hb6 : Below w5.heap.size w5 w6 := by rw [hw6]; exact (Below.refl _ w5).alloc (Nat.le_refl _) _
    have hnew6 : ∀ j u, (odC true o)[j]? = some u → w6.cell? ((⟨w5.heap.size, 0, none⟩ : Addr).add j) = some u := by rw [hw6]; exact World.news_of_block (heap_alloc_new w5 _)
    have HB6 := Lib.hid (HB5.out.below hb6)
    have H6 := Lib.hid hnew6
    have HW6 := Lib.hid hw6
    clear hb6 hnew6 hw6 c1 b5 HB5'
    go_upto_region 4 with (at_builtin; refine wpList_append_row rfl _ _ 28 rfl w.heap.size 73 i0 (.agg #[.int .i64 0, .string ⟨#[]⟩, .string ⟨#[]⟩, .int .i64 0, .int .i64 0, .bool false]) 6 64 Tryz.underlying28 hi hz0 hz1 hz2 rfl (by decide) _ (0 + 0) _ (by rw [← HW6.out]; exact HB6.out.own) (by rfl) (some ⟨w5.heap.size, 0, none⟩) 1 1 (odC true o) (by rfl) rfl (fun h => by cases h) (fun ad' had => by cases had; rw [← HW6.out]; exact H6.out) (fun u hu => by simp [odC] at hu; rcases hu with rfl | rfl | rfl | rfl | rfl | rfl <;> rfl) (by first | (simp [maxLen]; done) | (simp [maxLen]; omega)) (by omega) (by rw [← HW6.out]; exact HB6.out.low.size) ?_; intro A7 c7 w7 hR7; rw [← HW6.out] at hR7; have HB7 := Lib.hid (HB6.out.step (ys := [o]) (by rw [show ods true [o] = odC true o by simp [ods]]; exact hR7) HF.out); clear hR7)
    have e7 := HB7.out.r.c1
    go_wp2_with (at_builtin; refine wpList_append_row rfl _ _ 28 rfl w.heap.size 73 i0 (.agg #[.int .i64 0, .string ⟨#[]⟩, .string ⟨#[]⟩, .int .i64 0, .int .i64 0, .bool false]) 6 64 Tryz.underlying28 hi hz0 hz1 hz2 rfl (by decide) _ (0 + 0 + 1) _ HB7.out.own (by rfl) none 0 0 [] (by rfl) rfl (fun _ => rfl) (fun ad' had => by cases had) (fun u hu => by cases hu) (by first | (simp [maxLen]; done) | (simp [maxLen]; omega)) (by omega) HB7.out.low.size ?_; intro A9 c9 w9 hR9; have HB9 := Lib.hid (HB7.out.step (ys := []) hR9 HF.out); have b9 := HB9.out.r.blk; have e9 : w9.cell? ⟨tb, 1, none⟩ = some _ := b9.cell 1; have f9 := b9.frozen 1; clear hR9 b9)
    go_wp2_with fail
    go_end0
    have h9 := HB9.out.set1 HX.out.1 HX.out.2 (by simp)
    have e : [] ++ [] ++ [o] ++ [] = insL 0 o l.W := by rw [(HNIL.out (by first | rfl | trivial)).2.2]; rfl
    rw [e] at h9
    exact ⟨rfl, HV.out _ h9⟩
  · obtain ⟨g, hg⟩ : ∃ g, (some ad : Option Addr) = some ⟨g, 0, none⟩ ∨ n' = 0 := ⟨ad.block, by
      by_cases h0 : n' = 0
      · exact .inr h0
      · left
        obtain ⟨g, hg⟩ := own_form' HX.out.1.wo (by omega)
        rw [hg]
        injection hg with hg
        rw [hg]⟩
    have hkc : (p : Int) ≤ (c' : Int) := by omega
    have hkn : (p : Int) ≤ (n' : Int) := by omega
    have hnci : (n' : Int) ≤ (c' : Int) := by omega
    clear hg
    have HG1 := Lib.hid HB1.out.r.wg
    go_upto_region 3 with (at_builtin; refine wpList_append_row rfl _ _ 28 rfl w.heap.size 73 i0 (.agg #[.int .i64 0, .string ⟨#[]⟩, .string ⟨#[]⟩, .int .i64 0, .int .i64 0, .bool false]) 6 64 Tryz.underlying28 hi hz0 hz1 hz2 rfl (by decide) _ 0 _ HB1.out.own (by rfl) (some ad) p c' (ods true (l.W.take p)) (by rfl) (by rw [ods_len, List.length_take]; have := HWN.out; omega) (fun h => by cases h) (fun ad' had => by cases had; exact od_first HG1.out p) (ods_one _ _) (by first | (simp [maxLen]; done) | (simp [maxLen]; omega)) (by omega) HB1.out.low.size ?_; intro A5 c5 w5 hR5; have hB5 := HB1.out.step (ys := l.W.take p) hR5 HF.out; rw [Nat.zero_add, List.nil_append] at hB5; have HB5 := Lib.hid hB5; clear hR5 hB5)
    have HB5' := Lib.hid (HB5.out)
    have b5 := HK.out.below HB5.out.low HK.out.lt
    have k0 : w5.cell? ⟨b, 0, none⟩ = some (.int .i64 o.th.k) := b5.cell 0
    have k1 : w5.cell? ⟨b, 1, none⟩ = some (.string o.th.t) := b5.cell 1
    have k2 : w5.cell? ⟨b, 2, none⟩ = some (.string o.th.y) := b5.cell 2
    have k3 : w5.cell? ⟨b, 3, none⟩ = some (.int .i64 o.x) := b5.cell 3
    have k4 : w5.cell? ⟨b, 4, none⟩ = some (.int .i64 o.m) := b5.cell 4
    have k5 : w5.cell? ⟨b, 5, none⟩ = some (.bool true) := b5.cell 5
    obtain ⟨w6, hw6⟩ : ∃ w6, w6 = w5.alloc (.cells #[.int .i64 o.th.k, .string o.th.t, .string o.th.y, .int .i64 o.x, .int .i64 o.m, .bool true] 73) := ⟨_, rfl⟩
    have hb6 : Below w5.heap.size w5 w6 := by rw [hw6]; exact (Below.refl _ w5).alloc (Nat.le_refl _) _
    have hnew6 : ∀ j u, (odC true o)[j]? = some u → w6.cell? ((⟨w5.heap.size, 0, none⟩ : Addr).add j) = some u := by rw [hw6]; exact World.news_of_block (heap_alloc_new w5 _)
    have HB6 := Lib.hid (HB5.out.below hb6)
    have H6 := Lib.hid hnew6
    have HW6 := Lib.hid hw6
    clear hb6 hnew6 hw6 c1 b5 HB5'
    go_upto_region 4 with (at_builtin; refine wpList_append_row rfl _ _ 28 rfl w.heap.size 73 i0 (.agg #[.int .i64 0, .string ⟨#[]⟩, .string ⟨#[]⟩, .int .i64 0, .int .i64 0, .bool false]) 6 64 Tryz.underlying28 hi hz0 hz1 hz2 rfl (by decide) _ (p) _ (by rw [← HW6.out]; exact HB6.out.own) (by rfl) (some ⟨w5.heap.size, 0, none⟩) 1 1 (odC true o) (by rfl) rfl (fun h => by cases h) (fun ad' had => by cases had; rw [← HW6.out]; exact H6.out) (fun u hu => by simp [odC] at hu; rcases hu with rfl | rfl | rfl | rfl | rfl | rfl <;> rfl) (by first | (simp [maxLen]; done) | (simp [maxLen]; omega)) (by omega) (by rw [← HW6.out]; exact HB6.out.low.size) ?_; intro A7 c7 w7 hR7; rw [← HW6.out] at hR7; have HB7 := Lib.hid (HB6.out.step (ys := [o]) (by rw [show ods true [o] = odC true o by simp [ods]]; exact hR7) HF.out); clear hR7)
    have e7 := HB7.out.r.c1
    by_cases hcz : c' = p
    · subst hcz
      obtain rfl : n' = c' := by omega
      go_wp2_with (at_builtin; refine wpList_append_row rfl _ _ 28 rfl w.heap.size 73 i0 (.agg #[.int .i64 0, .string ⟨#[]⟩, .string ⟨#[]⟩, .int .i64 0, .int .i64 0, .bool false]) 6 64 Tryz.underlying28 hi hz0 hz1 hz2 rfl (by decide) _ (n' + 1) _ HB7.out.own (by rfl) (some ad) 0 0 [] (by rfl) rfl (fun _ => rfl) (fun ad' had j u hj => by simp at hj) (fun u hu => by cases hu) (by first | (simp [maxLen]; done) | (simp [maxLen]; omega)) (by omega) HB7.out.low.size ?_; intro A9 c9 w9 hR9; have HB9 := Lib.hid (HB7.out.step (ys := []) hR9 HF.out); have b9 := HB9.out.r.blk; have e9 : w9.cell? ⟨tb, 1, none⟩ = some _ := b9.cell 1; have f9 := b9.frozen 1; clear hR9 b9)
      go_wp2_with fail
      go_end0
      have h9 := HB9.out.set1 HX.out.1 HX.out.2 (by simp; have := HWN.out; omega)
      have e : l.W.take n' ++ [o] ++ [] = insL n' o l.W := by unfold insL; rw [List.drop_eq_nil_of_le (Nat.le_of_eq HWN.out.symm)]; simp
      rw [e] at h9
      exact ⟨rfl, HV.out _ h9⟩
    · have HCELL := Lib.hid (od_from HB7.out.r.wg p)
      have hcz0 : ¬ (c' - p = 0) := by omega
      have hcz1 : ((c' - p) == 0) = false := by rw [beq_eq_false_iff_ne]; exact hcz0
      go_wp2_with (at_builtin; refine wpList_append_row rfl _ _ 28 rfl w.heap.size 73 i0 (.agg #[.int .i64 0, .string ⟨#[]⟩, .string ⟨#[]⟩, .int .i64 0, .int .i64 0, .bool false]) 6 64 Tryz.underlying28 hi hz0 hz1 hz2 rfl (by decide) _ (p + 1) _ HB7.out.own (by rfl) (some (ad.add (p * 6))) (n' - p) (c' - p) (ods true (l.W.drop p)) (by rfl) (by rw [ods_len, List.length_drop]; have := HWN.out; omega) (fun h => by cases h) (fun ad' had => by cases had; exact HCELL.out) (ods_one _ _) (by first | (simp [maxLen]; done) | (simp [maxLen]; omega)) (by omega) HB7.out.low.size ?_; intro A9 c9 w9 hR9; have HB9 := Lib.hid (HB7.out.step (ys := l.W.drop p) hR9 HF.out); have b9 := HB9.out.r.blk; have e9 : w9.cell? ⟨tb, 1, none⟩ = some _ := b9.cell 1; have f9 := b9.frozen 1; clear hR9 b9)
      go_wp2_with fail
      go_end0
      have h9 := HB9.out.set1 HX.out.1 HX.out.2 (by simp; have := HWN.out; omega)
      have e : l.W.take p ++ [o] ++ l.W.drop p = insL p o l.W := by unfold insL; simp
      rw [e] at h9
      exact ⟨rfl, HV.out _ h9⟩
set_option maxRecDepth 100000 in
set_option maxHeartbeats 12800000 in
theorem rdrop_any {B tb : Nat} {D : Nat → Prop} {w : World} {l : Lk} (h : RkV B D w tb l) (hl : l.W.length ≤ 900000) (hB0 : B ≤ w.heap.size) (p : Nat) (hp : p < l.W.length) :
    Calls Tryz.prog 45 #[.pointer (some ⟨tb, 0, none⟩), .int .i64 p] w fun r w' => r = .returned (.tuple #[]) ∧ RkTo B tb D w ⟨l.H, l.W.take p ++ l.W.drop (p + 1)⟩ w' := by
  obtain ⟨i0, hi, hz0, hz1, hz2⟩ := info_parts Tryz.infoone
  obtain ⟨A, n, c, A', n', c', hX⟩ := h
  have hn' : n' ≤ 900000 := by rw [hX.wn]; exact hl
  have hpn : p < n' := by rw [hX.wn]; exact hp
  have hn0' : (0 : Int) ≤ (n' : Int) := Int.natCast_nonneg _
  have hp0 : (0 : Int) ≤ (p : Int) := Int.natCast_nonneg _
  have HX := Lib.hid (And.intro hX hB0)
  have hcaps := own_caps hX.wo
  unfold maxLen at hcaps
  have hnc := hcaps.1
  have hcm := hcaps.2
  have HWN := Lib.hid hX.wn
  have HF := Lib.hid (show ∀ k, D k → k < w.heap.size from fun k hk => (HX.out.1.foot k hk).2)
  obtain ⟨g, hg⟩ := own_form' hX.wo (by omega)
  obtain ⟨ad, had⟩ : ∃ ad : Addr, ad = ⟨g, 0, none⟩ := ⟨_, rfl⟩
  rw [← had] at hg
  subst hg
  clear hX hl hB0 hcaps hp had
  go_enter Tryz.func45, Tryz.ntmps45
  have HB1 := Lib.hid (Bd.new (b := true) HX.out.1)
  obtain ⟨w1, hw1⟩ : ∃ w1, w1 = w.alloc (.cells #[] 73) := ⟨_, rfl⟩
  rw [← hw1] at HB1
  have HW1 := Lib.hid hw1
  have c1 := HB1.out.r.c1
  clear hw1
  go_upto_region 1 with fail
  rw [← HW1.out]
  have hkc : (p : Int) ≤ (c' : Int) := by omega
  have hkn : (p : Int) ≤ (n' : Int) := by omega
  have hnci : (n' : Int) ≤ (c' : Int) := by omega
  have HG1 := Lib.hid HB1.out.r.wg
  obtain ⟨q, hq⟩ : ∃ q, q = p + 1 := ⟨_, rfl⟩
  have hqi : (p : Int) + 1 = (q : Int) := by omega
  have hq0 : (0 : Int) ≤ (q : Int) := Int.natCast_nonneg _
  have hqn : (q : Int) ≤ (n' : Int) := by omega
  have hqc : (q : Int) ≤ (c' : Int) := by omega
  have hqnn : q ≤ n' := by omega
  have HQ := Lib.hid hq
  clear hq
  go_upto_region 2 with (at_builtin; refine wpList_append_row rfl _ _ 28 rfl w.heap.size 73 i0 (.agg #[.int .i64 0, .string ⟨#[]⟩, .string ⟨#[]⟩, .int .i64 0, .int .i64 0, .bool false]) 6 64 Tryz.underlying28 hi hz0 hz1 hz2 rfl (by decide) _ 0 _ HB1.out.own (by rfl) (some ad) p c' (ods true (l.W.take p)) (by rfl) (by rw [ods_len, List.length_take]; have := HWN.out; omega) (fun h => by cases h) (fun ad' had => by cases had; exact od_first HG1.out p) (ods_one _ _) (by first | (simp [maxLen]; done) | (simp [maxLen]; omega)) (by omega) HB1.out.low.size ?_; intro A7 c7 w7 hR7; have hB7 := HB1.out.step (ys := l.W.take p) hR7 HF.out; rw [Nat.zero_add, List.nil_append] at hB7; have HB7 := Lib.hid hB7; clear hR7 hB7)
  have e7 := HB7.out.r.c1
  by_cases hcz : c' = q
  · subst hcz
    obtain rfl : n' = c' := by omega
    go_wp2_with (at_builtin; refine wpList_append_row rfl _ _ 28 rfl w.heap.size 73 i0 (.agg #[.int .i64 0, .string ⟨#[]⟩, .string ⟨#[]⟩, .int .i64 0, .int .i64 0, .bool false]) 6 64 Tryz.underlying28 hi hz0 hz1 hz2 rfl (by decide) _ (p) _ HB7.out.own (by rfl) (some ad) 0 0 [] (by rfl) rfl (fun _ => rfl) (fun ad' had j u hj => by simp at hj) (fun u hu => by cases hu) (by first | (simp [maxLen]; done) | (simp [maxLen]; omega)) (by omega) HB7.out.low.size ?_; intro A9 c9 w9 hR9; have HB9 := Lib.hid (HB7.out.step (ys := []) hR9 HF.out); have b9 := HB9.out.r.blk; have e9 : w9.cell? ⟨tb, 1, none⟩ = some _ := b9.cell 1; have f9 := b9.frozen 1; clear hR9 b9)
    go_wp2_with fail
    go_end0
    have h9 := HB9.out.set1 HX.out.1 HX.out.2 (by simp; have := HWN.out; omega)
    have e : l.W.take p ++ [] = l.W.take p ++ l.W.drop (p + 1) := by rw [List.drop_eq_nil_of_le (by rw [← HWN.out, HQ.out]; exact Nat.le_refl _)]
    rw [e] at h9
    exact ⟨rfl, h9⟩
  · have HCELL := Lib.hid (od_from HB7.out.r.wg q)
    have hcz0 : ¬ (c' - q = 0) := by omega
    have hcz1 : ((c' - q) == 0) = false := by rw [beq_eq_false_iff_ne]; exact hcz0
    go_wp2_with (at_builtin; refine wpList_append_row rfl _ _ 28 rfl w.heap.size 73 i0 (.agg #[.int .i64 0, .string ⟨#[]⟩, .string ⟨#[]⟩, .int .i64 0, .int .i64 0, .bool false]) 6 64 Tryz.underlying28 hi hz0 hz1 hz2 rfl (by decide) _ (p) _ HB7.out.own (by rfl) (some (ad.add (q * 6))) (n' - q) (c' - q) (ods true (l.W.drop q)) (by rfl) (by rw [ods_len, List.length_drop]; have := HWN.out; omega) (fun h => by cases h) (fun ad' had => by cases had; exact HCELL.out) (ods_one _ _) (by first | (simp [maxLen]; done) | (simp [maxLen]; omega)) (by omega) HB7.out.low.size ?_; intro A9 c9 w9 hR9; have HB9 := Lib.hid (HB7.out.step (ys := l.W.drop q) hR9 HF.out); have b9 := HB9.out.r.blk; have e9 : w9.cell? ⟨tb, 1, none⟩ = some _ := b9.cell 1; have f9 := b9.frozen 1; clear hR9 b9)
    go_wp2_with fail
    go_end0
    have h9 := HB9.out.set1 HX.out.1 HX.out.2 (by simp; have := HWN.out; omega)
    have e : l.W.take p ++ l.W.drop q = l.W.take p ++ l.W.drop (p + 1) := by rw [HQ.out]
    rw [e] at h9
    exact ⟨rfl, h9⟩
end Go.Proofs.YthbbheegkhlniaaGreat

/-
  The document's locks: Ask.
-/
namespace Go.Proofs.YthbbheegkhlniaaGreat
open Go.RowKit Go.Lib

section
variable {w0 w w' : World} {B tb n c n' c' b : Nat} {D : Nat → Prop} {A A' : Option Addr} {l : Lk} {o : Od}
theorem Rq.s0 (h : Rq w0 w B tb D A n c A' n' c' l b o) : w.cell? ⟨b, 0, none⟩ = some (.int .i64 o.th.k) := h.q.cell 0
theorem Rq.s1 (h : Rq w0 w B tb D A n c A' n' c' l b o) : w.cell? ⟨b, 1, none⟩ = some (.string o.th.t) := h.q.cell 1
theorem Rq.s2 (h : Rq w0 w B tb D A n c A' n' c' l b o) : w.cell? ⟨b, 2, none⟩ = some (.string o.th.y) := h.q.cell 2
theorem Rq.s3 (h : Rq w0 w B tb D A n c A' n' c' l b o) : w.cell? ⟨b, 3, none⟩ = some (.int .i64 o.m) := h.q.cell 3
/-- another mode is asked for -/
theorem Rq.setm (h : Rq w0 w B tb D A n c A' n' c' l b o) (hD : ∀ k, D k → k < w0.heap.size) (hb : w0.heap.size ≤ b) (m : Int) : Rq w0 (w.setCell ⟨b, 3, none⟩ (.int .i64 m)) B tb D A n c A' n' c' l b ⟨o.th, o.x, m⟩ := by
  have hc : Chg (fun k => k = b) w (w.setCell ⟨b, 3, none⟩ (.int .i64 m)) := (Chg.refl (fun k => k = b) w).setCell (p := ⟨b, 3, none⟩) (fun _ => rfl) _
  exact ⟨h.r.chg hc fun k hk e => by have := hD k hk; omega, h.q.put 3 _, h.low.trans (hc.below (fun k e => by omega) h.low.size)⟩
end
theorem rmode_b {B tb : Nat} {D : Nat → Prop} {w w' : World} {l : Lk} (h : RkV B D w tb l) (hb : Below w.heap.size w w') (hl : l.H.length ≤ 1000000) (x : Int) (t : Th) :
    Says Tryz.prog 22 #[.pointer (some ⟨tb, 0, none⟩), .int .i64 x, thV t] w' (.int .i64 (modeL l.H x t)) := rmode_any (h.below hb) hl x t
theorem askL_form {l : Lk} {x m : Int} {t : Th} (h : fitsB t = false ∨ rgB m = false) : askL l x t m = (l, false, 10) := by unfold askL; rw [if_pos h]
theorem askL_wait {l : Lk} {x m : Int} {t : Th} {o : Od} (h1 : fitsB t = true) (h2 : rgB m = true) (h : waitL l.W x = some o) : askL l x t m = (l, false, 21) := by
  unfold askL
  rw [if_neg (by rw [h1, h2]; decide), if_pos (by rw [h]; rfl)]
theorem askL_has {l : Lk} {x m h : Int} {t : Th} (h1 : fitsB t = true) (h2 : rgB m = true) (h3 : waitL l.W x = none) (hh : h = modeL l.H x t) (h4 : ¬ h = 0) (h5 : cvB h m = true) : askL l x t m = (l, true, 0) := by
  unfold askL
  rw [if_neg (by rw [h1, h2]; decide), if_neg (by rw [h3]; decide)]
  simp only
  rw [← hh, if_pos ⟨h4, h5⟩]
/-- what it is to have, and where -/
def askM (h m : Int) : Int := if h = 0 then m else jnI h m
def askP (l : Lk) (t : Th) (h : Int) : Nat := if h = 0 then l.W.length else placeGo l.H t 0 0 l.W
theorem askL_rest {l : Lk} {x m h : Int} {t : Th} (h1 : fitsB t = true) (h2 : rgB m = true) (h3 : waitL l.W x = none) (hh : h = modeL l.H x t) (h4 : h = 0 ∨ cvB h m = false) :
    askL l x t m = if canL l.H (l.W.take (askP l t h)) ⟨t, x, askM h m⟩ then (⟨giveL ⟨t, x, askM h m⟩ l.H, l.W⟩, true, 0) else (⟨l.H, insL (askP l t h) ⟨t, x, askM h m⟩ l.W⟩, false, 0) := by
  unfold askL
  rw [if_neg (by rw [h1, h2]; decide), if_neg (by rw [h3]; decide)]
  simp only
  rw [← hh, if_neg (by rcases h4 with h4 | h4 <;> simp [h4])]
  rfl
theorem placeGo_le (H : List Od) (t : Th) : ∀ (W : List Od) (i p : Nat), p ≤ i → placeGo H t i p W ≤ i + W.length
  | [], i, p, h => by rw [placeGo]; simpa using h
  | o :: r, i, p, h => by
    rw [placeGo]
    split
    · have := placeGo_le H t r (i + 1) p (by omega); simp only [List.length_cons]; omega
    · split
      · simp only [List.length_cons]; omega
      · have := placeGo_le H t r (i + 1) (i + 1) (Nat.le_refl _); simp only [List.length_cons]; omega
theorem askP_le (l : Lk) (t : Th) (h : Int) : askP l t h ≤ l.W.length := by
  unfold askP
  split
  · exact Nat.le_refl _
  · have := placeGo_le l.H t l.W 0 0 (Nat.le_refl _); omega
theorem placeGo_step {H W : List Od} {t : Th} {k p : Nat} (hk : k < W.length) : placeGo H t k p (W.drop k) = if W[k].th ≠ t then placeGo H t (k + 1) p (W.drop (k + 1)) else if modeL H W[k].x t = 0 then p else placeGo H t (k + 1) (k + 1) (W.drop (k + 1)) := by
  rw [List.drop_eq_getElem_cons hk, placeGo]
set_option maxRecDepth 100000 in
set_option maxHeartbeats 12800000 in
theorem rask_any {B tb : Nat} {D : Nat → Prop} {w : World} {l : Lk} (h : RkV B D w tb l) (hl1 : l.H.length ≤ 800000) (hl2 : l.W.length ≤ 800000) (hB : B ≤ w.heap.size) (x : Int) (t : Th) (m : Int) :
    Calls Tryz.prog 8 #[.pointer (some ⟨tb, 0, none⟩), .int .i64 x, wantV t m] w fun r w' => r = .returned (.tuple #[.bool (askL l x t m).2.1, .int .i64 (askL l x t m).2.2]) ∧ RkTo B tb D w (askL l x t m).1 w' := by
  have hmix : Tryz.prog.follows .mixedOrders = true := by kernel_rfl
  have HC := Lib.hid (And.intro (show ∀ (z : Th) (w : World), Says Tryz.prog 36 #[thV z] w (.bool (fitsB z)) from rfits_any) (And.intro rcov_any rjoin_any))
  have hV := h
  obtain ⟨A, n, c, A', n', c', hX⟩ := h
  have hn' : n' ≤ 800000 := by rw [hX.wn]; exact hl2
  have hn0' : (0 : Int) ≤ (n' : Int) := Int.natCast_nonneg _
  obtain ⟨w1, hw1⟩ : ∃ w1, w1 = w.alloc (.cells #[.int .i64 t.k, .string t.t, .string t.y, .int .i64 m] 34) := ⟨_, rfl⟩
  obtain ⟨b, hb⟩ : ∃ b, b = w.heap.size := ⟨_, rfl⟩
  have hB1 : Below w.heap.size w w1 := by rw [hw1]; exact (Below.refl _ w).alloc (Nat.le_refl _) _
  have hQ : Rq w w1 B tb D A n c A' n' c' l b ⟨t, x, m⟩ := ⟨hX.below hB1, by rw [hw1, hb]; exact Blk.new _ _ _, hB1⟩
  have HW := Lib.hid (And.intro hw1 hb)
  have HQ := Lib.hid hQ
  have HN := Lib.hid (And.intro hX.hn (And.intro hX.wn (And.intro hB (And.intro (fun (q : Nat) (hq : D q) => hX.foot q hq) (And.intro hV (And.intro hl1 hl2))))))
  have s0 : w1.cell? ⟨b, 0, none⟩ = some (.int .i64 t.k) := hQ.s0
  have s1 : w1.cell? ⟨b, 1, none⟩ = some (.string t.t) := hQ.s1
  have s2 : w1.cell? ⟨b, 2, none⟩ = some (.string t.y) := hQ.s2
  have s3 : w1.cell? ⟨b, 3, none⟩ = some (.int .i64 m) := hQ.s3
  clear hX hl1 hl2 hB hB1 hQ hw1 hV
  cases hf : fitsB t with
  | false =>
    rw [askL_form (.inl hf)]
    have HF := Lib.hid hf
    clear hf
    go_enter Tryz.func8, Tryz.ntmps8
    go_upto_region 1 with fail
    rw [← hb, ← HW.out.1]; clear hb
    go_wp2_with (go_at_call 36; refine (HC.out.1 t _).mono ?_; rw [HF.out]; rintro e w2 ⟨rfl, hb2⟩; have H2 := Lib.hid (HQ.out.below hb2); have s0 : w2.cell? ⟨b, 0, none⟩ = some (.int .i64 t.k) := H2.out.s0; have s1 : w2.cell? ⟨b, 1, none⟩ = some (.string t.t) := H2.out.s1; have s2 : w2.cell? ⟨b, 2, none⟩ = some (.string t.y) := H2.out.s2; have s3 : w2.cell? ⟨b, 3, none⟩ = some (.int .i64 m) := H2.out.s3; clear hb2)
    go_ret2
    exact ⟨rfl, RkTo.same HN.out.2.2.2.2.1 H2.out.low HN.out.2.2.1⟩
  | true =>
    have HF := Lib.hid hf
    cases hr : rgB m with
    | false =>
      rw [askL_form (.inr hr)]
      clear hf
      have hm : m < 1 ∨ (¬ m < 1 ∧ 8 < m) := by
        by_cases h1 : m < 1
        · exact .inl h1
        · right
          refine ⟨h1, ?_⟩
          unfold rgB at hr
          rcases Int.lt_or_le 8 m with h | h
          · exact h
          · rw [decide_eq_true (show 1 ≤ m by omega), decide_eq_true h] at hr; cases hr
      clear hr
      rcases hm with hm | ⟨hm1, hm2⟩
      · have d1 : decide (m < 1) = true := decide_eq_true hm
        go_enter Tryz.func8, Tryz.ntmps8
        go_upto_region 1 with fail
        rw [← hb, ← HW.out.1]
        have HBQ := Lib.hid hb
        clear hb
        go_wp2_with (go_at_call 36; refine (HC.out.1 t _).mono ?_; rw [HF.out]; rintro e w2 ⟨rfl, hb2⟩; have H2 := Lib.hid (HQ.out.below hb2); have s0 : w2.cell? ⟨b, 0, none⟩ = some (.int .i64 t.k) := H2.out.s0; have s1 : w2.cell? ⟨b, 1, none⟩ = some (.string t.t) := H2.out.s1; have s2 : w2.cell? ⟨b, 2, none⟩ = some (.string t.y) := H2.out.s2; have s3 : w2.cell? ⟨b, 3, none⟩ = some (.int .i64 m) := H2.out.s3; clear hb2)
        go_ret2
        exact ⟨rfl, RkTo.same HN.out.2.2.2.2.1 H2.out.low HN.out.2.2.1⟩
      · have d1 : decide (m < 1) = false := decide_eq_false hm1
        have d2 : decide (8 < m) = true := decide_eq_true hm2
        go_enter Tryz.func8, Tryz.ntmps8
        go_upto_region 1 with fail
        rw [← hb, ← HW.out.1]
        have HBQ := Lib.hid hb
        clear hb
        go_wp2_with (go_at_call 36; refine (HC.out.1 t _).mono ?_; rw [HF.out]; rintro e w2 ⟨rfl, hb2⟩; have H2 := Lib.hid (HQ.out.below hb2); have s0 : w2.cell? ⟨b, 0, none⟩ = some (.int .i64 t.k) := H2.out.s0; have s1 : w2.cell? ⟨b, 1, none⟩ = some (.string t.t) := H2.out.s1; have s2 : w2.cell? ⟨b, 2, none⟩ = some (.string t.y) := H2.out.s2; have s3 : w2.cell? ⟨b, 3, none⟩ = some (.int .i64 m) := H2.out.s3; clear hb2)
        go_ret2
        exact ⟨rfl, RkTo.same HN.out.2.2.2.2.1 H2.out.low HN.out.2.2.1⟩
    | true =>
      have hmr : ¬ m < 1 ∧ ¬ 8 < m := by
        unfold rgB at hr
        simp only [Bool.and_eq_true, decide_eq_true_eq] at hr
        omega
      have d1 : decide (m < 1) = false := decide_eq_false hmr.1
      have d2 : decide (8 < m) = false := decide_eq_false hmr.2
      have d3 := hmr.1
      have d4 := hmr.2
      cases hwt : waitL l.W x with
      | some o =>
        rw [askL_wait hf hr hwt]
        have HWT := Lib.hid (show waitR l x = .tuple #[.agg #[.int .i64 o.th.k, .string o.th.t, .string o.th.y, .int .i64 o.m], .bool true] by unfold waitR; rw [hwt])
        clear hf hr hwt hmr
        go_enter Tryz.func8, Tryz.ntmps8
        go_upto_region 1 with fail
        rw [← hb, ← HW.out.1]
        have HBQ := Lib.hid hb
        clear hb
        go_wp2_with (first | (go_at_call 36; refine (HC.out.1 t _).mono ?_; rw [HF.out]; rintro e w2 ⟨rfl, hb2⟩; have H2 := Lib.hid (HQ.out.below hb2); have s0 : w2.cell? ⟨b, 0, none⟩ = some (.int .i64 t.k) := H2.out.s0; have s1 : w2.cell? ⟨b, 1, none⟩ = some (.string t.t) := H2.out.s1; have s2 : w2.cell? ⟨b, 2, none⟩ = some (.string t.y) := H2.out.s2; have s3 : w2.cell? ⟨b, 3, none⟩ = some (.int .i64 m) := H2.out.s3; clear hb2) | (go_at_call 15; refine (rwaiting_any H2.out.r.v (by have := HN.out.2.2.2.2.2.2; omega) x).mono ?_; rw [HWT.out]; rintro e w3 ⟨rfl, hb3⟩; have H3 := Lib.hid (H2.out.below hb3); have s0 : w3.cell? ⟨b, 0, none⟩ = some (.int .i64 t.k) := H3.out.s0; have s1 : w3.cell? ⟨b, 1, none⟩ = some (.string t.t) := H3.out.s1; have s2 : w3.cell? ⟨b, 2, none⟩ = some (.string t.y) := H3.out.s2; have s3 : w3.cell? ⟨b, 3, none⟩ = some (.int .i64 m) := H3.out.s3; have c1 := H3.out.r.c1; clear hb3))
        go_ret2
        exact ⟨rfl, RkTo.same HN.out.2.2.2.2.1 (H3.out.low.alloc H3.out.low.size _) HN.out.2.2.1⟩
      | none =>
        have HWT := Lib.hid (show waitR l x = .tuple #[.agg #[.int .i64 0, .string ⟨#[]⟩, .string ⟨#[]⟩, .int .i64 0], .bool false] by unfold waitR; rw [hwt]; rfl)
        obtain ⟨h, hh⟩ : ∃ h, h = modeL l.H x t := ⟨_, rfl⟩
        by_cases hhas : ¬ h = 0 ∧ cvB h m = true
        · rw [askL_has hf hr hwt hh hhas.1 hhas.2]
          have HHH := Lib.hid (And.intro hh hhas.2)
          have e1 : (h != 0) = true := by simp [hhas.1]
          have e2 : (h == 0) = false := by simp [hhas.1]
          clear hf hr hwt hmr hh hhas
          go_enter Tryz.func8, Tryz.ntmps8
          go_upto_region 1 with fail
          rw [← hb, ← HW.out.1]
          have HBQ := Lib.hid hb
          clear hb
          go_upto_region 6 with (first | (go_at_call 36; refine (HC.out.1 t _).mono ?_; rw [HF.out]; rintro e w2 ⟨rfl, hb2⟩; have H2 := Lib.hid (HQ.out.below hb2); have s0 : w2.cell? ⟨b, 0, none⟩ = some (.int .i64 t.k) := H2.out.s0; have s1 : w2.cell? ⟨b, 1, none⟩ = some (.string t.t) := H2.out.s1; have s2 : w2.cell? ⟨b, 2, none⟩ = some (.string t.y) := H2.out.s2; have s3 : w2.cell? ⟨b, 3, none⟩ = some (.int .i64 m) := H2.out.s3; clear hb2) | (go_at_call 15; refine (rwaiting_any H2.out.r.v (by have := HN.out.2.2.2.2.2.2; omega) x).mono ?_; rw [HWT.out]; rintro e w3 ⟨rfl, hb3⟩; have H3 := Lib.hid (H2.out.below hb3); have s0 : w3.cell? ⟨b, 0, none⟩ = some (.int .i64 t.k) := H3.out.s0; have s1 : w3.cell? ⟨b, 1, none⟩ = some (.string t.t) := H3.out.s1; have s2 : w3.cell? ⟨b, 2, none⟩ = some (.string t.y) := H3.out.s2; have s3 : w3.cell? ⟨b, 3, none⟩ = some (.int .i64 m) := H3.out.s3; have c1 := H3.out.r.c1; clear hb3))
          obtain ⟨w4, hw4⟩ : ∃ w4, w4 = w3.alloc (.cells #[.int .i64 0, .string ⟨#[]⟩, .string ⟨#[]⟩, .int .i64 0] 34) := ⟨_, rfl⟩
          rw [← hw4]
          have H4 := Lib.hid (show Rq w w4 B tb D A n c A' n' c' l b ⟨t, x, m⟩ by rw [hw4]; exact H3.out.below ((Below.refl _ w3).alloc (Nat.le_refl _) _))
          clear hw4 s0 s1 s2 s3 c1
          have s0 : w4.cell? ⟨b, 0, none⟩ = some (.int .i64 t.k) := H4.out.s0
          have s1 : w4.cell? ⟨b, 1, none⟩ = some (.string t.t) := H4.out.s1
          have s2 : w4.cell? ⟨b, 2, none⟩ = some (.string t.y) := H4.out.s2
          have s3 : w4.cell? ⟨b, 3, none⟩ = some (.int .i64 m) := H4.out.s3
          have c1 := H4.out.r.c1
          go_upto_region 7 with (go_at_call 22; refine (rmode_any H4.out.r.v (by have := HN.out.2.2.2.2.2.1; omega) x t).mono ?_; rw [← HHH.out.1]; rintro e w5 ⟨rfl, hb5⟩; have H5 := Lib.hid (H4.out.below hb5); have s0 : w5.cell? ⟨b, 0, none⟩ = some (.int .i64 t.k) := H5.out.s0; have s1 : w5.cell? ⟨b, 1, none⟩ = some (.string t.t) := H5.out.s1; have s2 : w5.cell? ⟨b, 2, none⟩ = some (.string t.y) := H5.out.s2; have s3 : w5.cell? ⟨b, 3, none⟩ = some (.int .i64 m) := H5.out.s3; have c1 := H5.out.r.c1; clear hb5)
          go_wp2_with (go_at_call 37; refine (HC.out.2.1 _ _ _).mono ?_; rw [HHH.out.2]; rintro e w6 ⟨rfl, hb6⟩; have H6 := Lib.hid (H5.out.below hb6); clear hb6)
          go_ret2
          exact ⟨rfl, RkTo.same HN.out.2.2.2.2.1 H6.out.low HN.out.2.2.1⟩
        · have hno : h = 0 ∨ cvB h m = false := by
            by_cases h0 : h = 0
            · exact .inl h0
            · exact .inr (by cases hc : cvB h m with
                | false => rfl
                | true => exact absurd ⟨h0, hc⟩ hhas)
          obtain ⟨R, hR⟩ : ∃ R, R = askL l x t m := ⟨_, rfl⟩
          rw [← hR]
          rw [askL_rest hf hr hwt hh hno] at hR
          have HHH := Lib.hid (And.intro hh (And.intro hno hR))
          clear hR
          clear hf hr hwt hmr hh hhas hno
          go_enter Tryz.func8, Tryz.ntmps8
          go_upto_region 1 with fail
          rw [← hb, ← HW.out.1]
          have HBQ := Lib.hid hb
          clear hb
          go_upto_region 6 with (first | (go_at_call 36; refine (HC.out.1 t _).mono ?_; rw [HF.out]; rintro e w2 ⟨rfl, hb2⟩; have H2 := Lib.hid (HQ.out.below hb2); have s0 : w2.cell? ⟨b, 0, none⟩ = some (.int .i64 t.k) := H2.out.s0; have s1 : w2.cell? ⟨b, 1, none⟩ = some (.string t.t) := H2.out.s1; have s2 : w2.cell? ⟨b, 2, none⟩ = some (.string t.y) := H2.out.s2; have s3 : w2.cell? ⟨b, 3, none⟩ = some (.int .i64 m) := H2.out.s3; clear hb2) | (go_at_call 15; refine (rwaiting_any H2.out.r.v (by have := HN.out.2.2.2.2.2.2; omega) x).mono ?_; rw [HWT.out]; rintro e w3 ⟨rfl, hb3⟩; have H3 := Lib.hid (H2.out.below hb3); have s0 : w3.cell? ⟨b, 0, none⟩ = some (.int .i64 t.k) := H3.out.s0; have s1 : w3.cell? ⟨b, 1, none⟩ = some (.string t.t) := H3.out.s1; have s2 : w3.cell? ⟨b, 2, none⟩ = some (.string t.y) := H3.out.s2; have s3 : w3.cell? ⟨b, 3, none⟩ = some (.int .i64 m) := H3.out.s3; have c1 := H3.out.r.c1; clear hb3))
          obtain ⟨w4, hw4⟩ : ∃ w4, w4 = w3.alloc (.cells #[.int .i64 0, .string ⟨#[]⟩, .string ⟨#[]⟩, .int .i64 0] 34) := ⟨_, rfl⟩
          rw [← hw4]
          have H4 := Lib.hid (show Rq w w4 B tb D A n c A' n' c' l b ⟨t, x, m⟩ by rw [hw4]; exact H3.out.below ((Below.refl _ w3).alloc (Nat.le_refl _) _))
          clear hw4 s0 s1 s2 s3 c1
          have s0 : w4.cell? ⟨b, 0, none⟩ = some (.int .i64 t.k) := H4.out.s0
          have s1 : w4.cell? ⟨b, 1, none⟩ = some (.string t.t) := H4.out.s1
          have s2 : w4.cell? ⟨b, 2, none⟩ = some (.string t.y) := H4.out.s2
          have s3 : w4.cell? ⟨b, 3, none⟩ = some (.int .i64 m) := H4.out.s3
          have c1 := H4.out.r.c1
          go_upto_region 7 with (go_at_call 22; refine (rmode_any H4.out.r.v (by have := HN.out.2.2.2.2.2.1; omega) x t).mono ?_; rw [← HHH.out.1]; rintro e w5 ⟨rfl, hb5⟩; have H5 := Lib.hid (H4.out.below hb5); have s0 : w5.cell? ⟨b, 0, none⟩ = some (.int .i64 t.k) := H5.out.s0; have s1 : w5.cell? ⟨b, 1, none⟩ = some (.string t.t) := H5.out.s1; have s2 : w5.cell? ⟨b, 2, none⟩ = some (.string t.y) := H5.out.s2; have s3 : w5.cell? ⟨b, 3, none⟩ = some (.int .i64 m) := H5.out.s3; have c1 := H5.out.r.c1; clear hb5)
          by_cases h0 : h = 0
          · have e1 : (h != 0) = false := by simp [h0]
            have e2 : (h == 0) = true := by simp [h0]
            have HAM := Lib.hid (show askP l t h = n' ∧ askM h m = m from ⟨by unfold askP; rw [if_pos h0, HN.out.2.1], by unfold askM; rw [if_pos h0]⟩)
            have HPL := Lib.hid (show n' ≤ l.W.length from Nat.le_of_eq HN.out.2.1)
            clear h0
            cases hcan : canL l.H (l.W.take n') ⟨t, x, m⟩ with
            | true =>
              have HCAN := Lib.hid hcan
              clear hcan
              go_wp2_with (first
                | (go_at_call 39; refine (rcan_any H5.out.r.v (by have := HN.out.2.2.2.2.2.1; omega) (by have := HN.out.2.2.2.2.2.2; omega) ⟨t, x, m⟩ n' HPL.out).mono ?_; rw [HCAN.out]; rintro e w17 ⟨rfl, hb17⟩; have H17 := Lib.hid (H5.out.below hb17); have s0 : w17.cell? ⟨b, 0, none⟩ = some (.int .i64 t.k) := H17.out.s0; have s1 : w17.cell? ⟨b, 1, none⟩ = some (.string t.t) := H17.out.s1; have s2 : w17.cell? ⟨b, 2, none⟩ = some (.string t.y) := H17.out.s2; have s3 : w17.cell? ⟨b, 3, none⟩ = some (.int .i64 m) := H17.out.s3; have c1 := H17.out.r.c1; clear hb17)
                | (go_at_call 40; refine (rgive_any H17.out.r.v (by have := HN.out.2.2.2.2.2.1; omega) (Nat.le_trans HN.out.2.2.1 H17.out.low.size) ⟨t, x, m⟩).mono ?_; rintro e w18 ⟨rfl, hto⟩; have H18 := Lib.hid hto; clear hto))
              go_ret2
              have e : R = (⟨giveL ⟨t, x, m⟩ l.H, l.W⟩, true, 0) := by rw [HHH.out.2.2, HAM.out.1, HAM.out.2, if_pos HCAN.out]
              rw [e]
              exact ⟨rfl, RkTo.low H17.out.low HN.out.2.2.2.1 HN.out.2.2.1 H18.out⟩
            | false =>
              have HCAN := Lib.hid hcan
              clear hcan
              go_wp2_with (first
                | (go_at_call 39; refine (rcan_any H5.out.r.v (by have := HN.out.2.2.2.2.2.1; omega) (by have := HN.out.2.2.2.2.2.2; omega) ⟨t, x, m⟩ n' HPL.out).mono ?_; rw [HCAN.out]; rintro e w17 ⟨rfl, hb17⟩; have H17 := Lib.hid (H5.out.below hb17); have s0 : w17.cell? ⟨b, 0, none⟩ = some (.int .i64 t.k) := H17.out.s0; have s1 : w17.cell? ⟨b, 1, none⟩ = some (.string t.t) := H17.out.s1; have s2 : w17.cell? ⟨b, 2, none⟩ = some (.string t.y) := H17.out.s2; have s3 : w17.cell? ⟨b, 3, none⟩ = some (.int .i64 m) := H17.out.s3; have c1 := H17.out.r.c1; clear hb17)
                | (go_at_call 41; refine (rinsert_any H17.out.r.v (by have := HN.out.2.2.2.2.2.2; omega) (Nat.le_trans HN.out.2.2.1 H17.out.low.size) n' HPL.out ⟨t, x, m⟩).mono ?_; rintro e w18 ⟨rfl, hto⟩; have H18 := Lib.hid hto; clear hto))
              go_ret2
              have e : R = (⟨l.H, insL n' ⟨t, x, m⟩ l.W⟩, false, 0) := by rw [HHH.out.2.2, HAM.out.1, HAM.out.2, if_neg (by rw [HCAN.out]; decide)]
              rw [e]
              exact ⟨rfl, RkTo.low H17.out.low HN.out.2.2.2.1 HN.out.2.2.1 H18.out⟩
          · have e1 : (h != 0) = true := by simp [h0]
            have e2 : (h == 0) = false := by simp [h0]
            obtain ⟨M, hM⟩ : ∃ M, M = jnI h m := ⟨_, rfl⟩
            obtain ⟨P, hP⟩ : ∃ P, P = placeGo l.H t 0 0 l.W := ⟨_, rfl⟩
            have HAM := Lib.hid (show askP l t h = P ∧ askM h m = M from ⟨by unfold askP; rw [if_neg h0, hP], by unfold askM; rw [if_neg h0, hM]⟩)
            have HPL := Lib.hid (show P ≤ l.W.length by rw [← HAM.out.1]; exact askP_le _ _ _)
            have HNC := Lib.hid (show cvB h m = false from HHH.out.2.1.resolve_left h0)
            have HJ := Lib.hid (And.intro hM hP)
            clear h0 hM hP
            go_upto_region 11 with (go_at_call 37; refine (HC.out.2.1 _ _ _).mono ?_; rw [HNC.out]; rintro e w6 ⟨rfl, hb6⟩; have H6 := Lib.hid (H5.out.below hb6); have s0 : w6.cell? ⟨b, 0, none⟩ = some (.int .i64 t.k) := H6.out.s0; have s1 : w6.cell? ⟨b, 1, none⟩ = some (.string t.t) := H6.out.s1; have s2 : w6.cell? ⟨b, 2, none⟩ = some (.string t.y) := H6.out.s2; have s3 : w6.cell? ⟨b, 3, none⟩ = some (.int .i64 m) := H6.out.s3; have c1 := H6.out.r.c1; clear hb6)
            go_upto_region 12 with (go_at_call 38; refine (HC.out.2.2 _ _ _).mono ?_; rw [← HJ.out.1]; rintro e w7 ⟨rfl, hb7⟩; have H7 := Lib.hid (H6.out.below hb7); have s0 : w7.cell? ⟨b, 0, none⟩ = some (.int .i64 t.k) := H7.out.s0; have s1 : w7.cell? ⟨b, 1, none⟩ = some (.string t.t) := H7.out.s1; have s2 : w7.cell? ⟨b, 2, none⟩ = some (.string t.y) := H7.out.s2; have s3 : w7.cell? ⟨b, 3, none⟩ = some (.int .i64 m) := H7.out.s3; have c1 := H7.out.r.c1; have z3 := H7.out.q.frozen 3; clear hb7)
            obtain ⟨w8, hw8⟩ : ∃ w8, w8 = w7.setCell ⟨b, 3, none⟩ (.int .i64 M) := ⟨_, rfl⟩
            rw [← hw8]
            have H8 := Lib.hid (show Rq w w8 B tb D A n c A' n' c' l b ⟨t, x, M⟩ by rw [hw8]; exact H7.out.setm (fun k hk => (HN.out.2.2.2.1 k hk).2) (Nat.le_of_eq HBQ.out.symm) M)
            clear hw8 s0 s1 s2 s3 c1 z3
            have s0 : w8.cell? ⟨b, 0, none⟩ = some (.int .i64 t.k) := H8.out.s0
            have s1 : w8.cell? ⟨b, 1, none⟩ = some (.string t.t) := H8.out.s1
            have s2 : w8.cell? ⟨b, 2, none⟩ = some (.string t.y) := H8.out.s2
            have s3 : w8.cell? ⟨b, 3, none⟩ = some (.int .i64 M) := H8.out.s3
            have c1 := H8.out.r.c1
            go_wp2_with fail
            go_loopw [11, 12] (fun pv iv wr => ∃ k p : Nat, k ≤ n' ∧ p ≤ k ∧ pv = .int .i64 p ∧ iv = .int .i64 k ∧ placeGo l.H t k p (l.W.drop k) = P ∧ Rq w wr B tb D A n c A' n' c' l b ⟨t, x, M⟩) (fun _ iv _ => n' - (intOf iv).toNat)
            case atStart => exact ⟨0, 0, Nat.zero_le _, Nat.le_refl _, rfl, rfl, by rw [List.drop_zero]; exact HJ.out.2.symm, H8.out⟩
            case round =>
              clear s0 s1 s2 s3 c1
              obtain ⟨k, p, hk, hpk, rfl, rfl, hat, hQr⟩ := hrel
              have hk0 : (0 : Int) ≤ (k : Int) := Int.natCast_nonneg _
              have hp0 : (0 : Int) ≤ (p : Int) := Int.natCast_nonneg _
              have HQR := Lib.hid hQr
              have c1 := hQr.r.c1
              have HAT := Lib.hid hat
              clear hat hQr
              by_cases hlt : k < n'
              · have hlt1 : (k : Int) < (n' : Int) := by omega
                have hkl : k < l.W.length := by rw [← HN.out.2.1]; exact hlt
                obtain ⟨ad, rfl, _, a0, a1, a2, a3, _, _⟩ := od_at HQR.out.r.wg hkl
                have hst := placeGo_step (H := l.H) (t := t) (p := p) hkl
                rw [HAT.out] at hst
                obtain ⟨y, hy⟩ : ∃ y, y = l.W[k] := ⟨_, rfl⟩
                rw [← hy] at a0 a1 a2 a3 hst
                have HST := Lib.hid (And.intro hst hy)
                have d0 := BelowBy.cell a0
                have d1' := BelowBy.cell a1
                have d2' := BelowBy.cell a2
                have f1 := BelowBy.cell HQR.out.r.c1
                have r0 := BelowBy.cell (show wr.cell? ⟨b, 0, none⟩ = some (.int .i64 t.k) from HQR.out.s0)
                have r1 := BelowBy.cell (show wr.cell? ⟨b, 1, none⟩ = some (.string t.t) from HQR.out.s1)
                have r2 := BelowBy.cell (show wr.cell? ⟨b, 2, none⟩ = some (.string t.y) from HQR.out.s2)
                clear hst hy a0 a1 a2 a3
                cases h1 : decide (y.th = t) with
                | false =>
                  have he := neTh_run y.th t false h1
                  have HI := Lib.hid (show P = placeGo l.H t (k + 1) p (l.W.drop (k + 1)) by rw [HST.out.1, if_pos (of_decide_eq_false h1)])
                  clear h1
                  go_upto_region 16 with fail
                  refine wp_region_below hmix (by kernel_rfl) ?_
                  repeat (first | go_big_quiet_step (fail) | quiet_step (fail))
                  refine wpQuiet_nil ?_
                  intro wz hw'
                  obtain ⟨pp, hw''⟩ := hw'
                  obtain ⟨w9, hw9⟩ : ∃ w9, w9 = pp.w' := ⟨_, rfl⟩
                  have H9 := Lib.hid (show Rq w w9 B tb D A n c _ n' c' l b ⟨t, x, M⟩ by rw [hw9]; exact HQR.out.below pp.h)
                  rw [← hw9] at hw''
                  subst wz
                  clear c1 d0 d1' d2' f1 r0 r1 r2 hw9
                  have c1 := H9.out.r.c1
                  go_wp2_with fail
                  go_roundw
                  case rel => exact ⟨k + 1, p, by omega, by omega, rfl, by go_num, HI.out.symm, H9.out⟩
                  case measure => simp [intOf]; omega
                | true =>
                  have he := neTh_run y.th t true h1
                  have HI := Lib.hid (show P = if modeL l.H y.x t = 0 then p else placeGo l.H t (k + 1) (k + 1) (l.W.drop (k + 1)) by rw [HST.out.1, if_neg (by rw [of_decide_eq_true h1]; simp)])
                  clear h1
                  go_upto_region 16 with fail
                  refine wp_region_below hmix (by kernel_rfl) ?_
                  repeat (first | go_big_quiet_step (fail) | quiet_step (fail))
                  refine wpQuiet_nil ?_
                  intro wz hw'
                  obtain ⟨pp, hw''⟩ := hw'
                  obtain ⟨w9, hw9⟩ : ∃ w9, w9 = pp.w' := ⟨_, rfl⟩
                  have H9 := Lib.hid (show Rq w w9 B tb D A n c _ n' c' l b ⟨t, x, M⟩ by rw [hw9]; exact HQR.out.below pp.h)
                  rw [← hw9] at hw''
                  subst wz
                  clear c1 d0 d1' d2' f1 r0 r1 r2 he hw9
                  obtain ⟨ad2, e2, _, _, _, _, a3, _, _⟩ := od_at H9.out.r.wg hkl
                  obtain rfl := Option.some.inj e2
                  rw [← HST.out.2] at a3
                  have d3' := BelowBy.cell a3
                  have f1 := BelowBy.cell H9.out.r.c1
                  have r0 := BelowBy.cell (show w9.cell? ⟨b, 0, none⟩ = some (.int .i64 t.k) from H9.out.s0)
                  have r1 := BelowBy.cell (show w9.cell? ⟨b, 1, none⟩ = some (.string t.t) from H9.out.s1)
                  have r2 := BelowBy.cell (show w9.cell? ⟨b, 2, none⟩ = some (.string t.y) from H9.out.s2)
                  obtain ⟨mk, hmk⟩ : ∃ mk, mk = modeL l.H y.x t := ⟨_, rfl⟩
                  rw [← hmk] at HI
                  have HMK := Lib.hid hmk
                  clear a3 e2 hmk
                  by_cases hz : mk = 0
                  · have q1 : (mk == 0) = true := by simp [hz]
                    have HI2 := Lib.hid (show P = p by rw [HI.out, if_pos hz])
                    clear hz
                    go_upto_region 17 with fail
                    refine wp_region_below hmix (by kernel_rfl) ?_
                    repeat (first | go_big_quiet_step ((go_at_call 22; exact calls_below ((rmode_b H9.out.r.v (BelowBy.h _) (by have := HN.out.2.2.2.2.2.1; omega) y.x t).to (congrArg (Value.int .i64) HMK.out.symm)))) | quiet_step ((go_at_call 22; exact calls_below ((rmode_b H9.out.r.v (BelowBy.h _) (by have := HN.out.2.2.2.2.2.1; omega) y.x t).to (congrArg (Value.int .i64) HMK.out.symm)))))
                    refine wpQuiet_nil ?_
                    intro wz hw'
                    obtain ⟨pp, hw''⟩ := hw'
                    obtain ⟨w10, hw10⟩ : ∃ w10, w10 = pp.w' := ⟨_, rfl⟩
                    have H10 := Lib.hid (show Rq w w10 B tb D A n c _ n' c' l b ⟨t, x, M⟩ by rw [hw10]; exact H9.out.below pp.h)
                    rw [← hw10] at hw''
                    subst wz
                    clear d3' f1 r0 r1 r2 hw10
                    have s0 : w10.cell? ⟨b, 0, none⟩ = some (.int .i64 t.k) := H10.out.s0
                    have s1 : w10.cell? ⟨b, 1, none⟩ = some (.string t.t) := H10.out.s1
                    have s2 : w10.cell? ⟨b, 2, none⟩ = some (.string t.y) := H10.out.s2
                    have s3 : w10.cell? ⟨b, 3, none⟩ = some (.int .i64 M) := H10.out.s3
                    have c1 := H10.out.r.c1
                    obtain rfl := HI2.out
                    cases hcan : canL l.H (l.W.take P) ⟨t, x, M⟩ with
                    | true =>
                      have HCAN := Lib.hid hcan
                      clear hcan
                      go_wp2_with (first
                        | (go_at_call 39; refine (rcan_any H10.out.r.v (by have := HN.out.2.2.2.2.2.1; omega) (by have := HN.out.2.2.2.2.2.2; omega) ⟨t, x, M⟩ P HPL.out).mono ?_; rw [HCAN.out]; rintro e w17 ⟨rfl, hb17⟩; have H17 := Lib.hid (H10.out.below hb17); have s0 : w17.cell? ⟨b, 0, none⟩ = some (.int .i64 t.k) := H17.out.s0; have s1 : w17.cell? ⟨b, 1, none⟩ = some (.string t.t) := H17.out.s1; have s2 : w17.cell? ⟨b, 2, none⟩ = some (.string t.y) := H17.out.s2; have s3 : w17.cell? ⟨b, 3, none⟩ = some (.int .i64 M) := H17.out.s3; have c1 := H17.out.r.c1; clear hb17)
                        | (go_at_call 40; refine (rgive_any H17.out.r.v (by have := HN.out.2.2.2.2.2.1; omega) (Nat.le_trans HN.out.2.2.1 H17.out.low.size) ⟨t, x, M⟩).mono ?_; rintro e w18 ⟨rfl, hto⟩; have H18 := Lib.hid hto; clear hto))
                      go_ret2
                      have e : R = (⟨giveL ⟨t, x, M⟩ l.H, l.W⟩, true, 0) := by rw [HHH.out.2.2, HAM.out.1, HAM.out.2, if_pos HCAN.out]
                      rw [e]
                      exact ⟨rfl, RkTo.low H17.out.low HN.out.2.2.2.1 HN.out.2.2.1 H18.out⟩
                    | false =>
                      have HCAN := Lib.hid hcan
                      clear hcan
                      go_wp2_with (first
                        | (go_at_call 39; refine (rcan_any H10.out.r.v (by have := HN.out.2.2.2.2.2.1; omega) (by have := HN.out.2.2.2.2.2.2; omega) ⟨t, x, M⟩ P HPL.out).mono ?_; rw [HCAN.out]; rintro e w17 ⟨rfl, hb17⟩; have H17 := Lib.hid (H10.out.below hb17); have s0 : w17.cell? ⟨b, 0, none⟩ = some (.int .i64 t.k) := H17.out.s0; have s1 : w17.cell? ⟨b, 1, none⟩ = some (.string t.t) := H17.out.s1; have s2 : w17.cell? ⟨b, 2, none⟩ = some (.string t.y) := H17.out.s2; have s3 : w17.cell? ⟨b, 3, none⟩ = some (.int .i64 M) := H17.out.s3; have c1 := H17.out.r.c1; clear hb17)
                        | (go_at_call 41; refine (rinsert_any H17.out.r.v (by have := HN.out.2.2.2.2.2.2; omega) (Nat.le_trans HN.out.2.2.1 H17.out.low.size) P HPL.out ⟨t, x, M⟩).mono ?_; rintro e w18 ⟨rfl, hto⟩; have H18 := Lib.hid hto; clear hto))
                      go_ret2
                      have e : R = (⟨l.H, insL P ⟨t, x, M⟩ l.W⟩, false, 0) := by rw [HHH.out.2.2, HAM.out.1, HAM.out.2, if_neg (by rw [HCAN.out]; decide)]
                      rw [e]
                      exact ⟨rfl, RkTo.low H17.out.low HN.out.2.2.2.1 HN.out.2.2.1 H18.out⟩
                  · have q1 : (mk == 0) = false := by simp [hz]
                    have HI2 := Lib.hid (show P = placeGo l.H t (k + 1) (k + 1) (l.W.drop (k + 1)) by rw [HI.out, if_neg hz])
                    clear hz
                    go_upto_region 17 with fail
                    refine wp_region_below hmix (by kernel_rfl) ?_
                    repeat (first | go_big_quiet_step ((go_at_call 22; exact calls_below ((rmode_b H9.out.r.v (BelowBy.h _) (by have := HN.out.2.2.2.2.2.1; omega) y.x t).to (congrArg (Value.int .i64) HMK.out.symm)))) | quiet_step ((go_at_call 22; exact calls_below ((rmode_b H9.out.r.v (BelowBy.h _) (by have := HN.out.2.2.2.2.2.1; omega) y.x t).to (congrArg (Value.int .i64) HMK.out.symm)))))
                    refine wpQuiet_nil ?_
                    intro wz hw'
                    obtain ⟨pp, hw''⟩ := hw'
                    obtain ⟨w10, hw10⟩ : ∃ w10, w10 = pp.w' := ⟨_, rfl⟩
                    have H10 := Lib.hid (show Rq w w10 B tb D A n c _ n' c' l b ⟨t, x, M⟩ by rw [hw10]; exact H9.out.below pp.h)
                    rw [← hw10] at hw''
                    subst wz
                    clear d3' f1 r0 r1 r2 hw10
                    have c1 := H10.out.r.c1
                    go_wp2_with fail
                    go_roundw
                    case rel => exact ⟨k + 1, k + 1, by omega, by omega, by go_num, by go_num, HI2.out.symm, H10.out⟩
                    case measure => simp [intOf]; omega
              · have hlt1 : ¬ (k : Int) < (n' : Int) := by omega
                have HI2 := Lib.hid (show P = p by rw [← HAT.out, List.drop_eq_nil_of_le (by rw [← HN.out.2.1]; omega)]; rfl)
                obtain rfl := HI2.out
                have s0 : wr.cell? ⟨b, 0, none⟩ = some (.int .i64 t.k) := HQR.out.s0
                have s1 : wr.cell? ⟨b, 1, none⟩ = some (.string t.t) := HQR.out.s1
                have s2 : wr.cell? ⟨b, 2, none⟩ = some (.string t.y) := HQR.out.s2
                have s3 : wr.cell? ⟨b, 3, none⟩ = some (.int .i64 M) := HQR.out.s3
                have H11 := HQR
                cases hcan : canL l.H (l.W.take P) ⟨t, x, M⟩ with
                | true =>
                  have HCAN := Lib.hid hcan
                  clear hcan
                  go_wp2_with (first
                    | (go_at_call 39; refine (rcan_any H11.out.r.v (by have := HN.out.2.2.2.2.2.1; omega) (by have := HN.out.2.2.2.2.2.2; omega) ⟨t, x, M⟩ P HPL.out).mono ?_; rw [HCAN.out]; rintro e w17 ⟨rfl, hb17⟩; have H17 := Lib.hid (H11.out.below hb17); have s0 : w17.cell? ⟨b, 0, none⟩ = some (.int .i64 t.k) := H17.out.s0; have s1 : w17.cell? ⟨b, 1, none⟩ = some (.string t.t) := H17.out.s1; have s2 : w17.cell? ⟨b, 2, none⟩ = some (.string t.y) := H17.out.s2; have s3 : w17.cell? ⟨b, 3, none⟩ = some (.int .i64 M) := H17.out.s3; have c1 := H17.out.r.c1; clear hb17)
                    | (go_at_call 40; refine (rgive_any H17.out.r.v (by have := HN.out.2.2.2.2.2.1; omega) (Nat.le_trans HN.out.2.2.1 H17.out.low.size) ⟨t, x, M⟩).mono ?_; rintro e w18 ⟨rfl, hto⟩; have H18 := Lib.hid hto; clear hto))
                  go_ret2
                  have e : R = (⟨giveL ⟨t, x, M⟩ l.H, l.W⟩, true, 0) := by rw [HHH.out.2.2, HAM.out.1, HAM.out.2, if_pos HCAN.out]
                  rw [e]
                  exact ⟨rfl, RkTo.low H17.out.low HN.out.2.2.2.1 HN.out.2.2.1 H18.out⟩
                | false =>
                  have HCAN := Lib.hid hcan
                  clear hcan
                  go_wp2_with (first
                    | (go_at_call 39; refine (rcan_any H11.out.r.v (by have := HN.out.2.2.2.2.2.1; omega) (by have := HN.out.2.2.2.2.2.2; omega) ⟨t, x, M⟩ P HPL.out).mono ?_; rw [HCAN.out]; rintro e w17 ⟨rfl, hb17⟩; have H17 := Lib.hid (H11.out.below hb17); have s0 : w17.cell? ⟨b, 0, none⟩ = some (.int .i64 t.k) := H17.out.s0; have s1 : w17.cell? ⟨b, 1, none⟩ = some (.string t.t) := H17.out.s1; have s2 : w17.cell? ⟨b, 2, none⟩ = some (.string t.y) := H17.out.s2; have s3 : w17.cell? ⟨b, 3, none⟩ = some (.int .i64 M) := H17.out.s3; have c1 := H17.out.r.c1; clear hb17)
                    | (go_at_call 41; refine (rinsert_any H17.out.r.v (by have := HN.out.2.2.2.2.2.2; omega) (Nat.le_trans HN.out.2.2.1 H17.out.low.size) P HPL.out ⟨t, x, M⟩).mono ?_; rintro e w18 ⟨rfl, hto⟩; have H18 := Lib.hid hto; clear hto))
                  go_ret2
                  have e : R = (⟨l.H, insL P ⟨t, x, M⟩ l.W⟩, false, 0) := by rw [HHH.out.2.2, HAM.out.1, HAM.out.2, if_neg (by rw [HCAN.out]; decide)]
                  rw [e]
                  exact ⟨rfl, RkTo.low H17.out.low HN.out.2.2.2.1 HN.out.2.2.1 H18.out⟩
end Go.Proofs.YthbbheegkhlniaaGreat
