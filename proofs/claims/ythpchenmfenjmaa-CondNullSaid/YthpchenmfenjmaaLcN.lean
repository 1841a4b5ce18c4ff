/-
  A row of nulls: the law CondNull.
-/
import Derived.Test.YthpchenmfenjmaaLcS
namespace Go.Proofs.Ythpchenmfenjmaa
open Go.RowKit Go.Lib Go.Shelf

theorem VaR.nil (w : World) : VaR w none 0 [] := ⟨⟨fun h => absurd h (by simp), fun i hi => absurd hi (by simp)⟩, rfl, fun c hc => (by cases hc), by simp⟩
def nul : Va := ⟨0, 0, ⟨#[]⟩⟩
theorem nulls_cells (n : Nat) : (madeCells #[.int .i64 0, .int .i64 0, .string ⟨#[]⟩] (n * 3)).toList = (List.replicate n nul).flatMap vcell := by
  apply List.ext_getElem?
  intro j
  by_cases hj : j < n * 3
  · have hi : j / 3 < (List.replicate n nul).length := by simp; omega
    have h := flat_cell (cell := vcell) (S := 3) (fun _ => rfl) (List.replicate n nul) (j / 3) (j % 3) hi (by omega)
    rw [show j / 3 * 3 + j % 3 = j by omega] at h
    rw [h, List.getElem_replicate]
    have h3 : j % 3 = 0 ∨ j % 3 = 1 ∨ j % 3 = 2 := by omega
    rcases h3 with h3 | h3 | h3 <;> simp [madeCells, hj, h3, vcell, nul]
  · have h2 : ((List.replicate n nul).flatMap vcell).length = n * 3 := by simp [List.length_flatMap, vcell]
    rw [List.getElem?_eq_none (l := (List.replicate n nul).flatMap vcell) (by rw [h2]; omega)]
    simp [madeCells, hj]
theorem null_truth (col : ByteArray) (op : Int) (y : Va) (cols : List Co) : truthL ⟨col, op, y⟩ cols (List.replicate cols.length nul) = if placeL cols col = none then -1 else if op = 5 then 1 else if op = 6 then 0 else -1 := by
  unfold truthL
  simp only
  cases hp : placeL cols col with
  | none => rfl
  | some k =>
    have hk : k < cols.length := by rw [place_idx] at hp; exact idxL_lt hp
    rw [if_neg (by simp)]
    show (match (List.replicate cols.length nul)[k]? with | none => -1 | some v => truthV ⟨col, op, y⟩ v) = _
    rw [List.getElem?_eq_getElem (by simpa using hk), List.getElem_replicate]
    simp only
    unfold truthV
    simp only
    have hc : ¬ canCmp nul y := fun h => h.2.2.2 rfl
    rw [if_neg hc]
    rfl
/-- where the law stands: its condition in a box, the columns, the nulls -/
structure NlS (w0 w : World) (b : Nat) (c : Cd) (A2 : Option Addr) (n2 : Nat) (cols : List Co) (A3 : Option Addr) (r : List Va) : Prop where
  s : SdS w0 w b c A2 cols none []
  sm : c.Sm
  co : CoR w A2 n2 cols
  va : VaR w A3 n2 r
theorem NlS.below {w0 w w' : World} {b : Nat} {c : Cd} {A2 : Option Addr} {n2 : Nat} {cols : List Co} {A3 : Option Addr} {r : List Va} (h : NlS w0 w b c A2 n2 cols A3 r) (hb : Below w.heap.size w w') : NlS w0 w' b c A2 n2 cols A3 r :=
  ⟨h.s.below hb, h.sm, h.co.below hb, h.va.below hb⟩
set_option maxRecDepth 100000 in
set_option maxHeartbeats 12800000 in
theorem cnull_none (I : ImplCo) {w : World} {A2 : Option Addr} {c2 : Nat} {cols : List Co} {col : ByteArray} {op : Int} {y : Va} (hi : Cd.In ⟨col, op, y⟩) (h2 : RowG coC 3 w w.heap.size A2 cols) (i2 : ∀ x ∈ cols, x.In) (hp : placeL cols col = none) :
    Calls Try.prog 6 #[.agg #[.string col, .int .i64 op, .int .i64 y.k, .int .i64 y.n, .string y.s], .slice A2 cols.length c2] w fun e w' => e = .returned (.bool true) ∧ Below w.heap.size w w' := by
  obtain ⟨i0, hinf, hz0, hz1, hz2⟩ := info_parts Try.infoval
  have hS := SdS.new ⟨col, op, y⟩ h2 (A3 := none) (r := []) (VaR.nil w).row
  simp only at hS
  obtain ⟨w1, hw1⟩ : ∃ w1, w1 = w.alloc (.cells #[.string col, .int .i64 op, .int .i64 y.k, .int .i64 y.n, .string y.s] 25) := ⟨_, rfl⟩
  rw [← hw1] at hS
  have hal := fun w => alive12_any I w
  have HA := Lib.hid hal
  have HI := Lib.hid I
  have H1 := Lib.hid hS
  have HW := Lib.hid hw1
  have HN := Lib.hid (And.intro hi i2)
  have HT := Lib.hid (show truthL ⟨col, op, y⟩ cols (List.replicate cols.length nul) = (-1) by rw [null_truth, if_pos hp])

  have HP := Lib.hid hp
  clear hal hS hw1 hi i2 h2 I hp
  obtain ⟨n2, hn2⟩ : ∃ n2, n2 = cols.length := ⟨_, rfl⟩
  rw [← hn2]
  rw [← hn2] at HT
  have HL := Lib.hid hn2
  clear hn2
  go_enter Try.func6, Try.ntmps6
  go_upto_region 1 with fail
  rw [← HW.out]
  go_upto_region 3 with (go_at_call 7; refine (HA.out _).mono ?_; rintro e w2 ⟨rfl, hb⟩; have H2 := Lib.hid (H1.out.below hb); obtain ⟨z0, z1, z2, z3, z4⟩ := H2.out.cells; clear hb)
  have H3 := Lib.hid (H2.out.below ((Below.refl _ w2).alloc (Nat.le_refl _) (.cells #[.string col, .int .i64 op, .int .i64 y.k, .int .i64 y.n, .string y.s] 25)))
  have HQ := Lib.hid (Blk.new w2 25 #[.string col, .int .i64 op, .int .i64 y.k, .int .i64 y.n, .string y.s])
  have hg := great12_any (c := 1) (c2 := c2) (c3 := 0) (RowG.one (cell := cdC) (S := 5) (⟨col, op, y⟩ : Cd) HQ.out) (n := 1) rfl (H3.out.co.more H3.out.low.size) HL.out (H3.out.va.more H3.out.low.size) (n3 := 0) rfl
  obtain ⟨w3, hw3⟩ : ∃ w3, w3 = w2.alloc (.cells #[.string col, .int .i64 op, .int .i64 y.k, .int .i64 y.n, .string y.s] 25) := ⟨_, rfl⟩
  rw [← hw3] at hg H3
  have HG := Lib.hid hg
  have HW3 := Lib.hid hw3
  clear hg hw3
  go_upto_region 5 with (go_at_call 8; rw [← HW3.out]; refine HG.out.mono ?_; rintro e w4 ⟨hw4, he⟩; subst hw4; clear z0 z1 z2 z3 z4; obtain ⟨z0, z1, z2, z3, z4⟩ := H3.out.cells; rcases he with rfl | ⟨rfl, hL⟩)
  · go_ret
    exact ⟨rfl, H3.out.low⟩
  have HK := Lib.hid hL
  clear hL
  obtain ⟨w5, hmk, hown, hgr⟩ := run_make_full (P := Try.prog) w4 w.heap.size 28 23 i0 (.agg #[.int .i64 0, .int .i64 0, .string ⟨#[]⟩]) 3 Try.underlying28 hinf hz0 hz1 .i64 .i64 n2 (by rw [hz2]; have := HK.out.nc; have := HL.out; omega) (by unfold maxLen; have := HK.out.nc; have := HL.out; omega) H3.out.low.size
  have hb5 : Below w4.heap.size w4 w5 := ((Chg.refl Non w4).grown hgr (fun k hk => by cases hk)).non
  have hO : NlS w w5 w.heap.size ⟨col, op, y⟩ A2 n2 cols (some ⟨w4.heap.size, 0, none⟩) (List.replicate n2 nul) := by
    have hS5 := H3.out.below hb5
    refine ⟨hS5, Cd.sm_of HK.out (fun x hx => by rw [List.mem_singleton.1 hx]; exact HN.out.1) _ (List.mem_singleton_self _), CoR.of hS5.co hS5.low.size HL.out HK.out HN.out.2, ⟨RowG.of_rows (c := n2) (fun _ => rfl) (by rw [← nulls_cells]; exact hown) (by simp), by simp, fun x hx => by obtain rfl := List.eq_of_mem_replicate hx; unfold nul Va.Sm NumI; decide, by have := HK.out.nc; have := HL.out; simp; omega⟩⟩
  have HS := Lib.hid hO
  clear hO hown hgr hb5 z0 z1 z2 z3 z4 hinf hz0 hz1 hz2
  go_upto_region 6 with fail
  clear hmk
  obtain ⟨z0, z1, z2, z3, z4⟩ := HS.out.s.cells
  simp only at z0 z1 z2 z3 z4
  go_upto_region 7 with (go_at_call 14; refine (HI.out.place (c := c2) col HS.out.co HS.out.sm.1).mono ?_; rintro e w6 ⟨rfl, hb⟩; rw [HP.out]; simp only [Option.isSome, Option.getD]; have HX := Lib.hid (HS.out.below hb); clear HS hb z0 z1 z2 z3 z4; have HS := HX; clear HX; obtain ⟨z0, z1, z2, z3, z4⟩ := HS.out.s.cells; simp only at z0 z1 z2 z3 z4)
  go_upto_region 8 with (go_at_call 9; refine (HI.out.truth (c2 := c2) (c3 := n2) (⟨col, op, y⟩ : Cd) HS.out.sm HS.out.co HS.out.va).mono ?_; rintro e w7 ⟨rfl, hb⟩; rw [HT.out]; have HX := Lib.hid (HS.out.below hb); clear HS hb z0 z1 z2 z3 z4; have HS := HX; clear HX; obtain ⟨z0, z1, z2, z3, z4⟩ := HS.out.s.cells; simp only at z0 z1 z2 z3 z4)
  go_wp2_with fail
  go_ret
  exact ⟨rfl, HS.out.s.low⟩
set_option maxRecDepth 100000 in
set_option maxHeartbeats 12800000 in
theorem cnull_op5 (I : ImplCo) {w : World} {A2 : Option Addr} {c2 : Nat} {cols : List Co} {col : ByteArray} {y : Va} (hi : Cd.In ⟨col, 5, y⟩) (h2 : RowG coC 3 w w.heap.size A2 cols) (i2 : ∀ x ∈ cols, x.In) {k : Nat} (hp : placeL cols col = some k) :
    Calls Try.prog 6 #[.agg #[.string col, .int .i64 5, .int .i64 y.k, .int .i64 y.n, .string y.s], .slice A2 cols.length c2] w fun e w' => e = .returned (.bool true) ∧ Below w.heap.size w w' := by
  obtain ⟨i0, hinf, hz0, hz1, hz2⟩ := info_parts Try.infoval
  have hS := SdS.new ⟨col, 5, y⟩ h2 (A3 := none) (r := []) (VaR.nil w).row
  simp only at hS
  obtain ⟨w1, hw1⟩ : ∃ w1, w1 = w.alloc (.cells #[.string col, .int .i64 5, .int .i64 y.k, .int .i64 y.n, .string y.s] 25) := ⟨_, rfl⟩
  rw [← hw1] at hS
  have hal := fun w => alive12_any I w
  have HA := Lib.hid hal
  have HI := Lib.hid I
  have H1 := Lib.hid hS
  have HW := Lib.hid hw1
  have HN := Lib.hid (And.intro hi i2)
  have HT := Lib.hid (show truthL ⟨col, 5, y⟩ cols (List.replicate cols.length nul) = 1 by rw [null_truth, if_neg (by rw [hp]; simp)]; rfl)

  have HP := Lib.hid hp
  clear hal hS hw1 hi i2 h2 I hp
  obtain ⟨n2, hn2⟩ : ∃ n2, n2 = cols.length := ⟨_, rfl⟩
  rw [← hn2]
  rw [← hn2] at HT
  have HL := Lib.hid hn2
  clear hn2
  go_enter Try.func6, Try.ntmps6
  go_upto_region 1 with fail
  rw [← HW.out]
  go_upto_region 3 with (go_at_call 7; refine (HA.out _).mono ?_; rintro e w2 ⟨rfl, hb⟩; have H2 := Lib.hid (H1.out.below hb); obtain ⟨z0, z1, z2, z3, z4⟩ := H2.out.cells; clear hb)
  have H3 := Lib.hid (H2.out.below ((Below.refl _ w2).alloc (Nat.le_refl _) (.cells #[.string col, .int .i64 5, .int .i64 y.k, .int .i64 y.n, .string y.s] 25)))
  have HQ := Lib.hid (Blk.new w2 25 #[.string col, .int .i64 5, .int .i64 y.k, .int .i64 y.n, .string y.s])
  have hg := great12_any (c := 1) (c2 := c2) (c3 := 0) (RowG.one (cell := cdC) (S := 5) (⟨col, 5, y⟩ : Cd) HQ.out) (n := 1) rfl (H3.out.co.more H3.out.low.size) HL.out (H3.out.va.more H3.out.low.size) (n3 := 0) rfl
  obtain ⟨w3, hw3⟩ : ∃ w3, w3 = w2.alloc (.cells #[.string col, .int .i64 5, .int .i64 y.k, .int .i64 y.n, .string y.s] 25) := ⟨_, rfl⟩
  rw [← hw3] at hg H3
  have HG := Lib.hid hg
  have HW3 := Lib.hid hw3
  clear hg hw3
  go_upto_region 5 with (go_at_call 8; rw [← HW3.out]; refine HG.out.mono ?_; rintro e w4 ⟨hw4, he⟩; subst hw4; clear z0 z1 z2 z3 z4; obtain ⟨z0, z1, z2, z3, z4⟩ := H3.out.cells; rcases he with rfl | ⟨rfl, hL⟩)
  · go_ret
    exact ⟨rfl, H3.out.low⟩
  have HK := Lib.hid hL
  clear hL
  obtain ⟨w5, hmk, hown, hgr⟩ := run_make_full (P := Try.prog) w4 w.heap.size 28 23 i0 (.agg #[.int .i64 0, .int .i64 0, .string ⟨#[]⟩]) 3 Try.underlying28 hinf hz0 hz1 .i64 .i64 n2 (by rw [hz2]; have := HK.out.nc; have := HL.out; omega) (by unfold maxLen; have := HK.out.nc; have := HL.out; omega) H3.out.low.size
  have hb5 : Below w4.heap.size w4 w5 := ((Chg.refl Non w4).grown hgr (fun k hk => by cases hk)).non
  have hO : NlS w w5 w.heap.size ⟨col, 5, y⟩ A2 n2 cols (some ⟨w4.heap.size, 0, none⟩) (List.replicate n2 nul) := by
    have hS5 := H3.out.below hb5
    refine ⟨hS5, Cd.sm_of HK.out (fun x hx => by rw [List.mem_singleton.1 hx]; exact HN.out.1) _ (List.mem_singleton_self _), CoR.of hS5.co hS5.low.size HL.out HK.out HN.out.2, ⟨RowG.of_rows (c := n2) (fun _ => rfl) (by rw [← nulls_cells]; exact hown) (by simp), by simp, fun x hx => by obtain rfl := List.eq_of_mem_replicate hx; unfold nul Va.Sm NumI; decide, by have := HK.out.nc; have := HL.out; simp; omega⟩⟩
  have HS := Lib.hid hO
  clear hO hown hgr hb5 z0 z1 z2 z3 z4 hinf hz0 hz1 hz2
  go_upto_region 6 with fail
  clear hmk
  obtain ⟨z0, z1, z2, z3, z4⟩ := HS.out.s.cells
  simp only at z0 z1 z2 z3 z4
  go_upto_region 7 with (go_at_call 14; refine (HI.out.place (c := c2) col HS.out.co HS.out.sm.1).mono ?_; rintro e w6 ⟨rfl, hb⟩; rw [HP.out]; simp only [Option.isSome, Option.getD]; have HX := Lib.hid (HS.out.below hb); clear HS hb z0 z1 z2 z3 z4; have HS := HX; clear HX; obtain ⟨z0, z1, z2, z3, z4⟩ := HS.out.s.cells; simp only at z0 z1 z2 z3 z4)
  go_upto_region 8 with (go_at_call 9; refine (HI.out.truth (c2 := c2) (c3 := n2) (⟨col, 5, y⟩ : Cd) HS.out.sm HS.out.co HS.out.va).mono ?_; rintro e w7 ⟨rfl, hb⟩; rw [HT.out]; have HX := Lib.hid (HS.out.below hb); clear HS hb z0 z1 z2 z3 z4; have HS := HX; clear HX; obtain ⟨z0, z1, z2, z3, z4⟩ := HS.out.s.cells; simp only at z0 z1 z2 z3 z4)
  go_wp2_with fail
  go_ret
  exact ⟨rfl, HS.out.s.low⟩
set_option maxRecDepth 100000 in
set_option maxHeartbeats 12800000 in
theorem cnull_op6 (I : ImplCo) {w : World} {A2 : Option Addr} {c2 : Nat} {cols : List Co} {col : ByteArray} {y : Va} (hi : Cd.In ⟨col, 6, y⟩) (h2 : RowG coC 3 w w.heap.size A2 cols) (i2 : ∀ x ∈ cols, x.In) {k : Nat} (hp : placeL cols col = some k) :
    Calls Try.prog 6 #[.agg #[.string col, .int .i64 6, .int .i64 y.k, .int .i64 y.n, .string y.s], .slice A2 cols.length c2] w fun e w' => e = .returned (.bool true) ∧ Below w.heap.size w w' := by
  obtain ⟨i0, hinf, hz0, hz1, hz2⟩ := info_parts Try.infoval
  have hS := SdS.new ⟨col, 6, y⟩ h2 (A3 := none) (r := []) (VaR.nil w).row
  simp only at hS
  obtain ⟨w1, hw1⟩ : ∃ w1, w1 = w.alloc (.cells #[.string col, .int .i64 6, .int .i64 y.k, .int .i64 y.n, .string y.s] 25) := ⟨_, rfl⟩
  rw [← hw1] at hS
  have hal := fun w => alive12_any I w
  have HA := Lib.hid hal
  have HI := Lib.hid I
  have H1 := Lib.hid hS
  have HW := Lib.hid hw1
  have HN := Lib.hid (And.intro hi i2)
  have HT := Lib.hid (show truthL ⟨col, 6, y⟩ cols (List.replicate cols.length nul) = 0 by rw [null_truth, if_neg (by rw [hp]; simp)]; rfl)

  have HP := Lib.hid hp
  clear hal hS hw1 hi i2 h2 I hp
  obtain ⟨n2, hn2⟩ : ∃ n2, n2 = cols.length := ⟨_, rfl⟩
  rw [← hn2]
  rw [← hn2] at HT
  have HL := Lib.hid hn2
  clear hn2
  go_enter Try.func6, Try.ntmps6
  go_upto_region 1 with fail
  rw [← HW.out]
  go_upto_region 3 with (go_at_call 7; refine (HA.out _).mono ?_; rintro e w2 ⟨rfl, hb⟩; have H2 := Lib.hid (H1.out.below hb); obtain ⟨z0, z1, z2, z3, z4⟩ := H2.out.cells; clear hb)
  have H3 := Lib.hid (H2.out.below ((Below.refl _ w2).alloc (Nat.le_refl _) (.cells #[.string col, .int .i64 6, .int .i64 y.k, .int .i64 y.n, .string y.s] 25)))
  have HQ := Lib.hid (Blk.new w2 25 #[.string col, .int .i64 6, .int .i64 y.k, .int .i64 y.n, .string y.s])
  have hg := great12_any (c := 1) (c2 := c2) (c3 := 0) (RowG.one (cell := cdC) (S := 5) (⟨col, 6, y⟩ : Cd) HQ.out) (n := 1) rfl (H3.out.co.more H3.out.low.size) HL.out (H3.out.va.more H3.out.low.size) (n3 := 0) rfl
  obtain ⟨w3, hw3⟩ : ∃ w3, w3 = w2.alloc (.cells #[.string col, .int .i64 6, .int .i64 y.k, .int .i64 y.n, .string y.s] 25) := ⟨_, rfl⟩
  rw [← hw3] at hg H3
  have HG := Lib.hid hg
  have HW3 := Lib.hid hw3
  clear hg hw3
  go_upto_region 5 with (go_at_call 8; rw [← HW3.out]; refine HG.out.mono ?_; rintro e w4 ⟨hw4, he⟩; subst hw4; clear z0 z1 z2 z3 z4; obtain ⟨z0, z1, z2, z3, z4⟩ := H3.out.cells; rcases he with rfl | ⟨rfl, hL⟩)
  · go_ret
    exact ⟨rfl, H3.out.low⟩
  have HK := Lib.hid hL
  clear hL
  obtain ⟨w5, hmk, hown, hgr⟩ := run_make_full (P := Try.prog) w4 w.heap.size 28 23 i0 (.agg #[.int .i64 0, .int .i64 0, .string ⟨#[]⟩]) 3 Try.underlying28 hinf hz0 hz1 .i64 .i64 n2 (by rw [hz2]; have := HK.out.nc; have := HL.out; omega) (by unfold maxLen; have := HK.out.nc; have := HL.out; omega) H3.out.low.size
  have hb5 : Below w4.heap.size w4 w5 := ((Chg.refl Non w4).grown hgr (fun k hk => by cases hk)).non
  have hO : NlS w w5 w.heap.size ⟨col, 6, y⟩ A2 n2 cols (some ⟨w4.heap.size, 0, none⟩) (List.replicate n2 nul) := by
    have hS5 := H3.out.below hb5
    refine ⟨hS5, Cd.sm_of HK.out (fun x hx => by rw [List.mem_singleton.1 hx]; exact HN.out.1) _ (List.mem_singleton_self _), CoR.of hS5.co hS5.low.size HL.out HK.out HN.out.2, ⟨RowG.of_rows (c := n2) (fun _ => rfl) (by rw [← nulls_cells]; exact hown) (by simp), by simp, fun x hx => by obtain rfl := List.eq_of_mem_replicate hx; unfold nul Va.Sm NumI; decide, by have := HK.out.nc; have := HL.out; simp; omega⟩⟩
  have HS := Lib.hid hO
  clear hO hown hgr hb5 z0 z1 z2 z3 z4 hinf hz0 hz1 hz2
  go_upto_region 6 with fail
  clear hmk
  obtain ⟨z0, z1, z2, z3, z4⟩ := HS.out.s.cells
  simp only at z0 z1 z2 z3 z4
  go_upto_region 7 with (go_at_call 14; refine (HI.out.place (c := c2) col HS.out.co HS.out.sm.1).mono ?_; rintro e w6 ⟨rfl, hb⟩; rw [HP.out]; simp only [Option.isSome, Option.getD]; have HX := Lib.hid (HS.out.below hb); clear HS hb z0 z1 z2 z3 z4; have HS := HX; clear HX; obtain ⟨z0, z1, z2, z3, z4⟩ := HS.out.s.cells; simp only at z0 z1 z2 z3 z4)
  go_upto_region 8 with (go_at_call 9; refine (HI.out.truth (c2 := c2) (c3 := n2) (⟨col, 6, y⟩ : Cd) HS.out.sm HS.out.co HS.out.va).mono ?_; rintro e w7 ⟨rfl, hb⟩; rw [HT.out]; have HX := Lib.hid (HS.out.below hb); clear HS hb z0 z1 z2 z3 z4; have HS := HX; clear HX; obtain ⟨z0, z1, z2, z3, z4⟩ := HS.out.s.cells; simp only at z0 z1 z2 z3 z4)
  go_wp2_with fail
  go_ret
  exact ⟨rfl, HS.out.s.low⟩
set_option maxRecDepth 100000 in
set_option maxHeartbeats 12800000 in
theorem cnull_other (I : ImplCo) {w : World} {A2 : Option Addr} {c2 : Nat} {cols : List Co} {col : ByteArray} {op : Int} {y : Va} (hi : Cd.In ⟨col, op, y⟩) (h2 : RowG coC 3 w w.heap.size A2 cols) (i2 : ∀ x ∈ cols, x.In) {k : Nat} (hp : placeL cols col = some k) (h5 : op ≠ 5) (h6 : op ≠ 6) :
    Calls Try.prog 6 #[.agg #[.string col, .int .i64 op, .int .i64 y.k, .int .i64 y.n, .string y.s], .slice A2 cols.length c2] w fun e w' => e = .returned (.bool true) ∧ Below w.heap.size w w' := by
  obtain ⟨i0, hinf, hz0, hz1, hz2⟩ := info_parts Try.infoval
  have hS := SdS.new ⟨col, op, y⟩ h2 (A3 := none) (r := []) (VaR.nil w).row
  simp only at hS
  obtain ⟨w1, hw1⟩ : ∃ w1, w1 = w.alloc (.cells #[.string col, .int .i64 op, .int .i64 y.k, .int .i64 y.n, .string y.s] 25) := ⟨_, rfl⟩
  rw [← hw1] at hS
  have hal := fun w => alive12_any I w
  have HA := Lib.hid hal
  have HI := Lib.hid I
  have H1 := Lib.hid hS
  have HW := Lib.hid hw1
  have HN := Lib.hid (And.intro hi i2)
  have HT := Lib.hid (show truthL ⟨col, op, y⟩ cols (List.replicate cols.length nul) = (-1) by rw [null_truth, if_neg (by rw [hp]; simp), if_neg h5, if_neg h6])
  have o5 : (op == 5) = false := by simp [h5]
  have o6 : (op == 6) = false := by simp [h6]
  clear h5 h6
  have HP := Lib.hid hp
  clear hal hS hw1 hi i2 h2 I hp
  obtain ⟨n2, hn2⟩ : ∃ n2, n2 = cols.length := ⟨_, rfl⟩
  rw [← hn2]
  rw [← hn2] at HT
  have HL := Lib.hid hn2
  clear hn2
  go_enter Try.func6, Try.ntmps6
  go_upto_region 1 with fail
  rw [← HW.out]
  go_upto_region 3 with (go_at_call 7; refine (HA.out _).mono ?_; rintro e w2 ⟨rfl, hb⟩; have H2 := Lib.hid (H1.out.below hb); obtain ⟨z0, z1, z2, z3, z4⟩ := H2.out.cells; clear hb)
  have H3 := Lib.hid (H2.out.below ((Below.refl _ w2).alloc (Nat.le_refl _) (.cells #[.string col, .int .i64 op, .int .i64 y.k, .int .i64 y.n, .string y.s] 25)))
  have HQ := Lib.hid (Blk.new w2 25 #[.string col, .int .i64 op, .int .i64 y.k, .int .i64 y.n, .string y.s])
  have hg := great12_any (c := 1) (c2 := c2) (c3 := 0) (RowG.one (cell := cdC) (S := 5) (⟨col, op, y⟩ : Cd) HQ.out) (n := 1) rfl (H3.out.co.more H3.out.low.size) HL.out (H3.out.va.more H3.out.low.size) (n3 := 0) rfl
  obtain ⟨w3, hw3⟩ : ∃ w3, w3 = w2.alloc (.cells #[.string col, .int .i64 op, .int .i64 y.k, .int .i64 y.n, .string y.s] 25) := ⟨_, rfl⟩
  rw [← hw3] at hg H3
  have HG := Lib.hid hg
  have HW3 := Lib.hid hw3
  clear hg hw3
  go_upto_region 5 with (go_at_call 8; rw [← HW3.out]; refine HG.out.mono ?_; rintro e w4 ⟨hw4, he⟩; subst hw4; clear z0 z1 z2 z3 z4; obtain ⟨z0, z1, z2, z3, z4⟩ := H3.out.cells; rcases he with rfl | ⟨rfl, hL⟩)
  · go_ret
    exact ⟨rfl, H3.out.low⟩
  have HK := Lib.hid hL
  clear hL
  obtain ⟨w5, hmk, hown, hgr⟩ := run_make_full (P := Try.prog) w4 w.heap.size 28 23 i0 (.agg #[.int .i64 0, .int .i64 0, .string ⟨#[]⟩]) 3 Try.underlying28 hinf hz0 hz1 .i64 .i64 n2 (by rw [hz2]; have := HK.out.nc; have := HL.out; omega) (by unfold maxLen; have := HK.out.nc; have := HL.out; omega) H3.out.low.size
  have hb5 : Below w4.heap.size w4 w5 := ((Chg.refl Non w4).grown hgr (fun k hk => by cases hk)).non
  have hO : NlS w w5 w.heap.size ⟨col, op, y⟩ A2 n2 cols (some ⟨w4.heap.size, 0, none⟩) (List.replicate n2 nul) := by
    have hS5 := H3.out.below hb5
    refine ⟨hS5, Cd.sm_of HK.out (fun x hx => by rw [List.mem_singleton.1 hx]; exact HN.out.1) _ (List.mem_singleton_self _), CoR.of hS5.co hS5.low.size HL.out HK.out HN.out.2, ⟨RowG.of_rows (c := n2) (fun _ => rfl) (by rw [← nulls_cells]; exact hown) (by simp), by simp, fun x hx => by obtain rfl := List.eq_of_mem_replicate hx; unfold nul Va.Sm NumI; decide, by have := HK.out.nc; have := HL.out; simp; omega⟩⟩
  have HS := Lib.hid hO
  clear hO hown hgr hb5 z0 z1 z2 z3 z4 hinf hz0 hz1 hz2
  go_upto_region 6 with fail
  clear hmk
  obtain ⟨z0, z1, z2, z3, z4⟩ := HS.out.s.cells
  simp only at z0 z1 z2 z3 z4
  go_upto_region 7 with (go_at_call 14; refine (HI.out.place (c := c2) col HS.out.co HS.out.sm.1).mono ?_; rintro e w6 ⟨rfl, hb⟩; rw [HP.out]; simp only [Option.isSome, Option.getD]; have HX := Lib.hid (HS.out.below hb); clear HS hb z0 z1 z2 z3 z4; have HS := HX; clear HX; obtain ⟨z0, z1, z2, z3, z4⟩ := HS.out.s.cells; simp only at z0 z1 z2 z3 z4)
  go_upto_region 8 with (go_at_call 9; refine (HI.out.truth (c2 := c2) (c3 := n2) (⟨col, op, y⟩ : Cd) HS.out.sm HS.out.co HS.out.va).mono ?_; rintro e w7 ⟨rfl, hb⟩; rw [HT.out]; have HX := Lib.hid (HS.out.below hb); clear HS hb z0 z1 z2 z3 z4; have HS := HX; clear HX; obtain ⟨z0, z1, z2, z3, z4⟩ := HS.out.s.cells; simp only at z0 z1 z2 z3 z4)
  have hl9 : CdR (w7.alloc (.cells #[.string col, .int .i64 op, .int .i64 y.k, .int .i64 y.n, .string y.s] 25)) (some ⟨w7.heap.size, 0, none⟩) 1 [⟨col, op, y⟩] := CdR.one _ HS.out.sm (Blk.new _ _ _)
  have hb9 : Below w7.heap.size w7 (w7.alloc (.cells #[.string col, .int .i64 op, .int .i64 y.k, .int .i64 y.n, .string y.s] 25)) := (Below.refl _ w7).alloc (Nat.le_refl _) _
  have HR := Lib.hid (show refusesL [⟨col, op, y⟩] cols (List.replicate n2 nul) = false by rw [refuses_one, HT.out]; rfl)
  have hcall := HI.out.refuses (c := 1) (c2 := c2) (c3 := n2) hl9 (HS.out.co.below hb9) (HS.out.va.below hb9)
  rw [HR.out] at hcall
  obtain ⟨w8, hw8⟩ : ∃ w8, w8 = w7.alloc (.cells #[.string col, .int .i64 op, .int .i64 y.k, .int .i64 y.n, .string y.s] 25) := ⟨_, rfl⟩
  rw [← hw8] at hcall hb9
  have HC := Lib.hid hcall
  have HB9 := Lib.hid (HS.out.s.low.trans (hb9.mono HS.out.s.low.size))
  have HW8 := Lib.hid hw8
  clear hl9 hcall hb9 hw8
  go_wp2_with (go_at_call 11; rw [← HW8.out]; refine HC.out.mono ?_; rintro e w10 ⟨rfl, hb⟩)
  go_ret
  exact ⟨rfl, HB9.out.trans (hb.mono HB9.out.size)⟩
theorem cnull_walk (I : ImplCo) {w : World} {A2 : Option Addr} {c2 : Nat} {cols : List Co} (c : Cd) (hi : c.In) (h2 : RowG coC 3 w w.heap.size A2 cols) (i2 : ∀ x ∈ cols, x.In) :
    Calls Try.prog 6 #[cdV c, .slice A2 cols.length c2] w fun e w' => e = .returned (.bool true) ∧ Below w.heap.size w w' := by
  obtain ⟨col, op, y⟩ := c
  cases hp : placeL cols col with
  | none => exact cnull_none I hi h2 i2 hp
  | some k =>
    by_cases h5 : op = 5
    · subst h5; exact cnull_op5 I hi h2 i2 hp
    by_cases h6 : op = 6
    · subst h6; exact cnull_op6 I hi h2 i2 hp
    exact cnull_other I hi h2 i2 hp h5 h6
end Go.Proofs.Ythpchenmfenjmaa
