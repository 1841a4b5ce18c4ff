/-
  With a condition more no more rows hold: the law CondMore.
-/
import Derived.Test.YthpchenmfenjmaaLcE
import Derived.Deep.RegionLaw
import Derived.Deep.Cut
namespace Go.Proofs.Ythpchenmfenjmaa
open Go.RowKit Go.Lib Go.Shelf

set_option maxRecDepth 100000 in
set_option maxHeartbeats 6400000 in
theorem copyConds_to {w0 w : World} {B : Nat} {A : Option Addr} {n c : Nat} {l : List Cd} (h0 : Below w0.heap.size w0 w) (h : RowG cdC 5 w B A l) (hB : B ≤ w.heap.size) (hn : n = l.length) (hA : A = none → n = 0) (hz : n * 56 ≤ 140737488355328) :
    Calls Try.prog 12 #[.slice A n c] w fun e w' => ∃ A' c', e = .returned (.slice A' n c') ∧ OwC w0 w' A' n c' l ∧ Below w.heap.size w w' := by
  obtain ⟨i0, hi, hz0, hz1, hz2⟩ := info_parts Try.infocond
  have hzr := OwC.zero w0 w h0
  have hb1 : Below w.heap.size w (w.alloc (.cells #[] 25)) := (Below.refl _ w).alloc (Nat.le_refl _) _
  have hsrc := cds_at (h.below hb1 hB)
  have H := Lib.hid (And.intro hzr (And.intro hsrc (And.intro hA (And.intro hn hb1))))
  clear hzr hsrc h hA hn hB hb1 h0
  go_enter Try.func12, Try.ntmps12
  go_wp2_with (at_builtin; refine wpList_append_row rfl _ _ 31 rfl w0.heap.size 25 i0 (.agg #[.string ⟨#[]⟩, .int .i64 0, .int .i64 0, .int .i64 0, .string ⟨#[]⟩]) 5 56 Try.underlying31 hi hz0 hz1 hz2 rfl (by decide) _ 0 [] H.out.1.own (by rfl) A n c (cds l) (by rfl) (by rw [cds_len, H.out.2.2.2.1]) H.out.2.2.1 H.out.2.1 (cds_one l) (by simp [maxLen]; omega) (by omega) H.out.1.low.size ?_; intro AX cX wX hRX; have HX := Lib.hid (And.intro (H.out.1.step (ys := l) hRX H.out.2.2.2.1) hRX.chg); clear hRX)
  go_ret
  have hX := HX.out.1
  rw [Nat.zero_add, List.nil_append] at hX
  refine ⟨AX, cX, by simp, hX, ?_⟩
  exact (Chg.trans' (F := fun k => w.heap.size ≤ k) (Chg.of_below H.out.2.2.2.2) HX.out.2 (fun k _ hk => by cases hk; exact Nat.le_refl _)).below (fun _ h => h) (Nat.le_refl _)
theorem cds_single (c : Cd) : cds [c] = cdC c := by unfold cds; simp
theorem OwC.one {w0 w w' : World} {A A' : Option Addr} {n c c' : Nat} {l : List Cd} (x : Cd) (h : OwC w0 w A n c l) (hR : RowTo w0.heap.size 25 5 (.slice A n c) w (.slice A' (n + 1) c') (n + 1) (cds l ++ [.string x.col, .int .i64 x.op, .int .i64 x.w.k, .int .i64 x.w.n, .string x.w.s]) w') : OwC w0 w' A' (n + 1) c' (l ++ [x]) :=
  h.step (ys := [x]) (by rw [cds_single]; exact hR) rfl
theorem holds_app (l : List Cd) (c : Cd) (cols : List Co) (r : List Va) : holdsL (l ++ [c]) cols r = (holdsL l cols r && holdsL [c] cols r) := by unfold holdsL; rw [List.all_append]
theorem refuses_app (l : List Cd) (c : Cd) (cols : List Co) (r : List Va) : refusesL (l ++ [c]) cols r = (refusesL l cols r || refusesL [c] cols r) := by unfold refusesL; rw [List.any_append]
theorem holds_rev (l : List Cd) (cols : List Co) (r : List Va) : holdsL l.reverse cols r = holdsL l cols r := by unfold holdsL; rw [List.all_reverse]
theorem refuses_rev (l : List Cd) (cols : List Co) (r : List Va) : refusesL l.reverse cols r = refusesL l cols r := by unfold refusesL; rw [List.any_reverse]
theorem great_bool {l : List Cd} {cols : List Co} {r : List Va} {e : Ending} (h : e = .returned (.bool true) ∨ e = .returned (.bool false) ∧ Looked l cols r) : ∃ g : Bool, e = .returned (.bool g) ∧ (g = false → Looked l cols r) := by
  rcases h with rfl | ⟨rfl, hL⟩
  · exact ⟨true, rfl, fun h => by cases h⟩
  · exact ⟨false, rfl, fun _ => hL⟩
/-- behind the loop: four lists as the conditions take them -/
structure TlS (w0 w : World) (A : Option Addr) (n : Nat) (l : List Cd) (AX : Option Addr) (AY : Option Addr) (m : Nat) (L : List Cd) (A2 : Option Addr) (n2 : Nat) (cols : List Co) (A3 : Option Addr) (n3 : Nat) (r : List Va) : Prop where
  low : Below w0.heap.size w0 w
  l : CdR w A n l
  mo : CdR w AX m L
  bk : CdR w AY m L.reverse
  co : CoR w A2 n2 cols
  va : VaR w A3 n3 r
theorem TlS.below {w0 w w' : World} {A : Option Addr} {n : Nat} {l : List Cd} {AX AY : Option Addr} {m : Nat} {L : List Cd} {A2 : Option Addr} {n2 : Nat} {cols : List Co} {A3 : Option Addr} {n3 : Nat} {r : List Va} (h : TlS w0 w A n l AX AY m L A2 n2 cols A3 n3 r) (hb : Below w.heap.size w w') : TlS w0 w' A n l AX AY m L A2 n2 cols A3 n3 r :=
  ⟨h.low.trans (hb.mono h.low.size), h.l.below hb, h.mo.below hb, h.bk.below hb, h.co.below hb, h.va.below hb⟩
theorem rev_take {L : List Cd} {j k m : Nat} (hm : m = L.length) (hjk : j + 1 + k = m) (hj : j < L.length) : L.reverse.take (k + 1) = L.reverse.take k ++ [L[j]] := by
  have hk : k < L.reverse.length := by simp; omega
  rw [List.take_succ_eq_append_getElem hk, List.getElem_reverse]
  congr 2
  have e : L.length - 1 - k = j := by omega
  simp only [e]
/-- where the law stands: its condition in a box, what it was handed -/
structure MrS (w0 w : World) (b : Nat) (c : Cd) (A : Option Addr) (l : List Cd) (A2 : Option Addr) (cols : List Co) (A3 : Option Addr) (r : List Va) : Prop where
  low : Below w0.heap.size w0 w
  q : Blk w b 25 #[.string c.col, .int .i64 c.op, .int .i64 c.w.k, .int .i64 c.w.n, .string c.w.s]
  cd : RowG cdC 5 w w0.heap.size A l
  co : RowG coC 3 w w0.heap.size A2 cols
  va : RowG vcell 3 w w0.heap.size A3 r
section
variable {w0 w w' : World} {b : Nat} {c : Cd} {A : Option Addr} {l : List Cd} {A2 : Option Addr} {cols : List Co} {A3 : Option Addr} {r : List Va}
theorem MrS.below (h : MrS w0 w b c A l A2 cols A3 r) (hb : Below w.heap.size w w') : MrS w0 w' b c A l A2 cols A3 r :=
  ⟨h.low.trans (hb.mono h.low.size), h.q.below hb h.q.lt, h.cd.below hb h.low.size, h.co.below hb h.low.size, h.va.below hb h.low.size⟩
theorem MrS.cells (h : MrS w0 w b c A l A2 cols A3 r) : w.cell? ⟨b, 0, none⟩ = some (.string c.col) ∧ w.cell? ⟨b, 1, none⟩ = some (.int .i64 c.op) ∧ w.cell? ⟨b, 2, none⟩ = some (.int .i64 c.w.k) ∧ w.cell? ⟨b, 3, none⟩ = some (.int .i64 c.w.n) ∧ w.cell? ⟨b, 4, none⟩ = some (.string c.w.s) := ⟨h.q.cell 0, h.q.cell 1, h.q.cell 2, h.q.cell 3, h.q.cell 4⟩
theorem MrS.new (c : Cd) (h1 : RowG cdC 5 w w.heap.size A l) (h2 : RowG coC 3 w w.heap.size A2 cols) (h3 : RowG vcell 3 w w.heap.size A3 r) : MrS w (w.alloc (.cells #[.string c.col, .int .i64 c.op, .int .i64 c.w.k, .int .i64 c.w.n, .string c.w.s] 25)) w.heap.size c A l A2 cols A3 r := by
  have hb : Below w.heap.size w (w.alloc (.cells #[.string c.col, .int .i64 c.op, .int .i64 c.w.k, .int .i64 c.w.n, .string c.w.s] 25)) := (Below.refl _ w).alloc (Nat.le_refl _) _
  exact ⟨hb, Blk.new _ _ _, h1.below hb (Nat.le_refl _), h2.below hb (Nat.le_refl _), h3.below hb (Nat.le_refl _)⟩
end
set_option maxRecDepth 100000 in
set_option maxHeartbeats 12800000 in
theorem cmore_walk (I : ImplCo) {w : World} {A : Option Addr} {c1 : Nat} {l : List Cd} {A2 : Option Addr} {c2 : Nat} {cols : List Co} {A3 : Option Addr} {c3 : Nat} {r : List Va} (c : Cd) (h1 : RowG cdC 5 w w.heap.size A l) (i1 : ∀ x ∈ l, x.In) (hA : A = none → l.length = 0) (hz : l.length * 56 ≤ 140737488351232) (hi : c.In) (h2 : RowG coC 3 w w.heap.size A2 cols) (i2 : ∀ x ∈ cols, x.In) (h3 : RowG vcell 3 w w.heap.size A3 r) (i3 : ∀ x ∈ r, x.In) :
    Calls Try.prog 4 #[.slice A l.length c1, cdV c, .slice A2 cols.length c2, .slice A3 r.length c3] w fun e w' => e = .returned (.bool true) ∧ Below w.heap.size w w' := by
  obtain ⟨i0, hinf, hz0, hz1, hz2⟩ := info_parts Try.infocond
  have hS := MrS.new c h1 h2 h3
  obtain ⟨w1, hw1⟩ : ∃ w1, w1 = w.alloc (.cells #[.string c.col, .int .i64 c.op, .int .i64 c.w.k, .int .i64 c.w.n, .string c.w.s] 25) := ⟨_, rfl⟩
  rw [← hw1] at hS
  have hal := alive12_any I w1
  have HA := Lib.hid hal
  have HI := Lib.hid I
  have H1 := Lib.hid hS
  have HW := Lib.hid hw1
  have HN := Lib.hid (And.intro i1 (And.intro hi (And.intro i2 i3)))
  obtain ⟨n1, hn1⟩ : ∃ n1, n1 = l.length := ⟨_, rfl⟩
  obtain ⟨n2, hn2⟩ : ∃ n2, n2 = cols.length := ⟨_, rfl⟩
  obtain ⟨n3, hn3⟩ : ∃ n3, n3 = r.length := ⟨_, rfl⟩
  rw [← hn1] at hA hz
  rw [← hn1, ← hn2, ← hn3]
  have HL := Lib.hid (And.intro hn1 (And.intro hn2 (And.intro hn3 hA)))
  clear hn1 hn2 hn3 hal I i1 i2 i3 h1 h2 h3 hS hw1 hA hi
  show Calls Try.prog 4 #[.slice A n1 c1, .agg #[.string c.col, .int .i64 c.op, .int .i64 c.w.k, .int .i64 c.w.n, .string c.w.s], .slice A2 n2 c2, .slice A3 n3 c3] w _
  go_enter Try.func4, Try.ntmps4
  go_upto_region 1 with fail
  rw [← HW.out]
  go_upto_region 3 with (go_at_call 7; refine HA.out.mono ?_; rintro e w2 ⟨rfl, hb⟩; have H2 := Lib.hid (H1.out.below hb); clear hb)
  have HCC := Lib.hid (fun (w2 W : World) (hS : MrS w w2 w.heap.size c A l A2 cols A3 r) (hb : Below w2.heap.size w2 W) => copyConds_to (w0 := w2) (w := W) (c := c1) hb ((hS.below hb).cd) ((hS.below hb).low.size) HL.out.1 HL.out.2.2.2 (by omega))
  obtain ⟨z0, z1, z2, z3, z4⟩ := H2.out.cells
  have f0 := z0
  go_cut [21] from 14 (fun v wx => Below w2.heap.size w2 wx ∧ ∃ g : Bool, v = .bool g ∧ (g = false → Looked (l ++ [c]) cols r))
  case first =>
    clear f0
    go_region_law (first
      | (refine step_append_row rfl _ _ 31 rfl w2.heap.size 25 i0 (.agg #[.string ⟨#[]⟩, .int .i64 0, .int .i64 0, .int .i64 0, .string ⟨#[]⟩]) 5 56 Try.underlying31 hinf hz0 hz1 hz2 rfl (by decide) (.slice A' n1 c') n1 (cds l) (HO.out.below ((Below.refl _ _).alloc (Nat.le_refl _) _)).own (by simp [Act.eval]) (some ⟨w3.heap.size, 0, none⟩) 1 1 [.string c.col, .int .i64 c.op, .int .i64 c.w.k, .int .i64 c.w.n, .string c.w.s] (by simp [Act.eval]) rfl (fun h => by cases h) (fun ad' had => by cases had; exact World.news_of_block (Go.heap_alloc_new _ _)) (by intro u hu; simp at hu; rcases hu with rfl | rfl | rfl | rfl | rfl <;> rfl) (by simp [maxLen]; omega) (by omega) (HO.out.below ((Below.refl _ _).alloc (Nat.le_refl _) _)).low.size ?_; intro AX cX wX hRX; have HX := Lib.hid ((HO.out.below ((Below.refl _ _).alloc (Nat.le_refl _) _)).one c hRX); clear hRX)
      | (refine step_append_row rfl _ _ 31 rfl w2.heap.size 25 i0 (.agg #[.string ⟨#[]⟩, .int .i64 0, .int .i64 0, .int .i64 0, .string ⟨#[]⟩]) 5 56 Try.underlying31 hinf hz0 hz1 hz2 rfl (by decide) (.slice A' n1 c') n1 (cds l) HO.out.own (by simp [Act.eval]) (some ⟨w2.heap.size, 0, none⟩) 1 1 [.string c.col, .int .i64 c.op, .int .i64 c.w.k, .int .i64 c.w.n, .string c.w.s] (by simp [Act.eval]) rfl (fun h => by cases h) (fun ad' had => by cases had; exact World.news_of_block HNB.out) (by intro u hu; simp at hu; rcases hu with rfl | rfl | rfl | rfl | rfl <;> rfl) (by simp [maxLen]; omega) (by omega) HO.out.low.size ?_; intro AX cX wX hRX; have HX := Lib.hid (HO.out.one c hRX); clear hRX)
      | (go_simp; go_at_call 12; refine (HCC.out w2 _ H2.out (Below.refl _ _).drew).mono ?_; rintro e w3 ⟨A', c', rfl, ho, hb⟩; obtain ⟨y0, y1, y2, y3, y4⟩ := (H2.out.below ho.low).cells; have HO := Lib.hid ho; clear ho hb)
      | (go_simp; go_at_call 12; refine (HCC.out w2 _ H2.out ((Below.refl _ _).drew.alloc (Nat.le_refl _) (.cells #[.string c.col, .int .i64 c.op, .int .i64 c.w.k, .int .i64 c.w.n, .string c.w.s] 25))).mono ?_; rintro e w3 ⟨A', c', rfl, ho, hb⟩; have HO := Lib.hid ho; have HNB := Lib.hid (hb.block _ (by simp) |>.trans (Go.heap_alloc_new w2.drew (.cells #[.string c.col, .int .i64 c.op, .int .i64 c.w.k, .int .i64 c.w.n, .string c.w.s] 25))); clear ho hb)
      | (go_simp; go_at_call 8; refine (great12_any (c := cX) (c2 := c2) (c3 := c3) HX.out.row HX.out.len ((H2.out.below HX.out.low).co.more (H2.out.below HX.out.low).low.size) HL.out.2.1 ((H2.out.below HX.out.low).va.more (H2.out.below HX.out.low).low.size) HL.out.2.2.1).mono ?_; rintro e w5 ⟨hw5, he⟩; subst hw5; obtain ⟨g, rfl, hg⟩ := great_bool he; have HGG := Lib.hid hg; clear hg he))
    all_goals (go_wp2_with fail; go_meet; exact ⟨HX.out.low, g, rfl, HGG.out⟩)
  case rest =>
  obtain ⟨hb4, g, rfl, hg⟩ := hcut
  obtain ⟨w4, hw4⟩ : ∃ w4, w4 = wc := ⟨_, rfl⟩
  subst hw4
  have H4 := Lib.hid (H2.out.below hb4)
  clear hb4 z0 z1 z2 z3 z4 f0
  cases g with
  | true =>
    clear hg
    go_wp2_with fail
    go_ret
    exact ⟨rfl, H4.out.low⟩
  | false =>
  have HK := Lib.hid (hg rfl)
  clear hg
  go_upto_region 5 with fail
  obtain ⟨z0, z1, z2, z3, z4⟩ := H4.out.cells
  go_cut [9] from 14 (fun v wx => ∃ (AX : Option Addr) (m cX : Nat), v = .slice AX m cX ∧ m = n1 + 1 ∧ OwC w4 wx AX m cX (l ++ [c]))
  case first =>
    go_region_law (first
      | (refine step_append_row rfl _ _ 31 rfl w4.heap.size 25 i0 (.agg #[.string ⟨#[]⟩, .int .i64 0, .int .i64 0, .int .i64 0, .string ⟨#[]⟩]) 5 56 Try.underlying31 hinf hz0 hz1 hz2 rfl (by decide) (.slice A' n1 c') n1 (cds l) (HO.out.below ((Below.refl _ _).alloc (Nat.le_refl _) _)).own (by simp [Act.eval]) (some ⟨w3.heap.size, 0, none⟩) 1 1 [.string c.col, .int .i64 c.op, .int .i64 c.w.k, .int .i64 c.w.n, .string c.w.s] (by simp [Act.eval]) rfl (fun h => by cases h) (fun ad' had => by cases had; exact World.news_of_block (Go.heap_alloc_new _ _)) (by intro u hu; simp at hu; rcases hu with rfl | rfl | rfl | rfl | rfl <;> rfl) (by simp [maxLen]; omega) (by omega) (HO.out.below ((Below.refl _ _).alloc (Nat.le_refl _) _)).low.size ?_; intro AX cX wX hRX; have HX := Lib.hid ((HO.out.below ((Below.refl _ _).alloc (Nat.le_refl _) _)).one c hRX); clear hRX)
      | (refine step_append_row rfl _ _ 31 rfl w4.heap.size 25 i0 (.agg #[.string ⟨#[]⟩, .int .i64 0, .int .i64 0, .int .i64 0, .string ⟨#[]⟩]) 5 56 Try.underlying31 hinf hz0 hz1 hz2 rfl (by decide) (.slice A' n1 c') n1 (cds l) HO.out.own (by simp [Act.eval]) (some ⟨w4.heap.size, 0, none⟩) 1 1 [.string c.col, .int .i64 c.op, .int .i64 c.w.k, .int .i64 c.w.n, .string c.w.s] (by simp [Act.eval]) rfl (fun h => by cases h) (fun ad' had => by cases had; exact World.news_of_block HNB.out) (by intro u hu; simp at hu; rcases hu with rfl | rfl | rfl | rfl | rfl <;> rfl) (by simp [maxLen]; omega) (by omega) HO.out.low.size ?_; intro AX cX wX hRX; have HX := Lib.hid (HO.out.one c hRX); clear hRX)
      | (go_simp; go_at_call 12; refine (HCC.out w4 _ H4.out (Below.refl _ _).drew).mono ?_; rintro e w3 ⟨A', c', rfl, ho, hb⟩; obtain ⟨y0, y1, y2, y3, y4⟩ := (H4.out.below ho.low).cells; have HO := Lib.hid ho; clear ho hb)
      | (go_simp; go_at_call 12; refine (HCC.out w4 _ H4.out ((Below.refl _ _).drew.alloc (Nat.le_refl _) (.cells #[.string c.col, .int .i64 c.op, .int .i64 c.w.k, .int .i64 c.w.n, .string c.w.s] 25))).mono ?_; rintro e w3 ⟨A', c', rfl, ho, hb⟩; have HO := Lib.hid ho; have HNB := Lib.hid (hb.block _ (by simp) |>.trans (Go.heap_alloc_new w4.drew (.cells #[.string c.col, .int .i64 c.op, .int .i64 c.w.k, .int .i64 c.w.n, .string c.w.s] 25))); clear ho hb))
    all_goals (go_wp2_with fail; go_meet; exact ⟨AX, n1 + 1, cX, rfl, rfl, HX.out⟩)
  case rest =>
  obtain ⟨AX, m, cX, rfl, hm, hX⟩ := hcut
  obtain ⟨w6, hw6⟩ : ∃ w6, w6 = wc := ⟨_, rfl⟩
  subst hw6
  have H6 := Lib.hid (H4.out.below hX.low)
  have HX := Lib.hid hX
  have hm1 : 1 ≤ m := by omega
  have hm100 : m ≤ 100 := by have := HK.out.nl; rw [List.length_append] at this; have := HL.out.1; simp at *; omega
  have HM := Lib.hid hm
  clear hm hX z0 z1 z2 z3 z4
  go_upto_region 7 with fail
  have hz7 := OwC.zero w6 w6 (Below.refl _ _)
  obtain ⟨w7, hw7⟩ : ∃ w7, w7 = w6.alloc (.cells #[] 25) := ⟨_, rfl⟩
  rw [← hw7] at hz7 ⊢
  have H7 := Lib.hid hz7
  clear hz7 hw7
  go_wp2_with fail
  go_loopw [10, 11] (fun bk iv wr => ∃ (j k : Nat) (A' : Option Addr) (c' : Nat), j + k = m ∧ iv = .int .i64 ((j : Int) - 1) ∧ bk = .slice A' k c' ∧ OwC w6 wr A' k c' ((l ++ [c]).reverse.take k)) (fun _ iv _ => ((RowKit.intOf iv) + 1).toNat)
  case atStart => exact ⟨m, 0, _, 0, rfl, rfl, rfl, H7.out⟩
  case round =>
    obtain ⟨j, k, AY, cY, hjk, rfl, rfl, ho⟩ := hrel
    have HY := Lib.hid ho
    clear ho
    cases j with
    | zero =>
      have e0 : k = m := by omega
      subst e0
      have hmL : k = (l ++ [c]).length := by rw [List.length_append, HM.out, HL.out.1]; rfl
      have hin : ∀ x ∈ l ++ [c], x.In := fun x hx => by
        rcases List.mem_append.1 hx with h | h
        · exact HN.out.1 x h
        · rw [List.mem_singleton.1 h]; exact HN.out.2.1
      have hbk : (l ++ [c]).reverse.take k = (l ++ [c]).reverse := List.take_of_length_le (by rw [List.length_reverse, ← hmL]; exact Nat.le_refl _)
      have hO := HY.out
      rw [hbk] at hO
      have hsm := Cd.sm_of HK.out hin
      have hS6 := H6.out.below hO.low
      have HS := Lib.hid (show TlS w wr A n1 l AX AY k (l ++ [c]) A2 n2 cols A3 n3 r from
        ⟨hS6.low, ⟨hS6.cd.more hS6.low.size, HL.out.1, fun x hx => hsm x (List.mem_append_left _ hx), by have := HL.out.1; have := HM.out; omega⟩,
          (OwC.cdr HX.out hsm (by omega)).below hO.low, hO.cdr (fun x hx => hsm x (List.mem_reverse.1 hx)) (by rw [List.length_reverse]; omega),
          CoR.of hS6.co hS6.low.size HL.out.2.1 HK.out HN.out.2.2.1, VaR.of hS6.va hS6.low.size HL.out.2.2.1 HK.out HN.out.2.2.2⟩)
      have EHN := Lib.hid (show holdsL [] cols r = true from rfl)
      have EFN := Lib.hid (show refusesL [] cols r = false from rfl)
      rw [show ((0 : Nat) : Int) - 1 = -1 from rfl]
      clear hmL hin hbk hO hsm hS6 hjk hz hm1 hm100 hinf hz0 hz1 hz2 H1 H2 H4 H6 HCC HW HA H7 HY
      cases e1 : holdsL (l ++ [c]) cols r <;> cases e2 : refusesL l cols r <;> cases e3 : refusesL (l ++ [c]) cols r
      any_goals (exfalso; rw [refuses_app, e2] at e3; simp at e3; done)
      · have EHM := Lib.hid e1
        have EF := Lib.hid e2
        have EFM := Lib.hid e3
        have EHB := Lib.hid (show holdsL (l ++ [c]).reverse cols r = false by rw [holds_rev]; exact e1)
        have EFB := Lib.hid (show refusesL (l ++ [c]).reverse cols r = false by rw [refuses_rev]; exact e3)
        clear e1 e2 e3
        go_wp2_with (first
          | (go_at_call 10; (with_reducible refine (HI.out.holds (c := cX) (c2 := c2) (c3 := c3) HS.out.mo HS.out.co HS.out.va).mono ?_); rintro e wt ⟨rfl, hb⟩; rw [EHM.out]; have HT := Lib.hid (HS.out.below hb); clear HS hb; have HS := HT; clear HT)
          | (go_at_call 10; (with_reducible refine (HI.out.holds (c := cY) (c2 := c2) (c3 := c3) HS.out.bk HS.out.co HS.out.va).mono ?_); rintro e wt ⟨rfl, hb⟩; rw [EHB.out]; have HT := Lib.hid (HS.out.below hb); clear HS hb; have HS := HT; clear HT)
          | (go_at_call 10; (with_reducible refine (HI.out.holds (c := 0) (c2 := c2) (c3 := c3) (CdR.nil _) HS.out.co HS.out.va).mono ?_); rintro e wt ⟨rfl, hb⟩; rw [EHN.out]; have HT := Lib.hid (HS.out.below hb); clear HS hb; have HS := HT; clear HT)
          | (go_at_call 11; (with_reducible refine (HI.out.refuses (c := c1) (c2 := c2) (c3 := c3) HS.out.l HS.out.co HS.out.va).mono ?_); rintro e wt ⟨rfl, hb⟩; rw [EF.out]; have HT := Lib.hid (HS.out.below hb); clear HS hb; have HS := HT; clear HT)
          | (go_at_call 11; (with_reducible refine (HI.out.refuses (c := cX) (c2 := c2) (c3 := c3) HS.out.mo HS.out.co HS.out.va).mono ?_); rintro e wt ⟨rfl, hb⟩; rw [EFM.out]; have HT := Lib.hid (HS.out.below hb); clear HS hb; have HS := HT; clear HT)
          | (go_at_call 11; (with_reducible refine (HI.out.refuses (c := cY) (c2 := c2) (c3 := c3) HS.out.bk HS.out.co HS.out.va).mono ?_); rintro e wt ⟨rfl, hb⟩; rw [EFB.out]; have HT := Lib.hid (HS.out.below hb); clear HS hb; have HS := HT; clear HT)
          | (go_at_call 11; (with_reducible refine (HI.out.refuses (c := 0) (c2 := c2) (c3 := c3) (CdR.nil _) HS.out.co HS.out.va).mono ?_); rintro e wt ⟨rfl, hb⟩; rw [EFN.out]; have HT := Lib.hid (HS.out.below hb); clear HS hb; have HS := HT; clear HT))
        go_ret
        exact ⟨rfl, HS.out.low⟩
      · have EHM := Lib.hid e1
        have EF := Lib.hid e2
        have EFM := Lib.hid e3
        have EHB := Lib.hid (show holdsL (l ++ [c]).reverse cols r = false by rw [holds_rev]; exact e1)
        have EFB := Lib.hid (show refusesL (l ++ [c]).reverse cols r = true by rw [refuses_rev]; exact e3)
        clear e1 e2 e3
        go_wp2_with (first
          | (go_at_call 10; (with_reducible refine (HI.out.holds (c := cX) (c2 := c2) (c3 := c3) HS.out.mo HS.out.co HS.out.va).mono ?_); rintro e wt ⟨rfl, hb⟩; rw [EHM.out]; have HT := Lib.hid (HS.out.below hb); clear HS hb; have HS := HT; clear HT)
          | (go_at_call 10; (with_reducible refine (HI.out.holds (c := cY) (c2 := c2) (c3 := c3) HS.out.bk HS.out.co HS.out.va).mono ?_); rintro e wt ⟨rfl, hb⟩; rw [EHB.out]; have HT := Lib.hid (HS.out.below hb); clear HS hb; have HS := HT; clear HT)
          | (go_at_call 10; (with_reducible refine (HI.out.holds (c := 0) (c2 := c2) (c3 := c3) (CdR.nil _) HS.out.co HS.out.va).mono ?_); rintro e wt ⟨rfl, hb⟩; rw [EHN.out]; have HT := Lib.hid (HS.out.below hb); clear HS hb; have HS := HT; clear HT)
          | (go_at_call 11; (with_reducible refine (HI.out.refuses (c := c1) (c2 := c2) (c3 := c3) HS.out.l HS.out.co HS.out.va).mono ?_); rintro e wt ⟨rfl, hb⟩; rw [EF.out]; have HT := Lib.hid (HS.out.below hb); clear HS hb; have HS := HT; clear HT)
          | (go_at_call 11; (with_reducible refine (HI.out.refuses (c := cX) (c2 := c2) (c3 := c3) HS.out.mo HS.out.co HS.out.va).mono ?_); rintro e wt ⟨rfl, hb⟩; rw [EFM.out]; have HT := Lib.hid (HS.out.below hb); clear HS hb; have HS := HT; clear HT)
          | (go_at_call 11; (with_reducible refine (HI.out.refuses (c := cY) (c2 := c2) (c3 := c3) HS.out.bk HS.out.co HS.out.va).mono ?_); rintro e wt ⟨rfl, hb⟩; rw [EFB.out]; have HT := Lib.hid (HS.out.below hb); clear HS hb; have HS := HT; clear HT)
          | (go_at_call 11; (with_reducible refine (HI.out.refuses (c := 0) (c2 := c2) (c3 := c3) (CdR.nil _) HS.out.co HS.out.va).mono ?_); rintro e wt ⟨rfl, hb⟩; rw [EFN.out]; have HT := Lib.hid (HS.out.below hb); clear HS hb; have HS := HT; clear HT))
        go_ret
        exact ⟨rfl, HS.out.low⟩
      · have EHM := Lib.hid e1
        have EF := Lib.hid e2
        have EFM := Lib.hid e3
        have EHB := Lib.hid (show holdsL (l ++ [c]).reverse cols r = false by rw [holds_rev]; exact e1)
        have EFB := Lib.hid (show refusesL (l ++ [c]).reverse cols r = true by rw [refuses_rev]; exact e3)
        clear e1 e2 e3
        go_wp2_with (first
          | (go_at_call 10; (with_reducible refine (HI.out.holds (c := cX) (c2 := c2) (c3 := c3) HS.out.mo HS.out.co HS.out.va).mono ?_); rintro e wt ⟨rfl, hb⟩; rw [EHM.out]; have HT := Lib.hid (HS.out.below hb); clear HS hb; have HS := HT; clear HT)
          | (go_at_call 10; (with_reducible refine (HI.out.holds (c := cY) (c2 := c2) (c3 := c3) HS.out.bk HS.out.co HS.out.va).mono ?_); rintro e wt ⟨rfl, hb⟩; rw [EHB.out]; have HT := Lib.hid (HS.out.below hb); clear HS hb; have HS := HT; clear HT)
          | (go_at_call 10; (with_reducible refine (HI.out.holds (c := 0) (c2 := c2) (c3 := c3) (CdR.nil _) HS.out.co HS.out.va).mono ?_); rintro e wt ⟨rfl, hb⟩; rw [EHN.out]; have HT := Lib.hid (HS.out.below hb); clear HS hb; have HS := HT; clear HT)
          | (go_at_call 11; (with_reducible refine (HI.out.refuses (c := c1) (c2 := c2) (c3 := c3) HS.out.l HS.out.co HS.out.va).mono ?_); rintro e wt ⟨rfl, hb⟩; rw [EF.out]; have HT := Lib.hid (HS.out.below hb); clear HS hb; have HS := HT; clear HT)
          | (go_at_call 11; (with_reducible refine (HI.out.refuses (c := cX) (c2 := c2) (c3 := c3) HS.out.mo HS.out.co HS.out.va).mono ?_); rintro e wt ⟨rfl, hb⟩; rw [EFM.out]; have HT := Lib.hid (HS.out.below hb); clear HS hb; have HS := HT; clear HT)
          | (go_at_call 11; (with_reducible refine (HI.out.refuses (c := cY) (c2 := c2) (c3 := c3) HS.out.bk HS.out.co HS.out.va).mono ?_); rintro e wt ⟨rfl, hb⟩; rw [EFB.out]; have HT := Lib.hid (HS.out.below hb); clear HS hb; have HS := HT; clear HT)
          | (go_at_call 11; (with_reducible refine (HI.out.refuses (c := 0) (c2 := c2) (c3 := c3) (CdR.nil _) HS.out.co HS.out.va).mono ?_); rintro e wt ⟨rfl, hb⟩; rw [EFN.out]; have HT := Lib.hid (HS.out.below hb); clear HS hb; have HS := HT; clear HT))
        go_ret
        exact ⟨rfl, HS.out.low⟩
      · have EHM := Lib.hid e1
        have EF := Lib.hid e2
        have EFM := Lib.hid e3
        have EH := Lib.hid (show holdsL l cols r = true by rw [holds_app] at e1; exact (Bool.and_eq_true_iff.1 e1).1)
        have EHB := Lib.hid (show holdsL (l ++ [c]).reverse cols r = true by rw [holds_rev]; exact e1)
        have EFB := Lib.hid (show refusesL (l ++ [c]).reverse cols r = false by rw [refuses_rev]; exact e3)
        clear e1 e2 e3
        go_wp2_with (first
          | (go_at_call 10; (with_reducible refine (HI.out.holds (c := c1) (c2 := c2) (c3 := c3) HS.out.l HS.out.co HS.out.va).mono ?_); rintro e wt ⟨rfl, hb⟩; rw [EH.out]; have HT := Lib.hid (HS.out.below hb); clear HS hb; have HS := HT; clear HT)
          | (go_at_call 10; (with_reducible refine (HI.out.holds (c := cX) (c2 := c2) (c3 := c3) HS.out.mo HS.out.co HS.out.va).mono ?_); rintro e wt ⟨rfl, hb⟩; rw [EHM.out]; have HT := Lib.hid (HS.out.below hb); clear HS hb; have HS := HT; clear HT)
          | (go_at_call 10; (with_reducible refine (HI.out.holds (c := cY) (c2 := c2) (c3 := c3) HS.out.bk HS.out.co HS.out.va).mono ?_); rintro e wt ⟨rfl, hb⟩; rw [EHB.out]; have HT := Lib.hid (HS.out.below hb); clear HS hb; have HS := HT; clear HT)
          | (go_at_call 10; (with_reducible refine (HI.out.holds (c := 0) (c2 := c2) (c3 := c3) (CdR.nil _) HS.out.co HS.out.va).mono ?_); rintro e wt ⟨rfl, hb⟩; rw [EHN.out]; have HT := Lib.hid (HS.out.below hb); clear HS hb; have HS := HT; clear HT)
          | (go_at_call 11; (with_reducible refine (HI.out.refuses (c := c1) (c2 := c2) (c3 := c3) HS.out.l HS.out.co HS.out.va).mono ?_); rintro e wt ⟨rfl, hb⟩; rw [EF.out]; have HT := Lib.hid (HS.out.below hb); clear HS hb; have HS := HT; clear HT)
          | (go_at_call 11; (with_reducible refine (HI.out.refuses (c := cX) (c2 := c2) (c3 := c3) HS.out.mo HS.out.co HS.out.va).mono ?_); rintro e wt ⟨rfl, hb⟩; rw [EFM.out]; have HT := Lib.hid (HS.out.below hb); clear HS hb; have HS := HT; clear HT)
          | (go_at_call 11; (with_reducible refine (HI.out.refuses (c := cY) (c2 := c2) (c3 := c3) HS.out.bk HS.out.co HS.out.va).mono ?_); rintro e wt ⟨rfl, hb⟩; rw [EFB.out]; have HT := Lib.hid (HS.out.below hb); clear HS hb; have HS := HT; clear HT)
          | (go_at_call 11; (with_reducible refine (HI.out.refuses (c := 0) (c2 := c2) (c3 := c3) (CdR.nil _) HS.out.co HS.out.va).mono ?_); rintro e wt ⟨rfl, hb⟩; rw [EFN.out]; have HT := Lib.hid (HS.out.below hb); clear HS hb; have HS := HT; clear HT))
        go_ret
        exact ⟨rfl, HS.out.low⟩
      · have EHM := Lib.hid e1
        have EF := Lib.hid e2
        have EFM := Lib.hid e3
        have EH := Lib.hid (show holdsL l cols r = true by rw [holds_app] at e1; exact (Bool.and_eq_true_iff.1 e1).1)
        have EHB := Lib.hid (show holdsL (l ++ [c]).reverse cols r = true by rw [holds_rev]; exact e1)
        have EFB := Lib.hid (show refusesL (l ++ [c]).reverse cols r = true by rw [refuses_rev]; exact e3)
        clear e1 e2 e3
        go_wp2_with (first
          | (go_at_call 10; (with_reducible refine (HI.out.holds (c := c1) (c2 := c2) (c3 := c3) HS.out.l HS.out.co HS.out.va).mono ?_); rintro e wt ⟨rfl, hb⟩; rw [EH.out]; have HT := Lib.hid (HS.out.below hb); clear HS hb; have HS := HT; clear HT)
          | (go_at_call 10; (with_reducible refine (HI.out.holds (c := cX) (c2 := c2) (c3 := c3) HS.out.mo HS.out.co HS.out.va).mono ?_); rintro e wt ⟨rfl, hb⟩; rw [EHM.out]; have HT := Lib.hid (HS.out.below hb); clear HS hb; have HS := HT; clear HT)
          | (go_at_call 10; (with_reducible refine (HI.out.holds (c := cY) (c2 := c2) (c3 := c3) HS.out.bk HS.out.co HS.out.va).mono ?_); rintro e wt ⟨rfl, hb⟩; rw [EHB.out]; have HT := Lib.hid (HS.out.below hb); clear HS hb; have HS := HT; clear HT)
          | (go_at_call 10; (with_reducible refine (HI.out.holds (c := 0) (c2 := c2) (c3 := c3) (CdR.nil _) HS.out.co HS.out.va).mono ?_); rintro e wt ⟨rfl, hb⟩; rw [EHN.out]; have HT := Lib.hid (HS.out.below hb); clear HS hb; have HS := HT; clear HT)
          | (go_at_call 11; (with_reducible refine (HI.out.refuses (c := c1) (c2 := c2) (c3 := c3) HS.out.l HS.out.co HS.out.va).mono ?_); rintro e wt ⟨rfl, hb⟩; rw [EF.out]; have HT := Lib.hid (HS.out.below hb); clear HS hb; have HS := HT; clear HT)
          | (go_at_call 11; (with_reducible refine (HI.out.refuses (c := cX) (c2 := c2) (c3 := c3) HS.out.mo HS.out.co HS.out.va).mono ?_); rintro e wt ⟨rfl, hb⟩; rw [EFM.out]; have HT := Lib.hid (HS.out.below hb); clear HS hb; have HS := HT; clear HT)
          | (go_at_call 11; (with_reducible refine (HI.out.refuses (c := cY) (c2 := c2) (c3 := c3) HS.out.bk HS.out.co HS.out.va).mono ?_); rintro e wt ⟨rfl, hb⟩; rw [EFB.out]; have HT := Lib.hid (HS.out.below hb); clear HS hb; have HS := HT; clear HT)
          | (go_at_call 11; (with_reducible refine (HI.out.refuses (c := 0) (c2 := c2) (c3 := c3) (CdR.nil _) HS.out.co HS.out.va).mono ?_); rintro e wt ⟨rfl, hb⟩; rw [EFN.out]; have HT := Lib.hid (HS.out.below hb); clear HS hb; have HS := HT; clear HT))
        go_ret
        exact ⟨rfl, HS.out.low⟩
      · have EHM := Lib.hid e1
        have EF := Lib.hid e2
        have EFM := Lib.hid e3
        have EH := Lib.hid (show holdsL l cols r = true by rw [holds_app] at e1; exact (Bool.and_eq_true_iff.1 e1).1)
        have EHB := Lib.hid (show holdsL (l ++ [c]).reverse cols r = true by rw [holds_rev]; exact e1)
        have EFB := Lib.hid (show refusesL (l ++ [c]).reverse cols r = true by rw [refuses_rev]; exact e3)
        clear e1 e2 e3
        go_wp2_with (first
          | (go_at_call 10; (with_reducible refine (HI.out.holds (c := c1) (c2 := c2) (c3 := c3) HS.out.l HS.out.co HS.out.va).mono ?_); rintro e wt ⟨rfl, hb⟩; rw [EH.out]; have HT := Lib.hid (HS.out.below hb); clear HS hb; have HS := HT; clear HT)
          | (go_at_call 10; (with_reducible refine (HI.out.holds (c := cX) (c2 := c2) (c3 := c3) HS.out.mo HS.out.co HS.out.va).mono ?_); rintro e wt ⟨rfl, hb⟩; rw [EHM.out]; have HT := Lib.hid (HS.out.below hb); clear HS hb; have HS := HT; clear HT)
          | (go_at_call 10; (with_reducible refine (HI.out.holds (c := cY) (c2 := c2) (c3 := c3) HS.out.bk HS.out.co HS.out.va).mono ?_); rintro e wt ⟨rfl, hb⟩; rw [EHB.out]; have HT := Lib.hid (HS.out.below hb); clear HS hb; have HS := HT; clear HT)
          | (go_at_call 10; (with_reducible refine (HI.out.holds (c := 0) (c2 := c2) (c3 := c3) (CdR.nil _) HS.out.co HS.out.va).mono ?_); rintro e wt ⟨rfl, hb⟩; rw [EHN.out]; have HT := Lib.hid (HS.out.below hb); clear HS hb; have HS := HT; clear HT)
          | (go_at_call 11; (with_reducible refine (HI.out.refuses (c := c1) (c2 := c2) (c3 := c3) HS.out.l HS.out.co HS.out.va).mono ?_); rintro e wt ⟨rfl, hb⟩; rw [EF.out]; have HT := Lib.hid (HS.out.below hb); clear HS hb; have HS := HT; clear HT)
          | (go_at_call 11; (with_reducible refine (HI.out.refuses (c := cX) (c2 := c2) (c3 := c3) HS.out.mo HS.out.co HS.out.va).mono ?_); rintro e wt ⟨rfl, hb⟩; rw [EFM.out]; have HT := Lib.hid (HS.out.below hb); clear HS hb; have HS := HT; clear HT)
          | (go_at_call 11; (with_reducible refine (HI.out.refuses (c := cY) (c2 := c2) (c3 := c3) HS.out.bk HS.out.co HS.out.va).mono ?_); rintro e wt ⟨rfl, hb⟩; rw [EFB.out]; have HT := Lib.hid (HS.out.below hb); clear HS hb; have HS := HT; clear HT)
          | (go_at_call 11; (with_reducible refine (HI.out.refuses (c := 0) (c2 := c2) (c3 := c3) (CdR.nil _) HS.out.co HS.out.va).mono ?_); rintro e wt ⟨rfl, hb⟩; rw [EFN.out]; have HT := Lib.hid (HS.out.below hb); clear HS hb; have HS := HT; clear HT))
        go_ret
        exact ⟨rfl, HS.out.low⟩
    | succ j =>
      have hj0 : (0 : Int) ≤ (j : Int) := Int.natCast_nonneg _
      have hjm : (j : Int) < (m : Int) := by omega
      have hjl : j < (l ++ [c]).length := by have := HX.out.len; omega
      obtain ⟨x, hx⟩ : ∃ x, x = (l ++ [c])[j] := ⟨_, rfl⟩
      obtain ⟨ad, rfl, _, a0, a1, a2, a3, a4⟩ := cd_at2 (HX.out.row.below HY.out.low (Nat.le_refl _)) hjl hx
      have HXX := Lib.hid hx
      have hown := HY.out.below ((Below.refl _ wr).alloc (Nat.le_refl _) (.cells #[.string x.col, .int .i64 x.op, .int .i64 x.w.k, .int .i64 x.w.n, .string x.w.s] 25))
      have HOW := Lib.hid hown
      rw [show ((j + 1 : Nat) : Int) - 1 = (j : Int) by omega]
      clear hx hown
      go_wp2_with (at_builtin; refine wpList_append_row rfl _ _ 31 rfl w6.heap.size 25 i0 (.agg #[.string ⟨#[]⟩, .int .i64 0, .int .i64 0, .int .i64 0, .string ⟨#[]⟩]) 5 56 Try.underlying31 hinf hz0 hz1 hz2 rfl (by decide) _ k _ HOW.out.own (by rfl) (some ⟨wr.heap.size, 0, none⟩) 1 1 [.string x.col, .int .i64 x.op, .int .i64 x.w.k, .int .i64 x.w.n, .string x.w.s] (by rfl) rfl (fun h => by cases h) (fun ad' had => by cases had; exact World.news_of_block (Go.heap_alloc_new _ _)) (by intro u hu; simp at hu; rcases hu with rfl | rfl | rfl | rfl | rfl <;> rfl) (by simp [maxLen]; omega) (by omega) HOW.out.low.size ?_; intro AZ cZ wZ hRZ; have HZ := Lib.hid (HOW.out.one x hRZ); clear hRZ)
      go_roundw
      case rel =>
        refine ⟨j, k + 1, AZ, cZ, by omega, rfl, rfl, ?_⟩
        have h9 := HZ.out
        rw [HXX.out, ← rev_take (m := m) HX.out.len hjk hjl] at h9
        exact h9
      case measure => simp [RowKit.intOf]
end Go.Proofs.Ythpchenmfenjmaa
