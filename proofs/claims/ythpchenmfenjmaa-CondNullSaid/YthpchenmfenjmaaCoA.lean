/-
  The conditions that the document fixes: alive.
-/
import Derived.Test.YthpchenmfenjmaaCoD
namespace Go.Proofs.Ythpchenmfenjmaa
open Go.RowKit Go.Lib

def cA : Cd := ⟨⟨#[97]⟩, 4, ⟨1, 3, ⟨#[]⟩⟩⟩
def coA : Co := ⟨⟨#[97]⟩, 1, false⟩
theorem cA_sm : cA.Sm := by unfold Cd.Sm NumI; decide
theorem CdR.one {w : World} {b : Nat} {t : TypeId} (c : Cd) (hs : c.Sm) (h : Blk w b t (cdC c).toArray) : CdR w (some ⟨b, 0, none⟩) 1 [c] := ⟨RowG.one c h, rfl, fun x hx => by rw [List.mem_singleton.1 hx]; exact hs, by simp⟩
theorem CoR.one {w : World} {b : Nat} {t : TypeId} (c : Co) (hs : c.Sm) (h : Blk w b t (coC c).toArray) : CoR w (some ⟨b, 0, none⟩) 1 [c] := ⟨RowG.one c h, rfl, fun x hx => by rw [List.mem_singleton.1 hx]; exact hs, by simp⟩
theorem VaR.one {w : World} {b : Nat} {t : TypeId} (c : Va) (hs : c.Sm) (h : Blk w b t (vcell c).toArray) : VaR w (some ⟨b, 0, none⟩) 1 [c] := ⟨RowG.one c h, rfl, fun x hx => by rw [List.mem_singleton.1 hx]; exact hs, by simp⟩
theorem al1 : truthL cA [coA] [⟨1, 4, ⟨#[]⟩⟩] = 1 := by decide +kernel
theorem al2 : truthL cA [coA] [⟨0, 0, ⟨#[]⟩⟩] = -1 := by decide +kernel
theorem al3 : rightL [cA] [coA] = 0 := by decide +kernel
theorem al4 : rightL [cA] [] = 13 := by decide +kernel
theorem al5 : holdsL [cA] [coA] [⟨0, 0, ⟨#[]⟩⟩] = false := by decide +kernel
/-- where alive stands: its column, its condition -/
structure AlS (w0 w : World) (s b : Nat) : Prop where
  low : Below w0.heap.size w0 w
  co : CoR w (some ⟨s, 0, none⟩) 1 [coA]
  q : Blk w b 25 #[.string ⟨#[97]⟩, .int .i64 4, .int .i64 1, .int .i64 3, .string ⟨#[]⟩]
theorem AlS.below {w0 w w' : World} {s b : Nat} (h : AlS w0 w s b) (hb : Below w.heap.size w w') : AlS w0 w' s b := ⟨h.low.trans (hb.mono h.low.size), h.co.below hb, h.q.below hb h.q.lt⟩
theorem AlS.cells {w0 w : World} {s b : Nat} (h : AlS w0 w s b) : w.cell? ⟨b, 0, none⟩ = some (.string ⟨#[97]⟩) ∧ w.cell? ⟨b, 1, none⟩ = some (.int .i64 4) ∧ w.cell? ⟨b, 2, none⟩ = some (.int .i64 1) ∧ w.cell? ⟨b, 3, none⟩ = some (.int .i64 3) ∧ w.cell? ⟨b, 4, none⟩ = some (.string ⟨#[]⟩) := ⟨h.q.cell 0, h.q.cell 1, h.q.cell 2, h.q.cell 3, h.q.cell 4⟩
set_option maxRecDepth 100000 in
set_option maxHeartbeats 12800000 in
theorem alive12_any (I : ImplCo) (w : World) : Calls Try.prog 7 #[] w fun e w' => e = .returned (.bool true) ∧ Below w.heap.size w w' := by
  obtain ⟨w1, hw1⟩ : ∃ w1, w1 = (w.alloc (.cells #[.string ⟨#[97]⟩, .int .i64 1, .bool false] 39)).alloc (.cells #[.string ⟨#[97]⟩, .int .i64 4, .int .i64 1, .int .i64 3, .string ⟨#[]⟩] 25) := ⟨_, rfl⟩
  have hA : AlS w w1 w.heap.size (w.heap.size + 1) := by
    have h1 : Below w.heap.size w (w.alloc (.cells #[.string ⟨#[97]⟩, .int .i64 1, .bool false] 39)) := (Below.refl _ w).alloc (Nat.le_refl _) _
    have h2 := Blk.new (w.alloc (.cells #[.string ⟨#[97]⟩, .int .i64 1, .bool false] 39)) 25 #[.string ⟨#[97]⟩, .int .i64 4, .int .i64 1, .int .i64 3, .string ⟨#[]⟩]
    have h3 := (Blk.new w 39 #[.string ⟨#[97]⟩, .int .i64 1, .bool false]).alloc (.cells #[.string ⟨#[97]⟩, .int .i64 4, .int .i64 1, .int .i64 3, .string ⟨#[]⟩] 25)
    rw [hw1]
    exact ⟨h1.alloc h1.size _, CoR.one coA (by unfold Co.Sm NumI; decide) h3, by simpa using h2⟩
  have H0 := Lib.hid hA
  have HW := Lib.hid hw1
  clear hA hw1
  go_enter Try.func7, Try.ntmps7
  go_upto_region 3 with fail
  rw [← HW.out]
  obtain ⟨z0, z1, z2, z3, z4⟩ := H0.out.cells
  go_wp2_with (first
    | (go_at_call 10; have hS := ((H4.out.below ((Below.refl _ _).alloc (Nat.le_refl _) (.cells #[.string ⟨#[97]⟩, .int .i64 4, .int .i64 1, .int .i64 3, .string ⟨#[]⟩] 25))).below ((Below.refl _ _).alloc (Nat.le_refl _) (.cells #[.int .i64 0, .int .i64 0, .string ⟨#[]⟩] 23))); have hv : VaR ((w5.alloc (.cells #[.string ⟨#[97]⟩, .int .i64 4, .int .i64 1, .int .i64 3, .string ⟨#[]⟩] 25)).alloc (.cells #[.int .i64 0, .int .i64 0, .string ⟨#[]⟩] 23)) (some ⟨w5.heap.size + 1, 0, none⟩) 1 [⟨0, 0, ⟨#[]⟩⟩] := VaR.one ⟨0, 0, ⟨#[]⟩⟩ (by unfold Va.Sm NumI; decide) (by have h9 := Blk.new (w5.alloc (.cells #[.string ⟨#[97]⟩, .int .i64 4, .int .i64 1, .int .i64 3, .string ⟨#[]⟩] 25)) 23 #[.int .i64 0, .int .i64 0, .string ⟨#[]⟩]; rw [show (w5.alloc (.cells #[.string ⟨#[97]⟩, .int .i64 4, .int .i64 1, .int .i64 3, .string ⟨#[]⟩] 25)).heap.size = w5.heap.size + 1 by simp] at h9; exact h9); have hu : CdR ((w5.alloc (.cells #[.string ⟨#[97]⟩, .int .i64 4, .int .i64 1, .int .i64 3, .string ⟨#[]⟩] 25)).alloc (.cells #[.int .i64 0, .int .i64 0, .string ⟨#[]⟩] 23)) (some ⟨w5.heap.size, 0, none⟩) 1 [cA] := CdR.one cA cA_sm ((Blk.new _ _ _).alloc _); have hc := I.holds (c := 1) (c2 := 1) (c3 := 1) hu hS.co hv; rw [al5] at hc; refine hc.mono ?_; rintro e w6 ⟨rfl, hb⟩; have H5 := Lib.hid (hS.below hb); obtain ⟨z0, z1, z2, z3, z4⟩ := H5.out.cells; clear hb hS hc hv hu)
    | (go_at_call 15; have hS := (H3.out.below ((Below.refl _ _).alloc (Nat.le_refl _) (.cells #[.string ⟨#[97]⟩, .int .i64 4, .int .i64 1, .int .i64 3, .string ⟨#[]⟩] 25))); have hv : CdR (w4.alloc (.cells #[.string ⟨#[97]⟩, .int .i64 4, .int .i64 1, .int .i64 3, .string ⟨#[]⟩] 25)) (some ⟨w4.heap.size, 0, none⟩) 1 [cA] := CdR.one cA cA_sm (Blk.new _ _ _); have hc := I.right (c := 1) (c2 := 0) hv (CoR.nil _); rw [al4] at hc; refine hc.mono ?_; rintro e w5 ⟨rfl, hb⟩; have H4 := Lib.hid (hS.below hb); obtain ⟨z0, z1, z2, z3, z4⟩ := H4.out.cells; clear hb hS hc hv)
    | (go_at_call 15; have hS := (H2.out.below ((Below.refl _ _).alloc (Nat.le_refl _) (.cells #[.string ⟨#[97]⟩, .int .i64 4, .int .i64 1, .int .i64 3, .string ⟨#[]⟩] 25))); have hv : CdR (w3.alloc (.cells #[.string ⟨#[97]⟩, .int .i64 4, .int .i64 1, .int .i64 3, .string ⟨#[]⟩] 25)) (some ⟨w3.heap.size, 0, none⟩) 1 [cA] := CdR.one cA cA_sm (Blk.new _ _ _); have hc := I.right (c := 1) (c2 := 1) hv hS.co; rw [al3] at hc; refine hc.mono ?_; rintro e w4 ⟨rfl, hb⟩; have H3 := Lib.hid (hS.below hb); obtain ⟨z0, z1, z2, z3, z4⟩ := H3.out.cells; clear hb hS hc hv)
    | (go_at_call 9; have hS := (H1.out.below ((Below.refl _ _).alloc (Nat.le_refl _) (.cells #[.int .i64 0, .int .i64 0, .string ⟨#[]⟩] 23))); have hv : VaR (w2.alloc (.cells #[.int .i64 0, .int .i64 0, .string ⟨#[]⟩] 23)) (some ⟨w2.heap.size, 0, none⟩) 1 [⟨0, 0, ⟨#[]⟩⟩] := VaR.one ⟨0, 0, ⟨#[]⟩⟩ (by unfold Va.Sm NumI; decide) (Blk.new _ _ _); have hc := I.truth (c2 := 1) (c3 := 1) cA cA_sm hS.co hv; rw [al2] at hc; refine hc.mono ?_; rintro e w3 ⟨rfl, hb⟩; have H2 := Lib.hid (hS.below hb); obtain ⟨z0, z1, z2, z3, z4⟩ := H2.out.cells; clear hb hS hc hv)
    | (go_at_call 9; have hS := (H0.out.below ((Below.refl _ _).alloc (Nat.le_refl _) (.cells #[.int .i64 1, .int .i64 4, .string ⟨#[]⟩] 23))); have hv : VaR (w1.alloc (.cells #[.int .i64 1, .int .i64 4, .string ⟨#[]⟩] 23)) (some ⟨w1.heap.size, 0, none⟩) 1 [⟨1, 4, ⟨#[]⟩⟩] := VaR.one ⟨1, 4, ⟨#[]⟩⟩ (by unfold Va.Sm NumI; decide) (Blk.new _ _ _); have hc := I.truth (c2 := 1) (c3 := 1) cA cA_sm hS.co hv; rw [al1] at hc; refine hc.mono ?_; rintro e w2 ⟨rfl, hb⟩; have H1 := Lib.hid (hS.below hb); obtain ⟨z0, z1, z2, z3, z4⟩ := H1.out.cells; clear hb hS hc hv))
  go_ret
  exact ⟨rfl, H5.out.low⟩
end Go.Proofs.Ythpchenmfenjmaa
