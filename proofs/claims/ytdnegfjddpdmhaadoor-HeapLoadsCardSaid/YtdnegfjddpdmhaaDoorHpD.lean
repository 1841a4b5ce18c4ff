/-
  The contracts of New, Pages, Get, has.
-/
import Derived.Test.YtdnegfjddpdmhaaDoorHpC
import Derived.Deep.QuietTactic
import Derived.BigQuiet
namespace Go.Proofs.YtdnegfjddpdmhaaDoor
open Go.RowKit Go.Lib

theorem Sl.drewN {w : World} {A : Option Addr} {n c : Nat} {l : List Int} (h : Sl w A n c l) (d : Nat) : Sl (w.drewN d) A n c l := ⟨h.rd, h.byt, h.cap, h.top, h.adr⟩
theorem below_dN {a b : World} {B : Nat} (h : Below B a b) (d : Nat) : Below B a (b.drewN d) := ⟨h.os, h.tape, h.output, h.size, h.block⟩
theorem dN_below {a b : World} {B d : Nat} (h : Below B (a.drewN d) b) : Below B a b := ⟨h.os, h.tape, h.output, h.size, h.block⟩
def ptrH (hb : Nat) : Value := .pointer (some ⟨hb, 0, none⟩)
def ridV (p k : Int) : Value := .agg #[.int .i64 p, .int .i64 k]

set_option maxRecDepth 100000 in
theorem hnew_any (w : World) (B : Nat) (hB : B ≤ w.heap.size) : Calls Tryd.prog 11 #[] w fun e w' => ∃ (hb : Nat) (D : Nat → Prop), e = .returned (.pointer (some ⟨hb, 0, none⟩)) ∧ HpV B D w' hb [] ∧ Below w.heap.size w w' ∧ (∀ k, D k → w.heap.size ≤ k) := by
  have hF : HpV B (fun k => k = w.heap.size) (w.alloc (.cells #[.slice none 0 0] 67)) w.heap.size [] :=
    ⟨.slice none 0 0, [], ⟨Blk.new w _ _, World.ownsRow_nil _ _ _ _, fun _ h => (by cases h), rfl, fun k h => (by cases h), fun k hk => ⟨by omega, by subst hk; simp⟩⟩, rfl⟩
  have HF := Lib.hid hF
  have HL := Lib.hid ((Below.refl w.heap.size w).alloc (Nat.le_refl _) (.cells #[.slice none 0 0] 67))
  clear hF
  go_enter Tryd.func11, Tryd.ntmps11
  go_wp2_with fail
  go_ret
  exact ⟨_, _, rfl, HF.out, HL.out, fun k hk => Nat.le_of_eq hk.symm⟩

section
variable {B hb : Nat} {D : Nat → Prop} {w : World} {ps : Pgs} (h : HpV B D w hb ps)
include h
set_option maxRecDepth 100000 in
set_option maxHeartbeats 800000 in
theorem pages_any (hn : ps.length ≤ 1000000) : Calls Tryd.prog 14 #[.pointer (some ⟨hb, 0, none⟩)] w (PgsRet w ps) := by
  obtain ⟨v, xs, hx, rfl⟩ := h
  obtain ⟨A, c, rfl, hin, _, _⟩ := hx.pin
  have hc := hx.blk.cell 0
  simp only [List.getElem?_toArray, List.getElem?_cons_zero] at hc
  have HC := Lib.hid (copies_any w A _ c xs hin (by rw [← pslots_len]; exact hn))
  clear hx hin hn
  go_enter Tryd.func14, Tryd.ntmps14
  go_wp2_with fail
  refine HC.out.mono ?_
  rintro e w' ⟨v, ys, rfl, h1, h2, h3, h4⟩
  have H := Lib.hid (And.intro h1 (And.intro h2 (And.intro h3 h4)))
  clear h1 h2 h3 h4
  go_wp2_with fail
  go_ret
  exact ⟨v, ys, rfl, H.out⟩

set_option maxRecDepth 100000 in
set_option maxHeartbeats 1600000 in
theorem hget_any (p k : Int) : Calls Tryd.prog 26 #[.pointer (some ⟨hb, 0, none⟩), .agg #[.int .i64 p, .int .i64 k]] w (BsRet (getH ps p k) w) := by
  obtain ⟨v, xs, hx, rfl⟩ := h
  obtain ⟨A, c, rfl, hin, _, _⟩ := hx.pin
  have hba := (Below.refl w.heap.size w).alloc (Nat.le_refl _) (.cells #[.int .i64 p, .int .i64 k] 32)
  have hbx := Blk.new w 32 #[.int .i64 p, .int .i64 k]
  have hxb := hx.blk.below hba hx.blk.lt
  have hin1 := hin.below hba
  have hc := hxb.cell 0
  have hlt := hx.blk.lt
  simp only [List.getElem?_toArray, List.getElem?_cons_zero] at hc
  have hpl : (pslots xs).length = xs.length := pslots_len xs
  by_cases h0 : p < 0
  · have e0 : decide (p < 0) = true := decide_eq_true h0
    have HG := Lib.hid (show getH (pslots xs) p k = none by rw [getH, if_neg (by omega)])
    have HB := Lib.hid hba
    clear hba hbx hxb hin1 hx hin
    go_enter Tryd.func26, Tryd.ntmps26
    go_wp2_with fail
    go_quiet (fail)
    go_wp2_with fail
    go_ret2
    exact bs_no HG.out (below_dN HB.out _)
  · have e0 : decide (p < 0) = false := decide_eq_false h0
    by_cases h1 : (xs.length : Int) ≤ p
    · have e1 : decide ((xs.length : Int) ≤ p) = true := decide_eq_true h1
      have HG := Lib.hid (show getH (pslots xs) p k = none by rw [getH, if_neg (by omega)])
      have HB := Lib.hid hba
      clear hba hbx hxb hin1 hx hin
      go_enter Tryd.func26, Tryd.ntmps26
      go_wp2_with fail
      go_quiet (fail)
      go_wp2_with fail
      go_ret2
      exact bs_no HG.out (below_dN HB.out _)
    · have e1 : decide ((xs.length : Int) ≤ p) = false := decide_eq_false h1
      obtain ⟨q, rfl⟩ : ∃ q : Nat, p = (q : Int) := ⟨p.toNat, by omega⟩
      have hq : q < xs.length := by omega
      obtain ⟨ad, x, rfl, hxq, hcx, hok, hxs⟩ := hin1.at_ hq
      have HG := Lib.hid (show getH (pslots xs) (q : Int) k = getP (ofP (imgP x.s)) k by
        rw [getH, if_pos (by omega), hok.of, Int.toNat_natCast, pgAt, hxs]; rfl)
      have HB := Lib.hid hba
      have HC := Lib.hid (show ∀ d, Calls Tryd.prog 56 #[.slice x.A 256 x.c, .int .i64 k] (World.drewN (w.alloc (.cells #[.int .i64 (q : Int), .int .i64 k] 32)) d) (BsRet (getP (ofP (imgP x.s)) k) (World.drewN (w.alloc (.cells #[.int .i64 (q : Int), .int .i64 k] 32)) d)) from fun d => get_any _ x.A 256 x.c (imgP x.s) (hok.1.drewN d) k)
      have HAD := Lib.hid (show (ad.add q).block < (w.alloc (.cells #[.int .i64 (q : Int), .int .i64 k] 32)).heap.size from World.block_lt_of_cell? _ _ hcx)
      have hlq : (q : Int) < (xs.length : Int) := by omega
      unfold Pv.val at hcx
      clear hba hxb hin1 hx hin hok hxs hxq
      go_enter Tryd.func26, Tryd.ntmps26
      go_wp2_with fail
      go_quiet (fail)
      go_wp2_with fail
      have hb0 := hbx.cell 0
      have hb1 := hbx.cell 1
      simp only [List.getElem?_toArray, List.getElem?_cons_zero, List.getElem?_cons_succ] at hb0 hb1
      clear hbx
      go_region_held3 (fun w' => w'.cell? ⟨hb, 0, none⟩ = some (.slice (some ad) xs.length c) ∧ w'.cell? ⟨w.heap.size, 0, none⟩ = some (.int .i64 (q : Int)) ∧ w'.cell? ⟨w.heap.size, 1, none⟩ = some (.int .i64 k) ∧ w'.cell? (ad.add q) = some (.slice x.A 256 x.c))
        (first | exact HK.out | go_keep)
        (first | (go_at_call 56; refine (HC.out _).mono ?_; rintro e w3 ⟨v3, rfl, hown3, hbel3'⟩; have hbel3 := dN_below hbel3'; have HK := Lib.hid (show w3.cell? ⟨hb, 0, none⟩ = some (.slice (some ad) xs.length c) ∧ w3.cell? ⟨w.heap.size, 0, none⟩ = some (.int .i64 (q : Int)) ∧ w3.cell? ⟨w.heap.size, 1, none⟩ = some (.int .i64 k) ∧ w3.cell? (ad.add q) = some (.slice x.A 256 x.c) from ⟨(hbel3.cell (p := ⟨hb, 0, none⟩) (by show hb < (w.alloc _).heap.size; simp; omega)).trans hc, (hbel3.cell (p := ⟨w.heap.size, 0, none⟩) (by show w.heap.size < (w.alloc _).heap.size; simp)).trans hb0, (hbel3.cell (p := ⟨w.heap.size, 1, none⟩) (by show w.heap.size < (w.alloc _).heap.size; simp)).trans hb1, (hbel3.cell HAD.out).trans hcx⟩); have HO3 := Lib.hid (And.intro hown3 hbel3); clear hown3 hbel3 hbel3'))
      all_goals go_wp2_with fail
      all_goals go_ret2
      all_goals rw [HG.out]
      all_goals exact ⟨v3, rfl, own_base HO3.out.1 (by show w.heap.size ≤ (w.alloc _).heap.size; simp), HB.out.trans (HO3.out.2.mono (by show w.heap.size ≤ (w.alloc _).heap.size; simp))⟩

set_option maxRecDepth 100000 in
set_option maxHeartbeats 800000 in
theorem has_any (p k : Int) : Calls Tryd.prog 54 #[.pointer (some ⟨hb, 0, none⟩), .agg #[.int .i64 p, .int .i64 k]] w fun e w' => e = .returned (.bool (getH ps p k).isSome) ∧ Below w.heap.size w w' := by
  have hba := (Below.refl w.heap.size w).alloc (Nat.le_refl _) (.cells #[.int .i64 p, .int .i64 k] 32)
  have hbx := Blk.new w 32 #[.int .i64 p, .int .i64 k]
  have HG := Lib.hid (hget_any (h.below hba) p k)
  have HB := Lib.hid hba
  have hb0 := hbx.cell 0
  have hb1 := hbx.cell 1
  simp only [List.getElem?_toArray, List.getElem?_cons_zero, List.getElem?_cons_succ] at hb0 hb1
  clear hba hbx h
  go_enter Tryd.func54, Tryd.ntmps54
  go_wp2_with fail
  refine HG.out.mono ?_
  rintro e w1 ⟨v, rfl, hown, hb1⟩
  have H1 := Lib.hid (below_le HB.out hb1)
  clear hown hb1
  go_wp2_with fail
  go_ret
  exact ⟨rfl, H1.out⟩
end
end Go.Proofs.YtdnegfjddpdmhaaDoor
