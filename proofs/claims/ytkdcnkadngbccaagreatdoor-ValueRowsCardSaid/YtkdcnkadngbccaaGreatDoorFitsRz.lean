/-
  Rows and columns: FitsRow and the document's own.
-/
import Derived.Test.YtkdcnkadngbccaaGreatDoorRRz
namespace Go.Proofs.YtkdcnkadngbccaaGreatDoor
open Go.RowKit Go.Lib

/-- the columns lie in w, below block B -/
structure ColIn (w : World) (B : Nat) (A : Option Addr) (cs : List Co) : Prop where
  lo : 0 < cs.length → ∃ ad, A = some ad ∧ ad.block < B
  cell : ∀ i (hi : i < cs.length) j u, (ccell cs[i])[j]? = some u → ∃ ad, A = some ad ∧ w.cell? (ad.add (i * 3 + j)) = some u
theorem ColIn.below {w w' : World} {B C : Nat} {A : Option Addr} {cs : List Co} (h : ColIn w B A cs) (hb : Below C w w') (hC : B ≤ C) : ColIn w' B A cs := by
  refine ⟨h.lo, fun i hi j u hu => ?_⟩
  obtain ⟨ad, rfl, hc⟩ := h.cell i hi j u hu
  obtain ⟨ad', e, hlt⟩ := h.lo (by omega)
  obtain rfl := Option.some.inj e
  exact ⟨ad, rfl, (hb.cell (p := ad.add (i * 3 + j)) (by rw [addr_block]; omega)).trans hc⟩
theorem ColIn.more {w : World} {B C : Nat} {A : Option Addr} {cs : List Co} (h : ColIn w B A cs) (hC : B ≤ C) : ColIn w C A cs :=
  ⟨fun h0 => (h.lo h0).imp fun ad h1 => ⟨h1.1, by omega⟩, h.cell⟩
theorem ColIn.at_ {w : World} {B : Nat} {A : Option Addr} {cs : List Co} (h : ColIn w B A cs) {i : Nat} (hi : i < cs.length) : ∃ ad, A = some ad ∧ ad.block < B ∧ w.cell? (ad.add (i * 3)) = some (.string cs[i].name) ∧
    w.cell? ⟨(ad.add (i * 3)).block, (ad.add (i * 3)).off + 1, none⟩ = some (.int .i64 cs[i].k) ∧ w.cell? ⟨(ad.add (i * 3)).block, (ad.add (i * 3)).off + 2, none⟩ = some (.bool cs[i].nn) := by
  obtain ⟨ad, rfl, hlt⟩ := h.lo (by omega)
  have get : ∀ j u, (ccell cs[i])[j]? = some u → w.cell? (ad.add (i * 3 + j)) = some u := fun j u hu => by
    obtain ⟨ad', e, hc⟩ := h.cell i hi j u hu
    obtain rfl := Option.some.inj e
    exact hc
  refine ⟨ad, rfl, hlt, get 0 _ rfl, ?_, ?_⟩
  · rw [addr_field _ (by omega), addr_add]; exact get 1 _ rfl
  · rw [addr_field _ (by omega), addr_add]; exact get 2 _ rfl

def fitsL : List Va → List Co → Int
  | x :: l, c :: m => if fitsV x c.k c.nn ≠ 0 then fitsV x c.k c.nn else fitsL l m
  | _, _ => 0
def fitsR (vs : List Va) (cs : List Co) : Int := if vs.length = cs.length then fitsL vs cs else 10
theorem fitsL_drop {a : List Va} {b : List Co} {k : Nat} (ha : k < a.length) (hb : k < b.length) : fitsL (a.drop k) (b.drop k) = if fitsV a[k] b[k].k b[k].nn ≠ 0 then fitsV a[k] b[k].k b[k].nn else fitsL (a.drop (k + 1)) (b.drop (k + 1)) := by
  rw [List.drop_eq_getElem_cons ha, List.drop_eq_getElem_cons hb]; rfl
theorem fitsL_nil {a : List Va} {b : List Co} {k : Nat} (ha : a.length ≤ k) : fitsL (a.drop k) (b.drop k) = 0 := by
  rw [List.drop_eq_nil_of_le ha]; rfl

def FrRel (a : List Va) (b : List Co) (w : World) (i : Value) (wr : World) : Prop := ∃ k : Nat, k ≤ a.length ∧ i = .int .i64 k ∧ Below w.heap.size w wr ∧ fitsL a b = fitsL (a.drop k) (b.drop k)

set_option maxRecDepth 100000 in
set_option maxHeartbeats 3200000 in
theorem fitsRow_any (A A' : Option Addr) (c c' : Nat) (a : List Va) (b : List Co) (w : World) (h : RowIn w w.heap.size A a) (h' : ColIn w w.heap.size A' b) (hm : a.length ≤ 1000000) (hm' : b.length ≤ 1000000) :
    Calls Tryz.prog 15 #[.slice A a.length c, .slice A' b.length c'] w fun e w' => e = .returned (.int .i64 (fitsR a b)) ∧ Below w.heap.size w w' := by
  have hmx : Tryz.prog.follows .mixedOrders = true := by kernel_rfl
  have H := Lib.hid (And.intro h h')
  clear h h'
  by_cases hl : a.length = b.length
  · have HF := Lib.hid (show fitsR a b = fitsL a b by unfold fitsR; rw [if_pos hl])
    obtain ⟨n, hn⟩ : ∃ n, n = a.length := ⟨_, rfl⟩
    have HA := Lib.hid hn
    have HB' := Lib.hid (hn.trans hl)
    rw [← hl, ← hn]
    have hn1 : n ≤ 1000000 := by omega
    clear hm hm' hl hn
    go_enter Tryz.func15, Tryz.ntmps15
    go_wp2_with fail
    go_loopw [15] (fun i wr => FrRel a b w i wr) (fun i _ => n - (intOf i).toNat)
    case atStart => exact ⟨0, by omega, rfl, Below.refl _ _, rfl⟩
    case round =>
      obtain ⟨k, hk, rfl, hb, ho⟩ := hrel
      rw [← HA.out] at hk
      have HB := Lib.hid (And.intro hb ho)
      have hk0 : (0 : Int) ≤ (k : Int) := Int.natCast_nonneg _
      by_cases hla : k < n
      · have hla1 : (k : Int) < (n : Int) := by omega
        have hka : k < a.length := by rw [← HA.out]; exact hla
        have hkb : k < b.length := by rw [← HB'.out]; exact hla
        obtain ⟨ad, rfl, hlt, c0, c1, c2⟩ := (H.out.1.below hb (Nat.le_refl _)).at_ hka
        have hcol := (H.out.2.below hb (Nat.le_refl _)).at_ hkb
        have hstep := fitsL_drop hka hkb
        obtain ⟨x, hx⟩ : ∃ x, x = a[k] := ⟨_, rfl⟩
        obtain ⟨y, hy⟩ : ∃ y, y = b[k] := ⟨_, rfl⟩
        rw [← hx] at c0 c1 c2 hstep
        rw [← hy] at hcol hstep
        have HS := Lib.hid hstep
        have hv := VS.new wr x.k x.n x.s
        obtain ⟨w2, hw2⟩ : ∃ w2, w2 = wr.alloc (.cells #[.int .i64 x.k, .int .i64 x.n, .string x.s] 40) := ⟨_, rfl⟩
        rw [← hw2] at hv
        obtain ⟨ad', rfl, hlt', d0, d1, d2⟩ := hcol
        have g0 := (hv.2.2.2.cell (World.block_lt_of_cell? _ _ d0)).trans d0
        have g1 := (hv.2.2.2.cell (World.block_lt_of_cell? _ _ d1)).trans d1
        have g2 := (hv.2.2.2.cell (World.block_lt_of_cell? _ _ d2)).trans d2
        have b0 := BelowBy.cell hv.1
        have b1 := BelowBy.cell hv.2.1
        have b2 := BelowBy.cell hv.2.2.1
        have e0 := BelowBy.cell g0
        have e1 := BelowBy.cell g1
        have e2 := BelowBy.cell g2
        have HW := Lib.hid (And.intro hw2 (HB.out.1.trans (hv.2.2.2.mono HB.out.1.size)))
        clear hb ho hstep hx hy hlt hlt' hw2 hv d0 d1 d2 g0 g1 g2 hka hkb hk
        go_wp2_with fail
        rw [← HW.out.1]
        refine wp_region_below hmx (by kernel_rfl) ?_
        repeat (quiet_step (first | (go_at_call 41; exact calls_below (fits_any x _ _ _ _))))
        refine wpQuiet_nil ?_
        intro _ hw'
        obtain ⟨pq, hw''⟩ := hw'
        subst hw''
        have HB3 := Lib.hid (HW.out.2.trans (pq.h.mono HW.out.2.size))
        obtain ⟨w5, hw5⟩ : ∃ w5, w5 = pq.w' := ⟨_, rfl⟩
        rw [← hw5] at HB3 ⊢
        obtain ⟨z, hz⟩ : ∃ z, z = fitsV x y.k y.nn := ⟨_, rfl⟩
        rw [← hz] at HS ⊢
        clear hw5 b0 b1 b2 e0 e1 e2 c0 c1 c2 hz
        by_cases g : z = 0
        · have hd : (z != 0) = false := by simp [g]
          have HR := Lib.hid (show FrRel a b w (.int .i64 ((k : Int) + 1)) w5 from ⟨k + 1, by rw [← HA.out]; omega, by go_num, HB3.out, by rw [HB.out.2, HS.out, if_neg (by simp [g])]⟩)
          clear g
          go_wp2
          go_roundw
          case rel => exact HR.out
          case measure => simp [intOf]; omega
        · have hd : (z != 0) = true := by simp [g]
          have HR := Lib.hid (show fitsR a b = z by rw [HF.out, HB.out.2, HS.out, if_pos g])
          clear g
          go_wp2
          go_ret
          exact ⟨ret_int HR.out.symm, HB3.out⟩
      · have hla1 : ¬ (k : Int) < (n : Int) := by omega
        have HR := Lib.hid (show fitsR a b = 0 by rw [HF.out, HB.out.2, fitsL_nil (by rw [← HA.out]; omega)])
        clear hb ho
        go_wp2
        go_ret
        exact ⟨ret_int HR.out.symm, HB.out.1⟩
  · have hd : ((a.length : Int) != (b.length : Int)) = true := by simp; omega
    have HR := Lib.hid (show fitsR a b = 10 by unfold fitsR; rw [if_neg hl])
    clear hl
    go_enter Tryz.func15, Tryz.ntmps15
    go_wp2
    go_ret
    exact ⟨ret_int HR.out.symm, Below.refl _ _⟩

set_option maxRecDepth 100000 in
set_option maxHeartbeats 3200000 in
theorem refFitsRow_any (A A' : Option Addr) (c c' : Nat) (a : List Va) (b : List Co) (w : World) (h : RowIn w w.heap.size A a) (h' : ColIn w w.heap.size A' b) (hm : a.length ≤ 1000000) (hm' : b.length ≤ 1000000) :
    Calls Tryz.prog 16 #[.slice A a.length c, .slice A' b.length c'] w fun e w' => e = .returned (.int .i64 (fitsR a b)) ∧ Below w.heap.size w w' := by
  have hmx : Tryz.prog.follows .mixedOrders = true := by kernel_rfl
  have H := Lib.hid (And.intro h h')
  clear h h'
  by_cases hl : a.length = b.length
  · have HF := Lib.hid (show fitsR a b = fitsL a b by unfold fitsR; rw [if_pos hl])
    obtain ⟨n, hn⟩ : ∃ n, n = a.length := ⟨_, rfl⟩
    have HA := Lib.hid hn
    have HB' := Lib.hid (hn.trans hl)
    rw [← hl, ← hn]
    have hn1 : n ≤ 1000000 := by omega
    clear hm hm' hl hn
    go_enter Tryz.func16, Tryz.ntmps16
    go_wp2_with fail
    go_loopw [5] (fun i wr => FrRel a b w i wr) (fun i _ => n - (intOf i).toNat)
    case atStart => exact ⟨0, by omega, rfl, Below.refl _ _, rfl⟩
    case round =>
      obtain ⟨k, hk, rfl, hb, ho⟩ := hrel
      rw [← HA.out] at hk
      have HB := Lib.hid (And.intro hb ho)
      have hk0 : (0 : Int) ≤ (k : Int) := Int.natCast_nonneg _
      by_cases hla : k < n
      · have hla1 : (k : Int) < (n : Int) := by omega
        have hka : k < a.length := by rw [← HA.out]; exact hla
        have hkb : k < b.length := by rw [← HB'.out]; exact hla
        obtain ⟨ad, rfl, hlt, c0, c1, c2⟩ := (H.out.1.below hb (Nat.le_refl _)).at_ hka
        obtain ⟨ad', rfl, hlt', d0, d1, d2⟩ := (H.out.2.below hb (Nat.le_refl _)).at_ hkb
        have hstep := fitsL_drop hka hkb
        obtain ⟨x, hx⟩ : ∃ x, x = a[k] := ⟨_, rfl⟩
        obtain ⟨y, hy⟩ : ∃ y, y = b[k] := ⟨_, rfl⟩
        rw [← hx] at c0 c1 c2 hstep
        rw [← hy] at d0 d1 d2 hstep
        have HS := Lib.hid hstep
        have b0 := BelowBy.cell c0
        have b1 := BelowBy.cell c1
        have b2 := BelowBy.cell c2
        have e0 := BelowBy.cell d0
        have e1 := BelowBy.cell d1
        have e2 := BelowBy.cell d2
        clear hb ho hstep hx hy hlt hlt' c0 c1 c2 d0 d1 d2 hka hkb hk
        go_wp2_with fail
        refine wp_region_below hmx (by kernel_rfl) ?_
        repeat (quiet_step (first | (go_at_call 42; exact calls_below (refFits_any x _ _ _ _))))
        refine wpQuiet_nil ?_
        intro _ hw'
        obtain ⟨pq, hw''⟩ := hw'
        subst hw''
        have HB3 := Lib.hid (HB.out.1.trans (pq.h.mono HB.out.1.size))
        obtain ⟨w5, hw5⟩ : ∃ w5, w5 = pq.w' := ⟨_, rfl⟩
        rw [← hw5] at HB3 ⊢
        obtain ⟨z, hz⟩ : ∃ z, z = fitsV x y.k y.nn := ⟨_, rfl⟩
        rw [← hz] at HS ⊢
        clear hw5 b0 b1 b2 e0 e1 e2 hz
        by_cases g : z = 0
        · have hd : (z != 0) = false := by simp [g]
          have HR := Lib.hid (show FrRel a b w (.int .i64 ((k : Int) + 1)) w5 from ⟨k + 1, by rw [← HA.out]; omega, by go_num, HB3.out, by rw [HB.out.2, HS.out, if_neg (by simp [g])]⟩)
          clear g
          go_wp2
          go_roundw
          case rel => exact HR.out
          case measure => simp [intOf]; omega
        · have hd : (z != 0) = true := by simp [g]
          have HR := Lib.hid (show fitsR a b = z by rw [HF.out, HB.out.2, HS.out, if_pos g])
          clear g
          go_wp2
          go_ret
          exact ⟨ret_int HR.out.symm, HB3.out⟩
      · have hla1 : ¬ (k : Int) < (n : Int) := by omega
        have HR := Lib.hid (show fitsR a b = 0 by rw [HF.out, HB.out.2, fitsL_nil (by rw [← HA.out]; omega)])
        clear hb ho
        go_wp2
        go_ret
        exact ⟨ret_int HR.out.symm, HB.out.1⟩
  · have hd : ((a.length : Int) != (b.length : Int)) = true := by simp; omega
    have HR := Lib.hid (show fitsR a b = 10 by unfold fitsR; rw [if_neg hl])
    clear hl
    go_enter Tryz.func16, Tryz.ntmps16
    go_wp2
    go_ret
    exact ⟨ret_int HR.out.symm, Below.refl _ _⟩
end Go.Proofs.YtkdcnkadngbccaaGreatDoor
