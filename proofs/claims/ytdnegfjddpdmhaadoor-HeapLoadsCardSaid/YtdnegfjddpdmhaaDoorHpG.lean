/-
  The contract of Add.
-/
import Derived.Test.YtdnegfjddpdmhaaDoorHpF
namespace Go.Proofs.YtdnegfjddpdmhaaDoor
open Go.RowKit Go.Lib

/-- a row that lies outside of a footprint -/
structure RdX (D : Nat → Prop) (w : World) (A : Option Addr) (n : Nat) (xs : List Value) : Prop where
  rd : Rd w w.heap.size A n xs
  off : ∀ ad, 0 < n → A = some ad → ¬ D ad.block
section
variable {D F : Nat → Prop} {w w' : World} {A : Option Addr} {n : Nat} {xs : List Value} {B : Nat}
theorem RdX.chg (h : RdX D w A n xs) (hc : Chg F w w') (hF : ∀ ad, 0 < n → A = some ad → ¬ F ad.block) : RdX D w' A n xs := by
  refine ⟨⟨h.rd.1, fun h0 => ?_⟩, h.off⟩
  obtain ⟨ad, e, hb, hcell⟩ := h.rd.2 h0
  have hs := hc.size
  exact ⟨ad, e, by omega, fun j u hu => (hc.cell (p := ad.add j) (by rw [addr_block]; exact hb) (by rw [addr_block]; exact hF ad h0 e)).trans (hcell j u hu)⟩
theorem RdX.step (h : RdX D w A n xs) (hc : Chg D w w') : RdX (Ext D w w') w' A n xs := by
  have h1 := h.chg hc h.off
  refine ⟨h1.rd, fun ad h0 e hx => hx.elim (h.off ad h0 e) fun hx => ?_⟩
  obtain ⟨ad', e', hb, _⟩ := h.rd.2 h0
  rw [e] at e'
  cases e'
  omega
theorem RdX.below (h : RdX D w A n xs) (hb : Below w.heap.size w w') : RdX D w' A n xs := ⟨h.rd.le hb, h.off⟩
theorem RdX.of_low (h : Rd w B A n xs) (hB : B ≤ w.heap.size) (hD : ∀ k, D k → B ≤ k) : RdX D w A n xs := by
  refine ⟨h.more hB, fun ad h0 e hd => ?_⟩
  obtain ⟨ad', e', hb, _⟩ := h.2 h0
  rw [e] at e'
  cases e'
  have := hD _ hd
  omega
theorem RdX.anti {E : Nat → Prop} (h : RdX D w A n xs) (hE : ∀ k, k < w.heap.size → E k → D k) : RdX E w A n xs := by
  refine ⟨h.rd, fun ad h0 e he => h.off ad h0 e (hE _ ?_ he)⟩
  obtain ⟨ad', e', hb, _⟩ := h.rd.2 h0
  rw [e] at e'
  cases e'
  exact hb
end

/-- what a call that changes the heap leaves -/
def HpTo (B hb : Nat) (D : Nat → Prop) (w : World) (ps : Pgs) (w' : World) : Prop := HpV B (Ext D w w') w' hb ps ∧ Chg D w w'
theorem HpTo.of {B hb : Nat} {D D' C : Nat → Prop} {w w1 w' : World} {ps : Pgs} (h : HpV B D' w' hb ps) (hc : Chg C w1 w') (h1 : Below w.heap.size w w1) (hB : B ≤ w.heap.size) (hD : ∀ k, D k → B ≤ k ∧ k < w.heap.size)
    (hD' : ∀ k, D' k → D k ∨ (w.heap.size ≤ k)) (hC : ∀ k, k < w.heap.size → C k → D k) : HpTo B hb D w ps w' := by
  have s1 := h1.size
  have s2 := hc.size
  refine ⟨h.mono (fun k hk => ?_) (fun k hk => ?_), (Chg.of_below h1).trans' hc fun k hk hck => hC k hk hck⟩
  · rcases hD' k hk with h2 | h2
    · exact .inl h2
    · exact .inr ⟨h2, (h.foot hk).2⟩
  · rcases hk with hk | hk
    · have := hD k hk; omega
    · exact ⟨by omega, hk.2⟩
/-- nothing of the heap has changed -/
theorem HpTo.same {B hb : Nat} {D : Nat → Prop} {w w' : World} {ps : Pgs} (h : HpV B D w hb ps) (h1 : Below w.heap.size w w') (hB : B ≤ w.heap.size) : HpTo B hb D w ps w' :=
  ⟨(h.below h1).more hB (fun _ hk => (h.foot hk).1), Chg.of_below h1⟩

def AdRel (w1 : World) (B hb : Nat) (D : Nat → Prop) (ps : Pgs) (b : List Int) (bb br bs : Nat) (vb : Value) (N : Nat) (i : Value) (wr : World) : Prop :=
  ∃ k : Nat, k ≤ N ∧ i = .int .i64 k ∧ (∀ j, j < k → fitsP (pgAt ps j) b = false) ∧ HpV B (Ext D w1 wr) wr hb ps ∧ Blk wr bb 33 #[vb] ∧ Blk wr br 32 #[.int .i64 0, .int .i64 0] ∧ (∃ z : Int, Blk wr bs 3 #[.int .i64 z]) ∧ Chg (fun j => D j ∨ j = bs) w1 wr

theorem addE_range {ps : Pgs} {b : List Int} (h : 200 < b.length) : addE ps b = 41 ∧ addPg ps b = 0 ∧ addSl ps b = 0 ∧ addN ps b = ps := by
  have h1 : addE ps b = 41 := by rw [addE, if_pos h]
  exact ⟨h1, by rw [addPg, h1]; rfl, by rw [addSl, h1]; rfl, by rw [addN, h1]; rfl⟩
theorem addE_full {ps : Pgs} {b : List Int} (h : ¬ 200 < b.length) (hf : 256 ≤ fitH b ps) : addE ps b = 36 ∧ addPg ps b = 0 ∧ addSl ps b = 0 ∧ addN ps b = ps := by
  have h1 : addE ps b = 36 := by rw [addE, if_neg h, if_pos hf]
  exact ⟨h1, by rw [addPg, h1]; rfl, by rw [addSl, h1]; rfl, by rw [addN, h1]; rfl⟩
theorem addE_ok {ps : Pgs} {b : List Int} {k : Nat} (h : ¬ 200 < b.length) (hk : k < 256) (hf : fitH b ps = k) : addE ps b = 0 ∧ addPg ps b = k ∧ addSl ps b = ffP (pgAt ps k) ∧ addN ps b = setH ps k (setP (pgAt ps k) (ffP (pgAt ps k)) (some b)) := by
  have h1 : addE ps b = 0 := by rw [addE, if_neg h, if_neg (by omega)]
  exact ⟨h1, by rw [addPg, if_pos h1, hf], by rw [addSl, if_pos h1, hf], by rw [addN, if_pos h1, hf]⟩

theorem wpList_min_int {P : Program} {ops : Array Oper} {rest : List Oper} {o : Oper} {a : Act} {w : World} {Q : Exit → Act → World → Prop} (hgd : o.guard = none) (x y : Operand) (t t' : TypeId) (ho : o.op = .call { callee := .builtin .min, args := #[x, y], argTypes := #[t, t'] }) (p q r : Int) (hx : a.eval x = .int .i64 p) (hy : a.eval y = .int .i64 q)
    (hr : (if q < p then q else p) = r) (h : wpList P ops Q rest (a.put o.dst (.int .i64 r)) w) : wpList P ops Q (o :: rest) a w := by
  refine wpList_plain hgd fun K hK => ?_
  unfold Oper.wp
  simp [execOp, ho, resolve, invoke, builtin, hx, hy, run_min_int2, Result.andThen]
  rw [hr]
  exact hK _ _ h

set_option maxRecDepth 100000 in
set_option maxHeartbeats 6400000 in
theorem hadd_any (w : World) (B hb : Nat) (D : Nat → Prop) (ps : Pgs) (h : HpV B D w hb ps) (hfew : ps.length ≤ 256) (hB : B ≤ w.heap.size) (A2 : Option Addr) (n2 c2 : Nat) (b : List Int) (hr : RdX D w A2 n2 (cells b)) (hb2 : IsBytes b) :
    Calls Tryd.prog 23 #[.pointer (some ⟨hb, 0, none⟩), .slice A2 n2 c2] w fun e w' => e = .returned (.tuple #[.agg #[.int .i64 (addPg ps b), .int .i64 (addSl ps b)], .int .i64 (addE ps b)]) ∧ HpTo B hb D w (addN ps b) w' := by
  have hlen : b.length = n2 := by have := hr.rd.len; rwa [cells_len] at this
  have hft : ∀ k, D k → B ≤ k ∧ k < w.heap.size := fun k hk => h.foot hk
  have H := Lib.hid (And.intro h (And.intro hr (And.intro hb2 (And.intro hlen hft))))
  by_cases hbig : 200 < n2
  · have HF := Lib.hid (addE_range (ps := ps) (b := b) (by rw [hlen]; exact hbig))
    have hbi : (200 : Int) < (n2 : Int) := by omega
    have HL := Lib.hid (((Below.refl w.heap.size w).alloc (Nat.le_refl _) (.cells #[.slice A2 n2 c2] 33)).alloc (by simp) (.cells #[.int .i64 0, .int .i64 0] 32))
    rw [HF.out.1, HF.out.2.1, HF.out.2.2.1, HF.out.2.2.2]
    clear h hr hb2 hlen hft
    go_enter Tryd.func23, Tryd.ntmps23
    go_wp2_with fail
    refine bodyPost_ret (by rw [results_cell_tmp rfl]; go_simp; exact rfl) rfl ?_
    exact ⟨rfl, HpTo.same H.out.1 HL.out hB⟩
  · have hbi : ¬ ((200 : Int) < (n2 : Int)) := by omega
    obtain ⟨w1, hw1⟩ : ∃ w1, w1 = ((w.alloc (.cells #[.slice A2 n2 c2] 33)).alloc (.cells #[.int .i64 0, .int .i64 0] 32)).alloc (.cells #[.int .i64 0] 3) := ⟨_, rfl⟩
    have k1 : Blk w1 w.heap.size 33 #[.slice A2 n2 c2] := by rw [hw1]; exact ((Blk.new _ _ _).alloc _).alloc _
    have k2 : Blk w1 (w.heap.size + 1) 32 #[.int .i64 0, .int .i64 0] := by
      rw [hw1]
      have h1 := (Blk.new (w.alloc (.cells #[.slice A2 n2 c2] 33)) 32 #[.int .i64 0, .int .i64 0]).alloc (.cells #[.int .i64 0] 3)
      rw [World.size_alloc] at h1
      exact h1
    have k3 : Blk w1 (w.heap.size + 1 + 1) 3 #[.int .i64 0] := by
      rw [hw1]
      have h1 := Blk.new ((w.alloc (.cells #[.slice A2 n2 c2] 33)).alloc (.cells #[.int .i64 0, .int .i64 0] 32)) 3 #[.int .i64 0]
      rw [World.size_alloc, World.size_alloc] at h1
      exact h1
    have hl1 : Below w.heap.size w w1 := by rw [hw1]; exact (((Below.refl _ w).alloc (Nat.le_refl _) _).alloc (by simp) _).alloc (by simp; omega) _
    have hs1 : w1.heap.size = w.heap.size + 3 := by rw [hw1]; simp
    have h1 := h.below hl1
    have hr1 := hr.below hl1
    obtain ⟨v0, xs, hx, hxs⟩ := h1
    obtain ⟨A0, c0, rfl, _, _, _⟩ := hx.pin
    have hpl : xs.length = ps.length := by rw [← hxs, pslots_len]
    have hc0 := hx.blk.cell 0
    simp only [List.getElem?_toArray, List.getElem?_cons_zero] at hc0
    rw [hpl, hw1] at hc0
    have hst : AdRel w1 B hb D ps b w.heap.size (w.heap.size + 1) (w.heap.size + 1 + 1) (.slice A2 n2 c2) (min (ps.length + 1) 256) (.int .i64 0) w1 :=
      ⟨0, Nat.zero_le _, rfl, fun j hj => by omega, (h.below hl1).more (by omega) (fun k hk => (hft k hk).1), k1, k2, ⟨0, k3⟩, Chg.refl _ _⟩
    have HST := Lib.hid hst
    have H1 := Lib.hid (And.intro hl1 (And.intro hs1 hr1))
    obtain ⟨L, hL⟩ : ∃ L, L = ps.length := ⟨_, rfl⟩
    obtain ⟨N, hN⟩ : ∃ N, N = min (L + 1) 256 := ⟨_, rfl⟩
    have hL256 : L ≤ 256 := by omega
    have hN256 : N ≤ 256 := by omega
    rw [← hL] at hc0 HST
    rw [← hN] at HST
    have HW1 := Lib.hid hw1
    have HLN := Lib.hid (And.intro hL hN)
    have hcase : (256 < L + 1 ∧ N = 256) ∨ (¬ 256 < L + 1 ∧ N = L + 1) := by omega
    clear h hr hb2 hlen hft k1 k2 k3 hl1 hs1 hr1 hx hxs hpl hst hw1 hL hN
    rcases hcase with ⟨hlc, rfl⟩ | ⟨hlc, rfl⟩
    · have hlci : (256 : Int) < (L : Int) + 1 := by omega
      go_enter Tryd.func23, Tryd.ntmps23
      go_wp2_with fail
      rw [← HW1.out]
      go_loopw [21] (fun i wr => AdRel w1 B hb D ps b w.heap.size (w.heap.size + 1) (w.heap.size + 1 + 1) (.slice A2 n2 c2) 256 i wr) (fun i _ => 256 - (intOf i).toNat)
      case atStart => exact HST.out
      case round =>
        obtain ⟨k, hk, rfl, hno, hpv, q1, q2, ⟨z, q3⟩, hch⟩ := hrel
        have hk0 : (0 : Int) ≤ (k : Int) := Int.natCast_nonneg _
        have HR := Lib.hid (And.intro hno (And.intro hpv (And.intro q1 (And.intro q2 (And.intro q3 hch)))))
        clear hno hpv q1 q2 q3 hch
        by_cases hlt : k < 256
        · have hlt1 : (k : Int) < 256 := by omega
          have hkk : k ≤ 255 := by omega
          have hsC : ∀ j, j = w.heap.size + 1 + 1 → j < wr.heap.size ∧ ¬ Ext D w1 wr j := fun j hj => by
            subst hj
            refine ⟨HR.out.2.2.2.2.1.lt, fun he => ?_⟩
            have h9 := H1.out.2.1
            rcases he with he | he
            · have := (H.out.2.2.2.2 _ he).2; omega
            · omega
          have hbD : ¬ Ext D w1 wr w.heap.size := fun he => by
            have h9 := H1.out.2.1
            rcases he with he | he
            · have := (H.out.2.2.2.2 _ he).2; omega
            · omega
          have hrD : ¬ Ext D w1 wr (w.heap.size + 1) := fun he => by
            have h9 := H1.out.2.1
            rcases he with he | he
            · have := (H.out.2.2.2.2 _ he).2; omega
            · omega
          have hrx : RdX (Ext D w1 wr) wr A2 n2 (cells b) := by
            have e1 : RdX D wr A2 n2 (cells b) := H1.out.2.2.chg HR.out.2.2.2.2.2 (fun ad h0 e hj => by
              rcases hj with hj | hj
              · exact H1.out.2.2.off ad h0 e hj
              · obtain ⟨ad', e', hb', _⟩ := H.out.2.1.rd.2 h0
                rw [e] at e'; cases e'; omega)
            refine ⟨e1.rd, fun ad h0 e hj => ?_⟩
            rcases hj with hj | hj
            · exact e1.off ad h0 e hj
            · obtain ⟨ad', e', hb', _⟩ := H.out.2.1.rd.2 h0
              have h9 := H1.out.2.1
              rw [e] at e'; cases e'; omega
          have hmk : ∀ (w2 : World) (x : Pv), Chg (Ext D w1 wr) wr w2 → PgOk w2 x → x.s = pgAt ps k → Calls Tryd.prog 46 #[.slice x.A 256 x.c, .pointer (some ⟨w.heap.size, 0, none⟩), .pointer (some ⟨w.heap.size + 1 + 1, 0, none⟩)] w2 (MkRet (addS (pgAt ps k) b) (fun j => j = w.heap.size + 1 + 1) (fun w' => Blk w' (w.heap.size + 1 + 1) 3 #[.int .i64 (addSk (pgAt ps k) b)]) w2) := fun w2 x hc2 hx hxs => by
            rw [← hxs]
            exact mkAdd_any w2 x hx _ _ A2 n2 c2 b (HR.out.2.2.1.chg hc2 hbD) z (HR.out.2.2.2.2.1.chg hc2 (hsC _ rfl).2) (hrx.chg hc2 hrx.off).rd H.out.2.2.1
          have HCH := Lib.hid (change_add wr B hb (Ext D w1 wr) ps HR.out.2.1 hfew k hkk (by have h5 := HR.out.2.2.2.2.2.size; have h6 := H1.out.1.size; omega) w.heap.size (w.heap.size + 1 + 1) (fun j => j = w.heap.size + 1 + 1) hsC
            (fun w' => Blk w' (w.heap.size + 1 + 1) 3 #[.int .i64 (addSk (pgAt ps k) b)]) (fun a b' hab hp => (hab _ rfl).trans hp) (addS (pgAt ps k) b) hmk)
          have HD2 := Lib.hid (And.intro hsC (And.intro hbD hrD))
          clear hmk hsC hbD hrD hrx
          go_wp2_with fail
          refine HCH.out.mono ?_
          rintro e w3 ⟨rfl, hpv3, hch3, hps3⟩
          have hoff : ∀ j, j < wr.heap.size → ¬ Ext D w1 wr j → j ≠ w.heap.size + 1 + 1 → ¬ (Ext D w1 wr j ∨ j = w.heap.size + 1 + 1) := fun j _ h1 h2 h3 => h3.elim h1 h2
          have q1 := HR.out.2.2.1.chg hch3 (hoff _ HR.out.2.2.1.lt HD2.out.2.1 (by omega))
          have q2 := HR.out.2.2.2.1.chg hch3 (hoff _ HR.out.2.2.2.1.lt HD2.out.2.2 (by omega))
          have hchw : Chg (fun j => D j ∨ j = w.heap.size + 1 + 1) w1 w3 := HR.out.2.2.2.2.2.trans' hch3 fun j hj hjj => by
            rcases hjj with (hjj | hjj) | hjj
            · exact .inl hjj
            · omega
            · exact .inr hjj
          by_cases hfit : fitsP (pgAt ps k) b = true
          · have hsome : (addS (pgAt ps k) b) = some (setP (pgAt ps k) (ffP (pgAt ps k)) (some b)) := by rw [addS, if_pos hfit]
            have hsk : addSk (pgAt ps k) b = ffP (pgAt ps k) := by rw [addSk, if_pos hfit]
            rw [hsome] at hpv3
            rw [hsk] at hps3
            have hfk : fitH b ps = k := fitH_is (by have h1 := HLN.out.1; have h2 := HLN.out.2; omega) HR.out.1 (fun _ => hfit)
            have HA := Lib.hid (addE_ok (ps := ps) (b := b) (k := k) (by rw [H.out.2.2.2.1]; exact hbig) (by omega) hfk)
            have HF := Lib.hid (And.intro hpv3 hchw)
            have hc3 := hps3.cell 0
            have hc4 := q2.cell 0
            have hc5 := q2.cell 1
            simp only [List.getElem?_toArray, List.getElem?_cons_zero, List.getElem?_cons_succ] at hc3 hc4 hc5
            have hf4 := q2.frozen 0
            have hf5 := q2.frozen 1
            have hi : (addS (pgAt ps k) b).isSome = true := by rw [hsome]; rfl
            rw [hi]
            obtain ⟨ff, hff⟩ : ∃ ff, ff = ffP (pgAt ps k) := ⟨_, rfl⟩
            rw [← hff] at hc3
            have HFF := Lib.hid hff
            clear hsome hsk hpv3 hps3 hchw hfk hi q1 hff hfit hoff hch3
            go_wp2_with fail
            obtain ⟨wf, hwf⟩ : ∃ wf, wf = (w3.setCell ⟨w.heap.size + 1, 0, none⟩ (.int .i64 (k : Int))).setCell ⟨w.heap.size + 1, 1, none⟩ (.int .i64 (ff : Int)) := ⟨_, rfl⟩
            have hbf : Blk wf (w.heap.size + 1) 32 #[.int .i64 (k : Int), .int .i64 (ff : Int)] := by rw [hwf]; exact (q2.put 0 _).put 1 _
            have hcf : Chg (fun j => j = w.heap.size + 1) w3 wf := by rw [hwf]; exact ((Chg.refl (fun j => j = w.heap.size + 1) w3).setCell (p := ⟨w.heap.size + 1, 0, none⟩) (fun _ => rfl) _).setCell (p := ⟨w.heap.size + 1, 1, none⟩) (fun _ => rfl) _
            have f0 := hbf.cell 0
            have f1 := hbf.cell 1
            simp only [List.getElem?_toArray, List.getElem?_cons_zero, List.getElem?_cons_succ] at f0 f1
            rw [← hwf]
            have HE := Lib.hid (And.intro hcf HFF.out)
            clear hwf hbf hcf hc3 hc4 hc5 hf4 hf5 q2
            refine bodyPost_ret (by rw [results_cell_tmp rfl]; go_simp; exact rfl) rfl ?_
            have s1 := H1.out.2.1
            have s2 := HR.out.2.2.2.2.2.size
            refine ⟨by rw [HA.out.1, HA.out.2.1, HA.out.2.2.1, HE.out.2], ?_⟩
            rw [HA.out.2.2.2]
            refine HpTo.of (C := fun j => (D j ∨ j = w.heap.size + 1 + 1) ∨ j = w.heap.size + 1) (HF.out.1.chg HE.out.1 fun j hj he => ?_) ((HF.out.2.mono fun j _ hj => .inl hj).trans' HE.out.1 fun j _ hj => .inr hj) H1.out.1 hB H.out.2.2.2.2 (fun j hj => ?_) (fun j hj hc => ?_)
            · subst he
              rcases hj with (hj | hj) | hj
              · have := (H.out.2.2.2.2 _ hj).2; omega
              · omega
              · omega
            · rcases hj with (hj | hj) | hj
              · exact .inl hj
              · exact .inr (by omega)
              · exact .inr (by omega)
            · rcases hc with (hc | hc) | hc
              · exact hc
              · omega
              · omega
          · have hnone : (addS (pgAt ps k) b) = none := by rw [addS, if_neg hfit]
            rw [hnone] at hpv3
            have HF := Lib.hid (show AdRel w1 B hb D ps b w.heap.size (w.heap.size + 1) (w.heap.size + 1 + 1) (.slice A2 n2 c2) 256 (.int .i64 (k + 1)) w3 from
              ⟨k + 1, by omega, by go_num, fun j hj => by
                rcases Nat.lt_or_ge j k with h1 | h1
                · exact HR.out.1 j h1
                · obtain rfl : j = k := by omega
                  simpa using hfit, hpv3.mono (fun j hj => by
                    rcases hj with (hj | hj) | hj
                    · exact .inl hj
                    · exact .inr ⟨hj.1, by have := hch3.size; omega⟩
                    · exact .inr ⟨by have := HR.out.2.2.2.2.2.size; omega, hj.2⟩) (fun j hj => by
                    rcases hj with hj | hj
                    · exact hpv3.foot (.inl (.inl hj))
                    · exact ⟨by have := H1.out.1.size; omega, hj.2⟩), q1, q2, ⟨_, hps3⟩, hchw⟩)
            have hi : (addS (pgAt ps k) b).isSome = false := by rw [hnone]; rfl
            rw [hi]
            clear hnone hpv3 hch3 hps3 hoff q1 q2 hchw hi hfit
            go_wp2_with fail
            go_roundw
            case rel => exact HF.out
            case measure => simp [intOf]; omega
        · have hlt1 : ¬ ((k : Int) < 256) := by omega
          have hN6 : 256 ≤ 256 := by
            have h1 := HLN.out.1
            have h2 := HLN.out.2
            rcases Nat.lt_or_ge 256 256 with h3 | h3
            · exfalso
              have h4 := HR.out.1 L (by omega)
              rw [pgAt_ge (by omega), fits_nil (by have := H.out.2.2.2.1; omega)] at h4
              cases h4
            · exact h3
          have hfk : 256 ≤ fitH b ps := by
            rcases Nat.lt_or_ge (fitH b ps) 256 with h3 | h3
            · have h4 := HR.out.1 (fitH b ps) (by omega)
              rw [fitH_fits (by have := H.out.2.2.2.1; omega)] at h4
              cases h4
            · exact h3
          have HA := Lib.hid (addE_full (ps := ps) (b := b) (by rw [H.out.2.2.2.1]; exact hbig) hfk)
          have hc4 := HR.out.2.2.2.1.cell 0
          have hc5 := HR.out.2.2.2.1.cell 1
          simp only [List.getElem?_toArray, List.getElem?_cons_zero, List.getElem?_cons_succ] at hc4 hc5
          have hf4 := HR.out.2.2.2.1.frozen 0
          have hf5 := HR.out.2.2.2.1.frozen 1
          clear hN6 hfk
          go_wp2_with fail
          obtain ⟨wf, hwf⟩ : ∃ wf, wf = (wr.setCell ⟨w.heap.size + 1, 0, none⟩ (.int .i64 0)).setCell ⟨w.heap.size + 1, 1, none⟩ (.int .i64 0) := ⟨_, rfl⟩
          have hbf : Blk wf (w.heap.size + 1) 32 #[.int .i64 0, .int .i64 0] := by rw [hwf]; exact (HR.out.2.2.2.1.put 0 _).put 1 _
          have hcf : Chg (fun j => j = w.heap.size + 1) wr wf := by rw [hwf]; exact ((Chg.refl (fun j => j = w.heap.size + 1) wr).setCell (p := ⟨w.heap.size + 1, 0, none⟩) (fun _ => rfl) _).setCell (p := ⟨w.heap.size + 1, 1, none⟩) (fun _ => rfl) _
          have f0 := hbf.cell 0
          have f1 := hbf.cell 1
          simp only [List.getElem?_toArray, List.getElem?_cons_zero, List.getElem?_cons_succ] at f0 f1
          rw [← hwf]
          have HE := Lib.hid hcf
          clear hwf hbf hcf hc4 hc5 hf4 hf5
          refine bodyPost_ret (by rw [results_cell_tmp rfl]; go_simp; exact rfl) rfl ?_
          have s1 := H1.out.2.1
          have s2 := HR.out.2.2.2.2.2.size
          refine ⟨by rw [HA.out.1, HA.out.2.1, HA.out.2.2.1], ?_⟩
          rw [HA.out.2.2.2]
          refine HpTo.of (C := fun j => (D j ∨ j = w.heap.size + 1 + 1) ∨ j = w.heap.size + 1) (HR.out.2.1.chg HE.out fun j hj he => ?_) ((HR.out.2.2.2.2.2.mono fun j _ hj => .inl hj).trans' HE.out fun j _ hj => .inr hj) H1.out.1 hB H.out.2.2.2.2 (fun j hj => ?_) (fun j hj hc => ?_)
          · subst he
            rcases hj with hj | hj
            · have := (H.out.2.2.2.2 _ hj).2; omega
            · omega
          · rcases hj with hj | hj
            · exact .inl hj
            · exact .inr (by omega)
          · rcases hc with (hc | hc) | hc
            · exact hc
            · omega
            · omega
    · have hlci : ¬ ((256 : Int) < (L : Int) + 1) := by omega
      go_enter Tryd.func23, Tryd.ntmps23
      go_wp2_with fail
      rw [← HW1.out]
      go_loopw [21] (fun i wr => AdRel w1 B hb D ps b w.heap.size (w.heap.size + 1) (w.heap.size + 1 + 1) (.slice A2 n2 c2) (L + 1) i wr) (fun i _ => (L + 1) - (intOf i).toNat)
      case atStart => exact HST.out
      case round =>
        obtain ⟨k, hk, rfl, hno, hpv, q1, q2, ⟨z, q3⟩, hch⟩ := hrel
        have hk0 : (0 : Int) ≤ (k : Int) := Int.natCast_nonneg _
        have HR := Lib.hid (And.intro hno (And.intro hpv (And.intro q1 (And.intro q2 (And.intro q3 hch)))))
        clear hno hpv q1 q2 q3 hch
        by_cases hlt : k < L + 1
        · have hlt1 : (k : Int) < (L : Int) + 1 := by omega
          have hkk : k ≤ 255 := by omega
          have hsC : ∀ j, j = w.heap.size + 1 + 1 → j < wr.heap.size ∧ ¬ Ext D w1 wr j := fun j hj => by
            subst hj
            refine ⟨HR.out.2.2.2.2.1.lt, fun he => ?_⟩
            have h9 := H1.out.2.1
            rcases he with he | he
            · have := (H.out.2.2.2.2 _ he).2; omega
            · omega
          have hbD : ¬ Ext D w1 wr w.heap.size := fun he => by
            have h9 := H1.out.2.1
            rcases he with he | he
            · have := (H.out.2.2.2.2 _ he).2; omega
            · omega
          have hrD : ¬ Ext D w1 wr (w.heap.size + 1) := fun he => by
            have h9 := H1.out.2.1
            rcases he with he | he
            · have := (H.out.2.2.2.2 _ he).2; omega
            · omega
          have hrx : RdX (Ext D w1 wr) wr A2 n2 (cells b) := by
            have e1 : RdX D wr A2 n2 (cells b) := H1.out.2.2.chg HR.out.2.2.2.2.2 (fun ad h0 e hj => by
              rcases hj with hj | hj
              · exact H1.out.2.2.off ad h0 e hj
              · obtain ⟨ad', e', hb', _⟩ := H.out.2.1.rd.2 h0
                rw [e] at e'; cases e'; omega)
            refine ⟨e1.rd, fun ad h0 e hj => ?_⟩
            rcases hj with hj | hj
            · exact e1.off ad h0 e hj
            · obtain ⟨ad', e', hb', _⟩ := H.out.2.1.rd.2 h0
              have h9 := H1.out.2.1
              rw [e] at e'; cases e'; omega
          have hmk : ∀ (w2 : World) (x : Pv), Chg (Ext D w1 wr) wr w2 → PgOk w2 x → x.s = pgAt ps k → Calls Tryd.prog 46 #[.slice x.A 256 x.c, .pointer (some ⟨w.heap.size, 0, none⟩), .pointer (some ⟨w.heap.size + 1 + 1, 0, none⟩)] w2 (MkRet (addS (pgAt ps k) b) (fun j => j = w.heap.size + 1 + 1) (fun w' => Blk w' (w.heap.size + 1 + 1) 3 #[.int .i64 (addSk (pgAt ps k) b)]) w2) := fun w2 x hc2 hx hxs => by
            rw [← hxs]
            exact mkAdd_any w2 x hx _ _ A2 n2 c2 b (HR.out.2.2.1.chg hc2 hbD) z (HR.out.2.2.2.2.1.chg hc2 (hsC _ rfl).2) (hrx.chg hc2 hrx.off).rd H.out.2.2.1
          have HCH := Lib.hid (change_add wr B hb (Ext D w1 wr) ps HR.out.2.1 hfew k hkk (by have h5 := HR.out.2.2.2.2.2.size; have h6 := H1.out.1.size; omega) w.heap.size (w.heap.size + 1 + 1) (fun j => j = w.heap.size + 1 + 1) hsC
            (fun w' => Blk w' (w.heap.size + 1 + 1) 3 #[.int .i64 (addSk (pgAt ps k) b)]) (fun a b' hab hp => (hab _ rfl).trans hp) (addS (pgAt ps k) b) hmk)
          have HD2 := Lib.hid (And.intro hsC (And.intro hbD hrD))
          clear hmk hsC hbD hrD hrx
          go_wp2_with fail
          refine HCH.out.mono ?_
          rintro e w3 ⟨rfl, hpv3, hch3, hps3⟩
          have hoff : ∀ j, j < wr.heap.size → ¬ Ext D w1 wr j → j ≠ w.heap.size + 1 + 1 → ¬ (Ext D w1 wr j ∨ j = w.heap.size + 1 + 1) := fun j _ h1 h2 h3 => h3.elim h1 h2
          have q1 := HR.out.2.2.1.chg hch3 (hoff _ HR.out.2.2.1.lt HD2.out.2.1 (by omega))
          have q2 := HR.out.2.2.2.1.chg hch3 (hoff _ HR.out.2.2.2.1.lt HD2.out.2.2 (by omega))
          have hchw : Chg (fun j => D j ∨ j = w.heap.size + 1 + 1) w1 w3 := HR.out.2.2.2.2.2.trans' hch3 fun j hj hjj => by
            rcases hjj with (hjj | hjj) | hjj
            · exact .inl hjj
            · omega
            · exact .inr hjj
          by_cases hfit : fitsP (pgAt ps k) b = true
          · have hsome : (addS (pgAt ps k) b) = some (setP (pgAt ps k) (ffP (pgAt ps k)) (some b)) := by rw [addS, if_pos hfit]
            have hsk : addSk (pgAt ps k) b = ffP (pgAt ps k) := by rw [addSk, if_pos hfit]
            rw [hsome] at hpv3
            rw [hsk] at hps3
            have hfk : fitH b ps = k := fitH_is (by have h1 := HLN.out.1; have h2 := HLN.out.2; omega) HR.out.1 (fun _ => hfit)
            have HA := Lib.hid (addE_ok (ps := ps) (b := b) (k := k) (by rw [H.out.2.2.2.1]; exact hbig) (by omega) hfk)
            have HF := Lib.hid (And.intro hpv3 hchw)
            have hc3 := hps3.cell 0
            have hc4 := q2.cell 0
            have hc5 := q2.cell 1
            simp only [List.getElem?_toArray, List.getElem?_cons_zero, List.getElem?_cons_succ] at hc3 hc4 hc5
            have hf4 := q2.frozen 0
            have hf5 := q2.frozen 1
            have hi : (addS (pgAt ps k) b).isSome = true := by rw [hsome]; rfl
            rw [hi]
            obtain ⟨ff, hff⟩ : ∃ ff, ff = ffP (pgAt ps k) := ⟨_, rfl⟩
            rw [← hff] at hc3
            have HFF := Lib.hid hff
            clear hsome hsk hpv3 hps3 hchw hfk hi q1 hff hfit hoff hch3
            go_wp2_with fail
            obtain ⟨wf, hwf⟩ : ∃ wf, wf = (w3.setCell ⟨w.heap.size + 1, 0, none⟩ (.int .i64 (k : Int))).setCell ⟨w.heap.size + 1, 1, none⟩ (.int .i64 (ff : Int)) := ⟨_, rfl⟩
            have hbf : Blk wf (w.heap.size + 1) 32 #[.int .i64 (k : Int), .int .i64 (ff : Int)] := by rw [hwf]; exact (q2.put 0 _).put 1 _
            have hcf : Chg (fun j => j = w.heap.size + 1) w3 wf := by rw [hwf]; exact ((Chg.refl (fun j => j = w.heap.size + 1) w3).setCell (p := ⟨w.heap.size + 1, 0, none⟩) (fun _ => rfl) _).setCell (p := ⟨w.heap.size + 1, 1, none⟩) (fun _ => rfl) _
            have f0 := hbf.cell 0
            have f1 := hbf.cell 1
            simp only [List.getElem?_toArray, List.getElem?_cons_zero, List.getElem?_cons_succ] at f0 f1
            rw [← hwf]
            have HE := Lib.hid (And.intro hcf HFF.out)
            clear hwf hbf hcf hc3 hc4 hc5 hf4 hf5 q2
            refine bodyPost_ret (by rw [results_cell_tmp rfl]; go_simp; exact rfl) rfl ?_
            have s1 := H1.out.2.1
            have s2 := HR.out.2.2.2.2.2.size
            refine ⟨by rw [HA.out.1, HA.out.2.1, HA.out.2.2.1, HE.out.2], ?_⟩
            rw [HA.out.2.2.2]
            refine HpTo.of (C := fun j => (D j ∨ j = w.heap.size + 1 + 1) ∨ j = w.heap.size + 1) (HF.out.1.chg HE.out.1 fun j hj he => ?_) ((HF.out.2.mono fun j _ hj => .inl hj).trans' HE.out.1 fun j _ hj => .inr hj) H1.out.1 hB H.out.2.2.2.2 (fun j hj => ?_) (fun j hj hc => ?_)
            · subst he
              rcases hj with (hj | hj) | hj
              · have := (H.out.2.2.2.2 _ hj).2; omega
              · omega
              · omega
            · rcases hj with (hj | hj) | hj
              · exact .inl hj
              · exact .inr (by omega)
              · exact .inr (by omega)
            · rcases hc with (hc | hc) | hc
              · exact hc
              · omega
              · omega
          · have hnone : (addS (pgAt ps k) b) = none := by rw [addS, if_neg hfit]
            rw [hnone] at hpv3
            have HF := Lib.hid (show AdRel w1 B hb D ps b w.heap.size (w.heap.size + 1) (w.heap.size + 1 + 1) (.slice A2 n2 c2) (L + 1) (.int .i64 (k + 1)) w3 from
              ⟨k + 1, by omega, by go_num, fun j hj => by
                rcases Nat.lt_or_ge j k with h1 | h1
                · exact HR.out.1 j h1
                · obtain rfl : j = k := by omega
                  simpa using hfit, hpv3.mono (fun j hj => by
                    rcases hj with (hj | hj) | hj
                    · exact .inl hj
                    · exact .inr ⟨hj.1, by have := hch3.size; omega⟩
                    · exact .inr ⟨by have := HR.out.2.2.2.2.2.size; omega, hj.2⟩) (fun j hj => by
                    rcases hj with hj | hj
                    · exact hpv3.foot (.inl (.inl hj))
                    · exact ⟨by have := H1.out.1.size; omega, hj.2⟩), q1, q2, ⟨_, hps3⟩, hchw⟩)
            have hi : (addS (pgAt ps k) b).isSome = false := by rw [hnone]; rfl
            rw [hi]
            clear hnone hpv3 hch3 hps3 hoff q1 q2 hchw hi hfit
            go_wp2_with fail
            go_roundw
            case rel => exact HF.out
            case measure => simp [intOf]; omega
        · have hlt1 : ¬ ((k : Int) < (L : Int) + 1) := by omega
          have hN6 : 256 ≤ (L + 1) := by
            have h1 := HLN.out.1
            have h2 := HLN.out.2
            rcases Nat.lt_or_ge (L + 1) 256 with h3 | h3
            · exfalso
              have h4 := HR.out.1 L (by omega)
              rw [pgAt_ge (by omega), fits_nil (by have := H.out.2.2.2.1; omega)] at h4
              cases h4
            · exact h3
          have hfk : 256 ≤ fitH b ps := by
            rcases Nat.lt_or_ge (fitH b ps) 256 with h3 | h3
            · have h4 := HR.out.1 (fitH b ps) (by omega)
              rw [fitH_fits (by have := H.out.2.2.2.1; omega)] at h4
              cases h4
            · exact h3
          have HA := Lib.hid (addE_full (ps := ps) (b := b) (by rw [H.out.2.2.2.1]; exact hbig) hfk)
          have hc4 := HR.out.2.2.2.1.cell 0
          have hc5 := HR.out.2.2.2.1.cell 1
          simp only [List.getElem?_toArray, List.getElem?_cons_zero, List.getElem?_cons_succ] at hc4 hc5
          have hf4 := HR.out.2.2.2.1.frozen 0
          have hf5 := HR.out.2.2.2.1.frozen 1
          clear hN6 hfk
          go_wp2_with fail
          obtain ⟨wf, hwf⟩ : ∃ wf, wf = (wr.setCell ⟨w.heap.size + 1, 0, none⟩ (.int .i64 0)).setCell ⟨w.heap.size + 1, 1, none⟩ (.int .i64 0) := ⟨_, rfl⟩
          have hbf : Blk wf (w.heap.size + 1) 32 #[.int .i64 0, .int .i64 0] := by rw [hwf]; exact (HR.out.2.2.2.1.put 0 _).put 1 _
          have hcf : Chg (fun j => j = w.heap.size + 1) wr wf := by rw [hwf]; exact ((Chg.refl (fun j => j = w.heap.size + 1) wr).setCell (p := ⟨w.heap.size + 1, 0, none⟩) (fun _ => rfl) _).setCell (p := ⟨w.heap.size + 1, 1, none⟩) (fun _ => rfl) _
          have f0 := hbf.cell 0
          have f1 := hbf.cell 1
          simp only [List.getElem?_toArray, List.getElem?_cons_zero, List.getElem?_cons_succ] at f0 f1
          rw [← hwf]
          have HE := Lib.hid hcf
          clear hwf hbf hcf hc4 hc5 hf4 hf5
          refine bodyPost_ret (by rw [results_cell_tmp rfl]; go_simp; exact rfl) rfl ?_
          have s1 := H1.out.2.1
          have s2 := HR.out.2.2.2.2.2.size
          refine ⟨by rw [HA.out.1, HA.out.2.1, HA.out.2.2.1], ?_⟩
          rw [HA.out.2.2.2]
          refine HpTo.of (C := fun j => (D j ∨ j = w.heap.size + 1 + 1) ∨ j = w.heap.size + 1) (HR.out.2.1.chg HE.out fun j hj he => ?_) ((HR.out.2.2.2.2.2.mono fun j _ hj => .inl hj).trans' HE.out fun j _ hj => .inr hj) H1.out.1 hB H.out.2.2.2.2 (fun j hj => ?_) (fun j hj hc => ?_)
          · subst he
            rcases hj with hj | hj
            · have := (H.out.2.2.2.2 _ hj).2; omega
            · omega
          · rcases hj with hj | hj
            · exact .inl hj
            · exact .inr (by omega)
          · rcases hc with (hc | hc) | hc
            · exact hc
            · omega
            · omega
end Go.Proofs.YtdnegfjddpdmhaaDoor
