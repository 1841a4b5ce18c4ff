/-
  The document's locks in memory: two lists of its own; Mode.
-/
import Derived.Test.YthbbheegkhlniaaGreatLkQ
import Derived.Test.YthbbheegkhlniaaGreatM05
import Derived.Test.YthbbheegkhlniaaGreatM24
import Derived.Test.YthbbheegkhlniaaGreatM16
import Derived.BigRegion
namespace Go.Proofs.YthbbheegkhlniaaGreat
open Go.RowKit Go.Lib

/-- one that holds, or waits (b) -/
def odC (b : Bool) (o : Od) : List Value := [.int .i64 o.th.k, .string o.th.t, .string o.th.y, .int .i64 o.x, .int .i64 o.m, .bool b]
def ods (b : Bool) (l : List Od) : List Value := l.flatMap (odC b)
theorem ods_append (b : Bool) (k l : List Od) : ods b (k ++ l) = ods b k ++ ods b l := by simp [ods]
theorem ods_len (b : Bool) (l : List Od) : (ods b l).length = l.length * 6 := by
  induction l with
  | nil => rfl
  | cons a l ih =>
    show (odC b a ++ ods b l).length = _
    rw [List.length_append, ih, List.length_cons]
    show 6 + _ = _
    omega
theorem ods_one (b : Bool) (l : List Od) : ∀ u ∈ ods b l, u.oneCell' = true := by
  intro u hu
  obtain ⟨x, _, hx⟩ := List.mem_flatMap.1 hu
  simp [odC] at hx
  rcases hx with rfl | rfl | rfl | rfl | rfl | rfl <;> rfl
/-- one of a row -/
theorem od_at {b : Bool} {w : World} {B : Nat} {A : Option Addr} {l : List Od} (h : RowG (odC b) 6 w B A l) {i : Nat} (hi : i < l.length) : ∃ ad, A = some ad ∧ ad.block < B ∧ w.cell? (ad.add (i * 6)) = some (.int .i64 l[i].th.k) ∧ w.cell? ⟨(ad.add (i * 6)).block, (ad.add (i * 6)).off + 1, none⟩ = some (.string l[i].th.t) ∧ w.cell? ⟨(ad.add (i * 6)).block, (ad.add (i * 6)).off + 2, none⟩ = some (.string l[i].th.y) ∧
    w.cell? ⟨(ad.add (i * 6)).block, (ad.add (i * 6)).off + 3, none⟩ = some (.int .i64 l[i].x) ∧ w.cell? ⟨(ad.add (i * 6)).block, (ad.add (i * 6)).off + 4, none⟩ = some (.int .i64 l[i].m) ∧ w.cell? ⟨(ad.add (i * 6)).block, (ad.add (i * 6)).off + 5, none⟩ = some (.bool b) := by
  obtain ⟨ad, rfl, hlt⟩ := h.lo (by omega)
  have get : ∀ j u, (odC b l[i])[j]? = some u → w.cell? (ad.add (i * 6 + j)) = some u := fun j u hu => by
    obtain ⟨ad', e, hc⟩ := h.cell i hi j u hu
    obtain rfl := Option.some.inj e
    exact hc
  have addr_field : ∀ (a : Addr) (j : Nat), 0 < j → (⟨a.block, a.off + j, none⟩ : Addr) = a.add j := fun a j hj => by unfold Addr.add; rw [if_neg (by omega)]
  refine ⟨ad, rfl, hlt, get 0 _ rfl, ?_, ?_, ?_, ?_, ?_⟩
  · rw [addr_field _ _ (by omega), addr_add]; exact get 1 _ rfl
  · rw [addr_field _ _ (by omega), addr_add]; exact get 2 _ rfl
  · rw [addr_field _ _ (by omega), addr_add]; exact get 3 _ rfl
  · rw [addr_field _ _ (by omega), addr_add]; exact get 4 _ rfl
  · rw [addr_field _ _ (by omega), addr_add]; exact get 5 _ rfl
/-- the document's locks: their block, where their lists lie, the lists; all in the footprint D -/
structure RkX (B : Nat) (D : Nat → Prop) (w : World) (tb : Nat) (A : Option Addr) (n c : Nat) (A' : Option Addr) (n' c' : Nat) (l : Lk) : Prop where
  blk : Blk w tb 30 #[.slice A n c, .slice A' n' c']
  hn : n = l.H.length
  wn : n' = l.W.length
  ho : w.ownsRow B 73 6 (.slice A n c) n (ods false l.H)
  wo : w.ownsRow B 73 6 (.slice A' n' c') n' (ods true l.W)
  hd : ∀ k, (Value.slice A n c).ownBlock = some k → D k
  wd : ∀ k, (Value.slice A' n' c').ownBlock = some k → D k
  ne : ∀ k, (Value.slice A n c).ownBlock = some k → (Value.slice A' n' c').ownBlock ≠ some k
  db : D tb
  foot : ∀ k, D k → B ≤ k ∧ k < w.heap.size
def RkV (B : Nat) (D : Nat → Prop) (w : World) (tb : Nat) (l : Lk) : Prop := ∃ A n c A' n' c', RkX B D w tb A n c A' n' c' l
/-- what a call that changes them leaves -/
def RkTo (B tb : Nat) (D : Nat → Prop) (w : World) (l : Lk) (w' : World) : Prop := RkV B (Ext D w w') w' tb l ∧ Chg D w w'
section
variable {B tb n c n' c' : Nat} {D F : Nat → Prop} {w w' : World} {A A' : Option Addr} {l : Lk}
theorem RkX.chg (h : RkX B D w tb A n c A' n' c' l) (hc : Chg F w w') (hd : ∀ k, D k → ¬ F k) : RkX B D w' tb A n c A' n' c' l :=
  ⟨h.blk.chg hc (hd _ h.db), h.hn, h.wn, own_chg h.ho hc fun k hk => hd _ (h.hd k hk), own_chg h.wo hc fun k hk => hd _ (h.wd k hk), h.hd, h.wd, h.ne, h.db, fun k hk => ⟨(h.foot k hk).1, Nat.lt_of_lt_of_le (h.foot k hk).2 hc.size⟩⟩
theorem RkX.below (h : RkX B D w tb A n c A' n' c' l) (hb : Below w.heap.size w w') : RkX B D w' tb A n c A' n' c' l := h.chg (F := Non) (Chg.of_below hb) fun _ _ hf => hf
theorem RkX.more {D' : Nat → Prop} (h : RkX B D w tb A n c A' n' c' l) (hD : ∀ k, D k → D' k) (hf : ∀ k, D' k → B ≤ k ∧ k < w.heap.size) : RkX B D' w tb A n c A' n' c' l :=
  ⟨h.blk, h.hn, h.wn, h.ho, h.wo, fun k hk => hD _ (h.hd k hk), fun k hk => hD _ (h.wd k hk), h.ne, hD _ h.db, hf⟩
theorem RkX.v (h : RkX B D w tb A n c A' n' c' l) : RkV B D w tb l := ⟨A, n, c, A', n', c', h⟩
theorem RkV.more {D' : Nat → Prop} (h : RkV B D w tb l) (hD : ∀ k, D k → D' k) (hf : ∀ k, D' k → B ≤ k ∧ k < w.heap.size) : RkV B D' w tb l := by
  obtain ⟨A, n, c, A', n', c', h⟩ := h
  exact (h.more hD hf).v
theorem RkV.chg (h : RkV B D w tb l) (hc : Chg F w w') (hd : ∀ k, D k → ¬ F k) : RkV B D w' tb l := by
  obtain ⟨A, n, c, A', n', c', h⟩ := h
  exact (h.chg hc hd).v
theorem RkV.below (h : RkV B D w tb l) (hb : Below w.heap.size w w') : RkV B D w' tb l := h.chg (F := Non) (Chg.of_below hb) fun _ _ hf => hf
theorem RkV.foot (h : RkV B D w tb l) {k : Nat} (hk : D k) : B ≤ k ∧ k < w.heap.size := by
  obtain ⟨A, n, c, A', n', c', h⟩ := h
  exact h.foot k hk
theorem RkX.c0 (h : RkX B D w tb A n c A' n' c' l) : w.cell? ⟨tb, 0, none⟩ = some (.slice A n c) := h.blk.cell 0
theorem RkX.c1 (h : RkX B D w tb A n c A' n' c' l) : w.cell? ⟨tb, 1, none⟩ = some (.slice A' n' c') := h.blk.cell 1
theorem RkX.hg (h : RkX B D w tb A n c A' n' c' l) : RowG (odC false) 6 w w.heap.size A l.H := RowG.of_rows (fun _ => rfl) h.ho h.hn
theorem RkX.wg (h : RkX B D w tb A n c A' n' c' l) : RowG (odC true) 6 w w.heap.size A' l.W := RowG.of_rows (fun _ => rfl) h.wo h.wn
theorem RkTo.same (h : RkV B D w tb l) (h1 : Below w.heap.size w w') (hB : B ≤ w.heap.size) : RkTo B tb D w l w' :=
  ⟨(h.below h1).more (fun _ hk => .inl hk) fun k hk => hk.elim (fun hk => ⟨(h.foot hk).1, Nat.lt_of_lt_of_le (h.foot hk).2 h1.size⟩) fun hk => ⟨by omega, hk.2⟩, Chg.of_below h1⟩
end
theorem RkTo.trans {B tb : Nat} {D : Nat → Prop} {w w2 w3 : World} {l2 l3 : Lk} (h : RkTo B tb D w l2 w2) (k : RkTo B tb (Ext D w w2) w2 l3 w3) (hf : ∀ k, D k → B ≤ k) (hB : B ≤ w.heap.size) : RkTo B tb D w l3 w3 := by
  have s2 := h.2.size
  have s3 := k.2.size
  refine ⟨k.1.more (fun q hq => ?_) fun q hq => ?_, h.2.trans' k.2 fun q hq hk => hk.elim id fun hk => by omega⟩
  · rcases hq with (hq | hq) | hq
    · exact .inl hq
    · exact .inr ⟨hq.1, by omega⟩
    · exact .inr ⟨by omega, hq.2⟩
  · rcases hq with hq | hq
    · exact ⟨hf q hq, (k.1.foot (.inl (.inl hq))).2⟩
    · exact ⟨by omega, hq.2⟩
theorem modeL_step {x : Int} {t : Th} {H : List Od} {k : Nat} (hk : k < H.length) : modeL (H.drop k) x t = if decide (H[k].th = t) = true ∧ H[k].x = x then H[k].m else modeL (H.drop (k + 1)) x t := by
  rw [List.drop_eq_getElem_cons hk]
  unfold modeL
  rw [List.find?_cons]
  unfold isOf
  by_cases h1 : H[k].th = t <;> by_cases h2 : H[k].x = x <;> simp [h1, h2]
set_option maxRecDepth 100000 in
set_option maxHeartbeats 6400000 in
theorem rmode_any {B tb : Nat} {D : Nat → Prop} {w : World} {l : Lk} (h : RkV B D w tb l) (hl : l.H.length ≤ 1000000) (x : Int) (t : Th) :
    Says Tryz.prog 22 #[.pointer (some ⟨tb, 0, none⟩), .int .i64 x, thV t] w (.int .i64 (modeL l.H x t)) := by
  obtain ⟨A, n, c, A', n', c', hX⟩ := h
  have hn : n ≤ 1000000 := by rw [hX.hn]; exact hl
  have hn0 : (0 : Int) ≤ (n : Int) := Int.natCast_nonneg _
  obtain ⟨w1, hw1⟩ : ∃ w1, w1 = w.alloc (.cells #[.int .i64 t.k, .string t.t, .string t.y] 32) := ⟨_, rfl⟩
  obtain ⟨hT, hB1⟩ := tg_new w t
  rw [← hw1] at hT hB1
  have hX1 := hX.below hB1
  obtain ⟨b, hb⟩ : ∃ b, b = w.heap.size := ⟨_, rfl⟩
  rw [← hb] at hT
  obtain ⟨r, hr⟩ : ∃ r, r = modeL l.H x t := ⟨_, rfl⟩
  rw [← hr]
  have HB1 := Lib.hid hB1
  have HW := Lib.hid (And.intro hw1 hb)
  have HR := Lib.hid hr
  have e0 := hX1.c0
  have g0 := hT.k
  have g1 := hT.t
  have g2 := hT.y
  have H := Lib.hid (And.intro hX1 (And.intro hT hX.hn))
  clear hX1 hX hl hT hB1 hw1 hr
  go_enter Tryz.func22, Tryz.ntmps22
  go_upto_region 1 with fail
  rw [← hb, ← HW.out.1]; clear hb
  go_wp2_with fail
  go_loopw [7] (fun i wr => ∃ k d : Nat, k ≤ n ∧ i = .int .i64 k ∧ wr = w1.drewN d ∧ modeL (l.H.drop k) x t = r) (fun i _ => n - (intOf i).toNat)
  case atStart => exact ⟨0, 0, Nat.zero_le _, rfl, rfl, by rw [List.drop_zero]; exact HR.out.symm⟩
  case round =>
    obtain ⟨k, d, hk, rfl, hw, hat⟩ := hrel
    have hk0 : (0 : Int) ≤ (k : Int) := Int.natCast_nonneg _
    have hcw : ∀ a, wr.cell? a = w1.cell? a := fun a => by rw [hw]; rfl
    have e0 := (hcw _).trans e0
    have g0 := (hcw _).trans g0
    have g1 := (hcw _).trans g1
    have g2 := (hcw _).trans g2
    have HAT := Lib.hid hat
    have HWR := Lib.hid hw
    clear hat
    by_cases hlt : k < n
    · have hlt1 : (k : Int) < (n : Int) := by omega
      have hkl : k < l.H.length := by rw [← H.out.2.2]; exact hlt
      obtain ⟨ad, rfl, _, a0, a1, a2, a3, a4, _⟩ := od_at H.out.1.hg hkl
      have hst := modeL_step (x := x) (t := t) hkl
      obtain ⟨o, ho⟩ : ∃ o, o = l.H[k] := ⟨_, rfl⟩
      rw [← ho] at a0 a1 a2 a3 a4 hst
      have d0 := (hcw _).trans a0
      have d1 := (hcw _).trans a1
      have d2 := (hcw _).trans a2
      have d3 := (hcw _).trans a3
      have d4 := (hcw _).trans a4
      rw [HAT.out] at hst
      have HST := Lib.hid hst
      clear hst ho a0 a1 a2 a3 a4 hcw hw
      cases hq : decide (o.th = t) with
      | false =>
        have he := eqTh_run o.th t false hq
        rw [hq] at HST
        clear hq
        go_wp2_with fail
        go_quiet (fail)
        go_wp2_with fail
        go_roundw
        case rel => exact ⟨k + 1, _, by omega, by go_num, by rw [HWR.out]; exact World.drewN_drewN _ _ _, by have := HST.out; simpa using this.symm⟩
        case measure => simp [intOf]; omega
      | true =>
        have he := eqTh_run o.th t true hq
        rw [hq] at HST
        clear hq
        by_cases hx : o.x = x
        · have hxq : (o.x == x) = true := by simp [hx]
          have HST2 := Lib.hid (show r = o.m by have := HST.out; simpa [hx] using this)
          clear HST hx
          go_wp2_with fail
          go_quiet (fail)
          go_wp2_with fail
          go_ret
          exact ⟨by rw [HST2.out]; rfl, below_dN (by rw [HWR.out]; exact below_dN HB1.out _) _⟩
        · have hxq : (o.x == x) = false := by simp [hx]
          have HST2 := Lib.hid (show r = modeL (l.H.drop (k + 1)) x t by have := HST.out; simpa [hx] using this)
          clear HST hx
          go_wp2_with fail
          go_quiet (fail)
          go_wp2_with fail
          go_roundw
          case rel => exact ⟨k + 1, _, by omega, by go_num, by rw [HWR.out]; exact World.drewN_drewN _ _ _, HST2.out.symm⟩
          case measure => simp [intOf]; omega
    · have hlt1 : ¬ (k : Int) < (n : Int) := by omega
      have HF := Lib.hid (show Below w.heap.size w wr by rw [hw]; exact below_dN HB1.out _)
      clear hcw hw
      go_wp2_with fail
      go_ret
      refine ⟨?_, HF.out⟩
      rw [← HAT.out, List.drop_eq_nil_of_le (by rw [← H.out.2.2]; omega)]
      rfl
end Go.Proofs.YthbbheegkhlniaaGreat

/-
  The document's locks: Waiting, can.
-/
namespace Go.Proofs.YthbbheegkhlniaaGreat
open Go.RowKit Go.Lib

/-- the locks and what is asked for, each in its block -/
structure Rq (w0 w : World) (B tb : Nat) (D : Nat → Prop) (A : Option Addr) (n c : Nat) (A' : Option Addr) (n' c' : Nat) (l : Lk) (b : Nat) (o : Od) : Prop where
  r : RkX B D w tb A n c A' n' c' l
  q : Blk w b 34 #[.int .i64 o.th.k, .string o.th.t, .string o.th.y, .int .i64 o.m]
  low : Below w0.heap.size w0 w
section
variable {w0 w w' : World} {B tb n c n' c' b : Nat} {D : Nat → Prop} {A A' : Option Addr} {l : Lk} {o : Od}
theorem Rq.below (h : Rq w0 w B tb D A n c A' n' c' l b o) (hb : Below w.heap.size w w') : Rq w0 w' B tb D A n c A' n' c' l b o :=
  ⟨h.r.below hb, h.q.below hb h.q.lt, h.low.trans (hb.mono h.low.size)⟩
end
theorem any_step {α : Type} (p : α → Bool) {l : List α} {k : Nat} (hk : k < l.length) : (l.drop k).any p = (p l[k] || (l.drop (k + 1)).any p) := by
  rw [List.drop_eq_getElem_cons hk, List.any_cons]
set_option maxRecDepth 100000 in
set_option maxHeartbeats 12800000 in
theorem rcan_any {B tb : Nat} {D : Nat → Prop} {w : World} {l : Lk} (h : RkV B D w tb l) (hl : l.H.length ≤ 1000000) (hl2 : l.W.length ≤ 1000000) (o : Od) (p : Nat) (hp : p ≤ l.W.length) :
    Says Tryz.prog 39 #[.pointer (some ⟨tb, 0, none⟩), .int .i64 o.x, wantV o.th o.m, .int .i64 p] w (.bool (canL l.H (l.W.take p) o)) := by
  have hmix : Tryz.prog.follows .mixedOrders = true := by kernel_rfl
  obtain ⟨A, n, c, A', n', c', hX⟩ := h
  have hn : n ≤ 1000000 := by rw [hX.hn]; exact hl
  have hn' : n' ≤ 1000000 := by rw [hX.wn]; exact hl2
  have hpn : p ≤ n' := by rw [hX.wn]; exact hp
  have hn0 : (0 : Int) ≤ (n : Int) := Int.natCast_nonneg _
  have hn0' : (0 : Int) ≤ (n' : Int) := Int.natCast_nonneg _
  have hp0 : (0 : Int) ≤ (p : Int) := Int.natCast_nonneg _
  obtain ⟨w1, hw1⟩ : ∃ w1, w1 = w.alloc (.cells #[.int .i64 o.th.k, .string o.th.t, .string o.th.y, .int .i64 o.m] 34) := ⟨_, rfl⟩
  obtain ⟨b, hb⟩ : ∃ b, b = w.heap.size := ⟨_, rfl⟩
  have hB1 : Below w.heap.size w w1 := by rw [hw1]; exact (Below.refl _ w).alloc (Nat.le_refl _) _
  have hQ : Rq w w1 B tb D A n c A' n' c' l b o := ⟨hX.below hB1, by rw [hw1, hb]; exact Blk.new _ _ _, hB1⟩
  obtain ⟨r, hr⟩ : ∃ r, r = l.H.any (inWay o) := ⟨_, rfl⟩
  obtain ⟨r2, hr2⟩ : ∃ r2, r2 = (l.W.take p).any (ahead o) := ⟨_, rfl⟩
  have hres : canL l.H (l.W.take p) o = (!r && !r2) := by unfold canL; rw [hr, hr2]
  rw [hres]
  have HW := Lib.hid (And.intro hw1 hb)
  have HR := Lib.hid (And.intro hr hr2)
  have HQ := Lib.hid hQ
  have HN := Lib.hid (And.intro hX.hn hX.wn)
  clear hX hl hl2 hB1 hQ hw1 hr hr2 hres hp
  go_enter Tryz.func39, Tryz.ntmps39
  go_upto_region 1 with fail
  rw [← hb, ← HW.out.1]; clear hb
  go_wp2_with fail
  go_loopw [9] (fun i wr => ∃ k : Nat, k ≤ n ∧ i = .int .i64 k ∧ (l.H.drop k).any (inWay o) = r ∧ Rq w wr B tb D A n c A' n' c' l b o) (fun i _ => n - (intOf i).toNat)
  case atStart => exact ⟨0, Nat.zero_le _, rfl, by rw [List.drop_zero]; exact HR.out.1.symm, HQ.out⟩
  case round =>
    obtain ⟨k, hk, rfl, hat, hQr⟩ := hrel
    have hk0 : (0 : Int) ≤ (k : Int) := Int.natCast_nonneg _
    have HX := Lib.hid (And.intro hQr.r (And.intro hQr.q hQr.low))
    have HQR := Lib.hid hQr
    have c0 := hQr.r.c0
    have HAT := Lib.hid hat
    clear hat hQr
    by_cases hlt : k < n
    · have hlt1 : (k : Int) < (n : Int) := by omega
      have hkl : k < l.H.length := by rw [← HN.out.1]; exact hlt
      obtain ⟨ad, rfl, _, a0, a1, a2, a3, a4, _⟩ := od_at HX.out.1.hg hkl
      obtain ⟨y, hy⟩ : ∃ y, y = l.H[k] := ⟨_, rfl⟩
      rw [← hy] at a0 a1 a2 a3 a4
      have d0 := BelowBy.cell a0
      have d1 := BelowBy.cell a1
      have d2 := BelowBy.cell a2
      have d3 := BelowBy.cell a3
      have d4 := BelowBy.cell a4
      have f0 := BelowBy.cell HX.out.1.c0
      have s0 := BelowBy.cell (show wr.cell? ⟨b, 0, none⟩ = some (.int .i64 o.th.k) from HX.out.2.1.cell 0)
      have s1 := BelowBy.cell (show wr.cell? ⟨b, 1, none⟩ = some (.string o.th.t) from HX.out.2.1.cell 1)
      have s2 := BelowBy.cell (show wr.cell? ⟨b, 2, none⟩ = some (.string o.th.y) from HX.out.2.1.cell 2)
      have s3 := BelowBy.cell (show wr.cell? ⟨b, 3, none⟩ = some (.int .i64 o.m) from HX.out.2.1.cell 3)
      have hst := any_step (inWay o) hkl
      rw [← hy, HAT.out] at hst
      have HST := Lib.hid hst
      clear hst hy a0 a1 a2 a3 a4
      cases h1 : decide (y.th = o.th) with
      | false =>
        have he := eqTh_run y.th o.th false h1
        have HI := Lib.hid (show inWay o y = false by unfold inWay; rw [h1]; rfl)
        clear h1
        go_upto_region 4 with fail
        refine wp_region_below hmix (by kernel_rfl) ?_
        repeat (first | go_big_quiet_step (fail) | quiet_step (fail))
        refine wpQuiet_nil ?_
        intro wz hw'
        obtain ⟨pp, hw''⟩ := hw'
        obtain ⟨w5, hw5⟩ : ∃ w5, w5 = pp.w' := ⟨_, rfl⟩
        have H5 := Lib.hid (show Rq w w5 B tb D _ n c _ n' c' l b o by rw [hw5]; exact HQR.out.below pp.h)
        rw [← hw5] at hw''
        subst hw''
        clear c0 f0 d0 d1 d2 d3 d4 s0 s1 s2 s3 hw5
        have c0 := H5.out.r.c0
        go_wp2_with fail
        go_roundw
        case rel => exact ⟨k + 1, by omega, by go_num, by rw [HST.out, HI.out, Bool.false_or], H5.out⟩
        case measure => simp [intOf]; omega
      | true =>
        have he := eqTh_run y.th o.th true h1
        by_cases h2 : y.x = o.x
        · have hxq : (y.x != o.x) = false := by simp [h2]
          have hxd : (y.x == o.x) = true := by simp [h2]
          have HI := Lib.hid (show inWay o y = false by unfold inWay; rw [h1]; simp [h2])
          clear h1 h2
          go_upto_region 4 with fail
          refine wp_region_below hmix (by kernel_rfl) ?_
          repeat (first | go_big_quiet_step (fail) | quiet_step (fail))
          refine wpQuiet_nil ?_
          intro wz hw'
          obtain ⟨pp, hw''⟩ := hw'
          obtain ⟨w5, hw5⟩ : ∃ w5, w5 = pp.w' := ⟨_, rfl⟩
          have H5 := Lib.hid (show Rq w w5 B tb D _ n c _ n' c' l b o by rw [hw5]; exact HQR.out.below pp.h)
          rw [← hw5] at hw''
          subst hw''
          clear c0 f0 d0 d1 d2 d3 d4 s0 s1 s2 s3 hw5
          have c0 := H5.out.r.c0
          go_wp2_with fail
          go_roundw
          case rel => exact ⟨k + 1, by omega, by go_num, by rw [HST.out, HI.out, Bool.false_or], H5.out⟩
          case measure => simp [intOf]; omega
        · have hxq : (y.x != o.x) = true := by simp [h2]
          have hxd : (y.x == o.x) = false := by simp [h2]
          cases h3 : cfB y.m o.m with
          | false =>
            have HI := Lib.hid (show inWay o y = false by unfold inWay; rw [h1, h3]; simp)
            have H3 := Lib.hid h3
            clear h1 h2 h3
            go_upto_region 4 with fail
            refine wp_region_below hmix (by kernel_rfl) ?_
            repeat (first | go_big_quiet_step ((go_at_call 56; exact calls_below ((rconf_any y.m o.m _).to (congrArg Value.bool H3.out)))) | quiet_step ((go_at_call 56; exact calls_below ((rconf_any y.m o.m _).to (congrArg Value.bool H3.out)))))
            refine wpQuiet_nil ?_
            intro wz hw'
            obtain ⟨pp, hw''⟩ := hw'
            obtain ⟨w5, hw5⟩ : ∃ w5, w5 = pp.w' := ⟨_, rfl⟩
            have H5 := Lib.hid (show Rq w w5 B tb D _ n c _ n' c' l b o by rw [hw5]; exact HQR.out.below pp.h)
            rw [← hw5] at hw''
            subst hw''
            clear c0 f0 d0 d1 d2 d3 d4 s0 s1 s2 s3 hw5
            have c0 := H5.out.r.c0
            go_wp2_with fail
            go_roundw
            case rel => exact ⟨k + 1, by omega, by go_num, by rw [HST.out, HI.out, Bool.false_or], H5.out⟩
            case measure => simp [intOf]; omega
          | true =>
            have HI := Lib.hid (show inWay o y = true by unfold inWay; rw [h1, h3]; simp [h2])
            have H3 := Lib.hid h3
            clear h1 h2 h3
            go_upto_region 4 with fail
            refine wp_region_below hmix (by kernel_rfl) ?_
            repeat (first | go_big_quiet_step ((go_at_call 56; exact calls_below ((rconf_any y.m o.m _).to (congrArg Value.bool H3.out)))) | quiet_step ((go_at_call 56; exact calls_below ((rconf_any y.m o.m _).to (congrArg Value.bool H3.out)))))
            refine wpQuiet_nil ?_
            intro wz hw'
            obtain ⟨pp, hw''⟩ := hw'
            obtain ⟨w5, hw5⟩ : ∃ w5, w5 = pp.w' := ⟨_, rfl⟩
            have H5 := Lib.hid (show Rq w w5 B tb D _ n c _ n' c' l b o by rw [hw5]; exact HQR.out.below pp.h)
            rw [← hw5] at hw''
            subst hw''
            clear c0 f0 d0 d1 d2 d3 d4 s0 s1 s2 s3 hw5
            have c0 := H5.out.r.c0
            go_wp2_with fail
            go_ret
            refine ⟨?_, H5.out.low⟩
            rw [HST.out, HI.out]
            rfl
    · have hlt1 : ¬ (k : Int) < (n : Int) := by omega
      have HF := Lib.hid (show r = false by rw [← HAT.out, List.drop_eq_nil_of_le (by rw [← HN.out.1]; omega)]; rfl)
      clear HAT
      go_wp2_with fail
      go_loopw [10] (fun i wr => ∃ k : Nat, k ≤ p ∧ i = .int .i64 k ∧ ((l.W.take p).drop k).any (ahead o) = r2 ∧ Rq w wr B tb D A n c A' n' c' l b o) (fun i _ => p - (intOf i).toNat)
      case atStart => exact ⟨0, Nat.zero_le _, rfl, by rw [List.drop_zero]; exact HR.out.2.symm, HQR.out⟩
      case round =>
        clear HX HQR c0 hlt1 hlt hk hk0
        obtain ⟨k, hk, rfl, hat, hQr⟩ := hrel
        have hk0 : (0 : Int) ≤ (k : Int) := Int.natCast_nonneg _
        have HX := Lib.hid (And.intro hQr.r (And.intro hQr.q hQr.low))
        have HQR := Lib.hid hQr
        have c1 := hQr.r.c1
        have HAT := Lib.hid hat
        clear hat hQr
        by_cases hlt : k < p
        · have hlt1 : (k : Int) < (p : Int) := by omega
          have hltn : k < n' := by omega
          have hltn1 : (k : Int) < (n' : Int) := by omega
          have hkl : k < l.W.length := by rw [← HN.out.2]; exact hltn
          obtain ⟨ad, rfl, _, a0, a1, a2, a3, a4, _⟩ := od_at HX.out.1.wg hkl
          obtain ⟨y, hy⟩ : ∃ y, y = l.W[k] := ⟨_, rfl⟩
          rw [← hy] at a0 a1 a2 a3 a4
          have d0 := BelowBy.cell a0
          have d1 := BelowBy.cell a1
          have d2 := BelowBy.cell a2
          have d3 := BelowBy.cell a3
          have d4 := BelowBy.cell a4
          have f1 := BelowBy.cell HX.out.1.c1
          have s0 := BelowBy.cell (show wr.cell? ⟨b, 0, none⟩ = some (.int .i64 o.th.k) from HX.out.2.1.cell 0)
          have s1 := BelowBy.cell (show wr.cell? ⟨b, 1, none⟩ = some (.string o.th.t) from HX.out.2.1.cell 1)
          have s2 := BelowBy.cell (show wr.cell? ⟨b, 2, none⟩ = some (.string o.th.y) from HX.out.2.1.cell 2)
          have s3 := BelowBy.cell (show wr.cell? ⟨b, 3, none⟩ = some (.int .i64 o.m) from HX.out.2.1.cell 3)

          have hst := any_step (l := l.W.take p) (ahead o) (k := k) (by rw [List.length_take]; omega)
          rw [List.getElem_take, ← hy, HAT.out] at hst
          have HST := Lib.hid hst
          clear hst hy a0 a1 a2 a3 a4
          cases h1 : decide (y.th = o.th) with
          | false =>
            have he := eqTh_run y.th o.th false h1
            have HI := Lib.hid (show ahead o y = false by unfold ahead; rw [h1]; rfl)
            clear h1
            go_upto_region 9 with fail
            refine wp_region_below hmix (by kernel_rfl) ?_
            repeat (first | go_big_quiet_step (fail) | quiet_step (fail))
            refine wpQuiet_nil ?_
            intro wz hw'
            obtain ⟨pp, hw''⟩ := hw'
            obtain ⟨w5, hw5⟩ : ∃ w5, w5 = pp.w' := ⟨_, rfl⟩
            have H5 := Lib.hid (show Rq w w5 B tb D _ n c _ n' c' l b o by rw [hw5]; exact HQR.out.below pp.h)
            rw [← hw5] at hw''
            subst hw''
            clear c1 f1 d0 d1 d2 d3 d4 s0 s1 s2 s3 hw5
            have c1 := H5.out.r.c1
            go_wp2_with fail
            go_roundw
            case rel => exact ⟨k + 1, by omega, by go_num, by rw [HST.out, HI.out, Bool.false_or], H5.out⟩
            case measure => simp [intOf]; omega
          | true =>
            have he := eqTh_run y.th o.th true h1
            cases h3 : cfB y.m o.m with
            | false =>
              have HI := Lib.hid (show ahead o y = false by unfold ahead; rw [h1, h3]; rfl)
              have H3 := Lib.hid h3
              clear h1 h3
              go_upto_region 9 with fail
              refine wp_region_below hmix (by kernel_rfl) ?_
              repeat (first | go_big_quiet_step ((go_at_call 56; exact calls_below ((rconf_any y.m o.m _).to (congrArg Value.bool H3.out)))) | quiet_step ((go_at_call 56; exact calls_below ((rconf_any y.m o.m _).to (congrArg Value.bool H3.out)))))
              refine wpQuiet_nil ?_
              intro wz hw'
              obtain ⟨pp, hw''⟩ := hw'
              obtain ⟨w5, hw5⟩ : ∃ w5, w5 = pp.w' := ⟨_, rfl⟩
              have H5 := Lib.hid (show Rq w w5 B tb D _ n c _ n' c' l b o by rw [hw5]; exact HQR.out.below pp.h)
              rw [← hw5] at hw''
              subst hw''
              clear c1 f1 d0 d1 d2 d3 d4 s0 s1 s2 s3 hw5
              have c1 := H5.out.r.c1
              go_wp2_with fail
              go_roundw
              case rel => exact ⟨k + 1, by omega, by go_num, by rw [HST.out, HI.out, Bool.false_or], H5.out⟩
              case measure => simp [intOf]; omega
            | true =>
              have HI := Lib.hid (show ahead o y = true by unfold ahead; rw [h1, h3]; rfl)
              have H3 := Lib.hid h3
              clear h1 h3
              go_upto_region 9 with fail
              refine wp_region_below hmix (by kernel_rfl) ?_
              repeat (first | go_big_quiet_step ((go_at_call 56; exact calls_below ((rconf_any y.m o.m _).to (congrArg Value.bool H3.out)))) | quiet_step ((go_at_call 56; exact calls_below ((rconf_any y.m o.m _).to (congrArg Value.bool H3.out)))))
              refine wpQuiet_nil ?_
              intro wz hw'
              obtain ⟨pp, hw''⟩ := hw'
              obtain ⟨w5, hw5⟩ : ∃ w5, w5 = pp.w' := ⟨_, rfl⟩
              have H5 := Lib.hid (show Rq w w5 B tb D _ n c _ n' c' l b o by rw [hw5]; exact HQR.out.below pp.h)
              rw [← hw5] at hw''
              subst hw''
              clear c1 f1 d0 d1 d2 d3 d4 s0 s1 s2 s3 hw5
              have c1 := H5.out.r.c1
              go_wp2_with fail
              go_ret
              refine ⟨?_, H5.out.low⟩
              rw [HST.out, HI.out]
              cases r <;> rfl
        · have hlt1 : ¬ (k : Int) < (p : Int) := by omega
          have HF2 := Lib.hid (show r2 = false by rw [← HAT.out, List.drop_eq_nil_of_le (by rw [List.length_take]; omega)]; rfl)
          go_wp2_with fail
          go_ret
          refine ⟨?_, HQR.out.low⟩
          rw [HF.out, HF2.out]
          rfl
end Go.Proofs.YthbbheegkhlniaaGreat

/-
  The document's locks: Waiting.
-/
namespace Go.Proofs.YthbbheegkhlniaaGreat
open Go.RowKit Go.Lib

theorem waitL_step {x : Int} {W : List Od} {k : Nat} (hk : k < W.length) : waitL (W.drop k) x = if W[k].x = x then some W[k] else waitL (W.drop (k + 1)) x := by
  rw [List.drop_eq_getElem_cons hk]
  unfold waitL
  rw [List.find?_cons]
  by_cases h2 : W[k].x = x <;> simp [h2]
set_option maxRecDepth 100000 in
set_option maxHeartbeats 12800000 in
theorem rwaiting_any {B tb : Nat} {D : Nat → Prop} {w : World} {l : Lk} (h : RkV B D w tb l) (hl2 : l.W.length ≤ 1000000) (x : Int) :
    Says Tryz.prog 15 #[.pointer (some ⟨tb, 0, none⟩), .int .i64 x] w (waitR l x) := by
  obtain ⟨A, n, c, A', n', c', hX⟩ := h
  have hn' : n' ≤ 1000000 := by rw [hX.wn]; exact hl2
  have hn0' : (0 : Int) ≤ (n' : Int) := Int.natCast_nonneg _
  obtain ⟨w1, hw1⟩ : ∃ w1, w1 = w.alloc (.cells #[.int .i64 0, .string ⟨#[]⟩, .string ⟨#[]⟩, .int .i64 0] 34) := ⟨_, rfl⟩
  obtain ⟨b, hb⟩ : ∃ b, b = w.heap.size := ⟨_, rfl⟩
  have hB1 : Below w.heap.size w w1 := by rw [hw1]; exact (Below.refl _ w).alloc (Nat.le_refl _) _
  have hX1 := hX.below hB1
  have hK : Blk w1 b 34 #[.int .i64 0, .string ⟨#[]⟩, .string ⟨#[]⟩, .int .i64 0] := by rw [hw1, hb]; exact Blk.new _ _ _
  obtain ⟨r, hr⟩ : ∃ r, r = waitL l.W x := ⟨_, rfl⟩
  have hres : waitR l x = waitO r := by unfold waitR; rw [hr]; cases waitL l.W x <;> rfl
  rw [hres]
  have HW := Lib.hid (And.intro hw1 hb)
  have HR := Lib.hid hr
  have H := Lib.hid (And.intro hX1 (And.intro hK (And.intro hB1 hX.wn)))
  have c1 := hX1.c1
  have k0 : w1.cell? ⟨b, 0, none⟩ = some (.int .i64 0) := hK.cell 0
  have k1 : w1.cell? ⟨b, 1, none⟩ = some (.string ⟨#[]⟩) := hK.cell 1
  have k2 : w1.cell? ⟨b, 2, none⟩ = some (.string ⟨#[]⟩) := hK.cell 2
  have k3 : w1.cell? ⟨b, 3, none⟩ = some (.int .i64 0) := hK.cell 3
  have z0 := hK.frozen 0
  have z1 := hK.frozen 1
  have z2 := hK.frozen 2
  have z3 := hK.frozen 3
  clear hX hl2 hB1 hw1 hr hres hX1 hK
  go_enter Tryz.func15, Tryz.ntmps15
  go_upto_region 1 with fail
  rw [← hb, ← HW.out.1]
  have hb2 := hb
  clear hb
  go_wp2_with fail
  go_loop [6] (fun i => ∃ k : Nat, k ≤ n' ∧ i = .int .i64 k ∧ waitL (l.W.drop k) x = r) (fun i => n' - (intOf i).toNat)
  case atStart => exact ⟨0, Nat.zero_le _, rfl, by rw [List.drop_zero]; exact HR.out.symm⟩
  case round =>
    obtain ⟨k, hk, rfl, hat⟩ := hrel
    have hk0 : (0 : Int) ≤ (k : Int) := Int.natCast_nonneg _
    have HAT := Lib.hid hat
    clear hat
    have HB2 := Lib.hid hb2
    clear hb2
    by_cases hlt : k < n'
    · have hlt1 : (k : Int) < (n' : Int) := by omega
      have hkl : k < l.W.length := by rw [← H.out.2.2.2]; exact hlt
      obtain ⟨ad, rfl, _, d0, d1, d2, d3, d4, _⟩ := od_at H.out.1.wg hkl
      have hst := waitL_step (x := x) hkl
      rw [HAT.out] at hst
      obtain ⟨y, hy⟩ : ∃ y, y = l.W[k] := ⟨_, rfl⟩
      rw [← hy] at d0 d1 d2 d3 d4 hst
      have HST := Lib.hid hst
      clear hst hy
      by_cases h2 : y.x = x
      · have hxd : (y.x == x) = true := by simp [h2]
        have HF := Lib.hid (show r = some y by rw [HST.out, if_pos h2])
        clear h2
        go_upto_region 5 with fail
        go_region
        go_wp2_with fail
        have hk4 := blk_put4 (v0 := .int .i64 y.th.k) (v1 := .string y.th.t) (v2 := .string y.th.y) (v3 := .int .i64 y.m) H.out.2.1.drew
        have hc4 := (chg_put4 w1.drew b (.int .i64 y.th.k) (.string y.th.t) (.string y.th.y) (.int .i64 y.m)).below (B := w.heap.size) (fun q hq => by subst hq; exact Nat.le_of_eq HB2.out.symm) H.out.2.2.1.size
        refine bodyPost_ret (results_cell_tmp rfl _ _ _ rfl (load_want hk4)) rfl ⟨by rw [HF.out]; rfl, H.out.2.2.1.drew.trans hc4⟩
      · have hxd : (y.x == x) = false := by simp [h2]
        have HF := Lib.hid (show r = waitL (l.W.drop (k + 1)) x by rw [HST.out, if_neg h2])
        clear h2
        go_wp2_with fail
        go_round
        case rel => exact ⟨k + 1, by omega, by go_num, HF.out.symm⟩
        case measure => simp [intOf]; omega
    · have hlt1 : ¬ (k : Int) < (n' : Int) := by omega
      have HF := Lib.hid (show r = none by rw [← HAT.out, List.drop_eq_nil_of_le (by rw [← H.out.2.2.2]; omega)]; rfl)
      go_wp2_with fail
      have hk4 := blk_put4 (v0 := .int .i64 0) (v1 := .string ⟨#[]⟩) (v2 := .string ⟨#[]⟩) (v3 := .int .i64 0) H.out.2.1
      have hc4 := (chg_put4 w1 b (.int .i64 0) (.string ⟨#[]⟩) (.string ⟨#[]⟩) (.int .i64 0)).below (B := w.heap.size) (fun q hq => by subst hq; exact Nat.le_of_eq HB2.out.symm) H.out.2.2.1.size
      refine bodyPost_ret (results_cell_tmp rfl _ _ _ rfl (load_want hk4)) rfl ⟨by rw [HF.out]; rfl, H.out.2.2.1.trans hc4⟩
end Go.Proofs.YthbbheegkhlniaaGreat

/-
  The document's locks: give.
-/
namespace Go.Proofs.YthbbheegkhlniaaGreat
open Go.RowKit Go.Lib

theorem Tryz.infoone : (Tryz.prog.info? 73).map (fun i => (i.zero, i.size, i.bytes)) = some (some (.agg #[.int .i64 0, .string ⟨#[]⟩, .string ⟨#[]⟩, .int .i64 0, .int .i64 0, .bool false]), 6, 64) := by kernel_rfl
theorem giveL_step {o : Od} {H : List Od} {k : Nat} (hk : k < H.length) : giveL o (H.drop k) = if isOf o.th o.x H[k] = true then o :: H.drop (k + 1) else H[k] :: giveL o (H.drop (k + 1)) := by
  rw [List.drop_eq_getElem_cons hk, giveL]
theorem drop_set {α : Type} (l : List α) (k : Nat) (hk : k < l.length) (a : α) : l.take k ++ a :: l.drop (k + 1) = l.set k a := by
  rw [List.set_eq_take_append_cons_drop, if_pos hk]
theorem ods_set (b : Bool) : ∀ (l : List Od) (k : Nat) (hk : k < l.length) (o : Od), l[k].th = o.th → l[k].x = o.x → ods b (l.set k o) = (ods b l).set (k * 6 + 4) (.int .i64 o.m)
  | a :: l, 0, _, o, h1, h2 => by
    simp only [List.getElem_cons_zero] at h1 h2
    show odC b o ++ ods b l = (odC b a ++ ods b l).set 4 (.int .i64 o.m)
    unfold odC
    rw [h1, h2]
    rfl
  | a :: l, k + 1, hk, o, h1, h2 => by
    simp only [List.getElem_cons_succ] at h1 h2
    show odC b a ++ ods b (l.set k o) = (odC b a ++ ods b l).set ((k + 1) * 6 + 4) (.int .i64 o.m)
    rw [ods_set b l k (by simpa using hk) o h1 h2, List.set_append_right _ _ (by show 6 ≤ _; omega)]
    show odC b a ++ _ = odC b a ++ _
    rw [show (k + 1) * 6 + 4 - (odC b a).length = k * 6 + 4 by show (k + 1) * 6 + 4 - 6 = _; omega]
/-- a mode in a holder's place -/
theorem RkX.setm {B tb n c n' c' g k : Nat} {D : Nat → Prop} {w : World} {A' : Option Addr} {l : Lk} (h : RkX B D w tb (some ⟨g, 0, none⟩) n c A' n' c' l) (hk : k < l.H.length) (o : Od) (h1 : l.H[k].th = o.th) (h2 : l.H[k].x = o.x) :
    RkX B D (w.setCell ⟨g, k * 6 + 4, none⟩ (.int .i64 o.m)) tb (some ⟨g, 0, none⟩) n c A' n' c' ⟨l.H.set k o, l.W⟩ ∧ Chg D w (w.setCell ⟨g, k * 6 + 4, none⟩ (.int .i64 o.m)) := by
  have hs := (h.ho.stored (k * 6 + 4) (.int .i64 o.m)).1
  rw [← ods_set false l.H k hk o h1 h2] at hs
  have hg : D g := h.hd g rfl
  have hc : Chg (fun q => q = g) w (w.setCell ⟨g, k * 6 + 4, none⟩ (.int .i64 o.m)) := (Chg.refl (fun q => q = g) w).setCell (p := ⟨g, k * 6 + 4, none⟩) (fun _ => rfl) _
  have hne : tb ≠ g := fun e => own_ne h.ho h.blk (by decide) (by rw [e]; rfl)
  exact ⟨⟨h.blk.chg hc hne, by simpa using h.hn, h.wn, hs, own_chg h.wo hc fun q hq e => by subst e; exact h.ne q rfl hq, h.hd, h.wd, h.ne, h.db, fun q hq => ⟨(h.foot q hq).1, Nat.lt_of_lt_of_le (h.foot q hq).2 hc.size⟩⟩, hc.mono fun q _ e => by subst e; exact hg⟩
theorem addr_el (g k j : Nat) : (⟨((⟨g, 0, none⟩ : Addr).add (k * 6)).block, ((⟨g, 0, none⟩ : Addr).add (k * 6)).off + j, none⟩ : Addr) = ⟨g, k * 6 + j, none⟩ := by
  unfold Addr.add
  split
  · simp; omega
  · simp
theorem RkTo.of {B tb n c n' c' : Nat} {D : Nat → Prop} {w w' : World} {A A' : Option Addr} {l : Lk} (h : RkX B D w' tb A n c A' n' c' l) (hc : Chg D w w') (hB : B ≤ w.heap.size) : RkTo B tb D w l w' :=
  ⟨(h.more (D' := Ext D w w') (fun _ hk => .inl hk) fun k hk => hk.elim (fun hk => h.foot k hk) fun hk => ⟨by omega, hk.2⟩).v, hc⟩
theorem RowTo.new {B : Nat} {e : TypeId} {s n' : Nat} {v v' : Value} {w w' : World} {xs' : List Value} (h : w'.ownsRow w.heap.size e s v' n' xs') (hb : Below w.heap.size w w') (hB : B ≤ w.heap.size) : RowTo B e s v w v' n' xs' w' :=
  ⟨own_to_lt h hB, fun k hk => .inr (h.lt k hk).1, Chg.of_below hb⟩
/-- the holders' row is another one -/
theorem RkX.push0 {B tb n c n' c' n6 c6 : Nat} {D : Nat → Prop} {w w6 : World} {A A' A6 : Option Addr} {l : Lk} {H6 : List Od} (h : RkX B D w tb A n c A' n' c' l) (hB : B ≤ w.heap.size)
    (hR : RowTo B 73 6 (.slice A n c) w (.slice A6 n6 c6) n6 (ods false H6) w6) (h6 : n6 = H6.length) : RkTo B tb D w ⟨H6, l.W⟩ (w6.setCell ⟨tb, 0, none⟩ (.slice A6 n6 c6)) := by
  have htb := h.blk.lt
  have hne : (Value.slice A n c).ownBlock ≠ some tb := own_ne h.ho h.blk (by decide)
  have hne' : (Value.slice A' n' c').ownBlock ≠ some tb := own_ne h.wo h.blk (by decide)
  have hb6 := h.blk.chg hR.chg hne
  have hc6 : Chg (fun q => q = tb) w6 (w6.setCell ⟨tb, 0, none⟩ (.slice A6 n6 c6)) := (Chg.refl (fun q => q = tb) w6).setCell (p := ⟨tb, 0, none⟩) (fun _ => rfl) _
  have s6 := hR.chg.size
  have s7 := hc6.size
  have hw6 := own_chg h.wo hR.chg fun k hk he => h.ne k he hk
  have hcD : Chg D w w6 := hR.chg.mono fun k _ hk => h.hd k hk
  refine ⟨⟨A6, n6, c6, A', n', c', hb6.put 0 _, h6, h.wn, own_chg hR.own hc6 fun k hk e => ?_, own_chg hw6 hc6 fun k hk e => ?_, fun k hk => ?_, fun k hk => .inl (h.wd k hk), fun k hk hk' => ?_, .inl h.db, fun k hk => ?_⟩, hcD.trans' hc6 fun k _ e => by subst e; exact h.db⟩
  · subst e
    rcases hR.blk k hk with h1 | h1
    · exact hne h1
    · omega
  · subst e; exact hne' hk
  · rcases hR.blk k hk with h1 | h1
    · exact .inl (h.hd k h1)
    · exact .inr ⟨h1, by have := (hR.own.lt k hk).2; omega⟩
  · rcases hR.blk k hk with h1 | h1
    · exact h.ne k h1 hk'
    · have := (h.foot k (h.wd k hk')).2
      omega
  · exact hk.elim (fun hk => ⟨(h.foot k hk).1, by have := (h.foot k hk).2; omega⟩) fun hk => ⟨by omega, hk.2⟩
/-- the waiters' row is another one -/
theorem RkX.push1 {B tb n c n' c' n6 c6 : Nat} {D : Nat → Prop} {w w6 : World} {A A' A6 : Option Addr} {l : Lk} {H6 : List Od} (h : RkX B D w tb A n c A' n' c' l) (hB : B ≤ w.heap.size)
    (hR : RowTo B 73 6 (.slice A' n' c') w (.slice A6 n6 c6) n6 (ods true H6) w6) (h6 : n6 = H6.length) : RkTo B tb D w ⟨l.H, H6⟩ (w6.setCell ⟨tb, 1, none⟩ (.slice A6 n6 c6)) := by
  have htb := h.blk.lt
  have hne : (Value.slice A n c).ownBlock ≠ some tb := own_ne h.ho h.blk (by decide)
  have hne' : (Value.slice A' n' c').ownBlock ≠ some tb := own_ne h.wo h.blk (by decide)
  have hb6 := h.blk.chg hR.chg hne'
  have hc6 : Chg (fun q => q = tb) w6 (w6.setCell ⟨tb, 1, none⟩ (.slice A6 n6 c6)) := (Chg.refl (fun q => q = tb) w6).setCell (p := ⟨tb, 1, none⟩) (fun _ => rfl) _
  have s6 := hR.chg.size
  have s7 := hc6.size
  have hw6 := own_chg h.ho hR.chg fun k hk he => h.ne k hk he
  have hcD : Chg D w w6 := hR.chg.mono fun k _ hk => h.wd k hk
  refine ⟨⟨A, n, c, A6, n6, c6, hb6.put 1 _, h.hn, h6, own_chg hw6 hc6 fun k hk e => ?_, own_chg hR.own hc6 fun k hk e => ?_, fun k hk => .inl (h.hd k hk), fun k hk => ?_, fun k hk' hk => ?_, .inl h.db, fun k hk => ?_⟩, hcD.trans' hc6 fun k _ e => by subst e; exact h.db⟩
  · subst e; exact hne hk
  · subst e
    rcases hR.blk k hk with h1 | h1
    · exact hne' h1
    · omega
  · rcases hR.blk k hk with h1 | h1
    · exact .inl (h.wd k h1)
    · exact .inr ⟨h1, by have := (hR.own.lt k hk).2; omega⟩
  · rcases hR.blk k hk with h1 | h1
    · exact h.ne k hk' h1
    · have := (h.foot k (h.hd k hk')).2
      omega
  · exact hk.elim (fun hk => ⟨(h.foot k hk).1, by have := (h.foot k hk).2; omega⟩) fun hk => ⟨by omega, hk.2⟩
theorem RkX.up {B tb n c n' c' : Nat} {D : Nat → Prop} {w w' : World} {A A' : Option Addr} {l : Lk} (h : RkX B D w tb A n c A' n' c' l) (hb : Below w.heap.size w w') (hB : B ≤ w.heap.size) : RkX B (Ext D w w') w' tb A n c A' n' c' l :=
  (h.below hb).more (fun _ hk => .inl hk) fun k hk => hk.elim (fun hk => ⟨(h.foot k hk).1, Nat.lt_of_lt_of_le (h.foot k hk).2 hb.size⟩) fun hk => ⟨by omega, hk.2⟩
theorem RkX.via {B tb n c n' c' : Nat} {D : Nat → Prop} {w wa w3 : World} {A A' : Option Addr} {l l3 : Lk} (h : RkX B D w tb A n c A' n' c' l) (hb : Below w.heap.size w wa) (hB : B ≤ w.heap.size) (k : RkTo B tb (Ext D w wa) wa l3 w3) : RkTo B tb D w l3 w3 :=
  (RkTo.same h.v hb hB).trans k (fun q hq => (h.foot q hq).1) hB
theorem RkTo.low {B tb : Nat} {D : Nat → Prop} {w wr w' : World} {l : Lk} (hb : Below w.heap.size w wr) (hD : ∀ q, D q → B ≤ q ∧ q < w.heap.size) (hB : B ≤ w.heap.size) (k : RkTo B tb D wr l w') : RkTo B tb D w l w' := by
  have s1 := hb.size
  have s2 := k.2.size
  exact ⟨k.1.more (fun q hq => hq.elim .inl fun hq => .inr ⟨by omega, hq.2⟩) fun q hq => hq.elim (fun hq => ⟨(hD q hq).1, by have := (hD q hq).2; omega⟩) fun hq => ⟨by omega, hq.2⟩, (Chg.of_below hb).trans' k.2 fun q _ hq => hq⟩
theorem give_to {B tb n c n' c' g k : Nat} {D : Nat → Prop} {w wr w2 : World} {ad : Addr} {A' : Option Addr} {l : Lk} {r : List Od} (low : Below w.heap.size w wr) (h : RkX B D wr tb (some ad) n c A' n' c' l) (hb : Below wr.heap.size wr w2) (had : ad = ⟨g, 0, none⟩) (hk : k < l.H.length) (o : Od) (h1 : l.H[k].th = o.th) (h2 : l.H[k].x = o.x)
    (hB : B ≤ w.heap.size) (hr : r = l.H.set k o) : RkTo B tb D w ⟨r, l.W⟩ (w2.setCell ⟨(ad.add (k * 6)).block, (ad.add (k * 6)).off + 3 + 1, none⟩ (.int .i64 o.m)) := by
  subst had hr
  have e : (⟨((⟨g, 0, none⟩ : Addr).add (k * 6)).block, ((⟨g, 0, none⟩ : Addr).add (k * 6)).off + 3 + 1, none⟩ : Addr) = ⟨g, k * 6 + 4, none⟩ := addr_el g k 4
  rw [e]
  obtain ⟨hX, hC⟩ := (h.below hb).setm hk o h1 h2
  exact RkTo.of hX ((Chg.of_below (low.trans (hb.mono low.size))).trans' hC fun _ _ hq => hq) hB
set_option maxRecDepth 100000 in
set_option maxHeartbeats 12800000 in
theorem rgive_any {B tb : Nat} {D : Nat → Prop} {w : World} {l : Lk} (h : RkV B D w tb l) (hl : l.H.length ≤ 1000000) (hB : B ≤ w.heap.size) (o : Od) :
    Calls Tryz.prog 40 #[.pointer (some ⟨tb, 0, none⟩), .int .i64 o.x, wantV o.th o.m] w fun r w' => r = .returned (.tuple #[]) ∧ RkTo B tb D w ⟨giveL o l.H, l.W⟩ w' := by
  obtain ⟨i0, hi, hz0, hz1, hz2⟩ := info_parts Tryz.infoone
  obtain ⟨A, n, c, A', n', c', hX⟩ := h
  have hn : n ≤ 1000000 := by rw [hX.hn]; exact hl
  have hn0 : (0 : Int) ≤ (n : Int) := Int.natCast_nonneg _
  obtain ⟨w1, hw1⟩ : ∃ w1, w1 = w.alloc (.cells #[.int .i64 o.th.k, .string o.th.t, .string o.th.y, .int .i64 o.m] 34) := ⟨_, rfl⟩
  obtain ⟨b, hb⟩ : ∃ b, b = w.heap.size := ⟨_, rfl⟩
  have hB1 : Below w.heap.size w w1 := by rw [hw1]; exact (Below.refl _ w).alloc (Nat.le_refl _) _
  have hQ : Rq w w1 B tb D A n c A' n' c' l b o := ⟨hX.below hB1, by rw [hw1, hb]; exact Blk.new _ _ _, hB1⟩
  obtain ⟨r, hr⟩ : ∃ r, r = giveL o l.H := ⟨_, rfl⟩
  rw [← hr]
  have HW := Lib.hid (And.intro hw1 hb)
  have HR := Lib.hid hr
  have HQ := Lib.hid hQ
  have HN := Lib.hid (And.intro hX.hn (And.intro hB (fun (q : Nat) (hq : D q) => hX.foot q hq)))
  clear hX hl hB hB1 hQ hw1 hr
  go_enter Tryz.func40, Tryz.ntmps40
  go_upto_region 1 with fail
  rw [← hb, ← HW.out.1]; clear hb
  go_wp2_with fail
  go_loopw [6] (fun i wr => ∃ k d : Nat, k ≤ n ∧ i = .int .i64 k ∧ wr = w1.drewN d ∧ r = l.H.take k ++ giveL o (l.H.drop k)) (fun i _ => n - (intOf i).toNat)
  case atStart => exact ⟨0, 0, Nat.zero_le _, rfl, rfl, by rw [List.drop_zero]; exact HR.out⟩
  case round =>
    obtain ⟨k, d, hk, rfl, hw, hat⟩ := hrel
    have hk0 : (0 : Int) ≤ (k : Int) := Int.natCast_nonneg _
    have hQr : Rq w wr B tb D A n c A' n' c' l b o := by rw [hw]; exact HQ.out.below (below_dN (Below.refl _ _) _)
    have c0 := hQr.r.c0
    have s0 : wr.cell? ⟨b, 0, none⟩ = some (.int .i64 o.th.k) := hQr.q.cell 0
    have s1 : wr.cell? ⟨b, 1, none⟩ = some (.string o.th.t) := hQr.q.cell 1
    have s2 : wr.cell? ⟨b, 2, none⟩ = some (.string o.th.y) := hQr.q.cell 2
    have s3 : wr.cell? ⟨b, 3, none⟩ = some (.int .i64 o.m) := hQr.q.cell 3
    have HAT := Lib.hid hat
    have HWR := Lib.hid hw
    have HQR := Lib.hid hQr
    clear hat hw hQr
    by_cases hlt : k < n
    · have hlt1 : (k : Int) < (n : Int) := by omega
      have hkl : k < l.H.length := by rw [← HN.out.1]; exact hlt
      obtain ⟨ad, hA, _, d0, d1, d2, d3, d4, _⟩ := od_at HQR.out.r.hg hkl
      obtain ⟨g, hg⟩ := own_form' (by have := HQR.out.r.ho; exact this) (by omega : 0 < n)
      have hst := giveL_step (o := o) hkl
      obtain ⟨y, hy⟩ : ∃ y, y = l.H[k] := ⟨_, rfl⟩
      rw [← hy] at d0 d1 d2 d3 d4 hst
      have HST := Lib.hid (And.intro hst hy)
      have HG := Lib.hid (show ad = ⟨g, 0, none⟩ from Option.some.inj (hA.symm.trans hg))
      subst hA
      clear hst hy hg
      cases h1 : decide (y.th = o.th) with
      | false =>
        have he := eqTh_run y.th o.th false h1
        have HI := Lib.hid (show isOf o.th o.x y = false by unfold isOf; rw [h1]; rfl)
        clear h1
        go_wp2_with fail
        go_quiet (fail)
        go_wp2_with fail
        go_roundw
        case rel => exact ⟨k + 1, _, by omega, by go_num, by rw [HWR.out]; exact World.drewN_drewN _ _ _, by rw [HAT.out, HST.out.1, HI.out, if_neg (by decide), List.take_succ_eq_append_getElem hkl, ← HST.out.2, List.append_assoc]; rfl⟩
        case measure => simp [intOf]; omega
      | true =>
        have he := eqTh_run y.th o.th true h1
        by_cases h2 : y.x = o.x
        · have hxd : (y.x == o.x) = true := by simp [h2]
          have HI := Lib.hid (And.intro (show isOf o.th o.x y = true by unfold isOf; rw [h1]; simp [h2]) (And.intro (of_decide_eq_true h1) h2))
          clear h1 h2
          go_upto_region 4 with fail
          go_quiet (fail)
          go_upto_region 5 with fail
          have z4 : wr.frozen? ⟨(ad.add (k * 6)).block, (ad.add (k * 6)).off + 4, none⟩ = false := by
            have h0 := HQR.out.r.ho
            rw [HG.out] at h0 ⊢
            rw [addr_el]
            exact h0.frozenAt _
          go_region
          go_wp2_with fail
          refine bodyPost_ret (results_none rfl _ _ _) rfl ?_
          refine ⟨rfl, give_to HQR.out.low HQR.out.r (below_dN (Below.refl _ _) _) HG.out hkl o (by rw [← HST.out.2]; exact HI.out.2.1) (by rw [← HST.out.2]; exact HI.out.2.2) HN.out.2.1 ?_⟩
          rw [HAT.out, HST.out.1, HI.out.1, if_pos rfl, drop_set _ _ hkl]
        · have hxd : (y.x == o.x) = false := by simp [h2]
          have HI := Lib.hid (show isOf o.th o.x y = false by unfold isOf; simp [h2])
          clear h1 h2
          go_wp2_with fail
          go_quiet (fail)
          go_wp2_with fail
          go_roundw
          case rel => exact ⟨k + 1, _, by omega, by go_num, by rw [HWR.out]; exact World.drewN_drewN _ _ _, by rw [HAT.out, HST.out.1, HI.out, if_neg (by decide), List.take_succ_eq_append_getElem hkl, ← HST.out.2, List.append_assoc]; rfl⟩
          case measure => simp [intOf]; omega
    · have hlt1 : ¬ (k : Int) < (n : Int) := by omega
      have HF := Lib.hid (show r = l.H ++ [o] by rw [HAT.out, List.drop_eq_nil_of_le (by rw [← HN.out.1]; omega), List.take_of_length_le (by rw [← HN.out.1]; omega)]; rfl)
      have HBW := Lib.hid (show B ≤ wr.heap.size from Nat.le_trans HN.out.2.1 HQR.out.low.size)
      go_upto_region 6 with fail
      have ca : (wr.alloc (.cells #[.int .i64 o.th.k, .string o.th.t, .string o.th.y, .int .i64 o.x, .int .i64 o.m, .bool false] 73)).cell? ⟨tb, 0, none⟩ = some (.slice A n c) := (HQR.out.r.blk.alloc _).cell 0
      go_region_law (refine step_append_row rfl _ _ 28 rfl B 73 i0 (.agg #[.int .i64 0, .string ⟨#[]⟩, .string ⟨#[]⟩, .int .i64 0, .int .i64 0, .bool false]) 6 64 Tryz.underlying28 hi hz0 hz1 hz2 rfl (by decide) (.slice A n c) n (ods false l.H) (HQR.out.r.ho.drew.alloc _) (by simp [Act.eval]) (some ⟨wr.heap.size, 0, none⟩) 1 1 (odC false o) (by simp [Act.eval]) rfl (fun h => by cases h) (fun ad' had => by cases had; exact World.news_of_block (Go.heap_alloc_new _ _)) (by intro u hu; simp [odC] at hu; rcases hu with rfl | rfl | rfl | rfl | rfl | rfl <;> rfl) (by simp [maxLen]; omega) (by omega) (by have := HBW.out; simp; omega) ?_; intro A6 c6 w6 hR6; have hb6 := (HQR.out.r.blk.drew.alloc _).chg hR6.chg (own_ne HQR.out.r.ho HQR.out.r.blk (by decide)); have e6 : w6.cell? ⟨tb, 0, none⟩ = some (.slice A n c) := hb6.cell 0; have z6 := hb6.frozen 0; have HR6 := Lib.hid hR6; clear hR6 hb6)
      all_goals (go_wp2_with fail; go_end0)
      all_goals refine ⟨rfl, ?_⟩
      all_goals
        have hba : Below wr.heap.size wr (wr.alloc (.cells #[.int .i64 o.th.k, .string o.th.t, .string o.th.y, .int .i64 o.x, .int .i64 o.m, .bool false] 73)) := (Below.refl _ wr).alloc (Nat.le_refl _) _
        have hR := HR6.out.drew'
        have e : ods false l.H ++ odC false o = ods false (l.H ++ [o]) := by simp [ods]
        rw [e] at hR
        have h9 := (HQR.out.r.up hba HBW.out).push0 (Nat.le_trans HBW.out hba.size) hR (by rw [HN.out.1]; simp)
        rw [HF.out]
        exact RkTo.low HQR.out.low HN.out.2.2 HN.out.2.1 (HQR.out.r.via hba HBW.out h9)
end Go.Proofs.YthbbheegkhlniaaGreat
