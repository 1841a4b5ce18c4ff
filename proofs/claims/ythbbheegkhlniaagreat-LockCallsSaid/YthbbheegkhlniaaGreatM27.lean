/-
  The document's locks: sweep.
-/
import Derived.Test.YthbbheegkhlniaaGreatM26
import Derived.Deep.LoopGhost
import Derived.Lib.Bytealg
import Derived.Test.YthbbheegkhlniaaGreatM10
import Derived.Deep.CutRange
namespace Go.Proofs.YthbbheegkhlniaaGreat
open Go.RowKit Go.Lib

/-- the locks while a row of numbers is made: D' now, D at the beginning (w0) -/
structure Sw (w0 w : World) (B tb : Nat) (D D' : Nat → Prop) (l : Lk) (v : Value) (m : Nat) (out : List Int) (b : Nat) (t : Th) : Prop where
  r : RkV B D' w tb l
  sub : ∀ k, D' k → D k ∨ w0.heap.size ≤ k
  sup : ∀ k, D k → D' k
  ch : Chg D w0 w
  own : w.ownsRow w0.heap.size 3 1 v m (intsV out)
  hm : m = out.length
  ap : ∀ k, v.ownBlock = some k → ¬ D' k
  q : Blk w b 32 #[.int .i64 t.k, .string t.t, .string t.y]
  nq : ¬ D' b
section
variable {w0 w w' : World} {B tb m b b7 b8 : Nat} {D D' : Nat → Prop} {l l' : Lk} {v : Value} {out : List Int} {t : Th} {y : Od}
theorem Sw.size (h : Sw w0 w B tb D D' l v m out b t) : w0.heap.size ≤ w.heap.size := h.ch.size
theorem Sw.below (h : Sw w0 w B tb D D' l v m out b t) (hb : Below w.heap.size w w') : Sw w0 w' B tb D D' l v m out b t :=
  ⟨h.r.below hb, h.sub, h.sup, h.ch.trans' (Chg.of_below (F := Non) hb) fun _ _ hf => hf.elim, own_chg h.own (F := Non) (Chg.of_below hb) fun _ _ hf => hf, h.hm, h.ap, h.q.below hb h.q.lt, h.nq⟩
theorem Sw.step (h : Sw w0 w B tb D D' l v m out b t) (k : RkTo B tb D' w l' w') : Sw w0 w' B tb D (Ext D' w w') l' v m out b t := by
  have s := h.ch.size
  refine ⟨k.1, fun q hq => hq.elim (h.sub q) fun hq => .inr (by omega), fun q hq => .inl (h.sup q hq), h.ch.trans' k.2 fun i hi hx => (h.sub i hx).elim id fun hh => by omega, own_chg h.own k.2 h.ap, h.hm, fun q hq hx => hx.elim (h.ap q hq) fun hx => ?_, h.q.chg k.2 h.nq, fun hx => hx.elim h.nq fun hx => ?_⟩
  · have := (h.own.lt q hq).2
    omega
  · have := h.q.lt
    omega
theorem Sw.push {v' : Value} {m' : Nat} {x : Int} (h : Sw w0 w B tb D D' l v m out b t) (hR : RowTo w0.heap.size 3 1 v w v' m' (intsV out ++ [.int .i64 x]) w') (hm : m' = m + 1) : Sw w0 w' B tb D D' l v' m' (out ++ [x]) b t := by
  have hne : v.ownBlock ≠ some b := own_ne h.own h.q (by decide)
  refine ⟨h.r.chg hR.chg fun k hk e => h.ap k e hk, h.sub, h.sup, h.ch.trans' hR.chg fun i hi e => ?_, by rw [show intsV (out ++ [x]) = intsV out ++ [.int .i64 x] by simp [intsV]]; exact hR.own, by rw [hm, h.hm]; simp, fun k hk hx => ?_, h.q.chg hR.chg hne, h.nq⟩
  · have := (h.own.lt i e).1
    omega
  · rcases hR.blk k hk with h1 | h1
    · exact h.ap k h1 hx
    · have := (h.r.foot hx).2
      omega
theorem Sw.end_ (h : Sw w0 w B tb D D' l v m out b t) (hB : B ≤ w0.heap.size) (hf : ∀ k, D k → B ≤ k ∧ k < w0.heap.size) : RkTo B tb D w0 l w :=
  ⟨h.r.more (fun k hk => by
    rcases h.sub k hk with h1 | h1
    · exact .inl h1
    · exact .inr ⟨h1, (h.r.foot hk).2⟩) fun k hk => by
      have s := h.ch.size
      rcases hk with hk | hk
      · have := hf k hk; omega
      · omega, h.ch⟩
/-- one that waits and what it asks for, each in its block -/
structure Sr (w : World) (D' : Nat → Prop) (b7 : Nat) (y : Od) (b8 : Nat) (t : Th) : Prop where
  q7 : Blk w b7 73 #[.int .i64 y.th.k, .string y.th.t, .string y.th.y, .int .i64 y.x, .int .i64 y.m, .bool true]
  n7 : ¬ D' b7
  q8 : Blk w b8 34 #[.int .i64 t.k, .string t.t, .string t.y, .int .i64 y.m]
  n8 : ¬ D' b8
theorem Sr.below (h : Sr w D' b7 y b8 t) (hb : Below w.heap.size w w') : Sr w' D' b7 y b8 t := ⟨h.q7.below hb h.q7.lt, h.n7, h.q8.below hb h.q8.lt, h.n8⟩
theorem Sr.step (h : Sr w D' b7 y b8 t) (k : RkTo B tb D' w l' w') : Sr w' (Ext D' w w') b7 y b8 t :=
  ⟨h.q7.chg k.2 h.n7, fun hx => hx.elim h.n7 fun hx => by have := h.q7.lt; omega, h.q8.chg k.2 h.n8, fun hx => hx.elim h.n8 fun hx => by have := h.q8.lt; omega⟩
end
theorem sweep_skip {t : Th} {done H r : List Od} {y : Od} (h : ¬ (y.th = t ∧ canL H done y = true)) : sweepGo t done H (y :: r) = sweepGo t (done ++ [y]) H r := by rw [sweepGo, if_neg h]
theorem sweep_take {t : Th} {done H r : List Od} {y : Od} (h : y.th = t) (h2 : canL H done y = true) : sweepGo t done H (y :: r) = ((sweepGo t done (giveL y H) r).1, (sweepGo t done (giveL y H) r).2.1, y.x :: (sweepGo t done (giveL y H) r).2.2) := by rw [sweepGo, if_pos ⟨h, h2⟩]
theorem Tryz.infoint : (Tryz.prog.info? 3).map (fun i => (i.zero, i.size, i.bytes)) = some (some (.int .i64 0), 1, 8) := by kernel_rfl
set_option maxRecDepth 100000 in
set_option maxHeartbeats 12800000 in
theorem rsweep_any {B tb : Nat} {D : Nat → Prop} {w : World} {l : Lk} (h : RkV B D w tb l) (hl : szL l ≤ 700000) (hB : B ≤ w.heap.size) (t : Th) :
    Calls Tryz.prog 46 #[.pointer (some ⟨tb, 0, none⟩), thV t] w fun r w' => ∃ v, r = .returned v ∧ IntsRet w (sweepL l t).2 w' v ∧ RkTo B tb D w (sweepL l t).1 w' := by
  obtain ⟨i0, hi, hz0, hz1, hz2⟩ := info_parts Tryz.infoint
  obtain ⟨w1, hw1⟩ : ∃ w1, w1 = w.alloc (.cells #[.int .i64 t.k, .string t.t, .string t.y] 32) := ⟨_, rfl⟩
  obtain ⟨b, hb⟩ : ∃ b, b = w.heap.size := ⟨_, rfl⟩
  obtain ⟨w2, hw2⟩ : ∃ w2, w2 = w1.alloc (.cells #[] 3) := ⟨_, rfl⟩
  have hB1 : Below w.heap.size w w1 := by rw [hw1]; exact (Below.refl _ w).alloc (Nat.le_refl _) _
  have hB2 : Below w1.heap.size w1 w2 := by rw [hw2]; exact (Below.refl _ w1).alloc (Nat.le_refl _) _
  have hK1 : Blk w1 b 32 #[.int .i64 t.k, .string t.t, .string t.y] := by rw [hw1, hb]; exact Blk.new _ _ _
  have hO : w2.ownsRow w.heap.size 3 1 (.slice (some ⟨w1.heap.size, 0, none⟩) 0 0) 0 (intsV []) := by
    rw [hw2]
    have h9 := World.ownsRow_lit (base := w.heap.size) (size := 1) (e := 3) w1 #[] 0 hB1.size (by simp [maxLen]) (by simp)
    exact h9
  have hS : Sw w w2 B tb D D l (.slice (some ⟨w1.heap.size, 0, none⟩) 0 0) 0 [] b t :=
    ⟨(h.below hB1).below hB2, fun _ hk => .inl hk, fun _ hk => hk, Chg.of_below (hB1.trans (hB2.mono hB1.size)), hO, rfl, fun k hk hd => by have := (h.foot hd).2; have := hB1.size; simp [Value.ownBlock] at hk; omega, hK1.below hB2 hK1.lt, fun hd => by have := (h.foot hd).2; omega⟩
  have HW := Lib.hid (And.intro hw1 (And.intro hb hw2))
  have HS := Lib.hid hS
  have HN := Lib.hid (And.intro hl (And.intro hB (fun (q : Nat) (hq : D q) => h.foot hq)))
  clear h hw1 hw2 hB1 hB2 hK1 hO hS hl hB
  go_enter Tryz.func46, Tryz.ntmps46
  go_upto_region 1 with fail
  rw [← hb, ← HW.out.1]; clear hb
  go_upto_region 3 with fail
  rw [← HW.out.2.2]
  go_loopg [5, 6] l.W.length (fun g ov iv wr => ∃ (D' : Nat → Prop) (A : Option Addr) (m c : Nat) (dn H pd : List Od) (out : List Int), ov = .slice A m c ∧ iv = .int .i64 (dn.length : Nat) ∧ pd.length = g ∧ szL ⟨H, dn ++ pd⟩ ≤ szL l ∧ out.length + dn.length + pd.length ≤ l.W.length ∧
    sweepGo t [] l.H l.W = ((sweepGo t dn H pd).1, (sweepGo t dn H pd).2.1, out ++ (sweepGo t dn H pd).2.2) ∧ Sw w wr B tb D D' ⟨H, dn ++ pd⟩ (.slice A m c) m out b t)
  case atStart => exact ⟨D, _, 0, 0, [], l.H, l.W, [], rfl, rfl, rfl, Nat.le_refl _, by simp, rfl, HS.out⟩
  case round =>
    obtain ⟨D', A, m, c, dn, H, pd, out, rfl, rfl, hg, hsz, hle, hat, hSr⟩ := hrel
    obtain ⟨k, hk⟩ : ∃ k, k = dn.length := ⟨_, rfl⟩
    rw [← hk]
    have hk0 : (0 : Int) ≤ (k : Int) := Int.natCast_nonneg _
    obtain ⟨A1, n1, x1, A2, n2, c2, hX⟩ := hSr.r
    have c1 := hX.c1
    have hnn : n2 = (dn ++ pd).length := hX.wn
    rw [List.length_append, ← hk] at hnn
    have hn0 : (0 : Int) ≤ (n2 : Int) := Int.natCast_nonneg _
    have HSR := Lib.hid hSr
    have HA := Lib.hid (And.intro hk (And.intro hat (And.intro hsz hle)))
    have hg0 := Lib.hid hg
    clear hSr hat hk
    cases pd with
    | nil =>
      have hlt1 : ¬ (k : Int) < (n2 : Int) := by simp at hnn; omega
      have HF := Lib.hid (show sweepL l t = (⟨H, dn⟩, out) by unfold sweepL; rw [HA.out.2.1]; simp [sweepGo])
      clear hX hnn hsz hle hg
      go_wp2_with fail
      go_ret
      rw [HF.out]
      refine ⟨_, rfl, ⟨A, m, c, rfl, HSR.out.hm, HSR.out.own⟩, ?_⟩
      have h9 := HSR.out.end_ HN.out.2.1 (fun q hq => HN.out.2.2 q hq)
      rw [List.append_nil] at h9
      exact h9
    | cons y r =>
      have hlt : k < n2 := by rw [hnn]; simp
      have hlt1 : (k : Int) < (n2 : Int) := by omega
      obtain ⟨ad, hA2, _, d0, d1, d2, d3, d4, d5⟩ := od_at (i := k) hX.wg (by show k < (dn ++ y :: r).length; rw [List.length_append, ← HA.out.1]; simp)
      have hy : (dn ++ y :: r)[k]'(by rw [List.length_append, ← HA.out.1]; simp) = y := by simp [HA.out.1]
      simp only [hy] at d0 d1 d2 d3 d4 d5
      subst hA2
      have HLN := Lib.hid (show H.length ≤ 1000000 ∧ (dn ++ y :: r).length ≤ 1000000 ∧ k ≤ (dn ++ y :: r).length ∧ (dn ++ y :: r).length ≤ 900000 ∧ k < (dn ++ y :: r).length ∧ m ≤ 800000 by
        have h1 := HN.out.1
        have h2 := HA.out.2.2.2
        have h3 := HA.out.2.2.1
        have h4 := HA.out.1
        have h5 := HSR.out.hm
        unfold szL at h1 h3
        simp only [List.length_append, List.length_cons] at h2 h3 ⊢
        omega)
      have hkm : k ≤ 1000000 := Nat.le_trans HLN.out.2.2.1 HLN.out.2.1
      have HE := Lib.hid (show (dn ++ y :: r).take k ++ (dn ++ y :: r).drop (k + 1) = dn ++ r by
        rw [HA.out.1, List.take_append_of_le_length (Nat.le_refl _), List.take_length, List.drop_append, List.drop_of_length_le (by omega)]
        simp [show dn.length + 1 - dn.length = 1 by omega])
      have HTK := Lib.hid (show (dn ++ y :: r).take k = dn by rw [HA.out.1, List.take_append_of_le_length (Nat.le_refl _), List.take_length])
      have g0 : wr.cell? ⟨b, 0, none⟩ = some (.int .i64 t.k) := HSR.out.q.cell 0
      have g1 : wr.cell? ⟨b, 1, none⟩ = some (.string t.t) := HSR.out.q.cell 1
      have g2 : wr.cell? ⟨b, 2, none⟩ = some (.string t.y) := HSR.out.q.cell 2
      have HX := Lib.hid hX
      clear hX hnn hsz hle hg hy
      go_upto_region 5 with fail
      obtain ⟨w5, hw5⟩ : ∃ w5, w5 = wr.alloc (.cells #[.int .i64 y.th.k, .string y.th.t, .string y.th.y, .int .i64 y.x, .int .i64 y.m, .bool true] 73) := ⟨_, rfl⟩
      obtain ⟨b7, hb7⟩ : ∃ b7, b7 = wr.heap.size := ⟨_, rfl⟩
      rw [← hw5, ← hb7]
      have hb5 : Below wr.heap.size wr w5 := by rw [hw5]; exact (Below.refl _ wr).alloc (Nat.le_refl _) _
      have hk7 : Blk w5 b7 73 #[.int .i64 y.th.k, .string y.th.t, .string y.th.y, .int .i64 y.x, .int .i64 y.m, .bool true] := by rw [hw5, hb7]; exact Blk.new _ _ _
      have H5 := Lib.hid (And.intro (HSR.out.below hb5) (And.intro hk7 (show ¬ D' b7 from fun hd => by have := (HSR.out.r.foot hd).2; omega)))
      clear c1 d0 d1 d2 d3 d4 d5 g0 g1 g2 hb5 hk7
      have HW5 := Lib.hid (And.intro hw5 hb7)
      clear hw5 hb7
      have g0 : w5.cell? ⟨b, 0, none⟩ = some (.int .i64 t.k) := H5.out.1.q.cell 0
      have g1 : w5.cell? ⟨b, 1, none⟩ = some (.string t.t) := H5.out.1.q.cell 1
      have g2 : w5.cell? ⟨b, 2, none⟩ = some (.string t.y) := H5.out.1.q.cell 2
      have r4 : w5.cell? ⟨b7, 4, none⟩ = some (.int .i64 y.m) := H5.out.2.1.cell 4
      go_upto_region 6 with fail
      obtain ⟨w6, hw6⟩ : ∃ w6, w6 = w5.alloc (.cells #[.int .i64 t.k, .string t.t, .string t.y, .int .i64 y.m] 34) := ⟨_, rfl⟩
      obtain ⟨b8, hb8⟩ : ∃ b8, b8 = w5.heap.size := ⟨_, rfl⟩
      rw [← hw6, ← hb8]
      have hb6 : Below w5.heap.size w5 w6 := by rw [hw6]; exact (Below.refl _ w5).alloc (Nat.le_refl _) _
      have hk8 : Blk w6 b8 34 #[.int .i64 t.k, .string t.t, .string t.y, .int .i64 y.m] := by rw [hw6, hb8]; exact Blk.new _ _ _
      have H6 := Lib.hid (And.intro (H5.out.1.below hb6) (Sr.mk (y := y) (t := t) (H5.out.2.1.below hb6 H5.out.2.1.lt) H5.out.2.2 hk8 (show ¬ D' b8 from fun hd => by have := (H5.out.1.r.foot hd).2; omega)))
      clear g0 g1 g2 r4 hb6 hk8
      have HW6 := Lib.hid (And.intro hw6 hb8)
      clear hw6 hb8
      have r0 : w6.cell? ⟨b7, 0, none⟩ = some (.int .i64 y.th.k) := H6.out.2.q7.cell 0
      have r1 : w6.cell? ⟨b7, 1, none⟩ = some (.string y.th.t) := H6.out.2.q7.cell 1
      have r2 : w6.cell? ⟨b7, 2, none⟩ = some (.string y.th.y) := H6.out.2.q7.cell 2
      have r3 : w6.cell? ⟨b7, 3, none⟩ = some (.int .i64 y.x) := H6.out.2.q7.cell 3
      have r4 : w6.cell? ⟨b7, 4, none⟩ = some (.int .i64 y.m) := H6.out.2.q7.cell 4
      have u0 : w6.cell? ⟨b8, 0, none⟩ = some (.int .i64 t.k) := H6.out.2.q8.cell 0
      have u1 : w6.cell? ⟨b8, 1, none⟩ = some (.string t.t) := H6.out.2.q8.cell 1
      have u2 : w6.cell? ⟨b8, 2, none⟩ = some (.string t.y) := H6.out.2.q8.cell 2
      have u3 : w6.cell? ⟨b8, 3, none⟩ = some (.int .i64 y.m) := H6.out.2.q8.cell 3
      have g0 : w6.cell? ⟨b, 0, none⟩ = some (.int .i64 t.k) := H6.out.1.q.cell 0
      have g1 : w6.cell? ⟨b, 1, none⟩ = some (.string t.t) := H6.out.1.q.cell 1
      have g2 : w6.cell? ⟨b, 2, none⟩ = some (.string t.y) := H6.out.1.q.cell 2
      cases h1 : decide (y.th = t) with
      | false =>
        have he := neTh_run y.th t false h1
        have HI := Lib.hid (sweep_skip (t := t) (done := dn) (H := H) (r := r) (y := y) (fun hh => of_decide_eq_false h1 hh.1))
        clear h1
        go_wp2_with fail
        go_roundg r.length
        case measure => have := hg0.out; simp at this; omega
        case rel => exact ⟨D', A, m, c, dn ++ [y], H, r, out, rfl, by simp only [List.length_append, List.length_cons, List.length_nil]; rw [← HA.out.1]; go_num, rfl, by have := HA.out.2.2.1; simpa using this, by have := HA.out.2.2.2; simp only [List.length_append, List.length_cons, List.length_nil] at this ⊢; omega, by rw [HA.out.2.1, HI.out], by rw [List.append_assoc]; exact H6.out.1⟩
      | true =>
        have he := neTh_run y.th t true h1
        have ht : y.th = t := of_decide_eq_true h1
        have hyy : (⟨t, y.x, y.m⟩ : Od) = y := by rw [← ht]
        have HY := Lib.hid (And.intro ht hyy)
        clear h1 ht hyy
        cases hc : canL H dn y with
        | false =>
          have HI := Lib.hid (sweep_skip (t := t) (done := dn) (H := H) (r := r) (y := y) (fun hh => by rw [hc] at hh; cases hh.2))
          have HCAN := Lib.hid (show canL H ((dn ++ y :: r).take k) ⟨t, y.x, y.m⟩ = false by rw [HTK.out, HY.out.2, hc])
          clear hc
          go_wp2_with (go_at_call 39; refine ((rcan_any H6.out.1.r HLN.out.1 HLN.out.2.1 ⟨t, y.x, y.m⟩ k HLN.out.2.2.1).to (congrArg Value.bool HCAN.out)).mono ?_; rintro e w7 ⟨rfl, hb⟩; have H7 := Lib.hid (And.intro (H6.out.1.below hb) (H6.out.2.below hb)); have r0 : w7.cell? ⟨b7, 0, none⟩ = some (.int .i64 y.th.k) := H7.out.2.q7.cell 0; have r1 : w7.cell? ⟨b7, 1, none⟩ = some (.string y.th.t) := H7.out.2.q7.cell 1; have r2 : w7.cell? ⟨b7, 2, none⟩ = some (.string y.th.y) := H7.out.2.q7.cell 2; have r3 : w7.cell? ⟨b7, 3, none⟩ = some (.int .i64 y.x) := H7.out.2.q7.cell 3; have r4 : w7.cell? ⟨b7, 4, none⟩ = some (.int .i64 y.m) := H7.out.2.q7.cell 4; have u0 : w7.cell? ⟨b8, 0, none⟩ = some (.int .i64 t.k) := H7.out.2.q8.cell 0; have u1 : w7.cell? ⟨b8, 1, none⟩ = some (.string t.t) := H7.out.2.q8.cell 1; have u2 : w7.cell? ⟨b8, 2, none⟩ = some (.string t.y) := H7.out.2.q8.cell 2; have u3 : w7.cell? ⟨b8, 3, none⟩ = some (.int .i64 y.m) := H7.out.2.q8.cell 3; have g0 : w7.cell? ⟨b, 0, none⟩ = some (.int .i64 t.k) := H7.out.1.q.cell 0; have g1 : w7.cell? ⟨b, 1, none⟩ = some (.string t.t) := H7.out.1.q.cell 1; have g2 : w7.cell? ⟨b, 2, none⟩ = some (.string t.y) := H7.out.1.q.cell 2; clear hb)
          go_roundg r.length
          case measure => have := hg0.out; simp at this; omega
          case rel => exact ⟨D', A, m, c, dn ++ [y], H, r, out, rfl, by simp only [List.length_append, List.length_cons, List.length_nil]; rw [← HA.out.1]; go_num, rfl, by have := HA.out.2.2.1; simpa using this, by have := HA.out.2.2.2; simp only [List.length_append, List.length_cons, List.length_nil] at this ⊢; omega, by rw [HA.out.2.1, HI.out], by rw [List.append_assoc]; exact H7.out.1⟩
        | true =>
          have HI := Lib.hid (sweep_take (t := t) (done := dn) (H := H) (r := r) (y := y) HY.out.1 hc)
          have HCAN := Lib.hid (show canL H ((dn ++ y :: r).take k) ⟨t, y.x, y.m⟩ = true by rw [HTK.out, HY.out.2, hc])
          clear hc
          go_upto_region 10 with (first | (go_at_call 39; refine ((rcan_any H6.out.1.r HLN.out.1 HLN.out.2.1 ⟨t, y.x, y.m⟩ k HLN.out.2.2.1).to (congrArg Value.bool HCAN.out)).mono ?_; rintro e w7 ⟨rfl, hb⟩; have H7 := Lib.hid (And.intro (H6.out.1.below hb) (H6.out.2.below hb)); have r0 : w7.cell? ⟨b7, 0, none⟩ = some (.int .i64 y.th.k) := H7.out.2.q7.cell 0; have r1 : w7.cell? ⟨b7, 1, none⟩ = some (.string y.th.t) := H7.out.2.q7.cell 1; have r2 : w7.cell? ⟨b7, 2, none⟩ = some (.string y.th.y) := H7.out.2.q7.cell 2; have r3 : w7.cell? ⟨b7, 3, none⟩ = some (.int .i64 y.x) := H7.out.2.q7.cell 3; have r4 : w7.cell? ⟨b7, 4, none⟩ = some (.int .i64 y.m) := H7.out.2.q7.cell 4; have u0 : w7.cell? ⟨b8, 0, none⟩ = some (.int .i64 t.k) := H7.out.2.q8.cell 0; have u1 : w7.cell? ⟨b8, 1, none⟩ = some (.string t.t) := H7.out.2.q8.cell 1; have u2 : w7.cell? ⟨b8, 2, none⟩ = some (.string t.y) := H7.out.2.q8.cell 2; have u3 : w7.cell? ⟨b8, 3, none⟩ = some (.int .i64 y.m) := H7.out.2.q8.cell 3; have g0 : w7.cell? ⟨b, 0, none⟩ = some (.int .i64 t.k) := H7.out.1.q.cell 0; have g1 : w7.cell? ⟨b, 1, none⟩ = some (.string t.t) := H7.out.1.q.cell 1; have g2 : w7.cell? ⟨b, 2, none⟩ = some (.string t.y) := H7.out.1.q.cell 2; clear hb) | (go_at_call 45; refine (rdrop_any H7.out.1.r HLN.out.2.2.2.1 (Nat.le_trans HN.out.2.1 H7.out.1.size) k HLN.out.2.2.2.2.1).mono ?_; rintro e w8 ⟨rfl, hto⟩; have hto2 : RkTo B tb D' w7 ⟨H, dn ++ r⟩ w8 := (by rw [← HE.out]; exact hto); have H8 := Lib.hid (And.intro (H7.out.1.step hto2) (H7.out.2.step hto2)); have r0 : w8.cell? ⟨b7, 0, none⟩ = some (.int .i64 y.th.k) := H8.out.2.q7.cell 0; have r1 : w8.cell? ⟨b7, 1, none⟩ = some (.string y.th.t) := H8.out.2.q7.cell 1; have r2 : w8.cell? ⟨b7, 2, none⟩ = some (.string y.th.y) := H8.out.2.q7.cell 2; have r3 : w8.cell? ⟨b7, 3, none⟩ = some (.int .i64 y.x) := H8.out.2.q7.cell 3; have r4 : w8.cell? ⟨b7, 4, none⟩ = some (.int .i64 y.m) := H8.out.2.q7.cell 4; have u0 : w8.cell? ⟨b8, 0, none⟩ = some (.int .i64 t.k) := H8.out.2.q8.cell 0; have u1 : w8.cell? ⟨b8, 1, none⟩ = some (.string t.t) := H8.out.2.q8.cell 1; have u2 : w8.cell? ⟨b8, 2, none⟩ = some (.string t.y) := H8.out.2.q8.cell 2; have u3 : w8.cell? ⟨b8, 3, none⟩ = some (.int .i64 y.m) := H8.out.2.q8.cell 3; have g0 : w8.cell? ⟨b, 0, none⟩ = some (.int .i64 t.k) := H8.out.1.q.cell 0; have g1 : w8.cell? ⟨b, 1, none⟩ = some (.string t.t) := H8.out.1.q.cell 1; have g2 : w8.cell? ⟨b, 2, none⟩ = some (.string t.y) := H8.out.1.q.cell 2; clear hto hto2) | (go_at_call 40; refine (rgive_any H8.out.1.r HLN.out.1 (Nat.le_trans HN.out.2.1 H8.out.1.size) ⟨t, y.x, y.m⟩).mono ?_; rintro e w9 ⟨rfl, hto⟩; have H9 := Lib.hid (And.intro (H8.out.1.step hto) (H8.out.2.step hto)); have r0 : w9.cell? ⟨b7, 0, none⟩ = some (.int .i64 y.th.k) := H9.out.2.q7.cell 0; have r1 : w9.cell? ⟨b7, 1, none⟩ = some (.string y.th.t) := H9.out.2.q7.cell 1; have r2 : w9.cell? ⟨b7, 2, none⟩ = some (.string y.th.y) := H9.out.2.q7.cell 2; have r3 : w9.cell? ⟨b7, 3, none⟩ = some (.int .i64 y.x) := H9.out.2.q7.cell 3; have r4 : w9.cell? ⟨b7, 4, none⟩ = some (.int .i64 y.m) := H9.out.2.q7.cell 4; have u0 : w9.cell? ⟨b8, 0, none⟩ = some (.int .i64 t.k) := H9.out.2.q8.cell 0; have u1 : w9.cell? ⟨b8, 1, none⟩ = some (.string t.t) := H9.out.2.q8.cell 1; have u2 : w9.cell? ⟨b8, 2, none⟩ = some (.string t.y) := H9.out.2.q8.cell 2; have u3 : w9.cell? ⟨b8, 3, none⟩ = some (.int .i64 y.m) := H9.out.2.q8.cell 3; have g0 : w9.cell? ⟨b, 0, none⟩ = some (.int .i64 t.k) := H9.out.1.q.cell 0; have g1 : w9.cell? ⟨b, 1, none⟩ = some (.string t.t) := H9.out.1.q.cell 1; have g2 : w9.cell? ⟨b, 2, none⟩ = some (.string t.y) := H9.out.1.q.cell 2; clear hto))
          obtain ⟨w10, hw10⟩ : ∃ w10, w10 = w9.alloc (.cells #[.int .i64 y.x] 3) := ⟨_, rfl⟩
          have hb10 : Below w9.heap.size w9 w10 := by rw [hw10]; exact (Below.refl _ w9).alloc (Nat.le_refl _) _
          have hnew : ∀ j u, ([.int .i64 y.x] : List Value)[j]? = some u → w10.cell? ((⟨w9.heap.size, 0, none⟩ : Addr).add j) = some u := by rw [hw10]; exact World.news_of_block (heap_alloc_new w9 _)
          have H10 := Lib.hid (And.intro (H9.out.1.below hb10) hnew)
          have HW10 := Lib.hid hw10
          have hmm := HLN.out.2.2.2.2.2
          clear hb10 hnew hw10
          go_wp2_with (at_builtin; refine wpList_append_row rfl _ _ 41 rfl w.heap.size 3 i0 (.int .i64 0) 1 8 Tryz.underlying41 hi hz0 hz1 hz2 rfl (by decide) _ m _ (by rw [← HW10.out]; exact H10.out.1.own) (by rfl) (some ⟨w9.heap.size, 0, none⟩) 1 1 [.int .i64 y.x] (by rfl) rfl (fun h => by cases h) (fun ad' had => by cases had; rw [← HW10.out]; exact H10.out.2) (fun u hu => by simp at hu; subst hu; rfl) (by first | (simp [maxLen]; done) | (simp [maxLen]; omega)) (by omega) (by rw [← HW10.out]; exact H10.out.1.size) ?_; intro A11 c11 w11 hR11; rw [← HW10.out] at hR11; have H11 := Lib.hid (H10.out.1.push hR11 rfl); clear hR11)
          go_roundg r.length
          case measure => have := hg0.out; simp at this; omega
          case rel =>
            have hyx : giveL ⟨t, y.x, y.m⟩ H = giveL y H := by rw [HY.out.2]
            refine ⟨_, A11, m + 1, c11, dn, giveL y H, r, out ++ [y.x], rfl, by rw [HA.out.1], rfl, ?_, ?_, by rw [HA.out.2.1, HI.out]; simp, by rw [← hyx]; exact H11.out⟩
            · have h1 := HA.out.2.2.1
              have h2 := giveL_len y H
              unfold szL at h1 ⊢
              simp only [List.length_append, List.length_cons] at h1 ⊢
              omega
            · have h1 := HA.out.2.2.2
              simp only [List.length_append, List.length_cons, List.length_nil] at h1 ⊢
              omega
end Go.Proofs.YthbbheegkhlniaaGreat

/-
  The document's locks: Cancel.
-/
namespace Go.Proofs.YthbbheegkhlniaaGreat
open Go.RowKit Go.Lib

theorem IntsRet.lower {w w2 w' : World} {xs : List Int} {v : Value} (h : IntsRet w2 xs w' v) (hs : w.heap.size ≤ w2.heap.size) : IntsRet w xs w' v := by
  obtain ⟨A, n, c, e, hn, ho⟩ := h
  exact ⟨A, n, c, e, hn, own_to_lt ho hs⟩
theorem intsRet_nil (w w' : World) : IntsRet w [] w' (.slice none 0 0) := ⟨none, 0, 0, rfl, rfl, World.ownsRow_nil _ _ _ _⟩
theorem cutW_step {x : Int} {W : List Od} {k : Nat} (hk : k < W.length) : cutW x (W.drop k) = if W[k].x = x then W.drop (k + 1) else W[k] :: cutW x (W.drop (k + 1)) := by
  rw [List.drop_eq_getElem_cons hk, cutW]
/-- which one waits, and where -/
def Found (W : List Od) (x : Int) (k : Nat) (o : Od) : Prop := ∃ hk : k < W.length, W[k] = o ∧ o.x = x ∧ waitL W x = some o ∧ cutW x W = W.take k ++ W.drop (k + 1)
set_option maxRecDepth 100000 in
set_option maxHeartbeats 12800000 in
theorem rcancel_any {B tb : Nat} {D : Nat → Prop} {w : World} {l : Lk} (h : RkV B D w tb l) (hl : szL l ≤ 700000) (hB : B ≤ w.heap.size) (x : Int) :
    Calls Tryz.prog 11 #[.pointer (some ⟨tb, 0, none⟩), .int .i64 x] w fun r w' => ∃ v, r = .returned v ∧ IntsRet w (cancelL l x).2 w' v ∧ RkTo B tb D w (cancelL l x).1 w' := by
  have HV := Lib.hid h
  obtain ⟨A, n, c, A', n', c', hX⟩ := h
  have hsz := hl
  unfold szL at hsz
  have hn' : n' ≤ 700000 := by rw [hX.wn]; omega
  have hn0' : (0 : Int) ≤ (n' : Int) := Int.natCast_nonneg _
  have c1 := hX.c1
  have HX := Lib.hid hX
  have HN := Lib.hid (And.intro hX.wn (And.intro hB (And.intro hl (fun (q : Nat) (hq : D q) => hX.foot q hq))))
  clear hX hl hB hsz
  go_enter Tryz.func11, Tryz.ntmps11
  go_wp2_with fail
  go_loop [5] (fun i => ∃ k : Nat, k ≤ n' ∧ i = .int .i64 k ∧ waitL (l.W.drop k) x = waitL l.W x ∧ cutW x l.W = l.W.take k ++ cutW x (l.W.drop k)) (fun i => n' - (intOf i).toNat)
  case atStart => exact ⟨0, Nat.zero_le _, rfl, by rw [List.drop_zero], by rw [List.drop_zero]; rfl⟩
  case round =>
    obtain ⟨k, hk, rfl, hat, hcut⟩ := hrel
    have hk0 : (0 : Int) ≤ (k : Int) := Int.natCast_nonneg _
    have HAT := Lib.hid (And.intro hat hcut)
    clear hat hcut
    by_cases hlt : k < n'
    · have hlt1 : (k : Int) < (n' : Int) := by omega
      have hkl : k < l.W.length := by rw [← HN.out.1]; exact hlt
      obtain ⟨ad, rfl, _, d0, d1, d2, d3, d4, _⟩ := od_at HX.out.wg hkl
      have hst := waitL_step (x := x) hkl
      have hct := cutW_step (x := x) hkl
      obtain ⟨y, hy⟩ : ∃ y, y = l.W[k] := ⟨_, rfl⟩
      rw [← hy] at d0 d1 d2 d3 d4 hst hct
      have HST := Lib.hid (And.intro hst (And.intro hct hy))
      clear hst hct hy
      by_cases h2 : y.x = x
      · have hxd : (y.x == x) = true := by simp [h2]
        have HF := Lib.hid (show waitL l.W x = some y ∧ cutW x l.W = l.W.take k ++ l.W.drop (k + 1) by
          refine ⟨by rw [← HAT.out.1, HST.out.1, if_pos h2], by rw [HAT.out.2, HST.out.2.1, if_pos h2]⟩)
        have HRES := Lib.hid (show cancelL l x = sweepL ⟨l.H, l.W.take k ++ l.W.drop (k + 1)⟩ y.th by unfold cancelL; rw [HF.out.1]; simp only; rw [HF.out.2])
        clear h2
        go_upto_region 6 with fail
        obtain ⟨w3, hw3⟩ : ∃ w3, w3 = w.alloc (.cells #[.int .i64 y.th.k, .string y.th.t, .string y.th.y] 32) := ⟨_, rfl⟩
        obtain ⟨b, hb⟩ : ∃ b, b = w.heap.size := ⟨_, rfl⟩
        rw [← hw3, ← hb]
        obtain ⟨hT, hB3⟩ := tg_new w y.th
        rw [← hw3] at hT hB3
        rw [← hb] at hT
        have hbl : Blk w3 b 32 #[.int .i64 y.th.k, .string y.th.t, .string y.th.y] := by rw [hw3, hb]; exact Blk.new _ _ _
        have H3 := Lib.hid (And.intro (HV.out.below hB3) (And.intro hB3 (And.intro hbl (show ¬ D b from fun hd => by have := (HN.out.2.2.2 b hd).2; omega))))
        clear c1 d0 d1 d2 d3 d4 hT hB3 hbl
        have HW3 := Lib.hid (And.intro hw3 hb)
        clear hw3 hb
        go_upto_region 7 with (go_at_call 45; refine (rdrop_any H3.out.1 (by have := HN.out.2.2.1; unfold szL at this; omega) (Nat.le_trans HN.out.2.1 H3.out.2.1.size) k hkl).mono ?_; rintro e w4 ⟨rfl, hto⟩; have hb4 := H3.out.2.2.1.chg hto.2 H3.out.2.2.2; have g0 : w4.cell? ⟨b, 0, none⟩ = some (.int .i64 y.th.k) := hb4.cell 0; have g1 : w4.cell? ⟨b, 1, none⟩ = some (.string y.th.t) := hb4.cell 1; have g2 : w4.cell? ⟨b, 2, none⟩ = some (.string y.th.y) := hb4.cell 2; have H4 := Lib.hid hto; clear hto hb4)
        go_wp2_with (go_at_call 46; refine (rsweep_any H4.out.1 (by have h1 := HN.out.2.2.1; unfold szL at h1 ⊢; simp only [List.length_append, List.length_take, List.length_drop]; omega) (Nat.le_trans (Nat.le_trans HN.out.2.1 H3.out.2.1.size) H4.out.2.size) y.th).mono ?_; rintro e w5 ⟨v5, rfl, hv5, hto⟩; have H5 := Lib.hid (And.intro hv5 hto); clear hv5 hto)
        go_ret
        rw [HRES.out]
        refine ⟨_, rfl, H5.out.1.lower (Nat.le_trans H3.out.2.1.size H4.out.2.size), ?_⟩
        have hf3 : ∀ q, D q → B ≤ q := fun q hq => (HN.out.2.2.2 q hq).1
        exact RkTo.low H3.out.2.1 HN.out.2.2.2 HN.out.2.1 (H4.out.trans H5.out.2 hf3 (Nat.le_trans HN.out.2.1 H3.out.2.1.size))
      · have hxd : (y.x == x) = false := by simp [h2]
        have HF := Lib.hid (show waitL (l.W.drop (k + 1)) x = waitL l.W x ∧ cutW x l.W = l.W.take (k + 1) ++ cutW x (l.W.drop (k + 1)) by
          refine ⟨by rw [← HAT.out.1, HST.out.1, if_neg h2], ?_⟩
          rw [HAT.out.2, HST.out.2.1, if_neg h2, List.take_succ_eq_append_getElem hkl, ← HST.out.2.2, List.append_assoc]
          rfl)
        clear h2
        go_wp2_with fail
        go_round
        case rel => exact ⟨k + 1, by omega, by go_num, HF.out.1, HF.out.2⟩
        case measure => simp [intOf]; omega
    · have hlt1 : ¬ (k : Int) < (n' : Int) := by omega
      have HF := Lib.hid (show cancelL l x = (l, []) by unfold cancelL; rw [← HAT.out.1, List.drop_eq_nil_of_le (by rw [← HN.out.1]; omega)]; rfl)
      go_wp2_with fail
      go_ret
      rw [HF.out]
      exact ⟨_, rfl, intsRet_nil _ _, RkTo.same HV.out (Below.refl _ _) HN.out.2.1⟩
end Go.Proofs.YthbbheegkhlniaaGreat

/-
  The document's comparing of texts (as in layer 8's EOrd).
-/
namespace Go.Proofs.YthbbheegkhlniaaGreat
open Go.RowKit Go.Lib

theorem bytes_getElem (s : ByteArray) (k : Nat) (h : k < s.size) (h' : k < (bytes s).length) : (bytes s)[k] = ((s[k]'h).toNat : Int) := by
  simp only [bytes, List.getElem_map, Array.getElem_toList]
  rfl
theorem str_index (s : ByteArray) (k : Nat) (i : Int) (hi : i = k) (h' : k < (bytes s).length) (w : World) :
    (Instr.index 9 (.string s) (.int .i64 i)).run Tryz.prog w = .ok (.int .u8 ((bytes s)[k])) w := by
  subst hi
  have h : k < s.size := by rw [bytes_len] at h'; exact h'
  rw [run_index_string w 9 s .i64 k Tryz.underlying9]
  rw [dif_pos ⟨Int.natCast_nonneg k, by omega⟩, bytes_getElem s k h h']
  rfl


theorem refCmp_any (a b : Int) (w : World) : Calls Tryz.prog 113 #[.int .i64 a, .int .i64 b] w fun e w' => e = .returned (.int .i64 (cmpI a b)) ∧ w' = w := by
  by_cases h1 : a < b
  · go_enter Tryz.func113, Tryz.ntmps113
    go_wp2
    go_ret
    exact ⟨ret_int (by simp [cmpI, h1]), rfl⟩
  · by_cases h2 : b < a
    · go_enter Tryz.func113, Tryz.ntmps113
      go_wp2
      go_ret
      exact ⟨ret_int (by simp [cmpI, h1, h2]), rfl⟩
    · go_enter Tryz.func113, Tryz.ntmps113
      go_wp2
      go_ret
      exact ⟨ret_int (by unfold cmpI; rw [if_neg (by omega), if_neg (by omega)]), rfl⟩

/-- byte by byte -/
def lexB (a b : List Int) : Int := lexL cmpI a b
theorem lexB_cmpS (s t : ByteArray) : lexB (bytes s) (bytes t) = cmpS s t := by
  unfold lexB cmpS
  rw [compareBytes_lex]
  unfold bytes
  generalize s.data.toList = l
  generalize t.data.toList = m
  induction l generalizing m with
  | nil => cases m <;> rfl
  | cons x l ih =>
    cases m with
    | nil => rfl
    | cons y m =>
      have hc : cmpI (x.toNat : Int) (y.toNat : Int) = cmpU x y := by
        unfold cmpI cmpU
        simp only [UInt8.lt_iff_toNat_lt]
        repeat' split
        all_goals omega
      simp only [List.map_cons, lexL]
      rw [hc, ih m]

def TxRel (s t : ByteArray) (w : World) (i : Value) (wr : World) : Prop :=
  ∃ k d : Nat, k ≤ s.size ∧ k ≤ t.size ∧ i = .int .i64 k ∧ wr = w.drewN d ∧ lexB (bytes s) (bytes t) = lexB ((bytes s).drop k) ((bytes t).drop k)

set_option maxRecDepth 100000 in
set_option maxHeartbeats 3200000 in
theorem refTexts_any (s t : ByteArray) (w : World) (hs : s.size ≤ 30000000000000) (ht : t.size ≤ 30000000000000) :
    Calls Tryz.prog 94 #[.string s, .string t] w fun e w' => e = .returned (.int .i64 (cmpS s t)) ∧ ∃ d, w' = w.drewN d := by
  rw [← lexB_cmpS]
  go_enter Tryz.func94, Tryz.ntmps94
  go_wp2_with fail
  go_loopw [5] (fun i wr => TxRel s t w i wr) (fun i _ => s.size - (intOf i).toNat)
  case atStart => exact ⟨0, 0, by omega, by omega, rfl, rfl, rfl⟩
  case round =>
    obtain ⟨k, d, hk, hk', rfl, hw, hlx⟩ := hrel
    have hk0 : (0 : Int) ≤ (k : Int) := Int.natCast_nonneg _
    have HP := Lib.hid (And.intro hw hlx)
    clear hw hlx
    by_cases h1 : k < s.size
    · have h1i : (k : Int) < (s.size : Int) := by omega
      by_cases h2 : k < t.size
      · have h2i : (k : Int) < (t.size : Int) := by omega
        have hkb : k < (bytes s).length := by rw [bytes_len]; exact h1
        have hkc : k < (bytes t).length := by rw [bytes_len]; exact h2
        have ix := str_index s k k rfl hkb
        have iy := str_index t k k rfl hkc
        obtain ⟨b, hb⟩ : ∃ b, b = (bytes s)[k] := ⟨_, rfl⟩
        obtain ⟨c, hc⟩ : ∃ c, c = (bytes t)[k] := ⟨_, rfl⟩
        rw [← hb] at ix
        rw [← hc] at iy
        have hbb := bytes_is s b (by rw [hb]; exact List.getElem_mem _)
        have hcc := bytes_is t c (by rw [hc]; exact List.getElem_mem _)
        have hstep : lexB ((bytes s).drop k) ((bytes t).drop k) = if cmpI b c ≠ 0 then cmpI b c else lexB ((bytes s).drop (k + 1)) ((bytes t).drop (k + 1)) := by
          rw [List.drop_eq_getElem_cons hkb, List.drop_eq_getElem_cons hkc, ← hb, ← hc]; rfl
        have HS := Lib.hid hstep
        clear hb hc hkb hkc hstep
        by_cases hbc : b = c
        · subst hbc
          have HR := Lib.hid (show ∀ m, TxRel s t w (.int .i64 ((k : Int) + 1)) (wr.drewN m) from fun m => ⟨k + 1, d + m, by omega, by omega, by go_num, by rw [HP.out.1]; exact World.drewN_drewN _ _ _, by rw [HP.out.2, HS.out, if_neg (by simp [good_cmpI.self])]⟩)
          have hne : (b != b) = false := by simp
          go_wp2_with fail
          go_quiet (fail)
          go_wp2
          go_roundw
          case rel => exact HR.out _
          case measure => simp [intOf]; omega
        · have hne : (b != c) = true := by simp [hbc]
          have hd : decide (b = c) = false := by simp [hbc]
          have HR := Lib.hid (show lexB (bytes s) (bytes t) = cmpI b c by rw [HP.out.2, HS.out, if_pos (fun e => hbc ((good_cmpI.zero b c).1 e))])
          have HC := Lib.hid (fun w => refCmp_any b c w)
          have HD : Hid (∀ m, ∃ d, wr.drewN m = w.drewN d) := Lib.hid fun m => ⟨d + m, by rw [HP.out.1]; exact World.drewN_drewN _ _ _⟩
          have hwb : IntKind.i64.wrap b = b := IntWalk.i64_in _ (by omega)
          have hwc : IntKind.i64.wrap c = c := IntWalk.i64_in _ (by omega)
          clear hbc
          go_wp2_with fail
          go_quiet (fail)
          obtain ⟨wq, hwq⟩ : ∃ wq, wq = wr.drewN nq := ⟨_, rfl⟩
          have HD2 : Hid (∀ m, ∃ d, wq.drewN m = w.drewN d) := Lib.hid fun m => by
            rw [hwq]
            obtain ⟨d', h⟩ := HD.out (nq + m)
            exact ⟨d', by rw [← h]; exact World.drewN_drewN _ _ _⟩
          rw [← hwq]
          clear hwq
          go_wp2_with fail
          go_quiet (first | (go_at_call 113; exact Calls.quiet_of_same (HC.out _)))
          go_wp2
          go_ret
          exact ⟨ret_int HR.out.symm, HD2.out _⟩
      · have h2i : ¬ (k : Int) < (t.size : Int) := by omega
        have HR := Lib.hid (show lexB (bytes s) (bytes t) = cmpI (s.size : Int) (t.size : Int) by
          rw [HP.out.2, List.drop_eq_getElem_cons (show k < (bytes s).length by rw [bytes_len]; exact h1), List.drop_eq_nil_of_le (show (bytes t).length ≤ k by rw [bytes_len]; omega)]
          show (1 : Int) = _
          unfold cmpI
          rw [if_neg (by omega), if_pos (by omega)])
        go_wp2_with fail
        refine (refCmp_any _ _ _).mono ?_
        rintro e w3 ⟨rfl, hw3⟩
        obtain rfl : wr = w3 := hw3.symm
        go_wp2
        go_ret
        exact ⟨ret_int HR.out.symm, d, HP.out.1⟩
    · have h1i : ¬ (k : Int) < (s.size : Int) := by omega
      have HR := Lib.hid (show lexB (bytes s) (bytes t) = cmpI (s.size : Int) (t.size : Int) by
        rw [HP.out.2, List.drop_eq_nil_of_le (show (bytes s).length ≤ k by rw [bytes_len]; omega)]
        by_cases h2 : k < t.size
        · rw [List.drop_eq_getElem_cons (show k < (bytes t).length by rw [bytes_len]; exact h2)]
          show (-1 : Int) = _
          unfold cmpI
          rw [if_pos (by omega)]
        · rw [List.drop_eq_nil_of_le (show (bytes t).length ≤ k by rw [bytes_len]; omega)]
          show (0 : Int) = _
          unfold cmpI
          rw [if_neg (by omega), if_neg (by omega)])
      go_wp2_with fail
      refine (refCmp_any _ _ _).mono ?_
      rintro e w3 ⟨rfl, hw3⟩
      obtain rfl : wr = w3 := hw3.symm
      go_wp2
      go_ret
      exact ⟨ret_int HR.out.symm, d, HP.out.1⟩


end Go.Proofs.YthbbheegkhlniaaGreat

/-
  The document's number: a number more in a row.
-/
namespace Go.Proofs.YthbbheegkhlniaaGreat
open Go.RowKit Go.Lib

/-- a row of one's own, made since w0 -/
structure Ow (w0 w : World) (e : TypeId) (s : Nat) (v : Value) (m : Nat) (xs : List Value) : Prop where
  low : Below w0.heap.size w0 w
  own : w.ownsRow w0.heap.size e s v m xs
theorem Ow.below {w0 w w' : World} {e : TypeId} {s m : Nat} {v : Value} {xs : List Value} (h : Ow w0 w e s v m xs) (hb : Below w.heap.size w w') : Ow w0 w' e s v m xs :=
  ⟨h.low.trans (hb.mono h.low.size), own_chg h.own (F := Non) (Chg.of_below hb) fun _ _ hf => hf⟩
theorem Ow.step {w0 w w' : World} {e : TypeId} {s m m2 : Nat} {v v' : Value} {xs ys : List Value} (h : Ow w0 w e s v m xs) (hR : RowTo w0.heap.size e s v w v' m2 ys w') : Ow w0 w' e s v' m2 ys :=
  ⟨h.low.trans (hR.chg.below (fun k hk => (h.own.lt k hk).1) h.low.size), hR.own⟩
theorem Ow.stepA {w0 w w' : World} {e ty : TypeId} {s m m2 : Nat} {v v' : Value} {xs ys : List Value} {cs : Array Value} (h : Ow w0 w e s v m xs) (hR : RowTo w0.heap.size e s v (w.alloc (.cells cs ty)) v' m2 ys w') : Ow w0 w' e s v' m2 ys :=
  (h.below ((Below.refl _ w).alloc (Nat.le_refl _) _)).step hR
theorem Ow.pushI {w0 w w' : World} {m m2 : Nat} {v v' : Value} {xs : List Int} {x : Int} {cs : Array Value} (h : Ow w0 w 3 1 v m (intsV xs)) (hR : RowTo w0.heap.size 3 1 v (w.alloc (.cells cs 3)) v' m2 (intsV xs ++ [.int .i64 x]) w') : Ow w0 w' 3 1 v' m2 (intsV (xs ++ [x])) := by
  rw [show intsV (xs ++ [x]) = intsV xs ++ [.int .i64 x] by simp [intsV]]
  exact h.stepA hR
theorem Ow.new (w : World) (e : TypeId) (s : Nat) : Ow w (w.alloc (.cells #[] e)) e s (.slice (some ⟨w.heap.size, 0, none⟩) 0 0) 0 [] := by
  have h9 := World.ownsRow_lit (base := w.heap.size) (size := s) (e := e) w #[] 0 (Nat.le_refl _) (by simp [maxLen]) (by simp)
  exact ⟨(Below.refl _ w).alloc (Nat.le_refl _) _, h9⟩
theorem intsV_flat (xs : List Int) : intsV xs = xs.flatMap intV := by
  unfold intsV
  induction xs with
  | nil => rfl
  | cons a r ih => simp [intV, ih]
theorem Ow.g {w0 w : World} {A : Option Addr} {m c : Nat} {xs : List Int} (h : Ow w0 w 3 1 (.slice A m c) m (intsV xs)) (hm : m = xs.length) : RowG intV 1 w w.heap.size A xs := by
  have h1 := h.own
  rw [intsV_flat] at h1
  exact RowG.of_rows (fun _ => rfl) h1 hm
theorem putGo_f {α : Type} {lt : α → α → Bool} {t u : α} {r : List α} (h : lt t u = true) : putGo lt t false (u :: r) = t :: u :: putGo lt t true r := by rw [putGo, if_pos h]
theorem putGo_n {α : Type} {lt : α → α → Bool} {t u : α} {r : List α} (h : lt t u = false) : putGo lt t false (u :: r) = u :: putGo lt t false r := by rw [putGo, if_neg (by rw [h]; decide)]
theorem putGo_t {α : Type} {lt : α → α → Bool} {t u : α} {r : List α} : putGo lt t true (u :: r) = u :: putGo lt t true r := by rw [putGo]
/-- a row of numbers is there to be read -/
def IntsRd (w' : World) (xs : List Int) (v : Value) : Prop := ∃ A n c, v = .slice A n c ∧ n = xs.length ∧ n ≤ c ∧ RowG intV 1 w' w'.heap.size A xs
set_option maxRecDepth 100000 in
set_option maxHeartbeats 12800000 in
theorem rnumber_any {B n c : Nat} {A : Option Addr} {w : World} {l : List Int} (h : RowG intV 1 w B A l) (hB : B ≤ w.heap.size) (hn : n = l.length) (hnc : n ≤ c) (hl : l.length ≤ 1000000) (x : Int) :
    Calls Tryz.prog 57 #[.slice A n c, .int .i64 x] w fun r w' => ∃ v, r = .returned v ∧ IntsRd w' (putN l x) v ∧ Below w.heap.size w w' := by
  obtain ⟨i0, hi, hz0, hz1, hz2⟩ := info_parts Tryz.infoint
  obtain ⟨w1, hw1⟩ : ∃ w1, w1 = w.alloc (.cells #[] 3) := ⟨_, rfl⟩
  have hO := Ow.new w 3 1
  rw [← hw1] at hO
  have HW := Lib.hid hw1
  have HO := Lib.hid hO
  have hnn : n ≤ 1000000 := by omega
  have hn0 : (0 : Int) ≤ (n : Int) := Int.natCast_nonneg _
  have H := Lib.hid (And.intro (h.more hB) (And.intro hn hnc))
  clear h hB hn hnc hl hO hw1
  go_enter Tryz.func57, Tryz.ntmps57
  go_upto_region 2 with fail
  rw [← HW.out]
  go_wp2_with fail
  go_loopw [5, 6, 7] (fun ov dv iv wr => ∃ (k m c' : Nat) (A' : Option Addr) (d : Bool) (out : List Int), k ≤ n ∧ iv = .int .i64 k ∧ dv = .bool d ∧ ov = .slice A' m c' ∧ m = out.length ∧ m ≤ 2 * k ∧ (∀ i (hi : i < l.length), i < k → l[i] ≠ x) ∧ putGo (fun a b : Int => decide (a < b)) x false l = out ++ putGo (fun a b : Int => decide (a < b)) x d (l.drop k) ∧ Ow w wr 3 1 (.slice A' m c') m (intsV out)) (fun _ _ iv _ => n - (intOf iv).toNat)
  case atStart => exact ⟨0, 0, 0, _, false, [], Nat.zero_le _, rfl, rfl, rfl, rfl, by omega, fun _ _ h => absurd h (by omega), rfl, HO.out⟩
  case round =>
    obtain ⟨k, m, c', A', d, out, hk, rfl, rfl, rfl, hm, hmk, hno, hat, hOw⟩ := hrel
    have hk0 : (0 : Int) ≤ (k : Int) := Int.natCast_nonneg _
    have HOW := Lib.hid hOw
    have HAT := Lib.hid (And.intro hat (And.intro hno hm))
    clear hOw hat hno hm
    by_cases hlt : k < n
    · have hlt1 : (k : Int) < (n : Int) := by omega
      have hkl : k < l.length := by rw [← H.out.2.1]; exact hlt
      obtain ⟨ad, rfl, _, a0⟩ := int_at (H.out.1.below HOW.out.low (Nat.le_refl _)) hkl
      obtain ⟨y, hy⟩ : ∃ y, y = l[k] := ⟨_, rfl⟩
      rw [← hy] at a0
      have hdr : l.drop k = y :: l.drop (k + 1) := by rw [hy]; exact List.drop_eq_getElem_cons hkl
      have HY := Lib.hid (And.intro hy hdr)
      clear hy hdr
      by_cases he : y = x
      · have q1 : (y == x) = true := by simp [he]
        have HE := Lib.hid he
        clear he
        go_wp2_with fail
        go_ret
        have hin : x ∈ l := by rw [← HE.out, HY.out.1]; exact List.getElem_mem hkl
        refine ⟨_, rfl, ⟨_, _, _, rfl, ?_, H.out.2.2, ?_⟩, HOW.out.low⟩
        · unfold putN putL; rw [if_pos hin]; exact H.out.2.1
        · unfold putN putL; rw [if_pos hin]; exact (H.out.1.below HOW.out.low (Nat.le_refl _)).more HOW.out.low.size
      · have q1 : (y == x) = false := by simp [he]
        have HE := Lib.hid (show ∀ i (hi : i < l.length), i < k + 1 → l[i] ≠ x from fun i hi h => by
          rcases Nat.lt_or_ge i k with h1 | h1
          · exact HAT.out.2.1 i hi h1
          · obtain rfl : i = k := by omega
            rw [← HY.out.1]; exact he)
        clear he
        cases d with
        | true =>
          go_upto_region 11 with fail
          go_wp2_with (at_builtin; refine wpList_append_row rfl _ _ 41 rfl w.heap.size 3 i0 (.int .i64 0) 1 8 Tryz.underlying41 hi hz0 hz1 hz2 rfl (by decide) _ m _ (HOW.out.own.alloc _) (by rfl) (some ⟨wr.heap.size, 0, none⟩) 1 1 [.int .i64 y] (by rfl) rfl (fun h => by cases h) (fun ad' had => by cases had; exact World.news_of_block (Go.heap_alloc_new _ _)) (fun u hu => by simp at hu; subst hu; rfl) (by first | (simp [maxLen]; done) | (simp [maxLen]; omega)) (by omega) (by have := HOW.out.low.size; simp; omega) ?_; intro AX cX wX hRX; have HOX := Lib.hid (HOW.out.pushI hRX); clear hRX)
          go_roundw
          case rel => exact ⟨k + 1, m + 1, cX, AX, true, out ++ [y], by omega, by go_num, rfl, rfl, by rw [HAT.out.2.2]; simp, by omega, HE.out, by rw [HAT.out.1, HY.out.2, putGo_t]; simp, HOX.out⟩
          case measure => simp [intOf]; omega
        | false =>
          by_cases hlt2 : x < y
          · have q2 : decide (x < y) = true := decide_eq_true hlt2
            go_upto_region 10 with (at_builtin; refine wpList_append_row rfl _ _ 41 rfl w.heap.size 3 i0 (.int .i64 0) 1 8 Tryz.underlying41 hi hz0 hz1 hz2 rfl (by decide) _ m _ (HOW.out.own.alloc _) (by rfl) (some ⟨wr.heap.size, 0, none⟩) 1 1 [.int .i64 x] (by rfl) rfl (fun h => by cases h) (fun ad' had => by cases had; exact World.news_of_block (Go.heap_alloc_new _ _)) (fun u hu => by simp at hu; subst hu; rfl) (by first | (simp [maxLen]; done) | (simp [maxLen]; omega)) (by omega) (by have := HOW.out.low.size; simp; omega) ?_; intro AX cX wX hRX; have HOX := Lib.hid (HOW.out.pushI hRX); clear hRX)
            have a1 := H.out.1.below HOX.out.low (Nat.le_refl _)
            obtain ⟨ad2, e2, _, a1⟩ := int_at a1 hkl
            obtain rfl := Option.some.inj e2
            rw [← HY.out.1] at a1
            have HOW2 := HOX
            clear HOX a0 e2
            go_wp2_with (at_builtin; refine wpList_append_row rfl _ _ 41 rfl w.heap.size 3 i0 (.int .i64 0) 1 8 Tryz.underlying41 hi hz0 hz1 hz2 rfl (by decide) _ (m + 1) _ (HOW2.out.own.alloc _) (by rfl) (some ⟨wX.heap.size, 0, none⟩) 1 1 [.int .i64 y] (by rfl) rfl (fun h => by cases h) (fun ad' had => by cases had; exact World.news_of_block (Go.heap_alloc_new _ _)) (fun u hu => by simp at hu; subst hu; rfl) (by first | (simp [maxLen]; done) | (simp [maxLen]; omega)) (by omega) (by have := HOW2.out.low.size; simp; omega) ?_; intro AX cX wX hRX; have HOX := Lib.hid (HOW2.out.pushI hRX); clear hRX)
            go_roundw
            case rel => exact ⟨k + 1, m + 1 + 1, cX, AX, true, out ++ [x] ++ [y], by omega, by go_num, rfl, rfl, by rw [HAT.out.2.2]; simp, by omega, HE.out, by rw [HAT.out.1, HY.out.2, putGo_f (lt := (fun a b : Int => decide (a < b))) q2]; simp, HOX.out⟩
            case measure => simp [intOf]; omega
          · have q2 : decide (x < y) = false := decide_eq_false hlt2
            go_upto_region 11 with fail
            go_wp2_with (at_builtin; refine wpList_append_row rfl _ _ 41 rfl w.heap.size 3 i0 (.int .i64 0) 1 8 Tryz.underlying41 hi hz0 hz1 hz2 rfl (by decide) _ m _ (HOW.out.own.alloc _) (by rfl) (some ⟨wr.heap.size, 0, none⟩) 1 1 [.int .i64 y] (by rfl) rfl (fun h => by cases h) (fun ad' had => by cases had; exact World.news_of_block (Go.heap_alloc_new _ _)) (fun u hu => by simp at hu; subst hu; rfl) (by first | (simp [maxLen]; done) | (simp [maxLen]; omega)) (by omega) (by have := HOW.out.low.size; simp; omega) ?_; intro AX cX wX hRX; have HOX := Lib.hid (HOW.out.pushI hRX); clear hRX)
            go_roundw
            case rel => exact ⟨k + 1, m + 1, cX, AX, false, out ++ [y], by omega, by go_num, rfl, rfl, by rw [HAT.out.2.2]; simp, by omega, HE.out, by rw [HAT.out.1, HY.out.2, putGo_n (lt := (fun a b : Int => decide (a < b))) q2]; simp, HOX.out⟩
            case measure => simp [intOf]; omega
    · have hlt1 : ¬ (k : Int) < (n : Int) := by omega
      have hnil : l.drop k = [] := List.drop_eq_nil_of_le (by rw [← H.out.2.1]; omega)
      have HNI := Lib.hid (show putN l x = putGo (fun a b : Int => decide (a < b)) x false l by
        unfold putN putL
        rw [if_neg]
        intro hin
        obtain ⟨i, hi, e⟩ := List.mem_iff_getElem.1 hin
        exact HAT.out.2.1 i hi (by have := H.out.2.1; omega) e)
      have HNL := Lib.hid hnil
      clear hnil
      cases d with
      | true =>
        go_wp2_with fail
        go_ret
        have e : putN l x = out := by rw [HNI.out, HAT.out.1, HNL.out]; simp [putGo]
        rw [e]
        exact ⟨_, rfl, ⟨_, _, _, rfl, HAT.out.2.2, (own_caps HOW.out.own).1, HOW.out.g HAT.out.2.2⟩, HOW.out.low⟩
      | false =>
        go_wp2_with (at_builtin; refine wpList_append_row rfl _ _ 41 rfl w.heap.size 3 i0 (.int .i64 0) 1 8 Tryz.underlying41 hi hz0 hz1 hz2 rfl (by decide) _ m _ (HOW.out.own.alloc _) (by rfl) (some ⟨wr.heap.size, 0, none⟩) 1 1 [.int .i64 x] (by rfl) rfl (fun h => by cases h) (fun ad' had => by cases had; exact World.news_of_block (Go.heap_alloc_new _ _)) (fun u hu => by simp at hu; subst hu; rfl) (by first | (simp [maxLen]; done) | (simp [maxLen]; omega)) (by omega) (by have := HOW.out.low.size; simp; omega) ?_; intro AX cX wX hRX; have HOX := Lib.hid (HOW.out.pushI hRX); clear hRX)
        go_ret
        have e : putN l x = out ++ [x] := by rw [HNI.out, HAT.out.1, HNL.out]; simp [putGo]
        rw [e]
        have hm2 : m + 1 = (out ++ [x]).length := by rw [HAT.out.2.2]; simp
        exact ⟨_, rfl, ⟨_, _, _, rfl, hm2, (own_caps HOX.out.own).1, HOX.out.g hm2⟩, HOX.out.low⟩
end Go.Proofs.YthbbheegkhlniaaGreat
