/-
  TimerCalls over a contract of the timers.
-/
import Derived.Test.YtcjhkafdfeopfaaTmN
import Derived.Deep.CutBlock
namespace Go.Proofs.Ytcjhkafdfeopfaa
open Go.RowKit Go.Lib

theorem RmV.made {B : Nat} (w : World) (hB : B ≤ w.heap.size) : RmV B (fun k => k = w.heap.size) (w.alloc (.cells #[.slice none 0 0] 29)) w.heap.size [] :=
  ⟨none, 0, 0, Blk.new _ _ _, rfl, ⟨Nat.le_refl _, by simp [maxLen]⟩, fun _ => rfl, ⟨fun h => by simp at h, fun i hi => by simp at hi⟩, fun ad ha => (by cases ha), rfl, fun k hk => (by subst hk; exact ⟨hB, by simp⟩)⟩
/-- both timers, and the call's block beside them -/
structure Tz (T : TmP) (w0 w : World) (tb rb : Nat) (D E : Nat → Prop) (l m : List On) (b : Nat) (x : C9) : Prop where
  q : Tq T w0 w tb rb D E l m
  blk : Blk w b 31 #[.int .i64 x.what, .int .i64 x.id, .int .i64 x.at_]
  nd : ¬ D b
  ne : ¬ E b
section
variable {T : TmP} (I : Impl T) {w0 w w' : World} {tb rb b : Nat} {D E : Nat → Prop} {l m l' m' : List On} {x : C9}
theorem Tz.cells (h : Tz T w0 w tb rb D E l m b x) : w.cell? ⟨b, 0, none⟩ = some (.int .i64 x.what) ∧ w.cell? ⟨b, 1, none⟩ = some (.int .i64 x.id) ∧ w.cell? ⟨b, 2, none⟩ = some (.int .i64 x.at_) := ⟨h.blk.cell 0, h.blk.cell 1, h.blk.cell 2⟩
include I
theorem Tq.made (h : Tq T w0 w tb rb D E l m) (x : C9) : Tz T w0 (w.alloc (.cells #[.int .i64 x.what, .int .i64 x.id, .int .i64 x.at_] 31)) tb rb D E l m w.heap.size x :=
  ⟨h.below I ((Below.refl _ _).alloc (Nat.le_refl _) _), Blk.new _ _ _, fun hf => absurd (I.foot h.t hf).2 (Nat.lt_irrefl _), fun hf => absurd (h.r.foot hf).2 (Nat.lt_irrefl _)⟩
theorem Tz.below (h : Tz T w0 w tb rb D E l m b x) (hb : Below w.heap.size w w') : Tz T w0 w' tb rb D E l m b x := ⟨h.q.below I hb, h.blk.below hb h.blk.lt, h.nd, h.ne⟩
theorem Tz.drew (h : Tz T w0 w tb rb D E l m b x) : Tz T w0 w.drew tb rb D E l m b x := h.below I ⟨rfl, rfl, rfl, Nat.le_refl _, fun _ _ => rfl⟩
theorem Tz.stepT (h : Tz T w0 w tb rb D E l m b x) (ht : T w0.heap.size (Ext D w w') w' tb l') (hc : Chg D w w') : Tz T w0 w' tb rb (Ext D w w') E l' m b x :=
  ⟨h.q.stepT I ht hc, h.blk.chg hc h.nd, fun hk => hk.elim h.nd fun hf => (by have := h.blk.lt; omega), h.ne⟩
theorem Tz.stepR (h : Tz T w0 w tb rb D E l m b x) (hr : RmTo w0.heap.size rb E w m' w') : Tz T w0 w' tb rb D (Ext E w w') l m' b x :=
  ⟨h.q.stepR I hr, h.blk.chg hr.2 h.ne, h.nd, fun hk => hk.elim h.ne fun hf => (by have := h.blk.lt; omega)⟩
end
/-- calls told so far -/
def TcRel (T : TmP) (w0 : World) (tb rb n : Nat) (i : Value) (wr : World) : Prop :=
  ∃ (k : Nat) (D E : Nat → Prop) (l : List On), k ≤ n ∧ i = .int .i64 k ∧ Tq T w0 wr tb rb D E l l ∧ l.length ≤ k ∧ NumL l
def TcIn (T : TmP) (w0 : World) (tb rb k : Nat) (wr : World) : Prop := ∃ (D E : Nat → Prop) (l : List On), Tq T w0 wr tb rb D E l l ∧ l.length ≤ k ∧ NumL l
theorem dropO_len2 (id : Int) (l : List On) : (dropO id l).length ≤ l.length := (dropO_sub id l).length_le
theorem NumL.drop {l : List On} (h : NumL l) (id : Int) : NumL (dropO id l) := fun y hy => h y ((dropO_sub id l).subset hy)
theorem row_keep {T : TmP} {w0 w w7 wb : World} {tb rb b : Nat} {D E : Nat → Prop} {l m m' : List On} {x : C9} {e : TypeId} {s n : Nat} {v : Value} {xs : List Value} (h : w.ownsRow wb.heap.size e s v n xs) (_ : Tz T w0 w tb rb D E l m b x) (hr : RmTo w0.heap.size rb E w m' w7) (hE : ∀ k, E k → k < wb.heap.size) : w7.ownsRow wb.heap.size e s v n xs :=
  own_chg h hr.2 fun k hk he => by have := (h.lt k hk).1; have := hE k he; omega
theorem tm_two (o : Option Int) : ∃ v q, tmRes o = .tuple #[.int .i64 v, .bool q] := by cases o <;> exact ⟨_, _, rfl⟩
set_option maxRecDepth 100000 in
set_option maxHeartbeats 12800000 in
theorem tcalls_walk {T : TmP} (I : Impl T) (A : Option Addr) (c : Nat) (cl : List C9) (w : World) (hc : RowG c9cell 3 w w.heap.size A cl) (hin : ∀ x ∈ cl, x.In) :
    Calls Try.prog 3 #[.slice A cl.length c] w (YesB w) := by
  obtain ⟨n, hn⟩ : ∃ n, n = cl.length := ⟨_, rfl⟩
  have H := Lib.hid (And.intro hc (And.intro hin hn))
  rw [← hn]
  have hn0 : (0 : Int) ≤ (n : Int) := Int.natCast_nonneg _
  clear hc hin hn
  go_enter Try.func3, Try.ntmps3
  go_wp2_with fail
  refine (alive9_any I w).mono ?_
  rintro e w1 ⟨rfl, h1⟩
  have H1 := Lib.hid h1
  clear h1
  by_cases hg : 200 < n
  · have g1 : (200 : Int) < (n : Int) := by omega
    go_wp2_with fail
    go_ret
    exact ⟨rfl, H1.out⟩
  have g1 : ¬ (200 : Int) < (n : Int) := by omega
  go_wp2_with fail
  refine (I.new w1 w.heap.size H1.out.size).mono ?_
  rintro e w2 ⟨tb, D, rfl, ht2, _, hb2⟩
  have hlow2 := H1.out.trans (hb2.mono H1.out.size)
  obtain ⟨w3, hw3⟩ : ∃ w3, w3 = w2.alloc (.cells #[.slice none 0 0] 29) := ⟨_, rfl⟩
  have hb3 : Below w2.heap.size w2 w3 := by rw [hw3]; exact (Below.refl _ w2).alloc (Nat.le_refl _) _
  have hr3 := RmV.made (B := w.heap.size) w2 hlow2.size
  rw [← hw3] at hr3
  have H3 := Lib.hid (show TcRel T w tb w2.heap.size n (.int .i64 0) w3 from
    ⟨0, D, _, [], Nat.zero_le _, rfl, ⟨I.below ht2 hb3, hr3, fun k hk he => by subst he; exact absurd (I.foot ht2 hk).2 (Nat.lt_irrefl _), hlow2.trans (hb3.mono hlow2.size)⟩, Nat.le_refl _, NumL.nil⟩)
  have HW3 := Lib.hid hw3
  clear ht2 hb2 hlow2 hw3 hb3 hr3
  go_wp2_with fail
  rw [← HW3.out]
  obtain ⟨rb, hrb⟩ : ∃ rb, rb = w2.heap.size := ⟨_, rfl⟩
  rw [← hrb] at H3 ⊢
  clear hrb HW3
  go_loopw [5] (fun i wr => TcRel T w tb rb n i wr) (fun i _ => n - (intOf i).toNat)
  case atStart => exact H3.out
  case round =>
    obtain ⟨k, D, E, l, hk, rfl, hT, hl, hN⟩ := hrel
    have hk0 : (0 : Int) ≤ (k : Int) := Int.natCast_nonneg _
    have HR := Lib.hid (And.intro hT (And.intro hl hN))
    clear hT hl hN
    by_cases hlt : k < n
    · have hlt1 : (k : Int) < (n : Int) := by omega
      have hkl : k < cl.length := by rw [← H.out.2.2]; exact hlt
      obtain ⟨ad, rfl, _, d0, d1, d2⟩ := (H.out.1.below HR.out.1.low (Nat.le_refl _)).c9 hkl
      obtain ⟨x, hx⟩ : ∃ x, x = cl[k] := ⟨_, rfl⟩
      rw [← hx] at d0 d1 d2
      have HX := Lib.hid (show x.In by rw [hx]; exact H.out.2.1 _ (List.getElem_mem hkl))
      obtain ⟨w5, hw5⟩ : ∃ w5, w5 = wr.alloc (.cells #[.int .i64 x.what, .int .i64 x.id, .int .i64 x.at_] 31) := ⟨_, rfl⟩
      have HZ := Lib.hid (HR.out.1.made I x)
      rw [← hw5] at HZ
      obtain ⟨eb, heb⟩ : ∃ eb, eb = wr.heap.size := ⟨_, rfl⟩
      rw [← heb] at HZ
      have HW5 := Lib.hid (And.intro hw5 heb)
      have hlb : l.length ≤ 900000 := by have := HR.out.2.1; omega
      clear hx
      go_upto_region 11 with fail
      rw [← hw5, ← heb]
      obtain ⟨c0, c1, c2⟩ := HZ.out.cells
      clear d0 d1 d2 hw5 heb
      go_upto_block 2 with fail
      go_cut [] (fun wx => TcIn T w tb rb (k + 1) wx)
      case first =>
        by_cases h0 : x.what = 0
        · have b0 : (x.what == 0) = true := by simp [h0]
          have HSET := Lib.hid (I.set x.id x.at_ HZ.out.q.t hlb HZ.out.q.low.size HX.out.1 HX.out.2)
          clear h0
          go_wp2_with fail
          refine HSET.out.mono ?_
          rintro e w6 ⟨rfl, ht6, hc6⟩
          have H6 := Lib.hid (HZ.out.stepT I ht6 hc6)
          have HRS := Lib.hid (rset_any H6.out.q.r hlb H6.out.q.low.size x.id x.at_)
          obtain ⟨e0, e1, e2⟩ := H6.out.cells
          clear ht6 hc6 HSET
          go_wp2_with fail
          refine HRS.out.mono ?_
          rintro e w7 ⟨rfl, hr7⟩
          have H7 := Lib.hid (H6.out.stepR I hr7)
          have HF := Lib.hid (show TcIn T w tb rb (k + 1) w7 from ⟨_, _, _, H7.out.q, by have := setO_len ⟨x.id, x.at_⟩ l; have := HR.out.2.1; omega, HR.out.2.2.set (I.ok HR.out.1.t) HX.out⟩)
          clear hr7 HRS
          go_wp2_with fail
          go_meet
          exact HF.out
        have b0 : (x.what == 0) = false := by simp [h0]
        by_cases h1 : x.what = 1
        · have b1 : (x.what == 1) = true := by simp [h1]
          have HZD := Lib.hid (HZ.out.drew I)
          obtain ⟨bq, hbq⟩ : ∃ bq, bq = (atO x.id l).isSome := ⟨_, rfl⟩
          have hd := I.drop x.id HZD.out.q.t hlb HZD.out.q.low.size HX.out.1
          rw [← hbq] at hd
          have HDR := Lib.hid hd
          have HBQ := Lib.hid hbq
          have hbb : (bq != bq) = false := by cases bq <;> rfl
          clear h0 h1 hd hbq
          go_upto_region 16 with fail
          go_region_held3 (fun w' => w'.cell? ⟨eb, 1, none⟩ = some (.int .i64 x.id))
            (first
              | exact H7.out.cells.2.1
              | exact H6.out.cells.2.1
              | exact c1
              | exact ‹_›)
            (first
              | (go_at_call 11; refine HDR.out.mono ?_; rintro e w6 ⟨rfl, ht6, hc6⟩; have H6 := Lib.hid (HZD.out.stepT I ht6 hc6); clear ht6 hc6)
              | (go_at_call 12; refine (rdrop_any H6.out.q.r (Nat.le_trans hlb (by decide)) H6.out.q.low.size x.id).mono ?_; rw [← HBQ.out]; rintro e w7 ⟨rfl, hr7⟩; have H7 := Lib.hid (H6.out.stepR I hr7); clear hr7))
          all_goals
            have HF := Lib.hid (show TcIn T w tb rb (k + 1) _ from ⟨_, _, _, H7.out.q, by have := dropO_len2 x.id l; have := HR.out.2.1; omega, HR.out.2.2.drop x.id⟩)
            go_wp2_with fail
            go_meet
            exact HF.out
        have b1 : (x.what == 1) = false := by simp [h1]
        by_cases h2 : x.what = 2
        · have b2 : (x.what == 2) = true := by simp [h2]
          have hat := I.at_ x.id HZ.out.q.t hlb HX.out.1
          obtain ⟨v, q, hvq⟩ := tm_two (atO x.id l)
          rw [hvq] at hat
          have HAT := Lib.hid hat
          have HVQ := Lib.hid hvq
          have hvv : (v != v) = false := by simp
          have hqq : (q != q) = false := by cases q <;> rfl
          clear h0 h1 h2 hat hvq
          go_wp2_with fail
          refine HAT.out.mono ?_
          rintro e w6 ⟨rfl, hb6⟩
          have H6 := Lib.hid (HZ.out.below I hb6)
          have hra := rat_any H6.out.q.r (Nat.le_trans hlb (by decide)) x.id
          rw [HVQ.out] at hra
          have HRA := Lib.hid hra
          obtain ⟨e0, e1, e2⟩ := H6.out.cells
          clear hb6 HAT hra
          go_wp2_with fail
          refine HRA.out.mono ?_
          rintro e w7 ⟨rfl, rfl⟩
          clear HRA
          have HF := Lib.hid (show TcIn T w tb rb (k + 1) w7 from ⟨_, _, _, H6.out.q, by have := HR.out.2.1; omega, HR.out.2.2⟩)
          go_wp2_with fail
          go_meet
          exact HF.out
        have b2 : (x.what == 2) = false := by simp [h2]
        by_cases h3 : x.what = 3
        · have b3 : (x.what == 3) = true := by simp [h3]
          have HZD := Lib.hid (HZ.out.drew I)
          have HDU := Lib.hid (I.due x.at_ HZD.out.q.t hlb HZD.out.q.low.size HX.out.2)
          clear h0 h1 h2 h3
          go_upto_region 24 with fail
          go_region_held3 (fun w' => w'.cell? ⟨eb, 2, none⟩ = some (.int .i64 x.at_))
            (first
              | exact H8.out.2
              | exact H7.out.1.cells.2.2
              | exact H6.out.1.cells.2.2
              | exact c2
              | exact ‹_›)
            (first
              | (go_at_call 16; refine HDU.out.mono ?_; rintro e w6 ⟨A6, n6, q6, rfl, hn6, ho6, ht6, hc6⟩; have H6 := Lib.hid (And.intro (HZD.out.stepT I ht6 hc6) (And.intro hn6 ho6)); clear hn6 ho6 ht6 hc6)
              | (go_at_call 17; refine (rdue_any H6.out.1.q.r hlb x.at_).mono ?_; rintro e w7 ⟨A7, n7, q7, rfl, hn7, ho7, hr7⟩; have H7 := Lib.hid (And.intro (H6.out.1.stepR I hr7) (And.intro hn7 (And.intro ho7 (row_keep H6.out.2.2 H6.out.1 hr7 (fun q hq => (HZD.out.q.r.foot hq).2))))); clear hn7 ho7 hr7)
              | (go_at_call 15; refine (sameI_yes (l := (dueO x.at_ l).map fun y => y.i) (by rw [List.length_map]; exact H6.out.2.1) (by rw [List.length_map]; exact H7.out.2.1) (ids_row H7.out.2.2.2 H6.out.2.1) (ids_row H7.out.2.2.1 H7.out.2.1) (by rw [List.length_map]; have := (List.takeWhile_sublist (l := l) (fun a => decide (a.t ≤ x.at_))).length_le; unfold dueO; omega)).mono ?_; rintro e w8 ⟨rfl, hb8⟩; have H8 := Lib.hid (And.intro (H7.out.1.below I hb8) (H7.out.1.below I hb8).cells.2.2); clear hb8))
          all_goals
            have HF := Lib.hid (show TcIn T w tb rb (k + 1) _ from ⟨_, _, _, H8.out.1.q, by have := restO_len x.at_ l; have := HR.out.2.1; omega, HR.out.2.2.rest x.at_⟩)
            go_wp2_with fail
            go_meet
            exact HF.out
        have b3 : (x.what == 3) = false := by simp [h3]
        have HF := Lib.hid (show TcIn T w tb rb (k + 1) w5 from ⟨_, _, _, HZ.out.q, by have := HR.out.2.1; omega, HR.out.2.2⟩)
        clear h0 h1 h2 h3
        go_wp2_with fail
        go_meet
        exact HF.out
      case rest =>
        obtain ⟨D6, E6, l6, hT6, hl6, hN6⟩ := hcut
        have H6 := Lib.hid (And.intro hT6 (And.intro hl6 hN6))
        have hl6b : l6.length ≤ 900000 := by omega
        have HNX := Lib.hid (I.next hT6.t hl6b)
        obtain ⟨v, q, hvq⟩ := tm_two (nextO l6)
        rw [hvq] at HNX
        have HVQ := Lib.hid hvq
        clear hT6 hl6 hN6 hvq
        go_wp2_with fail
        refine HNX.out.mono ?_
        rintro e w7 ⟨rfl, hb7⟩
        have H7 := Lib.hid (H6.out.1.below I hb7)
        have hrn := rnext_any H7.out.r
        rw [HVQ.out] at hrn
        have HRN := Lib.hid hrn
        clear hb7 HNX hrn
        go_wp2_with fail
        refine HRN.out.mono ?_
        rintro e w8 ⟨rfl, rfl⟩
        clear HRN
        have hvv : (v != v) = false := by simp
        have hqq : (q != q) = false := by cases q <;> rfl
        obtain ⟨Ar, nr, cr, hXr⟩ := H7.out.r
        have r0 := hXr.cell
        have hnr : nr = l6.length := hXr.len
        have hbd : Below w8.heap.size w8 w8.drew := ⟨rfl, rfl, rfl, Nat.le_refl _, fun _ _ => rfl⟩
        have HD := Lib.hid (H7.out.below I hbd)
        have hco := I.count HD.out.t hl6b
        rw [← hnr] at hco
        have HCO := Lib.hid hco
        have hcc : ((nr : Int) != (nr : Int)) = false := by simp
        have HRB := Lib.hid (show rb < w8.heap.size from hXr.blk.lt)
        have HNR := Lib.hid hnr
        clear hXr hbd hco hnr
        go_upto_region 28 with fail
        go_region_held3 (fun w' => w'.cell? ⟨rb, 0, none⟩ = some (.slice Ar nr cr))
          (first
            | exact H9.out.2
            | exact r0
            | exact ‹_›)
          (first
            | (go_at_call 20; refine HCO.out.mono ?_; rintro e w9 ⟨rfl, hb9⟩; have H9 := Lib.hid (And.intro (HD.out.below I hb9) ((hb9.cell (p := ⟨rb, 0, none⟩) HRB.out).trans r0)); clear hb9))
        all_goals
          have HF := Lib.hid (show TcRel T w tb rb n (.int .i64 ((k : Int) + 1)) _ from ⟨k + 1, _, _, _, by omega, by go_num, H9.out.1, H6.out.2.1, H6.out.2.2⟩)
          go_wp2_with fail
          go_roundw
          case rel => exact HF.out
          case measure => simp [intOf]; omega
    · have hlt1 : ¬ (k : Int) < (n : Int) := by omega
      go_wp2_with fail
      go_ret
      exact ⟨rfl, HR.out.1.low⟩
end Go.Proofs.Ytcjhkafdfeopfaa
