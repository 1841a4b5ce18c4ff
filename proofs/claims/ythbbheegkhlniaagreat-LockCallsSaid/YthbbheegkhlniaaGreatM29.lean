/-
  The document's Blockers. Written by genrkn.py.
-/
import Derived.Test.YthbbheegkhlniaaGreatM28
namespace Go.Proofs.YthbbheegkhlniaaGreat
open Go.RowKit Go.Lib

theorem putN_len (l : List Int) (x : Int) : (putN l x).length ≤ l.length + 1 := by
  unfold putN putL
  split
  · omega
  · have := putGo_len (fun a b : Int => decide (a < b)) x false l
    simpa using this
/-- the locks, what is waited for, and a row of numbers that is read -/
structure Bq (w0 w : World) (B tb : Nat) (D : Nat → Prop) (A : Option Addr) (n c : Nat) (A' : Option Addr) (n' c' : Nat) (l : Lk) (b : Nat) (o : Od) (A1 : Option Addr) (m z : Nat) (out : List Int) : Prop where
  q : Rq w0 w B tb D A n c A' n' c' l b o
  g : RowG intV 1 w w.heap.size A1 out
  hm : m = out.length
  hz : m ≤ z
section
variable {w0 w w' : World} {B tb n c n' c' b m z m' z' : Nat} {D : Nat → Prop} {A A' A1 A2 : Option Addr} {l : Lk} {o : Od} {out out' : List Int}
theorem Bq.below (h : Bq w0 w B tb D A n c A' n' c' l b o A1 m z out) (hb : Below w.heap.size w w') : Bq w0 w' B tb D A n c A' n' c' l b o A1 m z out :=
  ⟨h.q.below hb, (h.g.below hb (Nat.le_refl _)).more hb.size, h.hm, h.hz⟩
theorem Bq.put (h : Bq w0 w B tb D A n c A' n' c' l b o A1 m z out) (hb : Below w.heap.size w w') (hm : m' = out'.length) (hz : m' ≤ z') (hg : RowG intV 1 w' w'.heap.size A2 out') : Bq w0 w' B tb D A n c A' n' c' l b o A2 m' z' out' :=
  ⟨h.q.below hb, hg, hm, hz⟩
end
def bkF (o : Od) (L : List Od) (acc : List Int) : List Int := (L.filter (inWay o)).foldl (fun l h => putN l h.x) acc
def akF (o : Od) (x : Int) (L : List Od) (acc : List Int) : List Int := ((L.takeWhile fun a => decide (a.x ≠ x)).filter (ahead o)).foldl (fun l a => putN l a.x) acc
theorem bkF_step {o : Od} {L : List Od} {k : Nat} (hk : k < L.length) (acc : List Int) : bkF o (L.drop k) acc = if inWay o L[k] = true then bkF o (L.drop (k + 1)) (putN acc L[k].x) else bkF o (L.drop (k + 1)) acc := by
  rw [List.drop_eq_getElem_cons hk]
  unfold bkF
  rw [List.filter_cons]
  split <;> simp
theorem akF_step {o : Od} {x : Int} {L : List Od} {k : Nat} (hk : k < L.length) (acc : List Int) : akF o x (L.drop k) acc = if L[k].x = x then acc else if ahead o L[k] = true then akF o x (L.drop (k + 1)) (putN acc L[k].x) else akF o x (L.drop (k + 1)) acc := by
  rw [List.drop_eq_getElem_cons hk]
  unfold akF
  rw [List.takeWhile_cons]
  by_cases h : L[k].x = x
  · simp [h]
  · rw [if_pos (by simpa using h), if_neg h, List.filter_cons]
    split <;> simp
theorem blockL_some {l : Lk} {x : Int} {o : Od} (h : waitL l.W x = some o) : blockL l x = akF o x l.W (bkF o l.H []) := by unfold blockL; rw [h]; rfl
set_option maxRecDepth 100000 in
set_option maxHeartbeats 12800000 in
theorem rblockers_any {B tb : Nat} {D : Nat → Prop} {w : World} {l : Lk} (h : RkV B D w tb l) (hl : szL l ≤ 900000) (x : Int) :
    Calls Tryz.prog 20 #[.pointer (some ⟨tb, 0, none⟩), .int .i64 x] w fun r w' => ∃ v, r = .returned v ∧ IntsRd w' (blockL l x) v ∧ Below w.heap.size w w' := by
  have hmix : Tryz.prog.follows .mixedOrders = true := by kernel_rfl
  have hV := h
  obtain ⟨A, n, c, A', n', c', hX⟩ := h
  have hsz : n + n' ≤ 900000 := by rw [hX.hn, hX.wn]; exact hl
  have hn0 : (0 : Int) ≤ (n : Int) := Int.natCast_nonneg _
  have hn0' : (0 : Int) ≤ (n' : Int) := Int.natCast_nonneg _
  obtain ⟨w1, hw1⟩ : ∃ w1, w1 = w.alloc (.cells #[] 3) := ⟨_, rfl⟩
  have hO := Ow.new w 3 1
  rw [← hw1] at hO
  have HW := Lib.hid hw1
  have HS := Lib.hid (And.intro (hX.below hO.low) (And.intro (hO.g (xs := []) rfl) hO.low))
  have HN := Lib.hid (And.intro hX.hn (And.intro hX.wn (show l.W.length ≤ 1000000 by rw [← hX.wn]; omega)))
  clear hX hl hO hw1 hV
  cases hwt : waitL l.W x with
  | none =>
    have HWT := Lib.hid (show waitR l x = .tuple #[.agg #[.int .i64 0, .string ⟨#[]⟩, .string ⟨#[]⟩, .int .i64 0], .bool false] by unfold waitR; rw [hwt]; rfl)
    have HF := Lib.hid (show blockL l x = [] by unfold blockL; rw [hwt])
    clear hwt
    go_enter Tryz.func20, Tryz.ntmps20
    go_upto_region 2 with fail
    rw [← HW.out]
    go_wp2_with (go_at_call 15; refine (rwaiting_any HS.out.1.v HN.out.2.2 x).mono ?_; rw [HWT.out]; rintro e w3 ⟨rfl, hb3⟩; have H3 := Lib.hid hb3; clear hb3)
    go_ret
    rw [HF.out]
    have hb4 : Below w1.heap.size w1 (w3.alloc (.cells #[.int .i64 0, .string ⟨#[]⟩, .string ⟨#[]⟩, .int .i64 0] 34)) := H3.out.alloc H3.out.size _
    exact ⟨_, rfl, ⟨_, _, _, rfl, rfl, Nat.le_refl _, (HS.out.2.1.below hb4 (Nat.le_refl _)).more hb4.size⟩, HS.out.2.2.trans (hb4.mono HS.out.2.2.size)⟩
  | some o =>
    have HWT := Lib.hid (show waitR l x = .tuple #[.agg #[.int .i64 o.th.k, .string o.th.t, .string o.th.y, .int .i64 o.m], .bool true] by unfold waitR; rw [hwt])
    have HF := Lib.hid (And.intro (blockL_some hwt) (mem_waitL hwt).2)
    clear hwt
    go_enter Tryz.func20, Tryz.ntmps20
    go_upto_region 2 with fail
    rw [← HW.out]
    go_upto_region 5 with (go_at_call 15; refine (rwaiting_any HS.out.1.v HN.out.2.2 x).mono ?_; rw [HWT.out]; rintro e w3 ⟨rfl, hb3⟩; have H3 := Lib.hid hb3; clear hb3)
    obtain ⟨w4, hw4⟩ : ∃ w4, w4 = w3.alloc (.cells #[.int .i64 o.th.k, .string o.th.t, .string o.th.y, .int .i64 o.m] 34) := ⟨_, rfl⟩
    obtain ⟨b, hb⟩ : ∃ b, b = w3.heap.size := ⟨_, rfl⟩
    rw [← hw4, ← hb]
    have HS4 := Lib.hid (show Bq w w4 B tb D A n c A' n' c' l b o (some ⟨w.heap.size, 0, none⟩) 0 0 [] by
      have hb4 : Below w1.heap.size w1 w4 := by rw [hw4]; exact H3.out.alloc H3.out.size _
      refine ⟨⟨HS.out.1.below hb4, by rw [hw4, hb]; exact Blk.new _ _ _, HS.out.2.2.trans (hb4.mono HS.out.2.2.size)⟩, (HS.out.2.1.below hb4 (Nat.le_refl _)).more hb4.size, rfl, Nat.le_refl _⟩)
    have HW4 := Lib.hid (And.intro hw4 hb)
    clear hw4 hb
    have c0 := HS4.out.q.r.c0
    go_wp2_with fail
    go_loopw [5, 8] (fun ov iv wr => ∃ (k m z : Nat) (A1 : Option Addr) (out : List Int), k ≤ n ∧ iv = .int .i64 k ∧ ov = .slice A1 m z ∧ m ≤ k ∧ bkF o (l.H.drop k) out = bkF o l.H [] ∧ Bq w wr B tb D A n c A' n' c' l b o A1 m z out) (fun _ iv _ => n - (intOf iv).toNat)
    case atStart => exact ⟨0, 0, 0, _, [], Nat.zero_le _, rfl, rfl, Nat.le_refl _, by rw [List.drop_zero], HS4.out⟩
    case round =>
      clear c0
      obtain ⟨k, m, z, A1, out, hk, rfl, rfl, hmk, hat, hSr⟩ := hrel
      have hk0 : (0 : Int) ≤ (k : Int) := Int.natCast_nonneg _
      have HSR := Lib.hid hSr
      have HAT := Lib.hid hat
      have c0 := hSr.q.r.c0
      clear hSr hat
      by_cases hlt : k < n
      · have hlt1 : (k : Int) < (n : Int) := by omega
        have hkl : k < l.H.length := by rw [← HN.out.1]; exact hlt
        obtain ⟨ad, rfl, _, a0, a1, a2, a3, a4, _⟩ := od_at HSR.out.q.r.hg hkl
        have hst := bkF_step (o := o) hkl out
        rw [HAT.out] at hst
        obtain ⟨y, hy⟩ : ∃ y, y = l.H[k] := ⟨_, rfl⟩
        rw [← hy] at a0 a1 a2 a3 a4 hst
        have HST := Lib.hid (And.intro hst hy)
        have d0 := BelowBy.cell a0
        have d1 := BelowBy.cell a1
        have d2 := BelowBy.cell a2
        have d3 := BelowBy.cell a3
        have d4 := BelowBy.cell a4
        have f0 := BelowBy.cell c0
        have s0 := BelowBy.cell HSR.out.q.s0
        have s1 := BelowBy.cell HSR.out.q.s1
        have s2 := BelowBy.cell HSR.out.q.s2
        have s3 := BelowBy.cell HSR.out.q.s3
        clear a0 a1 a2 a3 a4
        clear hst hy
        have hox := HF.out.2
        cases h1 : decide (y.th = o.th) with
        | false =>
          have he := eqTh_run y.th o.th false h1
          have HI := Lib.hid (show inWay o y = false by unfold inWay; rw [h1]; rfl)
          clear h1 hox
          go_upto_region 8 with fail
          refine wp_region_below hmix (by kernel_rfl) ?_
          repeat (first | go_big_quiet_step (fail) | quiet_step (fail))
          refine wpQuiet_nil ?_
          intro wz hw'
          obtain ⟨pp, hw''⟩ := hw'
          obtain ⟨w5, hw5⟩ : ∃ w5, w5 = pp.w' := ⟨_, rfl⟩
          have hb5 : Below wr.heap.size wr w5 := by rw [hw5]; exact pp.h
          have H5 := Lib.hid (HSR.out.below hb5)
          rw [← hw5] at hw''
          subst wz
          clear d0 d1 d2 d3 d4 f0 s0 s1 s2 s3 he c0 hw5 hb5
          go_wp2_with fail
          go_roundw
          case rel => exact ⟨k + 1, m, z, A1, out, by omega, by go_num, rfl, by omega, by rw [HST.out.1, HI.out, if_neg (by decide)], H5.out⟩
          case measure => simp [intOf]; omega
        | true =>
          have he := eqTh_run y.th o.th true h1
          by_cases h2 : y.x = x
          · have hxq : (y.x != x) = false := by simp [h2]
            have hxd : (y.x == x) = true := by simp [h2]
            have HI := Lib.hid (show inWay o y = false by unfold inWay; rw [h1, hox]; simp [h2])
            clear h1 h2 hox
            go_upto_region 8 with fail
            refine wp_region_below hmix (by kernel_rfl) ?_
            repeat (first | go_big_quiet_step (fail) | quiet_step (fail))
            refine wpQuiet_nil ?_
            intro wz hw'
            obtain ⟨pp, hw''⟩ := hw'
            obtain ⟨w5, hw5⟩ : ∃ w5, w5 = pp.w' := ⟨_, rfl⟩
            have hb5 : Below wr.heap.size wr w5 := by rw [hw5]; exact pp.h
            have H5 := Lib.hid (HSR.out.below hb5)
            rw [← hw5] at hw''
            subst wz
            clear d0 d1 d2 d3 d4 f0 s0 s1 s2 s3 he c0 hw5 hb5
            go_wp2_with fail
            go_roundw
            case rel => exact ⟨k + 1, m, z, A1, out, by omega, by go_num, rfl, by omega, by rw [HST.out.1, HI.out, if_neg (by decide)], H5.out⟩
            case measure => simp [intOf]; omega
          · have hxq : (y.x != x) = true := by simp [h2]
            have hxd : (y.x == x) = false := by simp [h2]
            cases h3 : cfB y.m o.m with
            | false =>
              have HI := Lib.hid (show inWay o y = false by unfold inWay; rw [h1, h3]; simp)
              have H3C := Lib.hid h3
              clear h1 h2 h3 hox
              go_upto_region 8 with fail
              refine wp_region_below hmix (by kernel_rfl) ?_
              repeat (first | go_big_quiet_step ((go_at_call 56; exact calls_below ((rconf_any y.m o.m _).to (congrArg Value.bool H3C.out)))) | quiet_step ((go_at_call 56; exact calls_below ((rconf_any y.m o.m _).to (congrArg Value.bool H3C.out)))))
              refine wpQuiet_nil ?_
              intro wz hw'
              obtain ⟨pp, hw''⟩ := hw'
              obtain ⟨w5, hw5⟩ : ∃ w5, w5 = pp.w' := ⟨_, rfl⟩
              have hb5 : Below wr.heap.size wr w5 := by rw [hw5]; exact pp.h
              have H5 := Lib.hid (HSR.out.below hb5)
              rw [← hw5] at hw''
              subst wz
              clear d0 d1 d2 d3 d4 f0 s0 s1 s2 s3 he c0 hw5 hb5
              go_wp2_with fail
              go_roundw
              case rel => exact ⟨k + 1, m, z, A1, out, by omega, by go_num, rfl, by omega, by rw [HST.out.1, HI.out, if_neg (by decide)], H5.out⟩
              case measure => simp [intOf]; omega
            | true =>
              have HI := Lib.hid (show inWay o y = true by unfold inWay; rw [h1, h3, hox]; simp [h2])
              have H3C := Lib.hid h3
              clear h1 h2 h3 hox
              go_upto_region 8 with fail
              refine wp_region_below hmix (by kernel_rfl) ?_
              repeat (first | go_big_quiet_step ((go_at_call 56; exact calls_below ((rconf_any y.m o.m _).to (congrArg Value.bool H3C.out)))) | quiet_step ((go_at_call 56; exact calls_below ((rconf_any y.m o.m _).to (congrArg Value.bool H3C.out)))))
              refine wpQuiet_nil ?_
              intro wz hw'
              obtain ⟨pp, hw''⟩ := hw'
              obtain ⟨w5, hw5⟩ : ∃ w5, w5 = pp.w' := ⟨_, rfl⟩
              have hb5 : Below wr.heap.size wr w5 := by rw [hw5]; exact pp.h
              have H5 := Lib.hid (HSR.out.below hb5)
              rw [← hw5] at hw''
              subst wz
              clear d0 d1 d2 d3 d4 f0 s0 s1 s2 s3 he c0 hw5 hb5
              obtain ⟨ad2, e2, _, _, _, _, d3, _, _⟩ := od_at H5.out.q.r.hg hkl
              obtain rfl := Option.some.inj e2
              rw [← HST.out.2] at d3
              have c0 := H5.out.q.r.c0
              clear e2
              go_wp2_with (go_at_call 57; refine (rnumber_any H5.out.g (Nat.le_refl _) H5.out.hm H5.out.hz (by have := H5.out.hm; omega) y.x).mono ?_; rintro e w7 ⟨v7, rfl, ⟨A7, n7, c7, rfl, hn7, hc7, hr7⟩, hb7⟩; have H7 := Lib.hid (H5.out.put hb7 hn7 hc7 hr7); clear hn7 hc7 hr7 hb7)
              go_roundw
              case rel => exact ⟨k + 1, n7, c7, A7, putN out y.x, by omega, by go_num, rfl, by have := putN_len out y.x; have := H7.out.hm; have := H5.out.hm; omega, by rw [HST.out.1, HI.out, if_pos rfl], H7.out⟩
              case measure => simp [intOf]; omega
      · have hlt1 : ¬ (k : Int) < (n : Int) := by omega
        have HP1 := Lib.hid (show out = bkF o l.H [] by rw [← HAT.out, List.drop_eq_nil_of_le (by rw [← HN.out.1]; omega)]; rfl)
        have hmn : m ≤ n := by omega
        have c1 := HSR.out.q.r.c1
        go_wp2_with fail
        go_loopw [5, 9] (fun ov iv wr => ∃ (k m z : Nat) (A1 : Option Addr) (out : List Int), k ≤ n' ∧ iv = .int .i64 k ∧ ov = .slice A1 m z ∧ m ≤ n + k ∧ akF o x (l.W.drop k) out = blockL l x ∧ Bq w wr B tb D A n c A' n' c' l b o A1 m z out) (fun _ iv _ => n' - (intOf iv).toNat)
        case atStart => exact ⟨0, m, _, _, out, Nat.zero_le _, rfl, rfl, by omega, by rw [List.drop_zero, HF.out.1, HP1.out], HSR.out⟩
        case round =>
          clear HSR HAT HP1 hk hk0 hmk hlt hlt1 hmn c0 c1
          obtain ⟨k, m, z, A1, out, hk, rfl, rfl, hmk, hat, hSr⟩ := hrel
          have hk0 : (0 : Int) ≤ (k : Int) := Int.natCast_nonneg _
          have HSR := Lib.hid hSr
          have HAT := Lib.hid hat
          have c1 := hSr.q.r.c1
          clear hSr hat
          by_cases hlt : k < n'
          · have hlt1 : (k : Int) < (n' : Int) := by omega
            have hkl : k < l.W.length := by rw [← HN.out.2.1]; exact hlt
            obtain ⟨ad, rfl, _, a0, a1, a2, a3, a4, _⟩ := od_at HSR.out.q.r.wg hkl
            have hst := akF_step (o := o) (x := x) hkl out
            rw [HAT.out] at hst
            obtain ⟨y, hy⟩ : ∃ y, y = l.W[k] := ⟨_, rfl⟩
            rw [← hy] at a0 a1 a2 a3 a4 hst
            have HST := Lib.hid (And.intro hst hy)
            clear hst hy
            by_cases h2 : y.x = x
            · have hxq : (y.x != x) = false := by simp [h2]
              have hxd : (y.x == x) = true := by simp [h2]
              have HI := Lib.hid (show blockL l x = out by rw [HST.out.1, if_pos h2])
              clear h2
              go_wp2_with fail
              go_ret
              rw [HI.out]
              exact ⟨_, rfl, ⟨_, _, _, rfl, HSR.out.hm, HSR.out.hz, HSR.out.g⟩, HSR.out.q.low⟩
            · have hxq : (y.x != x) = true := by simp [h2]
              have hxd : (y.x == x) = false := by simp [h2]
              have HST0 := Lib.hid (show blockL l x = if ahead o y = true then akF o x (l.W.drop (k + 1)) (putN out y.x) else akF o x (l.W.drop (k + 1)) out by rw [HST.out.1, if_neg h2])
              clear h2
              go_upto_region 13 with fail
              have d0 := BelowBy.cell a0
              have d1 := BelowBy.cell a1
              have d2 := BelowBy.cell a2
              have d3 := BelowBy.cell a3
              have d4 := BelowBy.cell a4
              have f1 := BelowBy.cell c1
              have s0 := BelowBy.cell HSR.out.q.s0
              have s1 := BelowBy.cell HSR.out.q.s1
              have s2 := BelowBy.cell HSR.out.q.s2
              have s3 := BelowBy.cell HSR.out.q.s3
              clear a0 a1 a2 a3 a4
              cases h1 : decide (y.th = o.th) with
              | false =>
                have he := eqTh_run y.th o.th false h1
                have HI := Lib.hid (show ahead o y = false by unfold ahead; rw [h1]; rfl)
                clear h1
                refine wp_region_below hmix (by kernel_rfl) ?_
                repeat (first | go_big_quiet_step (fail) | quiet_step (fail))
                refine wpQuiet_nil ?_
                intro wz hw'
                obtain ⟨pp, hw''⟩ := hw'
                obtain ⟨w5, hw5⟩ : ∃ w5, w5 = pp.w' := ⟨_, rfl⟩
                have hb5 : Below wr.heap.size wr w5 := by rw [hw5]; exact pp.h
                have H5 := Lib.hid (HSR.out.below hb5)
                rw [← hw5] at hw''
                subst wz
                clear d0 d1 d2 d3 d4 f1 s0 s1 s2 s3 he c1 hw5 hb5
                go_wp2_with fail
                go_roundw
                case rel => exact ⟨k + 1, m, z, A1, out, by omega, by go_num, rfl, by omega, by rw [HST0.out, HI.out, if_neg (by decide)], H5.out⟩
                case measure => simp [intOf]; omega
              | true =>
                have he := eqTh_run y.th o.th true h1
                cases h3 : cfB y.m o.m with
                | false =>
                  have HI := Lib.hid (show ahead o y = false by unfold ahead; rw [h1, h3]; rfl)
                  have H3C := Lib.hid h3
                  clear h1 h3
                  refine wp_region_below hmix (by kernel_rfl) ?_
                  repeat (first | go_big_quiet_step ((go_at_call 56; exact calls_below ((rconf_any y.m o.m _).to (congrArg Value.bool H3C.out)))) | quiet_step ((go_at_call 56; exact calls_below ((rconf_any y.m o.m _).to (congrArg Value.bool H3C.out)))))
                  refine wpQuiet_nil ?_
                  intro wz hw'
                  obtain ⟨pp, hw''⟩ := hw'
                  obtain ⟨w5, hw5⟩ : ∃ w5, w5 = pp.w' := ⟨_, rfl⟩
                  have hb5 : Below wr.heap.size wr w5 := by rw [hw5]; exact pp.h
                  have H5 := Lib.hid (HSR.out.below hb5)
                  rw [← hw5] at hw''
                  subst wz
                  clear d0 d1 d2 d3 d4 f1 s0 s1 s2 s3 he c1 hw5 hb5
                  go_wp2_with fail
                  go_roundw
                  case rel => exact ⟨k + 1, m, z, A1, out, by omega, by go_num, rfl, by omega, by rw [HST0.out, HI.out, if_neg (by decide)], H5.out⟩
                  case measure => simp [intOf]; omega
                | true =>
                  have HI := Lib.hid (show ahead o y = true by unfold ahead; rw [h1, h3]; rfl)
                  have H3C := Lib.hid h3
                  clear h1 h3
                  refine wp_region_below hmix (by kernel_rfl) ?_
                  repeat (first | go_big_quiet_step ((go_at_call 56; exact calls_below ((rconf_any y.m o.m _).to (congrArg Value.bool H3C.out)))) | quiet_step ((go_at_call 56; exact calls_below ((rconf_any y.m o.m _).to (congrArg Value.bool H3C.out)))))
                  refine wpQuiet_nil ?_
                  intro wz hw'
                  obtain ⟨pp, hw''⟩ := hw'
                  obtain ⟨w5, hw5⟩ : ∃ w5, w5 = pp.w' := ⟨_, rfl⟩
                  have hb5 : Below wr.heap.size wr w5 := by rw [hw5]; exact pp.h
                  have H5 := Lib.hid (HSR.out.below hb5)
                  rw [← hw5] at hw''
                  subst wz
                  clear d0 d1 d2 d3 d4 f1 s0 s1 s2 s3 he c1 hw5 hb5
                  obtain ⟨ad2, e2, _, _, _, _, d3, _, _⟩ := od_at H5.out.q.r.wg hkl
                  obtain rfl := Option.some.inj e2
                  rw [← HST.out.2] at d3
                  have c1 := H5.out.q.r.c1
                  clear e2
                  go_wp2_with (go_at_call 57; refine (rnumber_any H5.out.g (Nat.le_refl _) H5.out.hm H5.out.hz (by have := H5.out.hm; omega) y.x).mono ?_; rintro e w7 ⟨v7, rfl, ⟨A7, n7, c7, rfl, hn7, hc7, hr7⟩, hb7⟩; have H7 := Lib.hid (H5.out.put hb7 hn7 hc7 hr7); clear hn7 hc7 hr7 hb7)
                  go_roundw
                  case rel => exact ⟨k + 1, n7, c7, A7, putN out y.x, by omega, by go_num, rfl, by have := putN_len out y.x; have := H7.out.hm; have := H5.out.hm; omega, by rw [HST0.out, HI.out, if_pos rfl], H7.out⟩
                  case measure => simp [intOf]; omega
          · have hlt1 : ¬ (k : Int) < (n' : Int) := by omega
            have HI := Lib.hid (show blockL l x = out by rw [← HAT.out, List.drop_eq_nil_of_le (by rw [← HN.out.2.1]; omega)]; rfl)
            go_wp2_with fail
            go_ret
            rw [HI.out]
            exact ⟨_, rfl, ⟨_, _, _, rfl, HSR.out.hm, HSR.out.hz, HSR.out.g⟩, HSR.out.q.low⟩
end Go.Proofs.YthbbheegkhlniaaGreat

/-
  The document's Release. Written by genrko.py.
-/
namespace Go.Proofs.YthbbheegkhlniaaGreat
open Go.RowKit Go.Lib

/-- the locks (D' now, D at the beginning), and a row of things that is read -/
structure Rl (w0 w : World) (B tb : Nat) (D D' : Nat → Prop) (l : Lk) (A : Option Addr) (n c : Nat) (all : List Th) : Prop where
  r : RkV B D' w tb l
  sub : ∀ k, D' k → D k ∨ w0.heap.size ≤ k
  sup : ∀ k, D k → D' k
  ch : Chg D w0 w
  g : RowG thC 3 w w.heap.size A all
  ng : ∀ ad, A = some ad → 0 < n → ¬ D' ad.block
  hn : n = all.length
  hc : n ≤ c
section
variable {w0 w w' : World} {B tb n c m m' : Nat} {D D' : Nat → Prop} {l l' : Lk} {A : Option Addr} {all : List Th} {v v' : Value} {out xs : List Int}
theorem RowG.keep {α : Type} {cell : α → List Value} {S : Nat} {F : Nat → Prop} {vs : List α} (h : RowG cell S w w.heap.size A vs) (hc : Chg F w w') (hn : ∀ ad, A = some ad → 0 < vs.length → ¬ F ad.block) : RowG cell S w' w'.heap.size A vs := by
  refine ⟨fun h0 => ?_, fun i hi j u hu => ?_⟩
  · obtain ⟨ad, rfl, hlt⟩ := h.lo h0
    exact ⟨ad, rfl, Nat.lt_of_lt_of_le hlt hc.size⟩
  · obtain ⟨ad, rfl, hcell⟩ := h.cell i hi j u hu
    obtain ⟨ad', e, hlt⟩ := h.lo (by omega)
    obtain rfl := Option.some.inj e
    exact ⟨ad, rfl, (hc.cell (p := ad.add (i * S + j)) (by rw [addr_block]; exact hlt) (by rw [addr_block]; exact hn ad rfl (by omega))).trans hcell⟩
theorem Rl.below (h : Rl w0 w B tb D D' l A n c all) (hb : Below w.heap.size w w') : Rl w0 w' B tb D D' l A n c all :=
  ⟨h.r.below hb, h.sub, h.sup, h.ch.trans' (Chg.of_below (F := Non) hb) fun _ _ hf => hf.elim, h.g.keep (F := Non) (Chg.of_below hb) fun _ _ _ hf => hf, h.ng, h.hn, h.hc⟩
theorem Rl.lt (h : Rl w0 w B tb D D' l A n c all) {ad : Addr} (ha : A = some ad) (h0 : 0 < n) : ad.block < w.heap.size := by
  obtain ⟨ad', e, hlt⟩ := h.g.lo (by rw [← h.hn]; exact h0)
  rw [ha] at e
  obtain rfl := Option.some.inj e
  exact hlt
theorem Rl.step (h : Rl w0 w B tb D D' l A n c all) (k : RkTo B tb D' w l' w') : Rl w0 w' B tb D (Ext D' w w') l' A n c all := by
  have s := h.ch.size
  exact ⟨k.1, fun q hq => hq.elim (h.sub q) fun hq => .inr (by omega), fun q hq => .inl (h.sup q hq), h.ch.trans' k.2 fun i hi hx => (h.sub i hx).elim id fun hh => by omega, h.g.keep k.2 fun ad ha h0 => h.ng ad ha (by rw [h.hn]; exact h0),
    fun ad ha h0 hx => hx.elim (h.ng ad ha h0) fun hx => by have := h.lt ha h0; omega, h.hn, h.hc⟩
theorem Rl.end_ (h : Rl w0 w B tb D D' l A n c all) (hB : B ≤ w0.heap.size) (hf : ∀ k, D k → B ≤ k ∧ k < w0.heap.size) : RkTo B tb D w0 l w :=
  ⟨h.r.more (fun k hk => by
    rcases h.sub k hk with h1 | h1
    · exact .inl h1
    · exact .inr ⟨h1, (h.r.foot hk).2⟩) fun k hk => by
      have s := h.ch.size
      rcases hk with hk | hk
      · have := hf k hk; omega
      · omega, h.ch⟩
/-- and a row of numbers of one's own beside -/
structure Rs (w0 w : World) (B tb : Nat) (D D' : Nat → Prop) (l : Lk) (A : Option Addr) (n c : Nat) (all : List Th) (v : Value) (m : Nat) (out : List Int) : Prop where
  s : Rl w0 w B tb D D' l A n c all
  own : w.ownsRow w0.heap.size 3 1 v m (intsV out)
  hm : m = out.length
  ap : ∀ k, v.ownBlock = some k → ¬ D' k
  nb : ∀ ad, A = some ad → 0 < n → v.ownBlock ≠ some ad.block
theorem Rs.step (h : Rs w0 w B tb D D' l A n c all v m out) (k : RkTo B tb D' w l' w') : Rs w0 w' B tb D (Ext D' w w') l' A n c all v m out :=
  ⟨h.s.step k, own_chg h.own k.2 h.ap, h.hm, fun q hq hx => hx.elim (h.ap q hq) fun hx => by have := (h.own.lt q hq).2; omega, h.nb⟩
theorem Rs.push (h : Rs w0 w B tb D D' l A n c all v m out) (hR : RowTo w0.heap.size 3 1 v w v' m' (intsV out ++ intsV xs) w') (hm : m' = m + xs.length) : Rs w0 w' B tb D D' l A n c all v' m' (out ++ xs) := by
  have hs := h.s
  refine ⟨⟨hs.r.chg hR.chg fun k hk e => h.ap k e hk, hs.sub, hs.sup, hs.ch.trans' hR.chg fun i hi e => ?_, hs.g.keep hR.chg fun ad ha h0 e => h.nb ad ha (by rw [hs.hn]; exact h0) e, hs.ng, hs.hn, hs.hc⟩, by rw [show intsV (out ++ xs) = intsV out ++ intsV xs by simp [intsV]]; exact hR.own, by rw [hm, h.hm]; simp, fun k hk hx => ?_, fun ad ha h0 e => ?_⟩
  · have := (h.own.lt i e).1
    omega
  · rcases hR.blk k hk with h1 | h1
    · exact h.ap k h1 hx
    · have := (hs.r.foot hx).2
      omega
  · rcases hR.blk _ e with h1 | h1
    · exact h.nb ad ha h0 h1
    · have := h.s.lt ha h0
      omega
end
theorem sweepGo_cnt (t : Th) : ∀ (pd dn H : List Od), (sweepGo t dn H pd).2.2.length + (sweepGo t dn H pd).2.1.length = dn.length + pd.length
  | [], dn, H => by simp [sweepGo]
  | o :: r, dn, H => by
    rw [sweepGo]
    split
    · have := sweepGo_cnt t r dn (giveL o H)
      simp only [List.length_cons]
      omega
    · have := sweepGo_cnt t r (dn ++ [o]) H
      simp only [List.length_cons, List.length_append, List.length_nil] at this ⊢
      omega
theorem sweepL_cnt (l : Lk) (t : Th) : (sweepL l t).2.length + (sweepL l t).1.W.length = l.W.length := by
  have := sweepGo_cnt t l.W [] l.H
  unfold sweepL
  simpa using this
theorem sweepAll_step {all : List Th} {l : Lk} {k : Nat} (hk : k < all.length) : sweepAll (all.drop k) l = ((sweepAll (all.drop (k + 1)) (sweepL l all[k]).1).1, (sweepL l all[k]).2 ++ (sweepAll (all.drop (k + 1)) (sweepL l all[k]).1).2) := by
  rw [List.drop_eq_getElem_cons hk]
  rfl
def resF (x : Int) (L : List Od) : List Od := L.filter fun o => decide (o.x ≠ x)
theorem resF_step {x : Int} {L : List Od} {k : Nat} (hk : k < L.length) : resF x (L.drop k) = if L[k].x = x then resF x (L.drop (k + 1)) else L[k] :: resF x (L.drop (k + 1)) := by
  rw [List.drop_eq_getElem_cons hk]
  unfold resF
  rw [List.filter_cons]
  by_cases h : L[k].x = x <;> simp [h]
theorem things_len (H : List Od) (x : Int) : (thingsL H x).length ≤ H.length := by
  have key : ∀ (L : List Od) (acc : List Th), (L.foldl (fun l o => putT l o.th) acc).length ≤ acc.length + L.length := fun L => by
    induction L with
    | nil => intro acc; simp
    | cons a r ih =>
      intro acc
      have h1 := ih (putT acc a.th)
      have h2 := putT_len acc a.th
      simp only [List.foldl_cons, List.length_cons]
      omega
  have h1 := key (H.filter fun o => decide (o.x = x)) []
  have h2 := List.length_filter_le (fun o : Od => decide (o.x = x)) H
  unfold thingsL
  simp only [List.length_nil, Nat.zero_add] at h1
  omega
theorem ints_cells {w : World} {base n c : Nat} {A : Option Addr} {e : TypeId} {xs : List Value} (h : w.ownsRow base e 1 (.slice A n c) n xs) : (A = none → n = 0) ∧ ∀ ad, A = some ad → ∀ j u, xs[j]? = some u → w.cell? (ad.add j) = some u := by
  rcases own_form2 h with ⟨rfl, hn, _⟩ | ⟨g, rfl⟩
  · exact ⟨fun _ => hn, fun ad h => (by cases h)⟩
  · exact ⟨fun h => (by cases h), fun ad ha j u hu => by cases ha; exact World.ownsRow.cells h rfl j u hu⟩
set_option maxRecDepth 100000 in
set_option maxHeartbeats 12800000 in
theorem rrelease_any {B tb : Nat} {D : Nat → Prop} {w : World} {l : Lk} (h : RkV B D w tb l) (hl : szL l ≤ 600000) (hB : B ≤ w.heap.size) (hsm : ∀ o ∈ l.H, Sm o.th) (hsm2 : ∀ o ∈ l.W, Sm o.th) (x : Int) :
    Calls Tryz.prog 13 #[.pointer (some ⟨tb, 0, none⟩), .int .i64 x] w fun r w' => ∃ v, r = .returned v ∧ IntsRet w (releaseL l x).2 w' v ∧ RkTo B tb D w (releaseL l x).1 w' := by
  obtain ⟨i0, hi, hz0, hz1, hz2⟩ := info_parts Tryz.infoone
  obtain ⟨j0, hj, hy0, hy1, hy2⟩ := info_parts Tryz.infoint
  have hfoot : ∀ q, D q → B ≤ q ∧ q < w.heap.size := fun q hq => h.foot hq
  have HV := Lib.hid h
  have hsz := hl
  unfold szL at hsz
  have HN := Lib.hid (And.intro hl (And.intro hB (And.intro hfoot (And.intro hsm hsm2))))
  have HT := Lib.hid (rthings_any h (by omega) hsm x)
  clear h hl hB hfoot hsm hsm2
  cases hwt : waitL l.W x with
  | none =>
    have HWT := Lib.hid (show waitR l x = .tuple #[.agg #[.int .i64 0, .string ⟨#[]⟩, .string ⟨#[]⟩, .int .i64 0], .bool false] by unfold waitR; rw [hwt]; rfl)
    have hnc : cutW x l.W = l.W := cutW_none hwt
    have HR := Lib.hid (show releaseL l x = sweepAll (thingsL l.H x) ⟨resF x l.H, l.W⟩ by unfold releaseL; rw [hwt, hnc]; rfl)
    clear hwt hnc
    go_enter Tryz.func13, Tryz.ntmps13
    go_upto_region 3 with (first
      | (go_at_call 24; refine HT.out.mono ?_; rintro e w3 ⟨v3, rfl, ⟨A5, n5, c5, rfl, hn5, hc5, hr5⟩, hb3, hl3⟩; have H3 := Lib.hid (And.intro hb3 (And.intro hr5 (show ∀ ad, A5 = some ad → w.heap.size ≤ ad.block from fun ad e => hl3 ad _ _ (by rw [e])))); have H5 := Lib.hid (And.intro hn5 hc5); clear hn5 hc5 hr5 hb3 hl3)
      | (go_at_call 15; refine (rwaiting_any (HV.out.below H3.out.1) (by have := HN.out.1; unfold szL at this; omega) x).mono ?_; rw [HWT.out]; rintro e w5 ⟨rfl, hb5⟩; have H4 := Lib.hid hb5; clear hb5))
    obtain ⟨w6, hw6⟩ : ∃ w6, w6 = w5.alloc (.cells #[.int .i64 0, .string ⟨#[]⟩, .string ⟨#[]⟩, .int .i64 0] 34) := ⟨_, rfl⟩
    obtain ⟨b6, hb6⟩ : ∃ b6, b6 = w5.heap.size := ⟨_, rfl⟩
    rw [← hw6, ← hb6]
    have hk6 : Blk w6 b6 34 #[.int .i64 0, .string ⟨#[]⟩, .string ⟨#[]⟩, .int .i64 0] := by rw [hw6, hb6]; exact Blk.new _ _ _
    have H6 := Lib.hid (show Below w.heap.size w w6 ∧ RowG thC 3 w6 w6.heap.size A5 (thingsL l.H x) ∧ (∀ ad, A5 = some ad → w.heap.size ≤ ad.block) by
      have h1 : Below w3.heap.size w3 w6 := by rw [hw6]; exact H4.out.alloc H4.out.size _
      exact ⟨H3.out.1.trans (h1.mono H3.out.1.size), (H3.out.2.1.below h1 (Nat.le_refl _)).more h1.size, H3.out.2.2⟩)
    have HW6 := Lib.hid (And.intro hw6 hb6)
    have HK6 := Lib.hid hk6
    have HSMT := Lib.hid (show ∀ y ∈ thingsL l.H x, Sm y from fun y hy => by
      obtain ⟨o', ho', _, e⟩ := mem_thingsL.1 hy
      rw [← e]; exact HN.out.2.2.2.1 o' ho')
    clear hw6 hb6 hk6
    obtain ⟨w9, hw9⟩ : ∃ w9, w9 = w6 := ⟨_, rfl⟩
    have HL9 := Lib.hid (show Rl w w9 B tb D D l A5 n5 c5 (thingsL l.H x) by
      rw [hw9]
      exact ⟨HV.out.below H6.out.1, fun _ hk => .inl hk, fun _ hk => hk, Chg.of_below H6.out.1, H6.out.2.1, fun ad ha _ hd => by have h1 := (HN.out.2.2.1 _ hd).2; have h2 := H6.out.2.2 ad ha; omega, H5.out.1, H5.out.2⟩)
    rw [← hw9]
    obtain ⟨al, hal⟩ : ∃ al, al = thingsL l.H x := ⟨_, rfl⟩
    obtain ⟨W1, hW1⟩ : ∃ W1, W1 = l.W := ⟨_, rfl⟩
    obtain ⟨D9, hD9⟩ : ∃ D9, D9 = D := ⟨_, rfl⟩
    have HL9 := Lib.hid (show Rl w w9 B tb D D9 ⟨l.H, W1⟩ A5 n5 c5 al by rw [hal, hW1, hD9]; exact HL9.out)
    have HR9 := Lib.hid (show releaseL l x = sweepAll al ⟨resF x l.H, W1⟩ ∧ W1.length ≤ l.W.length by rw [hal, hW1]; exact ⟨HR.out, Nat.le_refl _⟩)
    have HALN := Lib.hid (show al.length ≤ 700000 by have h2 := things_len l.H x; rw [hal]; omega)
    clear hal hW1 hD9 hw9
    obtain ⟨A, n, c, A', n', c', hX⟩ := HL9.out.r
    have hB9 : B ≤ w9.heap.size := Nat.le_trans HN.out.2.1 HL9.out.ch.size
    have hnl : n = l.H.length := hX.hn
    have hn6 : n ≤ 600000 := by omega
    have hn0 : (0 : Int) ≤ (n : Int) := Int.natCast_nonneg _
    have HX9 := Lib.hid (And.intro hX (And.intro hB9 (And.intro hnl (fun (k : Nat) (hk : D9 k) => (hX.foot k hk).2))))
    have HB1 := Lib.hid (Bd.new (b := false) hX)
    obtain ⟨w10, hw10⟩ : ∃ w10, w10 = w9.alloc (.cells #[] 73) := ⟨_, rfl⟩
    rw [← hw10] at HB1
    have HW10 := Lib.hid hw10
    have c0 := HB1.out.r.c0
    clear hX hB9 hnl hw10
    go_upto_region 11 with fail
    rw [← HW10.out]
    go_wp2_with fail
    go_loopw [9, 10] (fun rv iv wr => ∃ (k m z : Nat) (A1 : Option Addr) (xs : List Od), k ≤ n ∧ iv = .int .i64 k ∧ rv = .slice A1 m z ∧ m = xs.length ∧ m ≤ k ∧ xs ++ resF x (l.H.drop k) = resF x l.H ∧ Bd w9 wr B tb D9 A n c A' n' c' ⟨l.H, W1⟩ false (.slice A1 m z) m xs) (fun _ iv _ => n - (intOf iv).toNat)
    case atStart => exact ⟨0, 0, 0, _, [], Nat.zero_le _, rfl, rfl, rfl, Nat.le_refl _, by rw [List.drop_zero]; rfl, HB1.out⟩
    case round =>
      clear c0
      obtain ⟨k, m, z, A1, xs, hk, rfl, rfl, hm, hmk, hat, hBr⟩ := hrel
      have hk0 : (0 : Int) ≤ (k : Int) := Int.natCast_nonneg _
      have HBR := Lib.hid hBr
      have HAT := Lib.hid (And.intro hat hm)
      have c0 := hBr.r.c0
      clear hBr hat hm
      by_cases hlt : k < n
      · have hlt1 : (k : Int) < (n : Int) := by omega
        have hkl : k < l.H.length := by rw [← HX9.out.2.2.1]; exact hlt
        obtain ⟨ad, rfl, -, d0, d1, d2, d3, d4, d5⟩ := od_at HBR.out.r.hg hkl
        have hst := resF_step (x := x) hkl
        obtain ⟨y, hy⟩ : ∃ y, y = l.H[k] := ⟨_, rfl⟩
        simp only at d0 d1 d2 d3 d4 d5
        rw [← hy] at d0 d1 d2 d3 d4 hst
        have HST := Lib.hid hst
        clear hst hy
        by_cases hx : y.x = x
        · have q1 : (y.x != x) = false := by simp [hx]
          have HI := Lib.hid (show resF x (l.H.drop k) = resF x (l.H.drop (k + 1)) by rw [HST.out, if_pos hx])
          clear hx
          go_wp2_with fail
          go_roundw
          case rel => exact ⟨k + 1, m, z, A1, xs, by omega, by go_num, rfl, HAT.out.2, by omega, by rw [← HI.out]; exact HAT.out.1, HBR.out⟩
          case measure => simp [intOf]; omega
        · have q1 : (y.x != x) = true := by simp [hx]
          have HI := Lib.hid (show resF x (l.H.drop k) = y :: resF x (l.H.drop (k + 1)) by rw [HST.out, if_neg hx])
          clear hx
          go_wp2_with (at_builtin; refine wpList_append_row rfl _ _ 28 rfl w9.heap.size 73 i0 (.agg #[.int .i64 0, .string ⟨#[]⟩, .string ⟨#[]⟩, .int .i64 0, .int .i64 0, .bool false]) 6 64 Tryz.underlying28 hi hz0 hz1 hz2 rfl (by decide) _ m _ (HBR.out.own.alloc _) (by rfl) (some ⟨wr.heap.size, 0, none⟩) 1 1 (odC false y) (by rfl) rfl (fun h => by cases h) (fun ad' had => by cases had; exact World.news_of_block (Go.heap_alloc_new _ _)) (fun u hu => by simp [odC] at hu; rcases hu with rfl | rfl | rfl | rfl | rfl | rfl <;> rfl) (by first | (simp [maxLen]; done) | (simp [maxLen]; omega)) (by omega) (by have := HBR.out.low.size; simp; omega) ?_; intro A4 c4 w4 hR4; have HB4 := Lib.hid ((HBR.out.below ((Below.refl _ wr).alloc (Nat.le_refl _) _)).step (ys := [y]) (by rw [show ods false [y] = odC false y by simp [ods]]; exact hR4) HX9.out.2.2.2); clear hR4)
          go_roundw
          case rel => exact ⟨k + 1, m + 1, c4, A4, xs ++ [y], by omega, by go_num, rfl, by rw [HAT.out.2]; simp, by omega, by rw [← HAT.out.1, HI.out]; simp, HB4.out⟩
          case measure => simp [intOf]; omega
      · have hlt1 : ¬ (k : Int) < (n : Int) := by omega
        have HXS := Lib.hid (show xs = resF x l.H by rw [← HAT.out.1, List.drop_eq_nil_of_le (by rw [← HX9.out.2.2.1]; omega)]; simp [resF])
        have f0 := HBR.out.r.blk.frozen 0
        have HTO := Lib.hid (HBR.out.set0 HX9.out.1 HX9.out.2.1 HAT.out.2)
        go_upto_region 17 with fail
        obtain ⟨w12, hw12⟩ : ∃ w12, w12 = wr.setCell ⟨tb, 0, none⟩ (.slice A1 m z) := ⟨_, rfl⟩
        rw [← hw12] at HTO ⊢
        obtain ⟨D12, hD12⟩ : ∃ D12, D12 = Ext D9 w9 w12 := ⟨_, rfl⟩
        have HL12 := Lib.hid (show Rl w w12 B tb D D12 ⟨resF x l.H, W1⟩ A5 n5 c5 al by
          have h1 := HL9.out.step HTO.out
          rw [HXS.out] at h1
          rw [hD12]
          exact h1)
        clear hw12 f0 c0 hD12
        obtain ⟨w13, hw13⟩ : ∃ w13, w13 = w12.alloc (.cells #[] 3) := ⟨_, rfl⟩
        have HS13 := Lib.hid (show Rs w w13 B tb D D12 ⟨resF x l.H, W1⟩ A5 n5 c5 al (.slice (some ⟨w12.heap.size, 0, none⟩) 0 0) 0 [] by
          have hb : Below w12.heap.size w12 w13 := by rw [hw13]; exact (Below.refl _ w12).alloc (Nat.le_refl _) _
          have h9 := World.ownsRow_lit (base := w.heap.size) (size := 1) (e := 3) w12 #[] 0 HL12.out.ch.size (by simp [maxLen]) (by simp)
          rw [← hw13] at h9
          refine ⟨HL12.out.below hb, h9, rfl, fun q hq hd => ?_, fun ad ha h0 e => ?_⟩
          · have := (HL12.out.r.foot hd).2
            simp [Value.ownBlock] at hq
            omega
          · have := HL12.out.lt ha h0
            simp [Value.ownBlock] at e
            omega)
        have HW13 := Lib.hid hw13
        have hnn : n5 = al.length := HL12.out.hn
        have hnn0 : (0 : Int) ≤ (n5 : Int) := Int.natCast_nonneg _
        have hnn7 : n5 ≤ 700000 := by have := HALN.out; omega
        have HNN := Lib.hid hnn
        clear hw13 hk hk0 hmk hlt hlt1 hnn HBR HAT HXS
        go_upto_region 18 with fail
        rw [← HW13.out]
        go_wp2_with fail
        go_loopw [11, 12] (fun ov iv wr => ∃ (k m z : Nat) (A1 : Option Addr) (out : List Int) (l2 : Lk) (D' : Nat → Prop), k ≤ n5 ∧ iv = .int .i64 k ∧ ov = .slice A1 m z ∧ szL l2 ≤ szL l ∧ out.length + l2.W.length ≤ W1.length ∧ sweepAll al ⟨resF x l.H, W1⟩ = ((sweepAll (al.drop k) l2).1, out ++ (sweepAll (al.drop k) l2).2) ∧ Rs w wr B tb D D' l2 A5 n5 c5 al (.slice A1 m z) m out) (fun _ iv _ => n5 - (intOf iv).toNat)
        case atStart => exact ⟨0, 0, 0, _, [], ⟨resF x l.H, W1⟩, D12, Nat.zero_le _, rfl, rfl, by have := List.length_filter_le (fun o : Od => decide (o.x ≠ x)) l.H; have := HR9.out.2; unfold szL resF; simp only; omega, by simp, by rw [List.drop_zero]; rfl, HS13.out⟩
        case round =>
          obtain ⟨k, m, z, A1, out, l2, D', hk, rfl, rfl, hsz2, hcnt, hat, hSr⟩ := hrel
          have hk0 : (0 : Int) ≤ (k : Int) := Int.natCast_nonneg _
          have HSR := Lib.hid hSr
          have HAT := Lib.hid (And.intro hat (And.intro hsz2 hcnt))
          have hm6 : m ≤ 600000 := by have := hSr.hm; have := HR9.out.2; have := HN.out.1; unfold szL at this; omega
          clear hSr hat hsz2 hcnt
          by_cases hlt : k < n5
          · have hlt1 : (k : Int) < (n5 : Int) := by omega
            have hkl : k < al.length := by rw [← HNN.out]; exact hlt
            obtain ⟨ad, hA5, -, p0, p1, p2⟩ := th_at HSR.out.s.g hkl
            have hst := sweepAll_step (l := l2) hkl
            obtain ⟨y, hy⟩ : ∃ y, y = al[k] := ⟨_, rfl⟩
            rw [← hy] at p0 p1 p2 hst
            subst hA5
            have HST := Lib.hid hst
            clear hst hy
            go_wp2_with (first
              | (go_at_call 46; refine (rsweep_any HSR.out.s.r (by have := HAT.out.2.1; have := HN.out.1; omega) (Nat.le_trans HN.out.2.1 HSR.out.s.ch.size) y).mono ?_; rintro e w15 ⟨v15, rfl, ⟨A15, n15, c15, rfl, hn15, ho15⟩, hto⟩; have HS15 := Lib.hid (HSR.out.step hto); have HO15 := Lib.hid (And.intro hn15 ho15); have hn16 : n15 ≤ 600000 := (by have h1 := sweepL_cnt l2 y; have h2 := HAT.out.2.1; have h3 := HN.out.1; unfold szL at h2 h3; omega); clear hn15 ho15 hto)
              | (at_builtin; refine wpList_append_row rfl _ _ 41 rfl w.heap.size 3 j0 (.int .i64 0) 1 8 Tryz.underlying41 hj hy0 hy1 hy2 rfl (by decide) _ m _ HS15.out.own (by rfl) A15 n15 c15 (intsV (sweepL l2 y).2) (by rfl) (by rw [HO15.out.1]; simp [intsV]) (ints_cells HO15.out.2).1 (ints_cells HO15.out.2).2 (fun u hu => by simp [intsV] at hu; obtain ⟨q, _, rfl⟩ := hu; rfl) (by first | (simp [maxLen]; done) | (simp [maxLen]; omega)) (by omega) HS15.out.s.ch.size ?_; intro A16 c16 w16 hR16; have H16 := Lib.hid (HS15.out.push hR16 (by rw [HO15.out.1])); clear hR16))
            go_roundw
            case rel => exact ⟨k + 1, m + n15, c16, A16, out ++ (sweepL l2 y).2, (sweepL l2 y).1, _, by omega, by go_num, rfl, Nat.le_trans (sweepL_sz l2 y) HAT.out.2.1, by have h1 := sweepL_cnt l2 y; have h2 := HAT.out.2.2; simp only [List.length_append]; omega, by rw [HAT.out.1, HST.out]; simp, H16.out⟩
            case measure => simp [intOf]; omega
          · have hlt1 : ¬ (k : Int) < (n5 : Int) := by omega
            have HF := Lib.hid (show releaseL l x = (l2, out) by rw [HR9.out.1, HAT.out.1, List.drop_eq_nil_of_le (by rw [← HNN.out]; omega)]; simp [sweepAll])
            go_wp2_with fail
            go_ret
            rw [HF.out]
            exact ⟨_, rfl, ⟨_, _, _, rfl, HSR.out.hm, HSR.out.own⟩, HSR.out.s.end_ HN.out.2.1 HN.out.2.2.1⟩
  | some o =>
    have HWT := Lib.hid (show waitR l x = .tuple #[.agg #[.int .i64 o.th.k, .string o.th.t, .string o.th.y, .int .i64 o.m], .bool true] by unfold waitR; rw [hwt])
    have HR := Lib.hid (show releaseL l x = sweepAll (putT (thingsL l.H x) o.th) ⟨resF x l.H, cutW x l.W⟩ by unfold releaseL; rw [hwt]; rfl)
    have HOW := Lib.hid (And.intro hwt (HN.out.2.2.2.2 o (mem_waitL hwt).1))
    clear hwt
    go_enter Tryz.func13, Tryz.ntmps13
    go_upto_region 3 with (first
      | (go_at_call 24; refine HT.out.mono ?_; rintro e w3 ⟨v3, rfl, ⟨A5, n5, c5, rfl, hn5, hc5, hr5⟩, hb3, hl3⟩; have H3 := Lib.hid (And.intro hb3 (And.intro hr5 (show ∀ ad, A5 = some ad → w.heap.size ≤ ad.block from fun ad e => hl3 ad _ _ (by rw [e])))); have H5 := Lib.hid (And.intro hn5 hc5); clear hn5 hc5 hr5 hb3 hl3)
      | (go_at_call 15; refine (rwaiting_any (HV.out.below H3.out.1) (by have := HN.out.1; unfold szL at this; omega) x).mono ?_; rw [HWT.out]; rintro e w5 ⟨rfl, hb5⟩; have H4 := Lib.hid hb5; clear hb5))
    obtain ⟨w6, hw6⟩ : ∃ w6, w6 = w5.alloc (.cells #[.int .i64 o.th.k, .string o.th.t, .string o.th.y, .int .i64 o.m] 34) := ⟨_, rfl⟩
    obtain ⟨b6, hb6⟩ : ∃ b6, b6 = w5.heap.size := ⟨_, rfl⟩
    rw [← hw6, ← hb6]
    have hk6 : Blk w6 b6 34 #[.int .i64 o.th.k, .string o.th.t, .string o.th.y, .int .i64 o.m] := by rw [hw6, hb6]; exact Blk.new _ _ _
    have H6 := Lib.hid (show Below w.heap.size w w6 ∧ RowG thC 3 w6 w6.heap.size A5 (thingsL l.H x) ∧ (∀ ad, A5 = some ad → w.heap.size ≤ ad.block) by
      have h1 : Below w3.heap.size w3 w6 := by rw [hw6]; exact H4.out.alloc H4.out.size _
      exact ⟨H3.out.1.trans (h1.mono H3.out.1.size), (H3.out.2.1.below h1 (Nat.le_refl _)).more h1.size, H3.out.2.2⟩)
    have HW6 := Lib.hid (And.intro hw6 hb6)
    have HK6 := Lib.hid hk6
    have HSMT := Lib.hid (show ∀ y ∈ thingsL l.H x, Sm y from fun y hy => by
      obtain ⟨o', ho', _, e⟩ := mem_thingsL.1 hy
      rw [← e]; exact HN.out.2.2.2.1 o' ho')
    clear hw6 hb6 hk6
    have t0 : w6.cell? ⟨b6, 0, none⟩ = some (.int .i64 o.th.k) := HK6.out.cell 0
    have t1 : w6.cell? ⟨b6, 1, none⟩ = some (.string o.th.t) := HK6.out.cell 1
    have t2 : w6.cell? ⟨b6, 2, none⟩ = some (.string o.th.y) := HK6.out.cell 2
    go_upto_region 5 with (go_at_call 50; refine (rput_any H6.out.2.1 (Nat.le_refl _) H5.out.1 H5.out.2 (by have := things_len l.H x; omega) HSMT.out o.th HOW.out.2).mono ?_; rintro e w7 ⟨v7, rfl, ⟨A7, n7, c7, rfl, hn7, hc7, hr7⟩, hb7, hl7⟩; have H7 := Lib.hid (And.intro hn7 (And.intro hc7 (And.intro hr7 (And.intro hb7 hl7)))); clear hn7 hc7 hr7 hb7 hl7)
    clear t0 t1 t2
    have HL7 := Lib.hid (show Rl w w7 B tb D D l A7 n7 c7 (putT (thingsL l.H x) o.th) by
      have hlow := H6.out.1.trans (H7.out.2.2.2.1.mono H6.out.1.size)
      have hlo : ∀ ad, A7 = some ad → w.heap.size ≤ ad.block := fun ad e => (H7.out.2.2.2.2 ad _ _ (by rw [e])).elim (H6.out.2.2 ad) (Nat.le_trans H6.out.1.size)
      exact ⟨HV.out.below hlow, fun _ hk => .inl hk, fun _ hk => hk, Chg.of_below hlow, H7.out.2.2.1, fun ad ha _ hd => by have h1 := (HN.out.2.2.1 _ hd).2; have h2 := hlo ad ha; omega, H7.out.1, H7.out.2.1⟩)
    have hn'' : True := trivial
    obtain ⟨A0, n0, c0', A0', n', c', hX7⟩ := HL7.out.r
    have hn' : n' ≤ 600000 := by rw [hX7.wn]; omega
    have hn0' : (0 : Int) ≤ (n' : Int) := Int.natCast_nonneg _
    have c1 := hX7.c1
    have HX7 := Lib.hid (And.intro hX7 hX7.wn)
    clear hX7 hn''
    go_wp2_with fail
    go_loop [8] (fun i => ∃ k : Nat, k ≤ n' ∧ i = .int .i64 k ∧ waitL (l.W.drop k) x = some o ∧ cutW x l.W = l.W.take k ++ cutW x (l.W.drop k)) (fun i => n' - (intOf i).toNat)
    case atStart => exact ⟨0, Nat.zero_le _, rfl, by rw [List.drop_zero]; exact HOW.out.1, by rw [List.drop_zero]; rfl⟩
    case round =>
      obtain ⟨k, hk, rfl, hat, hcut⟩ := hrel
      have hk0 : (0 : Int) ≤ (k : Int) := Int.natCast_nonneg _
      have HAT := Lib.hid (And.intro hat hcut)
      clear hat hcut
      by_cases hlt : k < n'
      · have hlt1 : (k : Int) < (n' : Int) := by omega
        have hkl : k < l.W.length := by rw [← HX7.out.2]; exact hlt
        obtain ⟨ad, hA0, -, -, -, -, d3, -, -⟩ := od_at HX7.out.1.wg hkl
        subst hA0
        have hst := waitL_step (x := x) hkl
        have hct := cutW_step (x := x) hkl
        obtain ⟨y, hy⟩ : ∃ y, y = l.W[k] := ⟨_, rfl⟩
        rw [← hy] at d3 hst hct
        have HST := Lib.hid (And.intro hst (And.intro hct hy))
        clear hst hct hy
        by_cases h2 : y.x = x
        · have hxd : (y.x == x) = true := by simp [h2]
          have HCU := Lib.hid (show cutW x l.W = l.W.take k ++ l.W.drop (k + 1) by rw [HAT.out.2, HST.out.2.1, if_pos h2])
          clear h2
          go_upto_region 10 with (go_at_call 45; refine (rdrop_any HL7.out.r (by omega) (Nat.le_trans HN.out.2.1 HL7.out.ch.size) k hkl).mono ?_; rintro e w9 ⟨rfl, hto⟩; have HTO9 := Lib.hid hto; clear hto)
          obtain ⟨al, hal⟩ : ∃ al, al = putT (thingsL l.H x) o.th := ⟨_, rfl⟩
          obtain ⟨W1, hW1⟩ : ∃ W1, W1 = l.W.take k ++ l.W.drop (k + 1) := ⟨_, rfl⟩
          obtain ⟨D9, hD9⟩ : ∃ D9, D9 = Ext D w7 w9 := ⟨_, rfl⟩
          have HL9 := Lib.hid (show Rl w w9 B tb D D9 ⟨l.H, W1⟩ A7 n7 c7 al by rw [hal, hW1, hD9]; exact HL7.out.step HTO9.out)
          have HR9 := Lib.hid (show releaseL l x = sweepAll al ⟨resF x l.H, W1⟩ ∧ W1.length ≤ l.W.length by
            rw [hal, hW1]
            refine ⟨by rw [HR.out, HCU.out], ?_⟩
            simp only [List.length_append, List.length_take, List.length_drop]
            omega)
          have HALN := Lib.hid (show al.length ≤ 700000 by have h1 := putT_len (thingsL l.H x) o.th; have h2 := things_len l.H x; rw [hal]; omega)
          clear HST HAT HCU hal hW1 hD9 c1 d3 hk hk0 hlt hlt1 hkl hxd
          obtain ⟨A, n, c, A', n', c', hX⟩ := HL9.out.r
          have hB9 : B ≤ w9.heap.size := Nat.le_trans HN.out.2.1 HL9.out.ch.size
          have hnl : n = l.H.length := hX.hn
          have hn6 : n ≤ 600000 := by omega
          have hn0 : (0 : Int) ≤ (n : Int) := Int.natCast_nonneg _
          have HX9 := Lib.hid (And.intro hX (And.intro hB9 (And.intro hnl (fun (k : Nat) (hk : D9 k) => (hX.foot k hk).2))))
          have HB1 := Lib.hid (Bd.new (b := false) hX)
          obtain ⟨w10, hw10⟩ : ∃ w10, w10 = w9.alloc (.cells #[] 73) := ⟨_, rfl⟩
          rw [← hw10] at HB1
          have HW10 := Lib.hid hw10
          have c0 := HB1.out.r.c0
          clear hX hB9 hnl hw10
          go_upto_region 11 with fail
          rw [← HW10.out]
          go_wp2_with fail
          go_loopw [9, 10] (fun rv iv wr => ∃ (k m z : Nat) (A1 : Option Addr) (xs : List Od), k ≤ n ∧ iv = .int .i64 k ∧ rv = .slice A1 m z ∧ m = xs.length ∧ m ≤ k ∧ xs ++ resF x (l.H.drop k) = resF x l.H ∧ Bd w9 wr B tb D9 A n c A' n' c' ⟨l.H, W1⟩ false (.slice A1 m z) m xs) (fun _ iv _ => n - (intOf iv).toNat)
          case atStart => exact ⟨0, 0, 0, _, [], Nat.zero_le _, rfl, rfl, rfl, Nat.le_refl _, by rw [List.drop_zero]; rfl, HB1.out⟩
          case round =>
            clear c0
            obtain ⟨k, m, z, A1, xs, hk, rfl, rfl, hm, hmk, hat, hBr⟩ := hrel
            have hk0 : (0 : Int) ≤ (k : Int) := Int.natCast_nonneg _
            have HBR := Lib.hid hBr
            have HAT := Lib.hid (And.intro hat hm)
            have c0 := hBr.r.c0
            clear hBr hat hm
            by_cases hlt : k < n
            · have hlt1 : (k : Int) < (n : Int) := by omega
              have hkl : k < l.H.length := by rw [← HX9.out.2.2.1]; exact hlt
              obtain ⟨ad, rfl, -, d0, d1, d2, d3, d4, d5⟩ := od_at HBR.out.r.hg hkl
              have hst := resF_step (x := x) hkl
              obtain ⟨y, hy⟩ : ∃ y, y = l.H[k] := ⟨_, rfl⟩
              simp only at d0 d1 d2 d3 d4 d5
              rw [← hy] at d0 d1 d2 d3 d4 hst
              have HST := Lib.hid hst
              clear hst hy
              by_cases hx : y.x = x
              · have q1 : (y.x != x) = false := by simp [hx]
                have HI := Lib.hid (show resF x (l.H.drop k) = resF x (l.H.drop (k + 1)) by rw [HST.out, if_pos hx])
                clear hx
                go_wp2_with fail
                go_roundw
                case rel => exact ⟨k + 1, m, z, A1, xs, by omega, by go_num, rfl, HAT.out.2, by omega, by rw [← HI.out]; exact HAT.out.1, HBR.out⟩
                case measure => simp [intOf]; omega
              · have q1 : (y.x != x) = true := by simp [hx]
                have HI := Lib.hid (show resF x (l.H.drop k) = y :: resF x (l.H.drop (k + 1)) by rw [HST.out, if_neg hx])
                clear hx
                go_wp2_with (at_builtin; refine wpList_append_row rfl _ _ 28 rfl w9.heap.size 73 i0 (.agg #[.int .i64 0, .string ⟨#[]⟩, .string ⟨#[]⟩, .int .i64 0, .int .i64 0, .bool false]) 6 64 Tryz.underlying28 hi hz0 hz1 hz2 rfl (by decide) _ m _ (HBR.out.own.alloc _) (by rfl) (some ⟨wr.heap.size, 0, none⟩) 1 1 (odC false y) (by rfl) rfl (fun h => by cases h) (fun ad' had => by cases had; exact World.news_of_block (Go.heap_alloc_new _ _)) (fun u hu => by simp [odC] at hu; rcases hu with rfl | rfl | rfl | rfl | rfl | rfl <;> rfl) (by first | (simp [maxLen]; done) | (simp [maxLen]; omega)) (by omega) (by have := HBR.out.low.size; simp; omega) ?_; intro A4 c4 w4 hR4; have HB4 := Lib.hid ((HBR.out.below ((Below.refl _ wr).alloc (Nat.le_refl _) _)).step (ys := [y]) (by rw [show ods false [y] = odC false y by simp [ods]]; exact hR4) HX9.out.2.2.2); clear hR4)
                go_roundw
                case rel => exact ⟨k + 1, m + 1, c4, A4, xs ++ [y], by omega, by go_num, rfl, by rw [HAT.out.2]; simp, by omega, by rw [← HAT.out.1, HI.out]; simp, HB4.out⟩
                case measure => simp [intOf]; omega
            · have hlt1 : ¬ (k : Int) < (n : Int) := by omega
              have HXS := Lib.hid (show xs = resF x l.H by rw [← HAT.out.1, List.drop_eq_nil_of_le (by rw [← HX9.out.2.2.1]; omega)]; simp [resF])
              have f0 := HBR.out.r.blk.frozen 0
              have HTO := Lib.hid (HBR.out.set0 HX9.out.1 HX9.out.2.1 HAT.out.2)
              go_upto_region 17 with fail
              obtain ⟨w12, hw12⟩ : ∃ w12, w12 = wr.setCell ⟨tb, 0, none⟩ (.slice A1 m z) := ⟨_, rfl⟩
              rw [← hw12] at HTO ⊢
              obtain ⟨D12, hD12⟩ : ∃ D12, D12 = Ext D9 w9 w12 := ⟨_, rfl⟩
              have HL12 := Lib.hid (show Rl w w12 B tb D D12 ⟨resF x l.H, W1⟩ A7 n7 c7 al by
                have h1 := HL9.out.step HTO.out
                rw [HXS.out] at h1
                rw [hD12]
                exact h1)
              clear hw12 f0 c0 hD12
              obtain ⟨w13, hw13⟩ : ∃ w13, w13 = w12.alloc (.cells #[] 3) := ⟨_, rfl⟩
              have HS13 := Lib.hid (show Rs w w13 B tb D D12 ⟨resF x l.H, W1⟩ A7 n7 c7 al (.slice (some ⟨w12.heap.size, 0, none⟩) 0 0) 0 [] by
                have hb : Below w12.heap.size w12 w13 := by rw [hw13]; exact (Below.refl _ w12).alloc (Nat.le_refl _) _
                have h9 := World.ownsRow_lit (base := w.heap.size) (size := 1) (e := 3) w12 #[] 0 HL12.out.ch.size (by simp [maxLen]) (by simp)
                rw [← hw13] at h9
                refine ⟨HL12.out.below hb, h9, rfl, fun q hq hd => ?_, fun ad ha h0 e => ?_⟩
                · have := (HL12.out.r.foot hd).2
                  simp [Value.ownBlock] at hq
                  omega
                · have := HL12.out.lt ha h0
                  simp [Value.ownBlock] at e
                  omega)
              have HW13 := Lib.hid hw13
              have hnn : n7 = al.length := HL12.out.hn
              have hnn0 : (0 : Int) ≤ (n7 : Int) := Int.natCast_nonneg _
              have hnn7 : n7 ≤ 700000 := by have := HALN.out; omega
              have HNN := Lib.hid hnn
              clear hw13 hk hk0 hmk hlt hlt1 hnn HBR HAT HXS
              go_upto_region 18 with fail
              rw [← HW13.out]
              go_wp2_with fail
              go_loopw [11, 12] (fun ov iv wr => ∃ (k m z : Nat) (A1 : Option Addr) (out : List Int) (l2 : Lk) (D' : Nat → Prop), k ≤ n7 ∧ iv = .int .i64 k ∧ ov = .slice A1 m z ∧ szL l2 ≤ szL l ∧ out.length + l2.W.length ≤ W1.length ∧ sweepAll al ⟨resF x l.H, W1⟩ = ((sweepAll (al.drop k) l2).1, out ++ (sweepAll (al.drop k) l2).2) ∧ Rs w wr B tb D D' l2 A7 n7 c7 al (.slice A1 m z) m out) (fun _ iv _ => n7 - (intOf iv).toNat)
              case atStart => exact ⟨0, 0, 0, _, [], ⟨resF x l.H, W1⟩, D12, Nat.zero_le _, rfl, rfl, by have := List.length_filter_le (fun o : Od => decide (o.x ≠ x)) l.H; have := HR9.out.2; unfold szL resF; simp only; omega, by simp, by rw [List.drop_zero]; rfl, HS13.out⟩
              case round =>
                obtain ⟨k, m, z, A1, out, l2, D', hk, rfl, rfl, hsz2, hcnt, hat, hSr⟩ := hrel
                have hk0 : (0 : Int) ≤ (k : Int) := Int.natCast_nonneg _
                have HSR := Lib.hid hSr
                have HAT := Lib.hid (And.intro hat (And.intro hsz2 hcnt))
                have hm6 : m ≤ 600000 := by have := hSr.hm; have := HR9.out.2; have := HN.out.1; unfold szL at this; omega
                clear hSr hat hsz2 hcnt
                by_cases hlt : k < n7
                · have hlt1 : (k : Int) < (n7 : Int) := by omega
                  have hkl : k < al.length := by rw [← HNN.out]; exact hlt
                  obtain ⟨ad, hA5, -, p0, p1, p2⟩ := th_at HSR.out.s.g hkl
                  have hst := sweepAll_step (l := l2) hkl
                  obtain ⟨y, hy⟩ : ∃ y, y = al[k] := ⟨_, rfl⟩
                  rw [← hy] at p0 p1 p2 hst
                  subst hA5
                  have HST := Lib.hid hst
                  clear hst hy
                  go_wp2_with (first
                    | (go_at_call 46; refine (rsweep_any HSR.out.s.r (by have := HAT.out.2.1; have := HN.out.1; omega) (Nat.le_trans HN.out.2.1 HSR.out.s.ch.size) y).mono ?_; rintro e w15 ⟨v15, rfl, ⟨A15, n15, c15, rfl, hn15, ho15⟩, hto⟩; have HS15 := Lib.hid (HSR.out.step hto); have HO15 := Lib.hid (And.intro hn15 ho15); have hn16 : n15 ≤ 600000 := (by have h1 := sweepL_cnt l2 y; have h2 := HAT.out.2.1; have h3 := HN.out.1; unfold szL at h2 h3; omega); clear hn15 ho15 hto)
                    | (at_builtin; refine wpList_append_row rfl _ _ 41 rfl w.heap.size 3 j0 (.int .i64 0) 1 8 Tryz.underlying41 hj hy0 hy1 hy2 rfl (by decide) _ m _ HS15.out.own (by rfl) A15 n15 c15 (intsV (sweepL l2 y).2) (by rfl) (by rw [HO15.out.1]; simp [intsV]) (ints_cells HO15.out.2).1 (ints_cells HO15.out.2).2 (fun u hu => by simp [intsV] at hu; obtain ⟨q, _, rfl⟩ := hu; rfl) (by first | (simp [maxLen]; done) | (simp [maxLen]; omega)) (by omega) HS15.out.s.ch.size ?_; intro A16 c16 w16 hR16; have H16 := Lib.hid (HS15.out.push hR16 (by rw [HO15.out.1])); clear hR16))
                  go_roundw
                  case rel => exact ⟨k + 1, m + n15, c16, A16, out ++ (sweepL l2 y).2, (sweepL l2 y).1, _, by omega, by go_num, rfl, Nat.le_trans (sweepL_sz l2 y) HAT.out.2.1, by have h1 := sweepL_cnt l2 y; have h2 := HAT.out.2.2; simp only [List.length_append]; omega, by rw [HAT.out.1, HST.out]; simp, H16.out⟩
                  case measure => simp [intOf]; omega
                · have hlt1 : ¬ (k : Int) < (n7 : Int) := by omega
                  have HF := Lib.hid (show releaseL l x = (l2, out) by rw [HR9.out.1, HAT.out.1, List.drop_eq_nil_of_le (by rw [← HNN.out]; omega)]; simp [sweepAll])
                  go_wp2_with fail
                  go_ret
                  rw [HF.out]
                  exact ⟨_, rfl, ⟨_, _, _, rfl, HSR.out.hm, HSR.out.own⟩, HSR.out.s.end_ HN.out.2.1 HN.out.2.2.1⟩
        · have hxd : (y.x == x) = false := by simp [h2]
          have HF := Lib.hid (show waitL (l.W.drop (k + 1)) x = some o ∧ cutW x l.W = l.W.take (k + 1) ++ cutW x (l.W.drop (k + 1)) by
            refine ⟨by rw [← HAT.out.1, HST.out.1, if_neg h2], ?_⟩
            rw [HAT.out.2, HST.out.2.1, if_neg h2, List.take_succ_eq_append_getElem hkl, ← HST.out.2.2, List.append_assoc]
            rfl)
          clear h2
          go_wp2_with fail
          go_round
          case rel => exact ⟨k + 1, by omega, by go_num, HF.out.1, HF.out.2⟩
          case measure => simp [intOf]; omega
      · exfalso
        have h1 := HAT.out.1
        rw [List.drop_eq_nil_of_le (by rw [← HX7.out.2]; omega)] at h1
        cases h1
end Go.Proofs.YthbbheegkhlniaaGreat
