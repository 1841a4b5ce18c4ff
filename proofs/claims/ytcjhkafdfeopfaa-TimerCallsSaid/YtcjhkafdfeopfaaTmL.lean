/-
  TimerAll over a contract of the timers.
-/
import Derived.Test.YtcjhkafdfeopfaaTmO
namespace Go.Proofs.Ytcjhkafdfeopfaa
open Go.RowKit Go.Lib Go.Maps

abbrev lI (t : Int) : Lit := .int .i64 t
theorem drop_head {l : List On} {p : Nat} (h : p < l.length) : dropO l[p].i (l.drop p) = l.drop (p + 1) := by
  rw [List.drop_eq_getElem_cons h]
  unfold dropO
  rw [if_pos rfl]
theorem drop_due (now : Int) (l : List On) : l.drop (dueO now l).length = restO now l := by
  have h := due_rest now l
  conv => lhs; rw [← h]
  have h2 : (dueO now (dueO now l ++ restO now l)) = dueO now l := by rw [h]
  rw [h2]
  simp
theorem due_get {now : Int} {l : List On} {p : Nat} (h : p < (dueO now l).length) : ∃ h2 : p < l.length, (dueO now l)[p] = l[p] := by
  have h1 := due_rest now l
  have h2 : p < l.length := by rw [← h1]; simp; omega
  refine ⟨h2, ?_⟩
  have h3 : (dueO now l ++ restO now l)[p]'(by rw [h1]; exact h2) = l[p] := by simp only [h1]
  rw [← h3, List.getElem_append_left h]
theorem lk_eq {D : DataW Value} {l : List On} {id t c : Int} (h : KD lI D l) (ha : atO id l = some t) (hc : D.atKey (kI id) (.lit (.int .i64 0)) = .lit (.int .i64 c)) : c = t := by
  rw [h.at_ id t ha] at hc
  injection hc with hc
  injection hc with _ hc
  exact hc.symm
theorem OkO.dropN {l : List On} (h : OkO l) (p : Nat) : OkO (l.drop p) := ⟨h.srt.sublist (List.drop_sublist p l), h.uni.sublist (List.drop_sublist p l)⟩
set_option maxRecDepth 100000 in
set_option maxHeartbeats 12800000 in
theorem tall_walk {T : TmP} (I : Impl T) (A : Option Addr) (c : Nat) (cl : List C9) (A2 : Option Addr) (c2 : Nat) (ds : List Int) (w : World) (hc : RowG c9cell 3 w w.heap.size A cl) (hin : ∀ x ∈ cl, x.In) (hds : RowG intV 1 w w.heap.size A2 ds) (hin2 : ∀ x ∈ ds, NumI x) :
    Calls Try.prog 4 #[.slice A cl.length c, .slice A2 ds.length c2] w (YesB w) := by
  obtain ⟨n, hn⟩ : ∃ n, n = cl.length := ⟨_, rfl⟩
  obtain ⟨q, hq⟩ : ∃ q, q = ds.length := ⟨_, rfl⟩
  have H := Lib.hid (And.intro hc (And.intro hin (And.intro hds (And.intro hin2 (And.intro hn hq)))))
  rw [← hn, ← hq]
  have hn0 : (0 : Int) ≤ (n : Int) := Int.natCast_nonneg _
  have hq0 : (0 : Int) ≤ (q : Int) := Int.natCast_nonneg _
  clear hc hin hds hin2 hn hq
  go_enter Try.func4, Try.ntmps4
  go_wp2_with fail
  refine (alive9_any I w).mono ?_
  rintro e w1 ⟨rfl, h1⟩
  have H1 := Lib.hid h1
  clear h1
  by_cases hg1 : 200 < n
  · have g1 : decide ((200 : Int) < (n : Int)) = true := decide_eq_true (by omega)
    have g1' : (200 : Int) < (n : Int) := by omega
    go_wp2_with fail
    go_ret
    exact ⟨rfl, H1.out⟩
  by_cases hg2 : 100 < q
  · have g1 : decide ((200 : Int) < (n : Int)) = false := decide_eq_false (by omega)
    have g1' : ¬ (200 : Int) < (n : Int) := by omega
    have g2 : decide ((100 : Int) < (q : Int)) = true := decide_eq_true (by omega)
    have g2' : (100 : Int) < (q : Int) := by omega
    go_wp2_with fail
    go_ret
    exact ⟨rfl, H1.out⟩
  have g1 : decide ((200 : Int) < (n : Int)) = false := decide_eq_false (by omega)
  have g1' : ¬ (200 : Int) < (n : Int) := by omega
  have g2 : decide ((100 : Int) < (q : Int)) = false := decide_eq_false (by omega)
  have g2' : ¬ (100 : Int) < (q : Int) := by omega
  go_wp2_with fail
  clear g1 g1' g2 g2'
  refine (I.new w1 w.heap.size H1.out.size).mono ?_
  rintro e w2 ⟨tb, D, rfl, ht2, _, hb2⟩
  have hlow2 := H1.out.trans (hb2.mono H1.out.size)
  have H2 := Lib.hid (And.intro ht2 hlow2)
  clear ht2 hlow2 hb2
  have hmm := @run_makeMap Try.prog
  go_wp2_with fail
  obtain ⟨wm, hwm⟩ : ∃ wm, wm = w2.alloc (.map #[] 0) := ⟨_, rfl⟩
  obtain ⟨mb, hmb⟩ : ∃ mb, mb = w2.heap.size := ⟨_, rfl⟩
  have hbm : Below w2.heap.size w2 wm := by rw [hwm]; exact (Below.refl _ w2).alloc (Nat.le_refl _) _
  have H3 := Lib.hid (show ∃ (k : Nat) (D : Nat → Prop) (l : List On) (cnt : Nat) (Dm : DataW Value), k ≤ n ∧ Value.int .i64 0 = .int .i64 k ∧ DrIn T lI 3 w tb mb k wm D l cnt Dm ∧ l.length ≤ k from
    ⟨0, D, [], 0, .map [], Nat.zero_le _, rfl, ⟨⟨⟨I.below H2.out.1 hbm, H2.out.2.trans (hbm.mono H2.out.2.size)⟩, by rw [hwm, hmb]; exact World.ownsMap_made w2 _ _ _, fun hk => by have := (I.foot H2.out.1 hk).2; omega, by rw [hmb]; exact H2.out.2.size⟩, KD.nil _, by simp, NumL.nil, Nat.le_refl _⟩, Nat.le_refl _⟩)
  rw [← hwm, ← hmb]
  clear hwm hmb hbm hmm H2
  go_loopw [7] (fun i wr => ∃ (k : Nat) (D : Nat → Prop) (l : List On) (cnt : Nat) (Dm : DataW Value), k ≤ n ∧ i = .int .i64 k ∧ DrIn T lI 3 w tb mb k wr D l cnt Dm ∧ l.length ≤ k) (fun i _ => n - (intOf i).toNat)
  case atStart => exact H3.out
  case round =>
    obtain ⟨k, D, l, cnt, Dm, hk, rfl, ⟨hT, hK, hl2, hN, hcnt⟩, hlk⟩ := hrel
    have hk0 : (0 : Int) ≤ (k : Int) := Int.natCast_nonneg _
    have HR := Lib.hid (And.intro hT (And.intro hK (And.intro hlk (And.intro hN hcnt))))
    clear hT hK hl2 hN hcnt hlk
    by_cases hlt : k < n
    · have hlt1 : (k : Int) < (n : Int) := by omega
      have hkl : k < cl.length := by rw [← H.out.2.2.2.2.1]; exact hlt
      obtain ⟨ad, rfl, _, _, d1, d2⟩ := (H.out.1.below HR.out.1.q.low (Nat.le_refl _)).c9 hkl
      obtain ⟨x, hx⟩ : ∃ x, x = cl[k] := ⟨_, rfl⟩
      rw [← hx] at d1 d2
      have HX := Lib.hid (show x = cl[k] ∧ x.In from ⟨hx, by rw [hx]; exact H.out.2.1 _ (List.getElem_mem hkl)⟩)
      have HD := Lib.hid (HR.out.1.drew I)
      have HSET := Lib.hid (I.set x.id x.at_ HD.out.q.t (by have := HR.out.2.2.1; omega) HD.out.q.low.size HX.out.2.1 HX.out.2.2)
      clear hx
      go_upto_region 10 with fail
      go_still_tail 11, (by kernel_rfl)
      repeat still_step
      change wpList _ _ _ _ _ wr.drew
      clear d1 d2
      go_wp2_with fail
      refine HSET.out.mono ?_
      rintro e w5 ⟨rfl, ht5, hc5⟩
      have H5 := Lib.hid (HD.out.step I ht5 hc5)
      have H5D := Lib.hid (H5.out.drew I)
      obtain ⟨adx, eadx, _, _, d1, d2⟩ := (H.out.1.below H5.out.q.low (Nat.le_refl _)).c9 hkl
      obtain rfl := Option.some.inj eadx
      rw [← HX.out.1] at d1 d2
      clear ht5 hc5 HSET
      go_upto_region 11 with fail
      go_still_tail 11, (by kernel_rfl)
      repeat still_step
      change wpList _ _ _ _ _ w5.drew
      go_wp2_with (first | (at_mapUpdate; refine at_tell_i _ rfl _ _ _ rfl mb cnt Dm rfl H5D.out.map (by have := HR.out.2.2.2.2; unfold maxLen; omega) x.id HX.out.2.1 rfl x.at_ HX.out.2.2 rfl ?_; intro w6 hown6 hgr6; have HS6 := Lib.hid (H5D.out.tell I hown6 hgr6); clear hown6 hgr6))
      go_roundw
      case rel =>
        have hsl := setO_len ⟨x.id, x.at_⟩ l
        have := HR.out.2.2.1
        exact ⟨k + 1, _, _, _, _, by omega, by go_num, ⟨HS6.out, HR.out.2.1.set (I.ok HR.out.1.q.t) (HR.out.1.map.tidy intK) ⟨x.id, x.at_⟩, by omega, HR.out.2.2.2.1.set (I.ok HR.out.1.q.t) HX.out.2, by have := HR.out.2.2.2.2; omega⟩, by omega⟩
      case measure => simp [intOf]; omega
    · have hlt1 : ¬ (k : Int) < (n : Int) := by omega
      go_wp2_with fail
      go_loopw [8, 9, 10] (fun v8 v9 v10 wr => ∃ (i : Nat) (now : Int) (D : Nat → Prop) (l : List On) (cnt : Nat) (Dm : DataW Value), i ≤ q ∧ v8 = .int .i64 now ∧ v9 = .int .i64 now ∧ v10 = .int .i64 i ∧ NumI now ∧ DrIn T lI 3 w tb mb n wr D l cnt Dm ∧ (0 < i → ∀ x ∈ l, now < x.t)) (fun _ _ i _ => q - (intOf i).toNat)
      case atStart => exact ⟨0, -9223372036854775808, D, l, cnt, Dm, Nat.zero_le _, rfl, rfl, rfl, ⟨by decide, by decide⟩, ⟨HR.out.1, HR.out.2.1, by have := HR.out.2.2.1; omega, HR.out.2.2.2.1, by have := HR.out.2.2.2.2; omega⟩, fun h => absurd h (by decide)⟩
      case round =>
        obtain ⟨i, now, D, l, cnt, Dm, hi, rfl, rfl, rfl, hnow, ⟨hT, hK, hl2, hN, hcnt⟩, hlast⟩ := hrel
        have hi0 : (0 : Int) ≤ (i : Int) := Int.natCast_nonneg _
        have HR := Lib.hid (And.intro hT (And.intro hK (And.intro hl2 (And.intro hN (And.intro hcnt (And.intro hnow hlast))))))
        clear hT hK hl2 hN hcnt hlast
        by_cases hiq : i < q
        · have hiq1 : (i : Int) < (q : Int) := by omega
          have hil : i < ds.length := by rw [← H.out.2.2.2.2.2]; exact hiq
          obtain ⟨ad, rfl, _, d0⟩ := int_at (H.out.2.2.1.below HR.out.1.q.low (Nat.le_refl _)) hil
          have hs := H.out.2.2.2.1 _ (List.getElem_mem hil)
          obtain ⟨s, hs'⟩ : ∃ s, s = ds[i] := ⟨_, rfl⟩
          rw [← hs'] at d0 hs
          obtain ⟨nw, hnw⟩ : ∃ nw, nw = if now < s then s else now := ⟨_, rfl⟩
          have HNW := Lib.hid (show NumI nw ∧ now ≤ nw from by
            unfold NumI at *
            rw [hnw]
            split <;> omega)
          obtain ⟨B, hB⟩ : ∃ B, B = wr.heap.size := ⟨_, rfl⟩
          have HB := Lib.hid (show mb < B from by rw [hB]; exact HR.out.1.map.lt)
          have hdu := I.due nw HR.out.1.q.t (by have := HR.out.2.2.1; omega) HR.out.1.q.low.size HNW.out.1
          rw [← hB] at hdu
          have HDU := Lib.hid hdu
          clear hs' hdu hB hs
          go_upto_region 18 with fail
          rw [← hnw]
          clear hnw d0
          go_wp2_with fail
          refine HDU.out.mono ?_
          rintro e w5 ⟨A6, n6, c6, rfl, hn6, ho6, ht6, hc6⟩
          have H5 := Lib.hid (And.intro (HR.out.1.step I ht6 hc6) (And.intro ho6 hn6))
          have hn60 : (0 : Int) ≤ (n6 : Int) := Int.natCast_nonneg _
          have hn62 : n6 ≤ 200 := by
            have h1 := HR.out.2.2.1
            have h2 := (List.takeWhile_sublist (l := l) (fun a => decide (a.t ≤ nw))).length_le
            unfold dueO at hn6
            omega
          clear hn6 ho6 ht6 hc6 HDU
          go_wp2_with fail
          go_loopw [12] (fun i wr => ∃ p d : Nat, p ≤ n6 ∧ i = .int .i64 p ∧ wr = w5.drewN d) (fun i _ => n6 - (intOf i).toNat)
          case atStart => exact ⟨0, 0, Nat.zero_le _, rfl, rfl⟩
          case round =>
            obtain ⟨p, d, hp, rfl, hw⟩ := hrel
            have hp0 : (0 : Int) ≤ (p : Int) := Int.natCast_nonneg _
            have hbw : Below w5.heap.size w5 wr := by rw [hw]; exact below_dN (Below.refl _ _) _
            by_cases hpn : p < n6
            · have hpn1 : (p : Int) < (n6 : Int) := by omega
              have hpd : p < (dueO nw l).length := by rw [← H5.out.2.2]; exact hpn
              obtain ⟨hpl, hpg⟩ := due_get hpd
              have hrow := (ids_row H5.out.2.1 H5.out.2.2).below hbw (Nat.le_refl _)
              obtain ⟨ad, rfl, _, d0⟩ := int_at hrow (i := p) (by rw [List.length_map]; exact hpd)
              rw [List.getElem_map, hpg] at d0
              obtain ⟨y, hy⟩ : ∃ y, y = l[p] := ⟨_, rfl⟩
              rw [← hy] at d0
              have hym : y ∈ l := by rw [hy]; exact List.getElem_mem hpl
              have hyt : y.t ≤ nw := by
                have := dueO_le (l := l) (now := nw) _ (List.getElem_mem hpd)
                rw [hpg, ← hy] at this
                exact this
              have hat : atO y.i l = some y.t := (atO_some (I.ok HR.out.1.q.t).uni).2 hym
              have hhas : Maps.has Dm (kI y.i) = true := by rw [HR.out.2.1.has, hat]; rfl
              have HY := Lib.hid (And.intro (chg_map H5.out.1.map (F := Non) (Chg.of_below hbw) id) (And.intro (HR.out.2.2.2.1 y hym).1 (And.intro hat (And.intro hhas (And.intro hw hy)))))
              have hyl : 0 < i → now < y.t := fun h => HR.out.2.2.2.2.2.2 h y hym
              clear hw hpg hym hat hhas hy
              go_upto_region 23 with (first | (at_lookup; refine wpList_lookup_own_ok_int _ rfl _ _ _ rfl 3 3 .i64 intK Try.underlying42 Try.underlying3 (zero_int _) mb cnt Dm rfl HY.out.1 _ (kI y.i) rfl HY.out.2.1.key ?_; intro cc hcc hwf; obtain rfl := lk_eq HR.out.2.1 HY.out.2.2.1 hcc; rw [HY.out.2.2.2.1]))
              go_cut [143] (fun v wx => v = .bool false ∧ ∃ d', wx = w5.drewN d')
              case first =>
                have a1 : decide (nw < y.t) = false := decide_eq_false (by omega)
                have a1' : ¬ nw < y.t := by omega
                by_cases hp' : p = 0
                · have b1 : decide ((0 : Int) < (p : Int)) = false := decide_eq_false (by omega)
                  have b1' : ¬ (0 : Int) < (p : Int) := by omega
                  have b1n : ¬ 0 < p := by omega
                  have b1d : decide (0 < p) = false := decide_eq_false b1n
                  by_cases hle : y.t ≤ now
                  · have a2 : decide (y.t ≤ now) = true := decide_eq_true hle
                    have hi00 : ¬ 0 < i := fun h => by have := hyl h; omega
                    have a3 : decide ((0 : Int) < (i : Int)) = false := decide_eq_false (by omega)
                    have a3' : ¬ (0 : Int) < (i : Int) := by omega
                    have a3d : decide (0 < i) = false := decide_eq_false hi00
                    clear hp' hyl
                    go_quiet (fail)
                    go_wp2_with fail
                    go_meet
                    exact ⟨by first | rfl | simp, _, by rw [HY.out.2.2.2.2.1]; exact World.drewN_drewN _ _ _⟩
                  · have a2 : decide (y.t ≤ now) = false := decide_eq_false hle
                    clear hp' hyl
                    go_quiet (fail)
                    go_wp2_with fail
                    go_meet
                    exact ⟨by first | rfl | simp, _, by rw [HY.out.2.2.2.2.1]; exact World.drewN_drewN _ _ _⟩
                · obtain ⟨p', hpp⟩ : ∃ p', p = p' + 1 := ⟨p - 1, by omega⟩
                  have b1 : decide ((0 : Int) < (p : Int)) = true := decide_eq_true (by omega)
                  have b1' : (0 : Int) < (p : Int) := by omega
                  have b1n : 0 < p := by omega
                  have b1d : decide (0 < p) = true := decide_eq_true b1n
                  have hpd' : p' < (dueO nw l).length := by omega
                  obtain ⟨hpl', hpg'⟩ := due_get hpd'
                  obtain ⟨adz, eadz, _, dz⟩ := int_at hrow (i := p') (by rw [List.length_map]; exact hpd')
                  obtain rfl := Option.some.inj eadz
                  rw [List.getElem_map, hpg'] at dz
                  obtain ⟨z, hz⟩ : ∃ z, z = l[p'] := ⟨_, rfl⟩
                  have hlt : ltO z y := by
                    rw [hz, HY.out.2.2.2.2.2]
                    exact List.pairwise_iff_getElem.1 (I.ok HR.out.1.q.t).srt p' p hpl' hpl (by omega)
                  rw [← hz] at dz
                  have hzm : z ∈ l := by rw [hz]; exact List.getElem_mem hpl'
                  have hzat : atO z.i l = some z.t := (atO_some (I.ok HR.out.1.q.t).uni).2 hzm
                  have hlz : ∀ m, (Instr.lookup 42 (.map (some mb)) (.int .i64 z.i) false).run Try.prog (wr.drewN m) = .ok (.int .i64 z.t) (wr.drewN m) := fun m => lookup_i (chg_map HY.out.1 (F := Non) (Chg.of_below (below_dN (Below.refl _ _) m)) id) HR.out.2.1 (HR.out.2.2.2.1 z hzm).1 hzat
                  have hwp : IntKind.i64.wrap ((p : Int) - 1) = (p' : Int) := by rw [IntKind.wrap_i64]; omega
                  have hp'1 : (p' : Int) < (n6 : Int) := by omega
                  have hp'0 : (0 : Int) ≤ (p' : Int) := Int.natCast_nonneg _
                  have hp'n : p' < n6 := by omega
                  have c1 : decide (y.t < z.t) = false := decide_eq_false (by unfold ltO at hlt; omega)
                  have c1' : ¬ y.t < z.t := by unfold ltO at hlt; omega
                  have hcz : (z.t == y.t) = false ∨ ((z.t == y.t) = true ∧ decide (y.i ≤ z.i) = false) := by
                    rcases hlt with h1 | ⟨h1, h2⟩
                    · left; rw [beq_eq_false_iff_ne]; omega
                    · right; exact ⟨by rw [h1]; exact beq_self_eq_true _, decide_eq_false (by omega)⟩
                  clear hp' hlt hzm hzat hz hpg' hpl' hpd' hpp
                  by_cases hle : y.t ≤ now
                  · have a2 : decide (y.t ≤ now) = true := decide_eq_true hle
                    have hi00 : ¬ 0 < i := fun h => by have := hyl h; omega
                    have a3 : decide ((0 : Int) < (i : Int)) = false := decide_eq_false (by omega)
                    have a3' : ¬ (0 : Int) < (i : Int) := by omega
                    have a3d : decide (0 < i) = false := decide_eq_false hi00
                    clear hyl
                    rcases hcz with c2' | ⟨c2', c3⟩
                    · go_quiet (fail)
                      go_wp2_with fail
                      go_meet
                      exact ⟨by first | rfl | simp, _, by rw [HY.out.2.2.2.2.1]; exact World.drewN_drewN _ _ _⟩
                    · go_quiet (fail)
                      go_wp2_with fail
                      go_meet
                      exact ⟨by first | rfl | simp, _, by rw [HY.out.2.2.2.2.1]; exact World.drewN_drewN _ _ _⟩
                  · have a2 : decide (y.t ≤ now) = false := decide_eq_false hle
                    clear hyl
                    rcases hcz with c2' | ⟨c2', c3⟩
                    · go_quiet (fail)
                      go_wp2_with fail
                      go_meet
                      exact ⟨by first | rfl | simp, _, by rw [HY.out.2.2.2.2.1]; exact World.drewN_drewN _ _ _⟩
                    · go_quiet (fail)
                      go_wp2_with fail
                      go_meet
                      exact ⟨by first | rfl | simp, _, by rw [HY.out.2.2.2.2.1]; exact World.drewN_drewN _ _ _⟩
              case rest =>
                obtain ⟨rfl, d', rfl⟩ := hcut
                go_wp2_with fail
                go_roundw
                case rel => exact ⟨p + 1, d', by omega, by go_num, rfl⟩
                case measure => simp [intOf]; omega
            · have hpn1 : ¬ (p : Int) < (n6 : Int) := by omega
              have H6 := Lib.hid (And.intro (H5.out.1.below I hbw) (own_chg H5.out.2.1 (F := Non) (Chg.of_below hbw) fun _ _ hf => hf))
              clear hw hbw
              go_wp2_with fail
              go_loopw [15] (fun v wx => ∃ (p : Nat) (Dm' : DataW Value) (D' : Nat → Prop), p ≤ n6 ∧ v = .int .i64 p ∧ Tm T 3 w wx tb D' (restO nw l) mb cnt Dm' ∧ KD lI Dm' (l.drop p) ∧ wx.ownsRow B 3 1 (.slice A6 n6 c6) n6 (ids (dueO nw l))) (fun i _ => n6 - (intOf i).toNat)
              case atStart => exact ⟨0, Dm, _, Nat.zero_le _, rfl, H6.out.1, HR.out.2.1, H6.out.2⟩
              case round =>
                obtain ⟨p, Dm', D', hp, rfl, hT, hK, ho⟩ := hrel
                have hp0 : (0 : Int) ≤ (p : Int) := Int.natCast_nonneg _
                have HP := Lib.hid (And.intro hT (And.intro hK ho))
                clear hT hK ho
                by_cases hpn : p < n6
                · have hpn1 : (p : Int) < (n6 : Int) := by omega
                  have hpd : p < (dueO nw l).length := by rw [← H5.out.2.2]; exact hpn
                  obtain ⟨hpl, hpg⟩ := due_get hpd
                  obtain ⟨ad, rfl, _, d0⟩ := int_at (ids_row HP.out.2.2 H5.out.2.2) (i := p) (by rw [List.length_map]; exact hpd)
                  rw [List.getElem_map, hpg] at d0
                  have hdh := drop_head hpl
                  obtain ⟨y, hy⟩ : ∃ y, y = l[p] := ⟨_, rfl⟩
                  rw [← hy] at d0 hdh
                  have HY := Lib.hid (And.intro hdh (HR.out.2.2.2.1 y (by rw [hy]; exact List.getElem_mem hpl)).1)
                  clear hpg hdh hy
                  go_wp2_with (first | (at_delete; refine at_strike_i _ rfl _ _ rfl mb cnt Dm' rfl HP.out.1.map y.i HY.out.2 rfl ?_; intro w8 hown8 hgr8; have H8 := Lib.hid (And.intro (HP.out.1.tell I hown8 hgr8) (own_chg HP.out.2.2 ((Chg.refl (fun j => j = mb) _).grown hgr8 fun j hj _ => by cases hj; rfl) fun j hj e => by have := (HP.out.2.2.lt j hj).1; have := HB.out; omega)); clear hown8 hgr8))
                  go_roundw
                  case rel => exact ⟨p + 1, _, _, by omega, by go_num, H8.out.1, by rw [← HY.out.1]; exact HP.out.2.1.drop ((I.ok HR.out.1.q.t).dropN p) (HP.out.1.map.tidy intK) y.i, H8.out.2⟩
                  case measure => simp [intOf]; omega
                · have hpn1 : ¬ (p : Int) < (n6 : Int) := by omega
                  have hpe : p = (dueO nw l).length := by rw [← H5.out.2.2]; omega
                  have hK2 := HP.out.2.1
                  rw [hpe, drop_due] at hK2
                  have hT2 := HP.out.1
                  have hfar : ∀ x ∈ restO nw l, nw < x.t := fun x hx => ((mem_restO (I.ok HR.out.1.q.t).srt).1 hx).2
                  have hrn := HR.out.2.2.2.1.rest nw
                  have hrl := restO_len nw l
                  obtain ⟨m, hm⟩ : ∃ m, m = restO nw l := ⟨_, rfl⟩
                  rw [← hm] at hK2 hT2 hfar hrn hrl
                  have HM := Lib.hid (And.intro hT2 (And.intro hK2 (And.intro hfar (And.intro hrn (show m.length ≤ 200 from by have := HR.out.2.2.1; omega)))))
                  have HNX := Lib.hid (I.next HM.out.1.q.t (by have := HM.out.2.2.2.2; omega))
                  clear hpe hK2 hT2 hfar hrn hrl hm
                  cases m with
                  | nil =>
                    rw [show tmRes (nextO []) = .tuple #[.int .i64 0, .bool false] from rfl] at HNX
                    go_wp2_with fail
                    refine HNX.out.mono ?_
                    rintro e w7 ⟨rfl, hb7⟩
                    have H7 := Lib.hid (HM.out.1.below I hb7)
                    have HCN := Lib.hid (I.count H7.out.q.t (by simp))
                    rw [show (((([] : List On).length) : Nat) : Int) = 0 from rfl] at HCN
                    have hsz : (Maps.size Dm' : Int) = 0 := by rw [HM.out.2.1.size]; rfl
                    clear hb7 HNX
                    go_wp2_with fail
                    refine HCN.out.mono ?_
                    rintro e w8 ⟨rfl, hb8⟩
                    have H8 := Lib.hid (H7.out.below I hb8)
                    clear hb8 HCN
                    have hlen := H8.out.map.len Try.underlying42 3
                    rw [hsz] at hlen
                    go_wp2_with fail
                    go_roundw
                    case rel => exact ⟨i + 1, nw, _, [], cnt, Dm', by omega, rfl, rfl, by go_num, HNW.out.1, ⟨H8.out, HM.out.2.1, HM.out.2.2.2.2, HM.out.2.2.2.1, HR.out.2.2.2.2.1⟩, fun _ => HM.out.2.2.1⟩
                    case measure => simp [intOf]; omega
                  | cons a r =>
                    rw [show tmRes (nextO (a :: r)) = .tuple #[.int .i64 a.t, .bool true] from rfl] at HNX
                    have hfa := HM.out.2.2.1 a List.mem_cons_self
                    have e1 : decide (a.t ≤ nw) = false := decide_eq_false (by omega)
                    have e1' : ¬ a.t ≤ nw := by omega
                    go_wp2_with fail
                    refine HNX.out.mono ?_
                    rintro e w7 ⟨rfl, hb7⟩
                    have H7 := Lib.hid (HM.out.1.below I hb7)
                    have hcn := I.count H7.out.q.t (by have := HM.out.2.2.2.2; omega)
                    obtain ⟨z, hz⟩ : ∃ z, z = (a :: r).length := ⟨_, rfl⟩
                    rw [← hz] at hcn
                    have HCN := Lib.hid hcn
                    have hsz : (Maps.size Dm' : Int) = (z : Int) := by rw [HM.out.2.1.size, hz]
                    have hss : ((z : Int) != (z : Int)) = false := by simp
                    clear hb7 HNX hcn hz
                    go_wp2_with fail
                    refine HCN.out.mono ?_
                    rintro e w8 ⟨rfl, hb8⟩
                    have H8 := Lib.hid (H7.out.below I hb8)
                    clear hb8 HCN
                    have hlen := H8.out.map.len Try.underlying42 3
                    rw [hsz] at hlen
                    go_wp2_with fail
                    go_roundw
                    case rel => exact ⟨i + 1, nw, _, a :: r, cnt, Dm', by omega, rfl, rfl, by go_num, HNW.out.1, ⟨H8.out, HM.out.2.1, HM.out.2.2.2.2, HM.out.2.2.2.1, HR.out.2.2.2.2.1⟩, fun _ => HM.out.2.2.1⟩
                    case measure => simp [intOf]; omega
        · have hiq1 : ¬ (i : Int) < (q : Int) := by omega
          go_wp2_with fail
          go_ret
          exact ⟨rfl, HR.out.1.q.low⟩
end Go.Proofs.Ytcjhkafdfeopfaa
