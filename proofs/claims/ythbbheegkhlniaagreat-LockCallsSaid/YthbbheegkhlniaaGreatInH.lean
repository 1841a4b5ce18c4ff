/-
  The program's locks: Release.
-/
import Derived.Test.YthbbheegkhlniaaGreatM20
namespace Go.Proofs.YthbbheegkhlniaaGreat
open Go.RowKit Go.Lib Go.Shelf Go.Maps

set_option maxRecDepth 100000 in
set_option maxHeartbeats 25600000 in
theorem lrelease_any {B tb : Nat} {D : Nat → Prop} {w : World} {l : Lk} (x : Int) (h : TI B D w tb l) (hz : szL l ≤ 1000) (hB : B ≤ w.heap.size) (hx : NumI x) :
    Calls Tryz.prog 12 #[ptrL tb, .int .i64 x] w fun r w' => ∃ v, r = .returned v ∧ IntsRet w (releaseL l x).2 w' v ∧ TI B (Ext D w w') w' tb (releaseL l x).1 ∧ Chg D w w' := by
  have hok2 := (h.1.release x).ok
  obtain ⟨hok, S, hm, hr⟩ := h
  obtain ⟨i0, hi0, hz0, hz1, hz2⟩ := info_parts Tryz.infoint2
  obtain ⟨j0, hj0, hy0, hy1, hy2⟩ := info_parts Tryz.infothing
  have hl1 := hm.look1 hx
  have hl2 := hm.look2 hx
  have c1 := hm.c1
  have c2 := hm.c2
  obtain ⟨A0, cc0, hv0⟩ := (hm.tr x).form
  obtain ⟨n0, hn0⟩ : ∃ n0, n0 = (S.tg x).length := ⟨_, rfl⟩
  rw [← hn0] at hv0
  rw [hv0] at hl1
  have hn09 : n0 ≤ 1000 := by rw [hn0, hr.tg]; have := tgL_len l.H x; unfold szL at hz; omega
  have hown0 := (hm.tr x).own
  rw [hv0, ← hn0, hr.tg] at hown0
  have H := Lib.hid (And.intro hok2 (And.intro hok (And.intro hm (And.intro hr (And.intro hz (And.intro hB (And.intro hx (And.intro hv0 (And.intro hn0 hown0)))))))))
  have hkey := hx.key
  have HKEY := Lib.hid hkey
  obtain ⟨wk, wt, wy, wm, r, ew, er, erf, ert⟩ := waV_rel hr x
  rw [ew, er] at hl2
  obtain ⟨w1, hw1⟩ : ∃ w1, w1 = w.alloc (.cells #[.int .i64 wk, .string wt, .string wy, .int .i64 wm] 34) := ⟨_, rfl⟩
  have hb1 : Below w.heap.size w w1 := by rw [hw1]; exact (Below.refl _ w).alloc (Nat.le_refl _) _
  have hk1 : Blk w1 w.heap.size 34 #[.int .i64 wk, .string wt, .string wy, .int .i64 wm] := by rw [hw1]; exact Blk.new _ _ _
  have d0 : w1.cell? ⟨w.heap.size, 0, none⟩ = some (.int .i64 wk) := hk1.cell 0
  have d1 : w1.cell? ⟨w.heap.size, 1, none⟩ = some (.string wt) := hk1.cell 1
  have d2 : w1.cell? ⟨w.heap.size, 2, none⟩ = some (.string wy) := hk1.cell 2
  have HW := Lib.hid (And.intro hw1 (And.intro hb1 (And.intro erf ert)))
  clear hok2 hok hm hr hz hB hx hv0 hn0 hown0 hkey ew er erf ert hw1 hb1 hk1
  go_enter Tryz.func12, Tryz.ntmps12
  go_upto_if 27 with fail
  rw [← HW.out.1]
  go_cut [5] from 12 (fun v wx => ∃ (A : Option Addr) (n c : Nat), v = .slice A n c ∧ n = (relT l x).length ∧ RowTo B 32 3 (.slice A0 n0 cc0) w1 (.slice A n c) n (ths (relT l x)) wx)
  case first =>
    have HO := Lib.hid (own_chg H.out.2.2.2.2.2.2.2.2.2 (F := Non) (Chg.of_below HW.out.2.1) fun _ _ hf => hf)
    have HB1 := Lib.hid (show B ≤ w1.heap.size from Nat.le_trans H.out.2.2.2.2.2.1 HW.out.2.1.size)
    cases r with
    | false =>
      go_wp2_with fail
      go_meet
      case rel =>
        refine ⟨A0, n0, cc0, rfl, ?_, ?_⟩
        · rw [HW.out.2.2.1 trivial, H.out.2.2.2.2.2.2.2.2.1, H.out.2.2.2.1.tg]
        · rw [HW.out.2.2.1 trivial]
          exact RowTo.same HO.out
    | true =>
      go_wp2_with (at_builtin; refine wpList_append_row rfl _ _ 49 rfl B 32 j0 (.agg #[.int .i64 0, .string ⟨#[]⟩, .string ⟨#[]⟩]) 3 40 Tryz.underlying49 hj0 hy0 hy1 hy2 rfl (by decide) _ n0 _ (HO.out.alloc _) (by rfl) (some ⟨w1.heap.size, 0, none⟩) 1 1 [.int .i64 wk, .string wt, .string wy] (by rfl) rfl (fun h => by cases h) (fun ad' had => by cases had; exact World.news_of_block (Go.heap_alloc_new _ _)) (by intro u hu; simp at hu; rcases hu with rfl | rfl | rfl <;> rfl) (by simp [maxLen]; omega) (by omega) (by have := HB1.out; simp; omega) ?_; intro AX cX wX hRX; have HX := Lib.hid hRX; clear hRX)
      go_meet
      case rel =>
        refine ⟨AX, n0 + 1, cX, rfl, ?_, ?_⟩
        · rw [HW.out.2.2.2 trivial, H.out.2.2.2.2.2.2.2.2.1, H.out.2.2.2.1.tg]; simp
        · rw [HW.out.2.2.2 trivial]
          have e : ths (tgL l.H x) ++ [.int .i64 wk, .string wt, .string wy] = ths (tgL l.H x ++ [⟨wk, wt, wy⟩]) := by simp [ths, thC]
          have h9 := HX.out
          rw [e] at h9
          have hbl : Below w1.heap.size w1 (w1.alloc (.cells #[.int .i64 wk, .string wt, .string wy] 32)) := (Below.refl _ w1).alloc (Nat.le_refl _) _
          exact ⟨h9.own, fun k hk => (h9.blk k hk).imp id fun h1 => Nat.le_trans hbl.size h1, (Chg.of_below hbl).trans' h9.chg fun _ _ h1 => h1⟩
  case rest =>
    obtain ⟨A1, n1, cc1, rfl, hn1, hR1⟩ := hcut
    have hz' := H.out.2.2.2.2.1
    unfold szL at hz'
    have hn19 : n1 ≤ 1001 := by have := relT_len l x; omega
    have hRA : RowTo B 32 3 ((S.tf x).getD nilS) w1 (.slice A1 n1 cc1) n1 (ths (relT l x)) wc := by rw [H.out.2.2.2.2.2.2.2.1]; exact hR1
    obtain ⟨e1, e2, k1, k2⟩ := (H.out.2.2.1.below HW.out.2.1).rowA hRA
    have HA := Lib.hid (And.intro hRA (And.intro hn1 (And.intro k1 k2)))
    clear hRA hR1 hn1 k1 k2 hz' d0 d1 d2 c1 c2 hl1 hl2
    go_upto_region 6 with (refine at_del (t := 53) (e := 49) (enc := iV) (b := S.m1) _ rfl _ _ rfl (by simp [Act.eval]) HA.out.2.2.1 intK Tryz.underlying53 iV_inj x HKEY.out (by simp [Act.eval]) ?_; intro w5 hM5 hC5; have H5 := Lib.hid (Rl0.begin_ H.out.2.2.1 H.out.2.2.2.2.2.1 HW.out.2.1 HA.out.1 hM5 hC5); clear hM5 hC5)
    have e3 := H5.out.mm.c2
    have e3 : w5.cell? ⟨tb, 2, none⟩ = some (.map (some S.m2)) := e3
    have HK2 := Lib.hid H5.out.mm.k2
    go_upto_region 7 with (refine at_del (t := 54) (e := 34) (enc := iV) (b := S.m2) _ rfl _ _ rfl (by simp [Act.eval, Act.put]) HK2.out intK Tryz.underlying54 iV_inj x HKEY.out (by simp [Act.eval, Act.put]) ?_; intro w6 hM6 hC6; have H6 := Lib.hid (H5.out.same (H5.out.mm.setN (x := x) none hM6 hC6)); clear hM6 hC6)
    have hs := sortF_any H6.out.old HA.out.2.1 (by rw [← HA.out.2.1]; omega)
    have HS := Lib.hid hs
    clear hs e1 e2 e3 HK2
    go_upto_region 8 with (go_at_call 47; refine HS.out.mono ?_; rintro e w7 ⟨rfl, hR7⟩; have H7 := Lib.hid (H6.out.row hR7); clear hR7)
    have hc := compactT_any H7.out.old (by rw [sortT_len]; exact HA.out.2.1) (by rw [sortT_len, ← HA.out.2.1]; omega)
    rw [relT_relA] at hc
    have HC := Lib.hid hc
    clear hc
    go_wp2_with (go_at_call 49; refine HC.out.mono ?_; rintro e w8 ⟨n, rfl, hn, hR8⟩; have H8 := Lib.hid (And.intro hn (H7.out.row hR8)); clear hn hR8)
    have hn9 : n ≤ 1001 := by have h1 := H8.out.1; have h2 := relA_len l x; have h3 := H.out.2.2.2.2.1; unfold szL at h3; omega
    have hn0' : (0 : Int) ≤ (n : Int) := Int.natCast_nonneg _
    obtain ⟨S0, hS0⟩ : ∃ S0 : Sx, S0 = { { S with o := offO S.o ((S.tf x).getD nilS), tf := upd S.tf x none, tg := upd S.tg x [] } with wn := upd S.wn x none } := ⟨_, rfl⟩
    have HI := Lib.hid (show RelI x (relA l x) (rel0 l x) S0 from RelI.start H.out.2.2.2.1 H.out.2.1 H.out.2.2.2.2.1 (by rw [hS0]) (by rw [hS0]) (by rw [hS0]) (by rw [hS0]) (by rw [hS0]))
    have hR8 := H8.out.2
    have HR8 := Lib.hid (show ∃ D', Rl0 B tb D D' w w8 S0 (.slice A1 n cc1) n (ths (relA l x)) nilS 0 [] from ⟨_, by rw [hS0]; exact hR8⟩)
    clear hR8 hS0
    go_loopw [8, 10, 11, 48] (fun lv _ _ iv wr => ∃ (k : Nat) (D' : Nat → Prop) (S' : Sx) (AL : Option Addr) (nL cL : Nat), k ≤ n ∧ iv = .int .i64 k ∧ lv = .slice AL nL cL ∧ nL = (sweepAll ((relA l x).take k) (rel0 l x)).2.length ∧ nL ≤ 1000 * k ∧ Rl0 B tb D D' w wr S' (.slice A1 n cc1) n (ths (relA l x)) (.slice AL nL cL) nL (sweepAll ((relA l x).take k) (rel0 l x)).2 ∧ RelI x ((relA l x).drop k) (sweepAll ((relA l x).take k) (rel0 l x)).1 S') (fun _ _ _ iv _ => n - (intOf iv).toNat)
    case atStart =>
      obtain ⟨D', h8⟩ := HR8.out
      exact ⟨0, D', S0, none, 0, 0, by omega, rfl, rfl, rfl, by omega, h8, HI.out⟩
    case round =>
      obtain ⟨k, D', S', AL, nL, cL, hk, rfl, rfl, hnL, hnL9, hRl, hRI⟩ := hrel
      have hk0 : (0 : Int) ≤ (k : Int) := Int.natCast_nonneg _
      have HRl := Lib.hid (And.intro hRl (And.intro hRI hnL))
      clear hRl hRI hnL
      by_cases hlt : k < n
      · have hltz : (k : Int) < (n : Int) := by omega
        have hkl : k < (relA l x).length := by rw [← H8.out.1]; exact hlt
        obtain ⟨ad, hA1, _, a0, a1, a2⟩ := thing_at (RowG.of_rows (fun _ => rfl) HRl.out.1.old H8.out.1) hkl
        subst hA1
        obtain ⟨lk, hlk⟩ : ∃ lk, lk = (sweepAll ((relA l x).take k) (rel0 l x)).1 := ⟨_, rfl⟩
        obtain ⟨out, hout⟩ : ∃ out, out = (sweepAll ((relA l x).take k) (rel0 l x)).2 := ⟨_, rfl⟩
        obtain ⟨t, ht⟩ : ∃ t, t = (relA l x)[k] := ⟨_, rfl⟩
        rw [← ht] at a0 a1 a2
        have hI := HRl.out.2.1
        rw [← hlk, List.drop_eq_getElem_cons hkl, ← ht] at hI
        have hls := hI.ls t List.mem_cons_self
        obtain ⟨b, hb⟩ : ∃ b, S'.ls t = some b := Option.isSome_iff_exists.1 hls
        have hkey := hI.key t List.mem_cons_self
        have hRl := HRl.out.1
        have hnL := HRl.out.2.2
        rw [← hout] at hRl hnL
        obtain ⟨wa, hwa⟩ : ∃ wa, wa = wr.alloc (.cells #[.int .i64 t.k, .string t.t, .string t.y] 32) := ⟨_, rfl⟩
        have hba : Below wr.heap.size wr wa := by rw [hwa]; exact (Below.refl _ wr).alloc (Nat.le_refl _) _
        obtain ⟨q, hq⟩ : ∃ q, q = wr.heap.size := ⟨_, rfl⟩
        have hbq : Blk wa q 32 #[.int .i64 t.k, .string t.t, .string t.y] := by rw [hwa, hq]; exact Blk.new _ _ _
        have HSA := Lib.hid (hRl.below hba)
        have HS := Lib.hid (show ∀ w', Below wa.heap.size wa w' → w'.cell? ⟨tb, 0, none⟩ = some (.map (some S'.m0)) ∧ w'.cell? ⟨q, 0, none⟩ = some (.int .i64 t.k) ∧ w'.cell? ⟨q, 1, none⟩ = some (.string t.t) ∧ w'.cell? ⟨q, 2, none⟩ = some (.string t.y) ∧ (Instr.lookup 52 (.map (some S'.m0)) (.agg #[.int .i64 t.k, .string t.t, .string t.y]) false).run Tryz.prog w' = .ok (pt b) w' from fun w' hb' => by
          have h1 := HSA.out.mm.below hb'
          have hk := hbq.below hb' hbq.lt
          have hl := h1.look0n hkey
          rw [hb] at hl
          exact ⟨h1.c0, hk.cell 0, hk.cell 1, hk.cell 2, hl⟩)
        have q0 := HS.out wa (Below.refl _ _)
        have q1 := HS.out wa.drew (Below.refl _ wa).drew
        rw [hwa, hq] at q0 q1
        have HQ := Lib.hid (And.intro q0 q1)
        have HX := Lib.hid (And.intro hlk (And.intro hout (And.intro ht (And.intro hI (And.intro hb (And.intro hwa hnL))))))
        clear q0 q1 HS hlk hout ht hI hls hb hkey hRl hnL hba hbq HRl
        go_upto_region 12 with fail
        go_region_held3 (fun w' => w'.cell? ⟨tb, 0, none⟩ = some (.map (some S'.m0)) ∧ w'.cell? ⟨wr.heap.size, 0, none⟩ = some (.int .i64 t.k) ∧ w'.cell? ⟨wr.heap.size, 1, none⟩ = some (.string t.t) ∧ w'.cell? ⟨wr.heap.size, 2, none⟩ = some (.string t.y) ∧ (Instr.lookup 52 (.map (some S'.m0)) (.agg #[.int .i64 t.k, .string t.t, .string t.y]) false).run Tryz.prog w' = .ok (pt b) w')
          (first
            | exact HQ.out.2
            | exact HQ.out.1)
          (fail)
        go_upto_region 13 with fail
        rw [← HX.out.2.2.2.2.2.1]
        obtain ⟨w3, hw3⟩ : ∃ w3, w3 = wa.drew := ⟨_, rfl⟩
        rw [← hw3]
        have hb3 : Below wa.heap.size wa w3 := by rw [hw3]; exact (Below.refl _ wa).drew
        have HS3 := Lib.hid (HSA.out.below hb3)
        obtain ⟨A3, n3, c3, hcut⟩ := delH_any x HS3.out.mm HS3.out.bw HX.out.2.2.2.2.1 (by have := HX.out.2.2.2.1.lh t List.mem_cons_self; omega)
        obtain ⟨x4, z4⟩ := hcut.cell w3 (Below.refl _ _)
        obtain ⟨y4, u4⟩ := hcut.cell w3.drew (Below.refl _ _).drew
        have HD := Lib.hid fun q w4 => hcut.del w3.drew q w4 (Below.refl _ _).drew
        clear hcut hb3 hw3 HQ
        go_region_with (first
          | (go_at_call 43; refine (of_at x _).mono ?_; rintro e w4 ⟨q4, rfl, hq4⟩; obtain ⟨x5, z5, hcall⟩ := HD.out q4 w4 hq4; have HC4 := Lib.hid hcall; clear hq4 hcall HD x4 z4 y4 u4)
          | (go_at_call 42; refine HC4.out.mono ?_; rintro e w5 ⟨m5, rfl, x6, z6, hS⟩; have HS5 := Lib.hid hS; clear hS HC4 x5 z5))
        all_goals
          obtain ⟨S5, k5, f1, f2, f3, f4, f5⟩ := HS5.out
          obtain ⟨w6, hw6⟩ : ∃ w6, w6 = w5.setCell ⟨b, 3, none⟩ (.slice A3 m5 c3) := ⟨_, rfl⟩
          rw [← hw6] at k5 ⊢
          have HS6 := Lib.hid (And.intro (HS3.out.step k5) (And.intro f1 (And.intro f2 (And.intro f3 (And.intro f4 f5)))))
          obtain ⟨A7, n7, c7, hcut⟩ := delW_any x HS6.out.1.mm HS6.out.1.bw (by rw [f5]; exact HX.out.2.2.2.2.1) (by rw [f2]; have := HX.out.2.2.2.1.lv t List.mem_cons_self; omega)
          obtain ⟨x7, z7⟩ := hcut.cell w6 (Below.refl _ _)
          obtain ⟨y7, u7⟩ := hcut.cell w6.drew (Below.refl _ _).drew
          have HD7 := Lib.hid fun q w4 => hcut.del w6.drew q w4 (Below.refl _ _).drew
          clear hcut k5 f1 f2 f3 f4 f5 x6 z6 HS5 hw6
          go_upto_region 14 with fail
          go_region_with (first
            | (go_at_call 43; refine (of_at x _).mono ?_; rintro e w8 ⟨q8, rfl, hq8⟩; obtain ⟨x8, z8, hcall⟩ := HD7.out q8 w8 hq8; have HC8 := Lib.hid hcall; clear hq8 hcall HD7 x7 z7 y7 u7)
            | (go_at_call 42; refine HC8.out.mono ?_; rintro e w9 ⟨m9, rfl, x9, z9, hS⟩; have HS9 := Lib.hid hS; clear hS HC8 x8 z8))
          all_goals
            obtain ⟨S9, k9, g1, g2, g3, g4, g5⟩ := HS9.out
            obtain ⟨w10, hw10⟩ : ∃ w10, w10 = w9.setCell ⟨b, 4, none⟩ (.slice A7 m9 c7) := ⟨_, rfl⟩
            rw [← hw10] at k9 ⊢
            have HS10 := Lib.hid (HS6.out.1.step k9)
            have hsw := HX.out.2.2.2.1.sweep_ (S1 := S9) (b := b) (by rw [g1, HS6.out.2.1]) (by rw [g2, HS6.out.2.2.1]) (by rw [g3, HS6.out.2.2.2.1]) (by rw [g4, HS6.out.2.2.2.2.1]) (by rw [g5, HS6.out.2.2.2.2.2]) HS10.out.mm HS10.out.bw HX.out.2.2.2.2.1 (by rw [List.length_drop]; have := H8.out.1; omega)
            have HSW := Lib.hid (And.intro hsw (And.intro (sweepL_out lk t) HX.out.2.2.2.1.sz))
            have HN := Lib.hid HX.out.2.2.2.2.2.2
            clear hsw k9 g1 g2 g3 g4 g5 x9 z9 HS9 hw10
            go_wp2_with (first
              | (go_at_call 44; refine HSW.out.1.mono ?_; rintro e w11 ⟨v, rfl, ⟨A11, n11, c11, rfl, hn11, ho11⟩, S11, k11, r11⟩; have hn119 : n11 ≤ 1000 := (by have h1 := HSW.out.2.1; have h2 := HSW.out.2.2; omega); have HS11 := Lib.hid (And.intro (HS10.out.step k11) (And.intro r11 (And.intro hn11 ho11))); clear hn11 ho11 k11 r11)
              | (at_builtin; refine wpList_append_row rfl _ _ 41 rfl w.heap.size 3 i0 (.int .i64 0) 1 8 Tryz.underlying41 hi0 hz0 hz1 hz2 rfl (by decide) _ nL _ HS11.out.1.lst (by rfl) A11 n11 c11 (intsV (sweepL lk t).2) (by rfl) (by rw [HS11.out.2.2.1]; simp [intsV]) (fun h => (own_src HS11.out.2.2.2).1 h) (own_src HS11.out.2.2.2).2 (fun u hu => by unfold intsV at hu; obtain ⟨y, _, rfl⟩ := List.mem_map.1 hu; rfl) (by simp [maxLen]; omega) (by omega) HS11.out.1.chg.size ?_; intro AX cX wX hRX; have HXX := Lib.hid hRX; clear hRX))
            go_roundw
            case rel =>
              have hRX := HXX.out
              rw [intsV_append] at hRX
              have h1 := HS11.out.1.push hRX fun k hk => own_dif2 HS11.out.1.lst HS11.out.1.old (by decide) k hk
              have e1 : sweepAll ((relA l x).take (k + 1)) (rel0 l x) = ((sweepL lk t).1, out ++ (sweepL lk t).2) := by
                have hkl : k < (relA l x).length := by rw [← H8.out.1]; exact hlt
                rw [List.take_succ_eq_append_getElem hkl, sweepAll_snoc, ← HX.out.1, ← HX.out.2.1, ← HX.out.2.2.1]
              have e2 : (sweepAll ((relA l x).take (k + 1)) (rel0 l x)).2 = out ++ (sweepL lk t).2 := by rw [e1]
              rw [← e2] at h1
              refine ⟨k + 1, _, S11, AX, nL + n11, cX, by omega, by go_num, rfl, ?_, by omega, h1, ?_⟩
              · rw [e2, List.length_append, HN.out, HS11.out.2.2.1]
              · rw [e1]; exact HS11.out.2.1
            case measure => simp [intOf]; omega
      · have hkn : k = n := by omega
        have hltz : ¬ (k : Int) < (n : Int) := by omega
        have HK := Lib.hid hkn
        clear hkn
        go_wp2_with fail
        go_ret
        have ht : (relA l x).take k = relA l x := List.take_of_length_le (by rw [HK.out, H8.out.1]; exact Nat.le_refl _)
        have hd : (relA l x).drop k = [] := List.drop_eq_nil_of_le (by rw [HK.out, H8.out.1]; exact Nat.le_refl _)
        have h1 := HRl.out.1
        have h2 := HRl.out.2.1
        have h3 := HRl.out.2.2
        rw [ht] at h1 h2 h3
        rw [hd] at h2
        refine ⟨_, rfl, ⟨AL, nL, cL, rfl, h3, h1.lst⟩, ⟨H.out.1, S', h1.mm.more (fun q hq => (h1.sub q hq).elim .inl fun h9 => .inr ⟨h9, (h1.mm.foot q hq).2⟩) fun q hq => ?_, h2.r.nil⟩, h1.chg⟩
        have s := h1.chg.size
        rcases hq with hq | hq
        · have := H.out.2.2.1.foot q hq; omega
        · have := h1.low; omega
end Go.Proofs.YthbbheegkhlniaaGreat
