/-
  The program's locks: Ask, what it has when the line is found.
-/
import Derived.Test.YthbbheegkhlniaaGreatM18
namespace Go.Proofs.YthbbheegkhlniaaGreat
open Go.RowKit Go.Lib Go.Shelf Go.Maps

theorem askP_form {l : Lk} {x m : Int} {t : Th} (h : fitsB t = false ∨ rgB m = false) : askL l x t m = (l, false, 10) := by unfold askL; rw [if_pos h]
theorem askP_wait {l : Lk} {x m : Int} {t : Th} {o : Od} (h1 : fitsB t = true) (h2 : rgB m = true) (h : waitL l.W x = some o) : askL l x t m = (l, false, 21) := by
  unfold askL
  rw [if_neg (by simp [h1, h2]), if_pos (by rw [h]; rfl)]
theorem askP_has {l : Lk} {x m : Int} {t : Th} (h1 : fitsB t = true) (h2 : rgB m = true) (h3 : waitL l.W x = none) (h4 : modeL l.H x t ≠ 0) (h5 : cvB (modeL l.H x t) m = true) : askL l x t m = (l, true, 0) := by
  unfold askL
  rw [if_neg (by simp [h1, h2]), if_neg (by rw [h3]; simp)]
  simp only
  rw [if_pos ⟨h4, h5⟩]
theorem askP_rest {l : Lk} {x m mm : Int} {t : Th} {p : Nat} (h1 : fitsB t = true) (h2 : rgB m = true) (h3 : waitL l.W x = none) (h4 : modeL l.H x t = 0 ∨ cvB (modeL l.H x t) m = false) (hp : p = if modeL l.H x t = 0 then l.W.length else placeGo l.H t 0 0 l.W) (hmm : mm = if modeL l.H x t = 0 then m else jnI (modeL l.H x t) m) :
    askL l x t m = if canL l.H (l.W.take p) ⟨t, x, mm⟩ = true then (⟨giveL ⟨t, x, mm⟩ l.H, l.W⟩, true, 0) else (⟨l.H, insL p ⟨t, x, mm⟩ l.W⟩, false, 0) := by
  unfold askL
  rw [if_neg (by simp [h1, h2]), if_neg (by rw [h3]; simp)]
  simp only
  rw [if_neg (by rintro ⟨h5, h6⟩; rcases h4 with h4 | h4; exact h5 h4; rw [h4] at h6; cases h6), ← hp, ← hmm]
/-- the waiters' row is another one, ahead of its store -/
theorem setW_row {B tb b : Nat} {D : Nat → Prop} {w3 w4 : World} {S : Sx} (h : Mm B D w3 tb S) (hB : B ≤ w3.heap.size) {t : Th} (hls : S.ls t = some b) {A A' : Option Addr} {n c m c' : Nat} (hv : S.wv t = .slice A n c) {l' : List Hd} (hm : m = l'.length) (hR : RowTo B 62 3 (.slice A n c) w3 (.slice A' m c') m (heldV l') w4) :
    w4.cell? ⟨b, 4, none⟩ = some (.slice A n c) ∧ w4.frozen? ⟨b, 4, none⟩ = false ∧ MTo B tb D w3 (w4.setCell ⟨b, 4, none⟩ (.slice A' m c')) { S with o := setO S.o (.slice A' m c') (.wr t), wv := upd S.wv t (.slice A' m c'), v := upd S.v t l' } := by
  have hne : (Value.slice A n c).ownBlock ≠ some b := fun e => by
    have h9 := (h.wr t).lbl b (by rw [hv]; exact e)
    rw [(h.ln t b hls).1] at h9
    cases h9
  have hbk := (h.ln t b hls).2.chg hR.chg hne
  refine ⟨by rw [hbk.cell 4]; show some (S.wv t) = _; rw [hv], hbk.frozen 4, ?_⟩
  exact MTo.setW h hB hls (w1 := w4) (v' := .slice A' m c') (l' := l') ⟨A', c', by rw [hm]⟩ (by rw [hv, ← hm]; exact hR)
/-- the line is there; the worlds behind it -/
structure AkS (B tb b : Nat) (D : Nat → Prop) (w w5 : World) (S S5 : Sx) (l : Lk) (x : Int) (t : Th) (m : Int) : Prop where
  mt : MTo B tb D w w5 S5
  ls : S5.ls t = some b
  al : Alike S S5
  lo : ∀ t', t' ≠ t → S5.ls t' = S.ls t'
  bd : Bnd 1001 S5
  a : Blk w5 w.heap.size 34 #[.int .i64 t.k, .string t.t, .string t.y, .int .i64 m]
  bw : B ≤ w.heap.size
  ft : ∀ k, D k → B ≤ k ∧ k < w.heap.size
  eh : S5.h t = hsL l.H t
  ev : S5.v t = wsL l.W t
  zh : (hsL l.H t).length ≤ 1000
  zv : (wsL l.W t).length ≤ 1000
set_option maxRecDepth 100000 in
set_option maxHeartbeats 25600000 in
theorem lask_any {B tb : Nat} {D : Nat → Prop} {w : World} {l : Lk} (x : Int) (t : Th) (m : Int) (h : TI B D w tb l) (hz : szL l ≤ 1000) (hB : B ≤ w.heap.size) (hx : NumI x) (ht : t.In) (hm9 : NumI m) :
    Calls Tryz.prog 7 #[ptrL tb, .int .i64 x, .agg #[.int .i64 t.k, .string t.t, .string t.y, .int .i64 m]] w fun r w' => r = .returned (.tuple #[.bool (askL l x t m).2.1, .int .i64 (askL l x t m).2.2]) ∧ TI B (Ext D w w') w' tb (askL l x t m).1 ∧ Chg D w w' := by
  have hTI := h
  have hok2 := h.1.ask x t m
  obtain ⟨hok, S, hm, hr⟩ := h
  have HC := Lib.hid (And.intro fits_any (And.intro right_any (And.intro cov_any join_any)))
  obtain ⟨w1, hw1⟩ : ∃ w1, w1 = w.alloc (.cells #[.int .i64 t.k, .string t.t, .string t.y, .int .i64 m] 34) := ⟨_, rfl⟩
  have hb1 : Below w.heap.size w w1 := by rw [hw1]; exact (Below.refl _ w).alloc (Nat.le_refl _) _
  have hk1 : Blk w1 w.heap.size 34 #[.int .i64 t.k, .string t.t, .string t.y, .int .i64 m] := by rw [hw1]; exact Blk.new _ _ _
  have HA := Lib.hid (show ∀ w', Below w1.heap.size w1 w' → w'.cell? ⟨w.heap.size, 0, none⟩ = some (.int .i64 t.k) ∧ w'.cell? ⟨w.heap.size, 1, none⟩ = some (.string t.t) ∧ w'.cell? ⟨w.heap.size, 2, none⟩ = some (.string t.y) ∧ w'.cell? ⟨w.heap.size, 3, none⟩ = some (.int .i64 m) ∧ w'.cell? ⟨tb, 2, none⟩ = some (.map (some S.m2)) ∧ (Instr.lookup 54 (.map (some S.m2)) (.int .i64 x) true).run Tryz.prog w' = .ok (.tuple #[waV (S.wn x), .bool (S.wn x).isSome]) w' from fun w' hb => by
    have h1 := (hm.below hb1).below hb
    have hk := hk1.below hb hk1.lt
    exact ⟨hk.cell 0, hk.cell 1, hk.cell 2, hk.cell 3, h1.c2, h1.look2 hx⟩)
  have HE := Lib.hid (show ∀ w', Below w1.heap.size w1 w' → TI B (Ext D w w') w' tb l ∧ Chg D w w' from fun w' hb => by
    have h2 : Below w.heap.size w w' := hb1.trans (hb.mono hb1.size)
    exact ⟨⟨hok, S, hm.up h2 hB, hr⟩, Chg.of_below h2⟩)
  obtain ⟨s0, s1, s2, s3, c2, hl2⟩ := HA.out w1 (Below.refl _ _)
  have H := Lib.hid (And.intro hw1 (And.intro hb1 (And.intro hk1 (And.intro hok2 (And.intro hok (And.intro hm (And.intro hr (And.intro hz (And.intro hB (And.intro hx (And.intro ht hm9)))))))))))
  clear hw1 hb1 hk1 hok2 hok hm hr hz hB hx ht hm9 hTI
  cases hf : fitsB t with
  | false =>
    rw [askP_form (.inl hf)]
    have HF := Lib.hid hf
    clear hf hl2 c2
    go_enter Tryz.func7, Tryz.ntmps7
    go_upto_region 1 with fail
    rw [← H.out.1]
    go_wp2_with (go_at_call 26; refine (HC.out.1 t _).mono ?_; rw [HF.out]; rintro e w2 ⟨rfl, hb2⟩; have H2 := Lib.hid hb2; clear hb2)
    go_ret2
    obtain ⟨q1, q2⟩ := HE.out w2 H2.out
    exact ⟨rfl, q1, q2⟩
  | true =>
    have HF := Lib.hid hf
    cases hr : rgB m with
    | false =>
      rw [askP_form (.inr hr)]
      have HR := Lib.hid hr
      clear hf hl2 c2 hr
      go_enter Tryz.func7, Tryz.ntmps7
      go_upto_region 1 with fail
      rw [← H.out.1]
      go_wp2_with (first
        | (go_at_call 26; refine (HC.out.1 t _).mono ?_; rw [HF.out]; rintro e w2 ⟨rfl, hb2⟩; obtain ⟨z0, z1, z2, z3, _⟩ := HA.out w2 hb2; have H2 := Lib.hid hb2; clear hb2)
        | (go_at_call 27; refine (HC.out.2.1 m _).mono ?_; rw [HR.out]; rintro e w3 ⟨rfl, hb3⟩; have H3 := Lib.hid (H2.out.trans (hb3.mono H2.out.size)); clear hb3))
      go_ret2
      obtain ⟨q1, q2⟩ := HE.out w3 H3.out
      exact ⟨rfl, q1, q2⟩
    | true =>
      have HR := Lib.hid hr
      cases hwt : waitL l.W x with
      | some o =>
        rw [askP_wait hf hr hwt]
        have e1 : S.wn x = some (o.th, o.m) := by rw [H.out.2.2.2.2.2.2.1.wn, wnL_some hwt]
        rw [e1] at HA
        unfold waV at HA
        simp only [Option.isSome_some] at HA
        clear hf hl2 c2 hr hwt e1
        go_enter Tryz.func7, Tryz.ntmps7
        go_upto_region 1 with fail
        rw [← H.out.1]
        go_wp2_with (first
          | (go_at_call 26; refine (HC.out.1 t _).mono ?_; rw [HF.out]; rintro e w2 ⟨rfl, hb2⟩; obtain ⟨z0, z1, z2, z3, _⟩ := HA.out w2 hb2; have H2 := Lib.hid hb2; clear hb2)
          | (go_at_call 27; refine (HC.out.2.1 m _).mono ?_; rw [HR.out]; rintro e w3 ⟨rfl, hb3⟩; have hb3' := H2.out.trans (hb3.mono H2.out.size); obtain ⟨y0, y1, y2, y3, yc, yl⟩ := HA.out w3 hb3'; have H3 := Lib.hid hb3'; clear hb3 hb3'))
        go_ret2
        obtain ⟨q1, q2⟩ := HE.out _ (H3.out.alloc H3.out.size _)
        exact ⟨rfl, q1, q2⟩
      | none =>
        have e1 : S.wn x = none := by rw [H.out.2.2.2.2.2.2.1.wn, wnL_none hwt]
        rw [e1] at HA
        unfold waV at HA
        simp only [Option.isSome_none] at HA
        have HWT := Lib.hid hwt
        clear hf hl2 c2 hr hwt e1
        go_enter Tryz.func7, Tryz.ntmps7
        go_upto_region 1 with fail
        rw [← H.out.1]
        go_upto_region 6 with (first
          | (go_at_call 26; refine (HC.out.1 t _).mono ?_; rw [HF.out]; rintro e w2 ⟨rfl, hb2⟩; obtain ⟨z0, z1, z2, z3, _⟩ := HA.out w2 hb2; have H2 := Lib.hid hb2; clear hb2)
          | (go_at_call 27; refine (HC.out.2.1 m _).mono ?_; rw [HR.out]; rintro e w3 ⟨rfl, hb3⟩; have hb3' := H2.out.trans (hb3.mono H2.out.size); obtain ⟨y0, y1, y2, y3, yc, yl⟩ := HA.out w3 hb3'; have H3 := Lib.hid hb3'; clear hb3 hb3'))
        obtain ⟨w4, hw4⟩ : ∃ w4, w4 = w3.alloc (.cells #[.int .i64 0, .string ⟨#[]⟩, .string ⟨#[]⟩, .int .i64 0] 34) := ⟨_, rfl⟩
        rw [← hw4]
        have hb4 : Below w1.heap.size w1 w4 := by rw [hw4]; exact H3.out.alloc H3.out.size _
        obtain ⟨x0, x1, x2, x3, _⟩ := HA.out w4 hb4
        have HLN := Lib.hid (show Calls Tryz.prog 28 #[pt tb, .agg #[.int .i64 t.k, .string t.t, .string t.y]] w4 fun r w5 => ∃ b S5, r = .returned (pt b) ∧ AkS B tb b D w w5 S S5 l x t m from by
          obtain ⟨hw1, hb1, hk1, hok2, hok, hm, hr, hz, hB, hx, ht, hm9⟩ := H.out
          have hb04 : Below w.heap.size w w4 := hb1.trans (hb4.mono hb1.size)
          refine (line_any (N := 1000) (hm.below hb04) (Nat.le_trans hB hb04.size) t ht.key (by have := ht.2.1; unfold roomLen at this; omega) (by have := ht.2.2; unfold roomLen at this; omega) (hr.bnd hm hz) (by omega) (fun h0 => by
            rw [hr.h, hr.v]
            exact ⟨hr.none_ h0, hok.held (hr.none_ h0)⟩)).mono ?_
          rintro r w5 ⟨b, S5, rfl, h1, h2, h3, h4, h5⟩
          unfold szL at hz
          have z1 := hsL_len l.H t
          have z2 := wsL_len l.W t
          exact ⟨b, S5, rfl, MTo.low hb04 hm.foot hB h1, h2, h3, h4, h5, (hk1.below hb4 hk1.lt).chg h1.2 (fun hd => by have := (hm.foot _ hd).2; omega), hB, hm.foot, by rw [h3.h, hr.h], by rw [h3.v, hr.v], by omega, by omega⟩)
        clear hw4
        go_upto_region 7 with (go_at_call 28; refine HLN.out.mono ?_; rintro e w5 ⟨b, S5, rfl, hAk⟩; have HAk := Lib.hid hAk; clear hAk)
        clear x0 x1 x2 x3 y0 y1 y2 y3 yc yl z0 z1 z2 z3 s0 s1 s2 s3
        obtain ⟨AW, cW, hvW, _⟩ := HAk.out.mt.1.readW HAk.out.ls
        obtain ⟨AH, cH, hvH, _⟩ := HAk.out.mt.1.readH HAk.out.ls
        obtain ⟨n, hn⟩ : ∃ n, n = (wsL l.W t).length := ⟨_, rfl⟩
        have hn9 : n ≤ 1000 := by rw [hn]; exact HAk.out.zv
        rw [HAk.out.ev, ← hn] at hvW
        rw [HAk.out.eh] at hvH
        have HB := Lib.hid (show ∀ w', Below w5.heap.size w5 w' → (w'.cell? ⟨w.heap.size, 3, none⟩ = some (.int .i64 m) ∧ w'.cell? ⟨b, 4, none⟩ = some (.slice AW n cW)) ∧ LnR w' b 3 AH cH (hsL l.H t) ∧ LnR w' b 4 AW cW (wsL l.W t) ∧ Mm B (Ext D w w5) w' tb S5 from fun w' hb => by
          have h1 := HAk.out.mt.1.below hb
          have hk := HAk.out.a.below hb HAk.out.a.lt
          obtain ⟨A', c', hv', hL'⟩ := h1.readW HAk.out.ls
          obtain ⟨A2, c2, hv2, hL2⟩ := h1.readH HAk.out.ls
          rw [HAk.out.ev] at hv' hL'
          rw [HAk.out.eh] at hv2 hL2
          rw [hvW, hn] at hv'
          injection hv' with i1 i2 i3
          rw [hvH] at hv2
          injection hv2 with i4 i5 i6
          subst i1 i3 i4 i6
          refine ⟨⟨hk.cell 3, ?_⟩, hL2, hL', h1⟩
          rw [hn]; exact hL'.cell)
        have HV := Lib.hid (And.intro hn (And.intro hvW hvH))
        clear hn hvW hvH hb4
        go_region_held3 (fun w' => w'.cell? ⟨w.heap.size, 3, none⟩ = some (.int .i64 m) ∧ w'.cell? ⟨b, 4, none⟩ = some (.slice AW n cW))
          (first
            | exact (HB.out _ (Below.refl _ _)).1
            | exact (HB.out _ (Below.refl _ _).drew).1
            | exact (HB.out _ ((Below.refl _ _).alloc (Nat.le_refl _) _)).1
            | exact (HB.out _ ((Below.refl _ _).alloc (Nat.le_refl _) _).drew).1
            | exact (HB.out _ ((Below.refl _ _).drew.alloc (Nat.le_refl _) _)).1
            | go_keep)
          (fail)
        obtain ⟨w6, hw6⟩ : ∃ w6, w6 = (w5.alloc (.cells #[.int .i64 x, .int .i64 m, .bool true] 62)).drew := ⟨_, rfl⟩
        obtain ⟨q, hq⟩ : ∃ q, q = w5.heap.size := ⟨_, rfl⟩
        have hb6 : Below w5.heap.size w5 w6 := by rw [hw6]; exact ((Below.refl _ _).alloc (Nat.le_refl _) _).drew
        have hk6 : Blk w6 q 62 #[.int .i64 x, .int .i64 m, .bool true] := by rw [hw6, hq]; exact (Blk.new _ _ _).drew
        rw [← hw6, ← hq]
        clear hw6
        have HK6 := Lib.hid (And.intro hb6 (And.intro hk6 hq))
        clear hb6 hk6 hq
        have hho := holder_any (HB.out w6 HK6.out.1).2.1 (by have := HAk.out.zh; omega) x
        obtain ⟨z, hz⟩ : ∃ z, z = idxI (idxL (ofP x) (hsL l.H t)) := ⟨_, rfl⟩
        rw [← hz] at hho
        have HHO := Lib.hid hho
        have HZ := Lib.hid hz
        clear hho hz
        go_upto_region 9 with (go_at_call 29; refine HHO.out.mono ?_; rintro e w7 ⟨rfl, hb7⟩; have H7 := Lib.hid (And.intro (HK6.out.1.trans (hb7.mono HK6.out.1.size)) (HK6.out.2.1.below hb7 HK6.out.2.1.lt)); clear hb7)
        have hg := H.out.2.2.2.2.1.h.good
        by_cases hcov : (∃ i, idxL (ofP x) (hsL l.H t) = some i) ∧ cvB (modeL l.H x t) m = true
        · obtain ⟨⟨i, hi⟩, hcv⟩ := hcov
          obtain ⟨hil, hmo⟩ := mdI_some hi
          have hne : modeL l.H x t ≠ 0 := by
            have h1 := any_mode hg x t
            rw [← idxL_any, hi] at h1
            exact of_decide_eq_true h1.symm
          have hzi : z = (i : Int) := by rw [HZ.out, hi]; rfl
          subst hzi
          have hasp := askP_has HF.out HR.out HWT.out hne hcv
          obtain ⟨⟨b3, b4⟩, hLH, hLW, hMm⟩ := HB.out w7 H7.out.1
          obtain ⟨ad, hA, _, _, a1, _⟩ := hdI_at hLH.row hil
          rw [hmo] at a1
          subst hA
          have e3 := hLH.cell
          have hi0 : (0 : Int) ≤ (i : Int) := Int.natCast_nonneg _
          obtain ⟨nh, hnh⟩ : ∃ nh, nh = (hsL l.H t).length := ⟨_, rfl⟩
          rw [← hnh] at e3 hil
          have hilz : (i : Int) < (nh : Int) := by omega
          obtain ⟨md, hmd⟩ : ∃ md, md = modeL l.H x t := ⟨_, rfl⟩
          rw [← hmd] at a1 hcv
          have HP := Lib.hid (And.intro hasp (And.intro hmd (And.intro hcv hnh)))
          clear hasp hmd hcv hg hne hLW hMm b4 hnh hi hmo hLH
          go_wp2_with (go_at_call 30; refine (HC.out.2.2.1 md m _).mono ?_; rw [HP.out.2.2.1]; rintro e w8 ⟨rfl, hb8⟩; have H8 := Lib.hid (H7.out.1.trans (hb8.mono H7.out.1.size)); clear hb8)
          go_ret2
          rw [HP.out.1]
          obtain ⟨_, hLH8, _, hMm8⟩ := HB.out w8 H8.out
          have hm8 := HAk.out.mt.below HAk.out.bw H8.out
          refine ⟨rfl, ⟨H.out.2.2.2.2.1, S5, hm8.1, H.out.2.2.2.2.2.2.1.more HAk.out.al HAk.out.lo HAk.out.ls ?_⟩, hm8.2⟩
          intro e
          have h9 := HP.out.2.2.2
          rw [e] at h9
          simp at h9
          omega
        · go_upto_if 52 with fail
          go_cut [12, 14] from 15 (fun p _ wx => ∃ (k pp : Nat) (mm : Int), p = .int .i64 k ∧ k ≤ n ∧ Below w5.heap.size w5 wx ∧ Blk wx q 62 #[.int .i64 x, .int .i64 mm, .bool true] ∧ PlaceOf l.W t pp k ∧ askL l x t m = if canL l.H (l.W.take pp) ⟨t, x, mm⟩ = true then (⟨giveL ⟨t, x, mm⟩ l.H, l.W⟩, true, 0) else (⟨l.H, insL pp ⟨t, x, mm⟩ l.W⟩, false, 0))
          case first =>
            cases hi : idxL (ofP x) (hsL l.H t) with
            | none =>
              have h0 := mdI_none hi
              have hzi : z = -1 := by rw [HZ.out, hi]; rfl
              subst hzi
              have HP := Lib.hid (askP_rest (p := l.W.length) (mm := m) HF.out HR.out HWT.out (.inl h0) (by rw [if_pos h0]) (by rw [if_pos h0]))
              clear hi hg hcov h0
              go_wp2_with fail
              go_meet
              case rel => exact ⟨n, l.W.length, m, rfl, Nat.le_refl _, H7.out.1, H7.out.2, by rw [HV.out.1]; exact placeOf_end l.W t, HP.out⟩
            | some i =>
              obtain ⟨hil, hmo⟩ := mdI_some hi
              have hne : modeL l.H x t ≠ 0 := by
                have h1 := any_mode hg x t
                rw [← idxL_any, hi] at h1
                exact of_decide_eq_true h1.symm
              have hcv : cvB (modeL l.H x t) m = false := by
                cases h9 : cvB (modeL l.H x t) m with
                | false => rfl
                | true => exact absurd ⟨⟨i, hi⟩, h9⟩ hcov
              have hzi : z = (i : Int) := by rw [HZ.out, hi]; rfl
              subst hzi
              have hasp := askP_rest (p := placeGo l.H t 0 0 l.W) (mm := jnI (modeL l.H x t) m) HF.out HR.out HWT.out (.inr hcv) (by rw [if_neg hne]) (by rw [if_neg hne])
              have hpl := placeOf_rs hg l.W t
              obtain ⟨⟨b3, b4⟩, hLH, hLW, hMm⟩ := HB.out w7 H7.out.1
              obtain ⟨ad, hA, _, _, a1, _⟩ := hdI_at hLH.row hil
              rw [hmo] at a1
              subst hA
              have e3 := hLH.cell
              have hi0 : (0 : Int) ≤ (i : Int) := Int.natCast_nonneg _
              obtain ⟨nh, hnh⟩ : ∃ nh, nh = (hsL l.H t).length := ⟨_, rfl⟩
              rw [← hnh] at e3 hil
              have hilz : (i : Int) < (nh : Int) := by omega
              obtain ⟨md, hmd⟩ : ∃ md, md = modeL l.H x t := ⟨_, rfl⟩
              rw [← hmd] at a1 hcv hasp
              obtain ⟨k, hk⟩ : ∃ k, k = rsN (hsL l.H t) (wsL l.W t) := ⟨_, rfl⟩
              rw [← hk] at hpl
              have hkn : k ≤ n := by rw [hk, HV.out.1]; exact rsN_le _ _
              obtain ⟨mm, hmm⟩ : ∃ mm, mm = jnI md m := ⟨_, rfl⟩
              rw [← hmm] at hasp
              have HP := Lib.hid (And.intro hasp (And.intro hmd (And.intro hcv (And.intro hnh (And.intro hk (And.intro hmm hpl))))))
              clear hasp hmd hcv hg hne hLW hMm b4 hnh hi hmo hLH hcov hk hmm hpl
              go_wp2_with (first
                | (go_at_call 30; refine (HC.out.2.2.1 md m _).mono ?_; rw [HP.out.2.2.1]; rintro e w8 ⟨rfl, hb8⟩; have h8 := H7.out.1.trans (hb8.mono H7.out.1.size); have x3 := (HB.out w8 h8).1.1; have H8 := Lib.hid (And.intro h8 (H7.out.2.below hb8 H7.out.2.lt)); clear hb8 h8)
                | (go_at_call 31; refine (HC.out.2.2.2 md m _).mono ?_; rw [← HP.out.2.2.2.2.2.1]; rintro e w9 ⟨rfl, hb9⟩; have h9 := H8.out.1.trans (hb9.mono H8.out.1.size); have HRS := Lib.hid (raisers_any (HB.out w9 h9).2.1 (HB.out w9 h9).2.2.1 (by have := HAk.out.zh; omega) (by have := HAk.out.zv; omega)); have H9 := Lib.hid (And.intro h9 (H8.out.2.below hb9 H8.out.2.lt)); clear hb9 h9)
                | (go_at_call 32; refine HRS.out.mono ?_; rw [← HP.out.2.2.2.2.1]; rintro e w10 ⟨rfl, hb10⟩; have h10 := H9.out.1.trans (hb10.mono H9.out.1.size); have k10 := H9.out.2.below hb10 H9.out.2.lt; have f10 := k10.frozen 1; have c10 : w10.cell? ⟨q, 1, none⟩ = some (.int .i64 m) := k10.cell 1; have H10 := Lib.hid (And.intro h10 k10); clear hb10 h10 k10))
              go_meet
              case rel =>
                refine ⟨k, placeGo l.H t 0 0 l.W, mm, rfl, hkn, ?_, H10.out.2.put 1 _, HP.out.2.2.2.2.2.2, HP.out.1⟩
                have hc : Chg Non w5 (w10.setCell ⟨q, 1, none⟩ (.int .i64 mm)) := (Chg.of_below H10.out.1).setCell (fun h => absurd (show q < w5.heap.size from h) (by have := HK6.out.2.2; omega)) _
                exact hc.below (fun _ hf => hf.elim) (Nat.le_refl _)
          case rest =>
            obtain ⟨k, pp, mm, rfl, hkn, hlow, hkq, hpl, hask⟩ := hcut
            obtain ⟨mx, hmx⟩ : ∃ o : Od, o = ⟨t, x, mm⟩ := ⟨_, rfl⟩
            have hfr := PlaceOf.free (H := l.H) (o := ⟨t, x, mm⟩) hpl HWT.out true
            rw [← hmx] at hask hfr
            have HT := Lib.hid (show ∀ w', Below wc.heap.size wc w' → (w'.cell? ⟨q, 0, none⟩ = some (.int .i64 x) ∧ w'.cell? ⟨q, 1, none⟩ = some (.int .i64 mm) ∧ w'.cell? ⟨q, 2, none⟩ = some (.bool true) ∧ w'.cell? ⟨b, 4, none⟩ = some (.slice AW n cW)) ∧ Below w5.heap.size w5 w' ∧ Blk w' q 62 #[.int .i64 x, .int .i64 mm, .bool true] from fun w' hb => by
              have h1 := hlow.trans (hb.mono hlow.size)
              have hk := hkq.below hb hkq.lt
              exact ⟨⟨hk.cell 0, hk.cell 1, hk.cell 2, (HB.out w' h1).1.2⟩, h1, hk⟩)
            have HP := Lib.hid (And.intro hask (And.intro hfr (And.intro hpl hmx)))
            have hcap := (HAk.out.mt.1.wr t).own
            rw [HV.out.2.1] at hcap
            have hcap2 : w5.ownsRow B 62 3 (.slice AW n cW) n (heldV (S5.v t)) := by
              rw [HAk.out.ev, HV.out.1] at *
              exact hcap
            obtain ⟨hc1, hc2⟩ := own_caps hcap2
            have hcap3 := hcap2
            have hk0 : (0 : Int) ≤ (k : Int) := Int.natCast_nonneg _
            have hkc : (k : Int) ≤ (cW : Int) := by omega
            have hc0 : (cW : Int) ≤ 9223372036854775807 := by unfold maxLen at hc2; omega
            have hkw : k ≤ (wsL l.W t).length := hpl.kl
            have HFR := Lib.hid (show ∀ w', Below wc.heap.size wc w' → Calls Tryz.prog 33 #[pt b, .agg #[.int .i64 x, .int .i64 mm, .bool true], .slice AW k cW] w' fun e w2 => e = .returned (.bool (canL l.H (l.W.take pp) mx)) ∧ Below w'.heap.size w' w2 from fun w' hb => by
              have h1 := (HT.out w' hb).2.1
              have hfree := free_any (c' := cW) (HB.out w' h1).2.1 (by have := HAk.out.zh; omega) ((HB.out w' h1).2.2.1.row.takeH k) (n' := k) (by rw [List.length_take]; omega) (by rw [List.length_take]; omega) (x, mm, true)
              have e9 : freeL (x, mm, true) (hsL l.H t) ((wsL l.W t).take k) = canL l.H (l.W.take pp) mx := by rw [← HP.out.2.1, HP.out.2.2.2]
              rw [e9] at hfree
              exact hfree)
            have q0 := (HT.out wc (Below.refl _ _)).1
            have q1 := (HT.out wc.drew (Below.refl _ _).drew).1
            have HQ := Lib.hid (And.intro q0 q1)
            clear q0 q1 hask hfr hpl hkq hlow hmx hcap hcap2 hkw hg hcov
            go_upto_region 14 with fail
            cases hcan : canL l.H (l.W.take pp) mx with
            | true =>
              rw [hcan] at HFR
              have HCN := Lib.hid hcan
              clear hcan
              go_region_held3 (fun w' => w'.cell? ⟨q, 0, none⟩ = some (.int .i64 x) ∧ w'.cell? ⟨q, 1, none⟩ = some (.int .i64 mm) ∧ w'.cell? ⟨q, 2, none⟩ = some (.bool true) ∧ w'.cell? ⟨b, 4, none⟩ = some (.slice AW n cW))
                (first
                  | exact H8.out.2
                  | exact HQ.out.2
                  | exact HQ.out.1)
                (first
                  | (go_at_call 33; refine (HFR.out _ (Below.refl _ _).drew).mono ?_; rintro e w8 ⟨rfl, hb8⟩; have h8 : Below wc.heap.size wc w8 := (show Below wc.heap.size wc wc.drew from (Below.refl _ _).drew).trans hb8; have H8 := Lib.hid (And.intro h8 (HT.out w8 h8).1); clear hb8 h8))
              obtain ⟨g0, g1, g2, g4⟩ := H8.out.2
              have HG8 := Lib.hid (show Calls Tryz.prog 34 #[pt tb, pt b, .int .i64 x, .int .i64 mm] w8 fun r w' => r = .returned (.tuple #[]) ∧ MTo B tb D w w' S5 = MTo B tb D w w' S5 ∧ ∃ S9, MTo B tb D w w' S9 ∧ Rep ⟨giveL mx l.H, l.W⟩ S9 from by
                have h58 := (HT.out w8 H8.out.1).2.1
                obtain ⟨_, _, _, hm8⟩ := HB.out w8 h58
                have s5 := HAk.out.mt.2.size
                obtain ⟨hw1, hb1, hk1, hok2, hok, hm, hr, hz, hB, hx, ht, hm9⟩ := H.out
                have hz' := hz
                unfold szL at hz'
                refine (give_any (N := 1001) hm8 (by have := h58.size; omega) HAk.out.ls x mm hx (by rw [HAk.out.eh]; have := HAk.out.zh; omega) (by rw [HAk.out.al.tg, hr.tg]; have := tgL_len l.H x; omega) HAk.out.bd (by omega)).mono ?_
                rintro r w' ⟨rfl, S9, hg⟩
                refine ⟨rfl, rfl, S9, HAk.out.mt.trans (MTo.low h58 HAk.out.mt.1.foot (by omega) hg.mt) (fun k hk => (hm.foot k hk).1) hB, ?_⟩
                rw [HP.out.2.2.2]
                exact hr.give (o := ⟨t, x, mm⟩) HAk.out.al HAk.out.lo HAk.out.ls ht.key hx hg)
              go_wp2_with (go_at_call 34; refine HG8.out.mono ?_; rintro e w9 ⟨rfl, _, S9, k9, r9⟩; have H9 := Lib.hid (And.intro k9 r9); clear k9 r9)
              go_ret2
              have hq := H.out.2.2.2.1
              rw [HP.out.1, if_pos HCN.out] at hq ⊢
              exact ⟨rfl, ⟨hq, S9, H9.out.1.1, H9.out.2⟩, H9.out.1.2⟩
            | false =>
              rw [hcan] at HFR
              have HCN := Lib.hid hcan
              clear hcan
              go_region_held3 (fun w' => w'.cell? ⟨q, 0, none⟩ = some (.int .i64 x) ∧ w'.cell? ⟨q, 1, none⟩ = some (.int .i64 mm) ∧ w'.cell? ⟨q, 2, none⟩ = some (.bool true) ∧ w'.cell? ⟨b, 4, none⟩ = some (.slice AW n cW))
                (first
                  | exact H8.out.2
                  | exact HQ.out.2
                  | exact HQ.out.1)
                (first
                  | (go_at_call 33; refine (HFR.out _ (Below.refl _ _).drew).mono ?_; rintro e w8 ⟨rfl, hb8⟩; have h8 : Below wc.heap.size wc w8 := (show Below wc.heap.size wc wc.drew from (Below.refl _ _).drew).trans hb8; have H8 := Lib.hid (And.intro h8 (HT.out w8 h8).1); clear hb8 h8))
              obtain ⟨g0, g1, g2, g4⟩ := H8.out.2
              have h58 := (HT.out w8 H8.out.1).2.1
              go_upto_region 17 with fail
              obtain ⟨wI, hwI⟩ : ∃ wI, wI = (w8.alloc (.cells #[.int .i64 x, .int .i64 mm, .bool true] 62)).drew := ⟨_, rfl⟩
              have hbI : Below w8.heap.size w8 wI := by rw [hwI]; exact ((Below.refl _ _).alloc (Nat.le_refl _) _).drew
              have hkI : Blk wI w8.heap.size 62 #[.int .i64 x, .int .i64 mm, .bool true] := by rw [hwI]; exact (Blk.new _ _ _).drew
              have HIN := Lib.hid (show Calls Tryz.prog 35 #[.slice AW n cW, .int .i64 k, .slice (some ⟨w8.heap.size, 0, none⟩) 1 1] wI fun r w' => ∃ A' c', r = .returned (.slice A' (n + 1) c') ∧ (w'.cell? ⟨q, 0, none⟩ = some (.int .i64 x) ∧ w'.cell? ⟨q, 1, none⟩ = some (.int .i64 mm) ∧ w'.cell? ⟨q, 2, none⟩ = some (.bool true) ∧ w'.cell? ⟨b, 4, none⟩ = some (.slice AW n cW)) ∧ w'.frozen? ⟨b, 4, none⟩ = false ∧ Blk (w'.setCell ⟨b, 4, none⟩ (.slice A' (n + 1) c')) q 62 #[.int .i64 x, .int .i64 mm, .bool true] ∧ ∃ S9, MTo B tb D w (w'.setCell ⟨b, 4, none⟩ (.slice A' (n + 1) c')) S9 ∧ S9.h = S.h ∧ S9.v = upd S.v t ((S.v t).take k ++ [(x, mm, true)] ++ (S.v t).drop k) ∧ S9.tg = S.tg ∧ S9.wn = S.wn ∧ S9.ls = S5.ls from by
                have h5I := h58.trans (hbI.mono h58.size)
                obtain ⟨_, _, _, hmI⟩ := HB.out wI h5I
                have hBI : B ≤ wI.heap.size := by have h1 := h5I.size; have h2 := HAk.out.mt.2.size; have h3 := HAk.out.bw; omega
                have hown := (hmI.wr t).own
                have hlen : (S5.v t).length = n := by rw [HAk.out.ev]; exact HV.out.1.symm
                rw [HV.out.2.1, hlen] at hown
                have hblt : ∀ g, (Value.slice AW n cW).ownBlock = some g → g < w5.heap.size := fun g hg => (hcap3.lt g hg).2
                have hq5 := HK6.out.2.2
                have hbb := (HAk.out.mt.1.ln t b HAk.out.ls).2.lt
                refine (hins_any hown (fun u hu => by obtain ⟨y, _, hy⟩ := List.mem_flatMap.1 hu; exact heldC_one y u hy) hkn (by omega) hBI hkI rfl (by intro u hu; simp at hu; rcases hu with rfl | rfl | rfl <;> rfl) (fun e => by have h1 := hblt _ e; have h2 := h58.size; omega)).mono ?_
                rintro r w' ⟨A', c', rfl, hR⟩
                have ev : heldV ((S5.v t).take k ++ [(x, mm, true)] ++ (S5.v t).drop k) = (heldV (S5.v t)).take (k * 3) ++ [.int .i64 x, .int .i64 mm, .bool true] ++ (heldV (S5.v t)).drop (k * 3) := by
                  rw [heldV_append, heldV_append, heldV_take]
                  congr 1
                  have h1 : heldV (S5.v t) = heldV ((S5.v t).take k) ++ heldV ((S5.v t).drop k) := by rw [← heldV_append, List.take_append_drop]
                  have h2 : (heldV ((S5.v t).take k)).length = k * 3 := by rw [heldV_len, List.length_take, hlen, Nat.min_eq_left hkn]
                  rw [h1, List.drop_left' h2]
                rw [← ev] at hR
                obtain ⟨c1, c2, c3⟩ := setW_row hmI hBI HAk.out.ls HV.out.2.1 (by rw [List.length_append, List.length_append, List.length_take, List.length_drop, hlen]; simp; omega) hR
                have hqI := (HT.out wI (H8.out.1.trans (hbI.mono H8.out.1.size))).2.2
                have hqne : ¬ (Value.slice AW n cW).ownBlock = some q := fun e => by have h1 := hblt _ e; omega
                have hq' := hqI.chg hR.chg hqne
                have hqs := hq'.chg ((Chg.refl (fun k => k = b) w').setCell (p := ⟨b, 4, none⟩) (fun _ => rfl) (.slice A' (n + 1) c')) (fun e => by omega)
                refine ⟨A', c', rfl, ⟨hq'.cell 0, hq'.cell 1, hq'.cell 2, c1⟩, c2, hqs, _, HAk.out.mt.trans (MTo.low h5I HAk.out.mt.1.foot (by have h2 := HAk.out.mt.2.size; have h3 := HAk.out.bw; omega) c3) (fun k hk => (HAk.out.ft k hk).1) HAk.out.bw, HAk.out.al.h, ?_, HAk.out.al.tg, HAk.out.al.wn, rfl⟩
                show upd S5.v t _ = _
                rw [HAk.out.al.v])
              have HW8 := Lib.hid hwI
              obtain ⟨l0, l1, l2, l4⟩ := (HT.out w8.drew H8.out.1.drew).1
              obtain ⟨m0, m1, m2, m4⟩ := (HT.out (w8.alloc (.cells #[.int .i64 x, .int .i64 mm, .bool true] 62)) (H8.out.1.alloc H8.out.1.size _)).1
              obtain ⟨n0, n1, n2, n4⟩ := (HT.out (w8.alloc (.cells #[.int .i64 x, .int .i64 mm, .bool true] 62)).drew (H8.out.1.alloc H8.out.1.size _).drew).1
              clear hwI hbI hkI h58
              go_region_with (first
                | (go_at_call 35; rw [← HW8.out]; refine HIN.out.mono ?_; rintro e w9 ⟨A9, c9, rfl, hS9, z9, hr9⟩; have x9 := hS9.2.2.2; have HI9 := Lib.hid hr9; clear hS9 hr9 l0 l1 l2 l4 m0 m1 m2 m4 n0 n1 n2 n4 g0 g1 g2 g4))
              all_goals
                obtain ⟨hqb, S9, k9, p1, p2, p3, p4, p5⟩ := HI9.out
                obtain ⟨w11, hw11⟩ : ∃ w11, w11 = w9.setCell ⟨b, 4, none⟩ (.slice A9 (n + 1) c9) := ⟨_, rfl⟩
                rw [← hw11] at hqb k9 ⊢
                clear hw11 x9 z9
                have hls9 : S9.ls t = some b := by rw [p5]; exact HAk.out.ls
                have HL11 := Lib.hid (show ∀ w', Below w11.heap.size w11 w' → w'.cell? ⟨tb, 2, none⟩ = some (.map (some S9.m2)) ∧ w'.cell? ⟨b, 0, none⟩ = some (.int .i64 t.k) ∧ w'.cell? ⟨b, 1, none⟩ = some (.string t.t) ∧ w'.cell? ⟨b, 2, none⟩ = some (.string t.y) ∧ w'.cell? ⟨q, 1, none⟩ = some (.int .i64 mm) from fun w' hb => by
                  have h1 := k9.1.below hb
                  have hl := (h1.ln t b hls9).2
                  exact ⟨h1.c2, hl.cell 0, hl.cell 1, hl.cell 2, (hqb.below hb hqb.lt).cell 1⟩)
                obtain ⟨ya0, ya1, ya2, ya3, ya4⟩ := HL11.out w11 (Below.refl _ _)
                obtain ⟨yb0, yb1, yb2, yb3, yb4⟩ := HL11.out w11.drew (Below.refl _ _).drew
                have HK2 := Lib.hid (k9.1.below (Below.refl _ _).drew).k2
                have HKEY := Lib.hid H.out.2.2.2.2.2.2.2.2.2.1.key
                have HBC := Lib.hid (show ∃ l : List Int, l.length ≤ 1001 ∧ ∀ y, (f2 S9.wn y).isSome = true → y ∈ l from by
                  have h1 := HAk.out.bd.c
                  rw [HAk.out.al.wn] at h1
                  rw [p4]
                  exact h1)
                have HFI := Lib.hid (show ∀ w12, MapM iV w12 3 S9.m2 (upd (f2 S9.wn) x (some (wantV t mm))) → Chg (fun q => q = S9.m2) w11.drew w12 → TI B (Ext D w w12) w12 tb (askL l x t m).1 ∧ Chg D w w12 from fun w12 hM hC => by
                  obtain ⟨hw1, hb1, hk1, hok2, hok, hm, hr, hz, hB, hx, ht, hm9⟩ := H.out
                  have hb11 : Below w11.heap.size w11 w11.drew := (Below.refl _ _).drew
                  obtain ⟨q1, q2⟩ := (k9.1.below hb11).setN (x := x) (some (t, mm)) hM hC
                  have s9 := k9.2.size
                  have s12 : w11.heap.size ≤ w12.heap.size := hC.size
                  have hcd : Chg D w w12 := k9.2.trans' ((Chg.of_below (F := Ext D w w11) hb11).trans q2) fun i hi hd => hd.elim id fun h1 => absurd h1.1 (by omega)
                  have hmx : (mx : Od) = ⟨t, x, mm⟩ := HP.out.2.2.2
                  have hne : hsL l.H t ≠ [] := fun e => by
                    have h1 := HP.out.2.1
                    rw [hmx] at h1
                    dsimp only at h1
                    rw [e, hok.held e] at h1
                    have h2 := HCN.out
                    rw [hmx, ← h1] at h2
                    simp [freeL] at h2
                  rw [HP.out.1, if_neg (by rw [HCN.out]; decide)] at hok2 ⊢
                  refine ⟨⟨hok2, _, q1.more (fun k hk => hk.elim .inl fun h1 => .inr ⟨h1.1, by omega⟩) (fun k hk => ?_), ?_⟩, hcd⟩
                  · rcases hk with h1 | h1
                    · have := hm.foot k h1; omega
                    · omega
                  · rw [hmx]
                    exact hr.wait (o := ⟨t, x, mm⟩) HP.out.2.2.1 HWT.out ht.key hx hne p1 p2 p3 (by show upd S9.wn x _ = _; rw [p4]) (fun t' h1 => by show S9.ls t' = _; rw [p5]; exact HAk.out.lo t' h1) hls9)
                clear hqb k9 p1 p2 p3 p4 p5 hls9 HI9
                go_upto_region 18 with fail
                obtain ⟨w12, hrun, hM, hC⟩ := MapM.store (t := 54) (e := 34) HK2.out intK Tryz.underlying54 iV_inj HKEY.out (wantV t mm) HBC.out.choose_spec.2 (Nat.le_trans HBC.out.choose_spec.1 (by omega))
                have HZ := Lib.hid (HFI.out _ hM hC)
                clear hM hC
                go_region
                go_wp2_with fail
                go_ret2
                obtain ⟨q1, q2⟩ := HZ.out
                refine ⟨?_, q1, q2⟩
                rw [HP.out.1, if_neg (by rw [HCN.out]; decide)]
                rfl
end Go.Proofs.YthbbheegkhlniaaGreat
