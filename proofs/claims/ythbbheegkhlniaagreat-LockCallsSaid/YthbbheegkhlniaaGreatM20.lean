/-
  The program's locks: Cancel.
-/
import Derived.Test.YthbbheegkhlniaaGreatM18
namespace Go.Proofs.YthbbheegkhlniaaGreat
open Go.RowKit Go.Lib Go.Shelf Go.Maps

/-- the waiters' row cut, ahead of its store -/
theorem cutW_row {B tb b : Nat} {D : Nat → Prop} {w3 w4 : World} {S : Sx} (h : Mm B D w3 tb S) (hB : B ≤ w3.heap.size) {t : Th} (hls : S.ls t = some b) {A : Option Addr} {n c m : Nat} (hv : S.wv t = .slice A n c) {l' : List Hd} (hm : m = l'.length) (hR : RowTo B 62 3 (.slice A n c) w3 (.slice A m c) m (heldV l') w4) :
    w4.cell? ⟨b, 4, none⟩ = some (.slice A n c) ∧ w4.frozen? ⟨b, 4, none⟩ = false ∧ MTo B tb D w3 (w4.setCell ⟨b, 4, none⟩ (.slice A m c)) { S with o := setO S.o (.slice A m c) (.wr t), wv := upd S.wv t (.slice A m c), v := upd S.v t l' } := by
  have hne : (Value.slice A n c).ownBlock ≠ some b := fun e => by
    have h9 := (h.wr t).lbl b (by rw [hv]; exact e)
    rw [(h.ln t b hls).1] at h9
    cases h9
  have hbk := (h.ln t b hls).2.chg hR.chg hne
  refine ⟨by rw [hbk.cell 4]; show some (S.wv t) = _; rw [hv], hbk.frozen 4, ?_⟩
  exact MTo.setW h hB hls (w1 := w4) (v' := .slice A m c) (l' := l') ⟨A, c, by rw [hm]⟩ (by rw [hv, ← hm]; exact hR)
theorem cutH_row {B tb b : Nat} {D : Nat → Prop} {w3 w4 : World} {S : Sx} (h : Mm B D w3 tb S) (hB : B ≤ w3.heap.size) {t : Th} (hls : S.ls t = some b) {A : Option Addr} {n c m : Nat} (hv : S.hv t = .slice A n c) {l' : List Hd} (hm : m = l'.length) (hR : RowTo B 62 3 (.slice A n c) w3 (.slice A m c) m (heldV l') w4) :
    w4.cell? ⟨b, 3, none⟩ = some (.slice A n c) ∧ w4.frozen? ⟨b, 3, none⟩ = false ∧ MTo B tb D w3 (w4.setCell ⟨b, 3, none⟩ (.slice A m c)) { S with o := setO S.o (.slice A m c) (.hr t), hv := upd S.hv t (.slice A m c), h := upd S.h t l' } := by
  have hne : (Value.slice A n c).ownBlock ≠ some b := fun e => by
    have h9 := (h.hr t).lbl b (by rw [hv]; exact e)
    rw [(h.ln t b hls).1] at h9
    cases h9
  have hbk := (h.ln t b hls).2.chg hR.chg hne
  refine ⟨by rw [hbk.cell 3]; show some (S.hv t) = _; rw [hv], hbk.frozen 3, ?_⟩
  exact MTo.setH h hB hls (w1 := w4) (v' := .slice A m c) (l' := l') ⟨A, c, by rw [hm]⟩ (by rw [hv, ← hm]; exact hR)
/-- of's number stays while the row changes -/
theorem of_del {w w3 : World} {q : Nat} {x : Int} {B n c : Nat} {A : Option Addr} {l : List Hd} (hq : OfAt w w3 q x) (hr : w.ownsRow B 62 3 (.slice A n c) n (heldV l)) (hn : n = l.length) (hl : l.length ≤ 1000000) :
    Calls Tryz.prog 42 #[.slice A n c, .func (.func 67) #[] #[pt q]] w3 fun e w' => ∃ m, e = .returned (.slice A m c) ∧ m = (l.filter fun h => !ofP x h).length ∧ RowTo B 62 3 (.slice A n c) w3 (.slice A m c) m (heldV (l.filter fun h => !ofP x h)) w' :=
  delF_any (own_chg hr (F := Non) (Chg.of_below hq.low) fun _ _ hf => hf) hn hl eg_of (of_predC hq.lt (fun h9 => by have h1 := (hr.lt q h9).2; have h2 := hq.new; omega) hq.cell)
set_option maxRecDepth 100000 in
set_option maxHeartbeats 12800000 in
theorem lcancel_any {B tb : Nat} {D : Nat → Prop} {w : World} {l : Lk} (x : Int) (h : TI B D w tb l) (hz : szL l ≤ 1000) (hB : B ≤ w.heap.size) (hx : NumI x) :
    Calls Tryz.prog 10 #[ptrL tb, .int .i64 x] w fun r w' => ∃ v, r = .returned v ∧ IntsRet w (cancelL l x).2 w' v ∧ TI B (Ext D w w') w' tb (cancelL l x).1 ∧ Chg D w w' := by
  have hok2 := h.1.cancel x
  have hTI := h
  obtain ⟨hok, S, hm, hr⟩ := h
  have hlk := hm.look2 hx
  have c2 := hm.c2
  cases hwt : waitL l.W x with
  | none =>
    have e1 : S.wn x = none := by rw [hr.wn, wnL_none hwt]
    rw [e1] at hlk
    unfold waV at hlk
    simp only [Option.isSome_none] at hlk
    have HE := Lib.hid (And.intro (show cancelL l x = (l, []) by unfold cancelL; rw [hwt]) (And.intro hTI (And.intro hB (And.intro hok (And.intro hm hr)))))
    clear hok hm hr hwt e1 hz hTI hB hok2
    go_enter Tryz.func10, Tryz.ntmps10
    go_wp2_with fail
    go_ret
    refine ⟨_, rfl, ?_, ?_, ?_⟩
    · rw [HE.out.1]
      exact ⟨none, 0, 0, rfl, rfl, World.ownsRow_nil _ _ _ _⟩
    · rw [HE.out.1]
      exact ⟨HE.out.2.2.2.1, S, HE.out.2.2.2.2.1.up ((Below.refl _ w).alloc (Nat.le_refl _) _) HE.out.2.2.1, HE.out.2.2.2.2.2⟩
    · exact Chg.of_below ((Below.refl _ w).alloc (Nat.le_refl _) _)
  | some o =>
    have e1 : S.wn x = some (o.th, o.m) := by rw [hr.wn, wnL_some hwt]
    rw [e1] at hlk
    unfold waV at hlk
    simp only [Option.isSome_some] at hlk
    obtain ⟨ho, hox⟩ := mem_waitL hwt
    have hkey := (hr.kw o ho).1
    obtain ⟨b, hls⟩ := hr.line_ hok ho
    obtain ⟨w1, hw1⟩ : ∃ w1, w1 = w.alloc (.cells #[.int .i64 o.th.k, .string o.th.t, .string o.th.y, .int .i64 o.m] 34) := ⟨_, rfl⟩
    have hB1 : Below w.heap.size w w1 := by rw [hw1]; exact (Below.refl _ w).alloc (Nat.le_refl _) _
    have hK1 : Blk w1 w.heap.size 34 #[.int .i64 o.th.k, .string o.th.t, .string o.th.y, .int .i64 o.m] := by rw [hw1]; exact Blk.new _ _ _
    obtain ⟨n, hn⟩ : ∃ n, n = (wsL l.W o.th).length := ⟨_, rfl⟩
    have hn9 : n ≤ 1000 := by have := wsL_len l.W o.th; unfold szL at hz; omega
    have hm1 := hm.below hB1
    have HM := Lib.hid (show ∀ w2, MapM iV w2 3 S.m2 (upd (f2 S.wn) x none) → Chg (fun q => q = S.m2) w1 w2 → Mm B D w2 tb { S with wn := upd S.wn x none } ∧ Chg D w w2 ∧ Blk w2 w.heap.size 34 #[.int .i64 o.th.k, .string o.th.t, .string o.th.y, .int .i64 o.m] from fun w2 hM hC => by
      obtain ⟨h1, h2⟩ := hm1.setN (x := x) none hM hC
      refine ⟨h1, (Chg.of_below hB1).trans h2, hK1.chg hC fun e => ?_⟩
      have := (hm.foot S.m2 (hm.dom _ (by rw [hm.o2]; intro h; cases h))).2
      omega)
    have c2' := hm1.c2
    have HK2 := Lib.hid hm1.k2
    have HKEY := Lib.hid hx.key
    have H := Lib.hid (And.intro hB1 (And.intro hw1 (And.intro hwt (And.intro hls (And.intro hn (And.intro hr (And.intro hB (And.intro hok2 (And.intro hok (And.intro hm (And.intro hkey hz)))))))))))
    rw [hw1] at c2'
    clear hok hm hr hwt e1 hz ho hkey hox hls hB1 hK1 hn hm1 hB hok2 hTI
    go_enter Tryz.func10, Tryz.ntmps10
    go_upto_region 5 with (refine at_del (t := 54) (e := 34) (enc := iV) (b := S.m2) _ rfl _ _ rfl (by simp [Act.eval]) (by rw [← hw1]; exact HK2.out) intK Tryz.underlying54 iV_inj x HKEY.out (by simp [Act.eval]) ?_; intro w2 hM2 hC2; have H2 := Lib.hid (HM.out w2 hM2 (by rw [hw1]; exact hC2)); clear hM2 hC2 HK2 HKEY)
    have HS := Lib.hid (show ∀ w', Below w2.heap.size w2 w' → (w'.cell? ⟨tb, 0, none⟩ = some (.map (some S.m0)) ∧ w'.cell? ⟨w.heap.size, 0, none⟩ = some (.int .i64 o.th.k) ∧ w'.cell? ⟨w.heap.size, 1, none⟩ = some (.string o.th.t) ∧ w'.cell? ⟨w.heap.size, 2, none⟩ = some (.string o.th.y) ∧ (Instr.lookup 52 (.map (some S.m0)) (.agg #[.int .i64 o.th.k, .string o.th.t, .string o.th.y]) false).run Tryz.prog w' = .ok (pt b) w') ∧ w'.frozen? ⟨b, 4, none⟩ = false ∧ ∃ A c, S.wv o.th = .slice A n c ∧ w'.cell? ⟨b, 4, none⟩ = some (.slice A n c) ∧ w'.ownsRow B 62 3 (.slice A n c) n (heldV (wsL l.W o.th)) from fun w' hb => by
      have h1 := H2.out.1.below hb
      have hk := H2.out.2.2.below hb H2.out.2.2.lt
      have hl := h1.look0n H.out.2.2.2.2.2.2.2.2.2.2.1
      rw [show ({ S with wn := upd S.wn x none } : Sx).ls o.th = some b from H.out.2.2.2.1] at hl
      obtain ⟨A, c, hv, hL⟩ := h1.readW H.out.2.2.2.1
      have ev : S.v o.th = wsL l.W o.th := by rw [H.out.2.2.2.2.2.1.v]
      have en : (S.v o.th).length = n := by rw [ev]; exact H.out.2.2.2.2.1.symm
      have h4 := hL.cell
      have ho := (h1.wr o.th).own
      have hv' : S.wv o.th = .slice A (S.v o.th).length c := hv
      have h4' : w'.cell? ⟨b, 4, none⟩ = some (.slice A (S.v o.th).length c) := h4
      have ho' : w'.ownsRow B 62 3 (S.wv o.th) (S.v o.th).length (heldV (S.v o.th)) := ho
      rw [hv', en, ev] at ho'
      rw [en] at hv' h4'
      exact ⟨⟨h1.c0, hk.cell 0, hk.cell 1, hk.cell 2, hl⟩, (h1.ln o.th b H.out.2.2.2.1).2.frozen 4, A, c, hv', h4', ho'⟩)
    obtain ⟨A, c, hwv, _, _⟩ := (HS.out w2 (Below.refl _ _)).2.2
    have HT := Lib.hid (show ∀ w', Below w2.heap.size w2 w' → w'.cell? ⟨b, 4, none⟩ = some (.slice A n c) ∧ w'.frozen? ⟨b, 4, none⟩ = false ∧ w'.ownsRow B 62 3 (.slice A n c) n (heldV (wsL l.W o.th)) from fun w' hb => by
      obtain ⟨A', c', hwv', h1, h2⟩ := (HS.out w' hb).2.2
      rw [hwv] at hwv'
      injection hwv' with e1 e2 e3
      subst e1 e3
      exact ⟨h1, (HS.out w' hb).2.1, h2⟩)
    have q0 := (HS.out w2 (Below.refl _ _)).1
    have q1 := (HS.out w2.drew (Below.refl _ w2).drew).1
    have HQ := Lib.hid (And.intro q0 (And.intro q1 hwv))
    clear q0 q1 HS hwv HM c2' c2 hlk
    go_region_held3 (fun w' => w'.cell? ⟨tb, 0, none⟩ = some (.map (some S.m0)) ∧ w'.cell? ⟨w.heap.size, 0, none⟩ = some (.int .i64 o.th.k) ∧ w'.cell? ⟨w.heap.size, 1, none⟩ = some (.string o.th.t) ∧ w'.cell? ⟨w.heap.size, 2, none⟩ = some (.string o.th.y) ∧ (Instr.lookup 52 (.map (some S.m0)) (.agg #[.int .i64 o.th.k, .string o.th.t, .string o.th.y]) false).run Tryz.prog w' = .ok (pt b) w')
      (first
        | exact HQ.out.2.1
        | exact HQ.out.1)
      (fail)
    go_upto_region 6 with fail
    obtain ⟨w3, hw3⟩ : ∃ w3, w3 = w2.drew := ⟨_, rfl⟩
    rw [← hw3]
    have hb3 : Below w2.heap.size w2 w3 := by rw [hw3]; exact (Below.refl _ w2).drew
    obtain ⟨x4, z4, r4⟩ := HT.out w3 hb3
    obtain ⟨y4, u4, s4⟩ := HT.out w3.drew hb3.drew
    have HD := Lib.hid (show ∀ q w4, OfAt w3.drew w4 q x → w4.cell? ⟨b, 4, none⟩ = some (.slice A n c) ∧ w4.frozen? ⟨b, 4, none⟩ = false ∧ Below w3.heap.size w3 w4 ∧ Calls Tryz.prog 42 #[.slice A n c, .func (.func 67) #[] #[pt q]] w4 fun e w' => ∃ m, e = .returned (.slice A m c) ∧ w'.cell? ⟨b, 4, none⟩ = some (.slice A n c) ∧ w'.frozen? ⟨b, 4, none⟩ = false ∧ ∃ S5, MTo B tb D w4 (w'.setCell ⟨b, 4, none⟩ (.slice A m c)) S5 ∧ S5.h = S.h ∧ S5.v = upd S.v o.th ((S.v o.th).filter fun h => !ofP x h) ∧ S5.tg = S.tg ∧ S5.wn = upd S.wn x none ∧ S5.ls = S.ls from fun q w4 hq => by
      have hb4 : Below w2.heap.size w2 w4 := hb3.drew.trans (hq.low.mono hb3.size)
      obtain ⟨g1, g2, g3⟩ := HT.out w4 hb4
      refine ⟨g1, g2, (show Below w3.heap.size w3 w3.drew from (Below.refl _ _).drew).trans hq.low, ?_⟩
      refine (of_del hq s4 H.out.2.2.2.2.1 (by rw [← H.out.2.2.2.2.1]; omega)).mono ?_
      rintro e w' ⟨m, rfl, hm, hR⟩
      have hm4 := H2.out.1.below hb4
      have ev : S.v o.th = wsL l.W o.th := by rw [H.out.2.2.2.2.2.1.v]
      obtain ⟨c1, c2, c3⟩ := cutW_row hm4 (Nat.le_trans H.out.2.2.2.2.2.2.1 (Nat.le_trans H2.out.2.1.size hb4.size)) H.out.2.2.2.1 HQ.out.2.2 hm hR
      exact ⟨m, rfl, c1, c2, _, c3, rfl, by rw [ev], rfl, rfl, rfl⟩)
    have HX := Lib.hid (And.intro r4 (And.intro s4 hb3))
    clear r4 s4 hb3 hw3 HT
    go_region_with (first
      | (go_at_call 43; refine (of_at x _).mono ?_; rintro e w4 ⟨q, rfl, hq⟩; obtain ⟨x5, z5, b5, hcall⟩ := HD.out q w4 hq; have HC := Lib.hid hcall; have HB5 := Lib.hid b5; clear hq b5 hcall HD x4 z4 y4 u4)
      | (go_at_call 42; refine HC.out.mono ?_; rintro e w5 ⟨m, rfl, x6, z6, hS⟩; have HS5 := Lib.hid hS; clear hS HC x5 z5))
    all_goals
      have HW := Lib.hid (show ∃ S5, MTo B tb D w4 (w5.setCell ⟨b, 4, none⟩ (.slice A m c)) S5 ∧ MTo B tb D w (w5.setCell ⟨b, 4, none⟩ (.slice A m c)) S5 ∧ Calls Tryz.prog 44 #[pt tb, pt b] (w5.setCell ⟨b, 4, none⟩ (.slice A m c)) fun r w' => ∃ v, r = .returned v ∧ IntsRet w (cancelL l x).2 w' v ∧ ∃ S', MTo B tb D w w' S' ∧ Rep (cancelL l x).1 S' from by
        obtain ⟨S5, k5, f1, f2, f3, f4, f5⟩ := HS5.out
        obtain ⟨hB1, hw1, hwt, hls, hn, hr, hB, hok2, hok, hm, hkey, hz⟩ := H.out
        have hu := hok.w.uni
        have hRep := hr.cut (S' := S5) hu hwt f1 f2 f3 f4 f5
        have hb24 : Below w2.heap.size w2 w4 := HX.out.2.2.trans (HB5.out.mono HX.out.2.2.size)
        have hc4 : Chg D w w4 := H2.out.2.1.trans (Chg.of_below hb24)
        have hf : ∀ k, D k → B ≤ k ∧ k < w.heap.size := hm.foot
        have hB4 : B ≤ w4.heap.size := Nat.le_trans hB hc4.size
        have hB5 : B ≤ (w5.setCell ⟨b, 4, none⟩ (.slice A m c)).heap.size := Nat.le_trans hB4 k5.2.size
        have k5' := MTo.from_ hc4 hB hf k5
        refine ⟨S5, k5, k5', ?_⟩
        have ec : cancelL l x = sweepL ⟨l.H, cutW x l.W⟩ o.th := by unfold cancelL; rw [hwt]
        rw [ec]
        refine (sweepX_any (R := []) k5'.1 hB5 (hRep.x [o.th]) (by rw [hRep.h]) (by rw [hRep.v]) (cutW_pw hu) (by rw [f5]; exact hls) hkey (by
          have h1 := (cutW_sub x l.W).length_le
          unfold szL at hz
          show l.H.length + (cutW x l.W).length ≤ 2000
          omega) (by simp)).mono ?_
        rintro r w' ⟨v, rfl, hi, S6, k6, r6, _⟩
        exact ⟨v, rfl, hi.low_ k5'.2.size, S6, k5'.trans k6 (fun k hk => (hf k hk).1) hB, r6.nil⟩)
      obtain ⟨S5, _, _, hcall⟩ := HW.out
      clear x6 z6
      go_wp2_with (go_at_call 44; refine hcall.mono ?_; rintro e w6 ⟨v, rfl, hi, S6, k6, r6⟩; have HF := Lib.hid (And.intro hi (And.intro k6 r6)); clear hi k6 r6)
      go_ret
      exact ⟨_, rfl, HF.out.1, ⟨H.out.2.2.2.2.2.2.2.1, S6, HF.out.2.1.1, HF.out.2.2⟩, HF.out.2.1.2⟩
end Go.Proofs.YthbbheegkhlniaaGreat

/-
  The program's locks: where Release stands.
-/
namespace Go.Proofs.YthbbheegkhlniaaGreat
open Go.RowKit Go.Lib Go.Shelf Go.Maps

/-- where Release stands in memory -/
structure Rl0 (B tb : Nat) (D D' : Nat → Prop) (w0 wr : World) (S : Sx) (R : Value) (nR : Nat) (xR : List Value) (L : Value) (nL : Nat) (xL : List Int) : Prop where
  mm : Mm B D' wr tb S
  sub : ∀ k, D' k → D k ∨ w0.heap.size ≤ k
  chg : Chg D w0 wr
  old : wr.ownsRow B 32 3 R nR xR
  oldN : ∀ k, R.ownBlock = some k → ¬ D' k
  oldD : ∀ k, R.ownBlock = some k → D k ∨ w0.heap.size ≤ k
  lst : wr.ownsRow w0.heap.size 3 1 L nL (intsV xL)
  lstN : ∀ k, L.ownBlock = some k → ¬ D' k
  low : B ≤ w0.heap.size
section
variable {B tb nR nL nL' : Nat} {D D' : Nat → Prop} {w0 wr w' : World} {S S' : Sx} {R L L' : Value} {xR : List Value} {xL xL' : List Int}
theorem Rl0.bw (h : Rl0 B tb D D' w0 wr S R nR xR L nL xL) : B ≤ wr.heap.size := Nat.le_trans h.low h.chg.size
theorem Rl0.below (h : Rl0 B tb D D' w0 wr S R nR xR L nL xL) (hb : Below wr.heap.size wr w') : Rl0 B tb D D' w0 w' S R nR xR L nL xL :=
  ⟨h.mm.below hb, h.sub, h.chg.trans' (Chg.of_below (F := D) hb) fun _ _ hk => hk, own_chg h.old (F := Non) (Chg.of_below hb) fun _ _ hf => hf, h.oldN, h.oldD, own_chg h.lst (F := Non) (Chg.of_below hb) fun _ _ hf => hf, h.lstN, h.low⟩
theorem Rl0.chgD (h : Rl0 B tb D D' w0 wr S R nR xR L nL xL) (hc : Chg D' wr w') : Chg D w0 w' :=
  h.chg.trans' hc fun i hi hD => (h.sub i hD).elim id fun h1 => absurd h1 (by omega)
theorem Rl0.step (h : Rl0 B tb D D' w0 wr S R nR xR L nL xL) (hm : MTo B tb D' wr w' S') : Rl0 B tb D (Ext D' wr w') w0 w' S' R nR xR L nL xL := by
  have hs := h.chg.size
  refine ⟨hm.1, fun k hk => hk.elim (h.sub k) fun hk => .inr (by omega), h.chgD hm.2, own_chg h.old hm.2 h.oldN, fun k hk hd => hd.elim (h.oldN k hk) fun hd => ?_, h.oldD, own_chg h.lst hm.2 h.lstN, fun k hk hd => hd.elim (h.lstN k hk) fun hd => ?_, h.low⟩
  · have := (h.old.lt k hk).2; omega
  · have := (h.lst.lt k hk).2; omega
/-- the same footprint -/
theorem Rl0.same (h : Rl0 B tb D D' w0 wr S R nR xR L nL xL) (hm : Mm B D' w' tb S' ∧ Chg D' wr w') : Rl0 B tb D D' w0 w' S' R nR xR L nL xL :=
  ⟨hm.1, h.sub, h.chgD hm.2, own_chg h.old hm.2 h.oldN, h.oldN, h.oldD, own_chg h.lst hm.2 h.lstN, h.lstN, h.low⟩
theorem Rl0.push (h : Rl0 B tb D D' w0 wr S R nR xR L nL xL) (hR : RowTo w0.heap.size 3 1 L wr L' nL' (intsV xL') w') (hne : ∀ k, L.ownBlock = some k → R.ownBlock ≠ some k) : Rl0 B tb D D' w0 w' S R nR xR L' nL' xL' := by
  have hF : ∀ k, D' k → ¬ (L.ownBlock = some k) := fun k hk hl => h.lstN k hl hk
  refine ⟨h.mm.chg hR.chg hF, h.sub, h.chg.trans' hR.chg fun i hi hl => absurd (h.lst.lt i hl).1 (by omega), own_chg h.old hR.chg fun k hk hl => hne k hl hk, h.oldN, h.oldD, hR.own, fun k hk hd => ?_, h.low⟩
  rcases hR.blk k hk with h1 | h1
  · exact h.lstN k h1 hd
  · have := (h.mm.foot k hd).2; omega
end
section
variable {B tb : Nat} {D : Nat → Prop} {w w1 wA w5 w2 : World} {S : Sx}
/-- a transaction's things are let go of, whatever became of their row -/
theorem Mm.delT2 (h : Mm B D w tb S) {x : Int} (hM : MapM iV w2 3 S.m1 (upd S.tf x none)) (hc : Chg (fun q => ((S.tf x).getD nilS).ownBlock = some q ∨ q = S.m1) w w2) :
    Mm B (offD D ((S.tf x).getD nilS)) w2 tb { S with o := offO S.o ((S.tf x).getD nilS), tf := upd S.tf x none, tg := upd S.tg x [] } ∧ Chg D w w2 := by
  have hne : ((S.tf x).getD nilS).ownBlock ≠ some S.m1 := fun e => by have := (h.tr x).lbl _ e; rw [h.o1] at this; cases this
  have hK := h.kept (o' := offO S.o ((S.tf x).getD nilS)) (C := fun g => g = .tr x ∨ g = .m 1) hc (fun k hk => hk.elim (fun hk => .inl ((h.tr x).lbl k hk)) fun hk => .inr (by rw [hk]; exact h.o1)) fun k hk hC => offO_no fun e => hC (.inl ((h.tr x).lbl k e))
  have hD : ∀ k, ((S.tf x).getD nilS).ownBlock = some k → D k := fun k hk => h.dom k (by rw [(h.tr x).lbl k hk]; intro h; cases h)
  have hDb : D S.m1 := h.dom _ (by rw [h.o1]; intro h; cases h)
  refine ⟨⟨(hK.root (by simp)).1, (hK.root (by simp)).2, (hK.k0 (by simp)).2, (offO_no hne).trans h.o1, (hK.k2 (by simp)).2, (hK.k0 (by simp)).1, hM, (hK.k2 (by simp)).1, fun t' b' hb' => hK.ln t' b' hb' (by simp), fun t' => hK.hr t' (by simp), fun t' => hK.wr t' (by simp), fun y => ?_, fun k hk => ?_, fun k hk => ⟨(h.foot k hk.1).1, Nat.lt_of_lt_of_le (h.foot k hk.1).2 hc.size⟩, fun y hy => ?_⟩, hc.mono fun k _ hk => hk.elim (hD k) fun hk => by rw [hk]; exact hDb⟩
  · by_cases e : y = x
    · subst e
      simp only [upd_same, Option.getD_none]
      exact RowL.nil _ _ _ _
    · have h9 := hK.tr y (by simp [e])
      simp only [upd_other _ _ e]
      exact h9
  · have hk : offO S.o ((S.tf x).getD nilS) k ≠ .no := hk
    by_cases e : ((S.tf x).getD nilS).ownBlock = some k
    · exact absurd (if_pos e) hk
    · rw [offO_no e] at hk
      exact ⟨h.dom k hk, e⟩
  · by_cases e : y = x
    · subst e
      simp only [upd_same] at hy
      cases hy
    · simp only [upd_other _ _ e] at hy ⊢
      exact h.tn y hy
variable {R : Value} {n : Nat} {xs : List Value}
/-- one's things' row changed or new: the maps are as they were -/
theorem Mm.rowA (h : Mm B D w tb S) {x : Int} (hR : RowTo B 32 3 ((S.tf x).getD nilS) w R n xs wA) :
    wA.cell? ⟨tb, 1, none⟩ = some (.map (some S.m1)) ∧ wA.cell? ⟨tb, 2, none⟩ = some (.map (some S.m2)) ∧ MapM iV wA 3 S.m1 S.tf ∧ MapM iV wA 3 S.m2 (f2 S.wn) := by
  have hl : ∀ k, ((S.tf x).getD nilS).ownBlock = some k → S.o k = .tr x := (h.tr x).lbl
  have hr := h.root.chg hR.chg (fun e => by have := hl _ e; rw [h.r0] at this; cases this)
  exact ⟨hr.cell 1, hr.cell 2, h.k1.chg hR.chg (fun e => by have := hl _ e; rw [h.o1] at this; cases this), h.k2.chg hR.chg (fun e => by have := hl _ e; rw [h.o2] at this; cases this)⟩
theorem Rl0.begin_ (h : Mm B D w tb S) (hB : B ≤ w.heap.size) (hb : Below w.heap.size w w1) {x : Int} (hR : RowTo B 32 3 ((S.tf x).getD nilS) w1 R n xs wA) (hM : MapM iV w5 3 S.m1 (upd S.tf x none)) (hC : Chg (fun q => q = S.m1) wA w5) :
    Rl0 B tb D (offD D ((S.tf x).getD nilS)) w w5 { S with o := offO S.o ((S.tf x).getD nilS), tf := upd S.tf x none, tg := upd S.tg x [] } R n xs nilS 0 [] := by
  have h1 := h.below hb
  have hl : ∀ k, ((S.tf x).getD nilS).ownBlock = some k → S.o k = .tr x := (h.tr x).lbl
  have s1 := hb.size
  have hm1 := (h.foot S.m1 (h.dom _ (by rw [h.o1]; intro h; cases h))).2
  have hD : ∀ k, ((S.tf x).getD nilS).ownBlock = some k → D k := fun k hk => h.dom k (by rw [hl k hk]; intro h; cases h)
  have hc : Chg (fun q => ((S.tf x).getD nilS).ownBlock = some q ∨ q = S.m1) w1 w5 := (hR.chg.mono fun k _ hk => .inl hk).trans' hC fun k _ hk => .inr hk
  obtain ⟨q1, q2⟩ := h1.delT2 hM hc
  refine ⟨q1, fun k hk => .inl hk.1, (Chg.of_below hb).trans q2, own_chg hR.own hC fun k hk e => ?_, fun k hk hd => ?_, fun k hk => ?_, World.ownsRow_nil _ _ _ _, fun k hk => (by cases hk), hB⟩
  · rcases hR.blk k hk with h2 | h2
    · have := hl k h2; rw [e, h.o1] at this; cases this
    · omega
  · rcases hR.blk k hk with h2 | h2
    · exact hd.2 h2
    · have := (h.foot k hd.1).2; omega
  · rcases hR.blk k hk with h2 | h2
    · exact .inl (hD k h2)
    · exact .inr (by omega)
variable {D' : Nat → Prop} {w0 wr w' : World} {R' L : Value} {n' nL : Nat} {xs' : List Value} {xL : List Int}
/-- the row that is gone through changes -/
theorem Rl0.row (h : Rl0 B tb D D' w0 wr S R n xs nilS 0 []) (hR : RowTo B 32 3 R wr R' n' xs' w') : Rl0 B tb D D' w0 w' S R' n' xs' nilS 0 [] := by
  have s := h.chg.size
  refine ⟨h.mm.chg hR.chg fun k hk hl => h.oldN k hl hk, h.sub, h.chg.trans' hR.chg fun i hi hl => (h.oldD i hl).elim id fun h1 => absurd h1 (by omega), hR.own, fun k hk hd => ?_, fun k hk => ?_, World.ownsRow_nil _ _ _ _, fun k hk => (by cases hk), h.low⟩
  · rcases hR.blk k hk with h1 | h1
    · exact h.oldN k h1 hd
    · have := (h.mm.foot k hd).2; omega
  · rcases hR.blk k hk with h1 | h1
    · exact h.oldD k h1
    · exact .inr (by omega)
end
theorem own_src {w : World} {B n s c : Nat} {e : TypeId} {A : Option Addr} {xs : List Value} (h : w.ownsRow B e s (.slice A n c) n xs) : (A = none → n = 0) ∧ ∀ ad, A = some ad → ∀ j u, xs[j]? = some u → w.cell? (ad.add j) = some u := by
  rcases own_form2 h with ⟨rfl, rfl, rfl, h0⟩ | ⟨g, rfl⟩
  · exact ⟨fun _ => rfl, fun ad had => by cases had⟩
  · exact ⟨fun h => (by cases h), fun ad had => by cases had; exact h.cells (g := g) rfl⟩
end Go.Proofs.YthbbheegkhlniaaGreat

/-
  The program's locks: Release as mathematics, thing by thing.
-/
namespace Go.Proofs.YthbbheegkhlniaaGreat
open Go.RowKit Go.Lib Go.Shelf Go.Maps

/-- the things that a transaction has to do with, unordered -/
def relT (l : Lk) (x : Int) : List Th := tgL l.H x ++ (match waitL l.W x with | some o => [o.th] | none => [])
/-- and in order -/
def relA (l : Lk) (x : Int) : List Th := match waitL l.W x with
  | some o => putT (thingsL l.H x) o.th
  | none => thingsL l.H x
theorem relA_srt (l : Lk) (x : Int) : SrtT (relA l x) := by
  unfold relA
  split
  · exact putT_srt (thingsL_srt _ _) _
  · exact thingsL_srt _ _
theorem mem_relA {l : Lk} {x : Int} {t : Th} : t ∈ relA l x ↔ (∃ o ∈ l.H, o.x = x ∧ o.th = t) ∨ ∃ o, waitL l.W x = some o ∧ o.th = t := mem_all
theorem mem_relT {l : Lk} {x : Int} {t : Th} : t ∈ relT l x ↔ (∃ o ∈ l.H, o.x = x ∧ o.th = t) ∨ ∃ o, waitL l.W x = some o ∧ o.th = t := by
  unfold relT
  rw [List.mem_append, mem_tgL]
  cases waitL l.W x with
  | none => simp
  | some o => simp [eq_comm]
theorem relT_relA (l : Lk) (x : Int) : Lib.compact (sortT (relT l x)) = relA l x :=
  srt_ext (compT_srt _) (relA_srt l x) fun t => by rw [mem_compT, mem_relT, mem_relA]
theorem relT_len (l : Lk) (x : Int) : (relT l x).length ≤ l.H.length + 1 := by
  unfold relT
  have := tgL_len l.H x
  rw [List.length_append]
  split <;> simp <;> omega
theorem compactT_len (l : List Th) : (Lib.compact l).length ≤ l.length := by
  have h : ∀ m, (Lib.compactUpTo l.toArray m).length ≤ m := by
    intro m
    induction m with
    | zero => simp [Lib.compactUpTo]
    | succ m ih => rw [Lib.compactUpTo_succ]; split <;> simp <;> omega
  exact h l.length
theorem relA_len (l : Lk) (x : Int) : (relA l x).length ≤ l.H.length + 1 := by
  rw [← relT_relA]
  have h1 := compactT_len (sortT (relT l x))
  rw [sortT_len] at h1
  have := relT_len l x
  omega
theorem relA_nodup (l : Lk) (x : Int) : (relA l x).Nodup := (relA_srt l x).imp fun {a b} h e => by rw [e, bt_irr] at h; cases h
def rel0 (l : Lk) (x : Int) : Lk := ⟨l.H.filter fun o => decide (o.x ≠ x), cutW x l.W⟩
theorem releaseL_eq (l : Lk) (x : Int) : releaseL l x = sweepAll (relA l x) (rel0 l x) := rfl
theorem sweepAll_snoc (t : Th) : ∀ (a : List Th) (l : Lk), sweepAll (a ++ [t]) l = ((sweepL (sweepAll a l).1 t).1, (sweepAll a l).2 ++ (sweepL (sweepAll a l).1 t).2)
  | [], l => by simp [sweepAll]
  | u :: r, l => by
    show sweepAll (u :: (r ++ [t])) l = _
    simp only [sweepAll]
    rw [sweepAll_snoc t r]
    simp
theorem sweepGo_pw (t : Th) : ∀ (pend done H : List Od), (done ++ pend).Pairwise (fun a b => a.x ≠ b.x) → (sweepGo t done H pend).2.1.Pairwise fun a b => a.x ≠ b.x
  | [], done, H, h => by simpa [sweepGo] using h
  | o :: r, done, H, h => by
    rw [sweepGo]
    split
    · exact sweepGo_pw t r done _ (h.sublist ((List.Sublist.refl done).append (List.sublist_cons_self o r)))
    · exact sweepGo_pw t r (done ++ [o]) H (by rw [List.append_assoc]; exact h)
theorem sweepL_pw {l : Lk} (t : Th) (h : l.W.Pairwise fun a b => a.x ≠ b.x) : (sweepL l t).1.W.Pairwise fun a b => a.x ≠ b.x := sweepGo_pw t l.W [] l.H (by simpa using h)
/-- some of the things are done, R are still to come -/
structure RelI (x : Int) (R : List Th) (lk : Lk) (S : Sx) : Prop where
  r : RepX R lk S
  h : ∀ t ∈ R, (S.h t).filter (fun h => !ofP x h) = hsL lk.H t
  v : ∀ t ∈ R, (S.v t).filter (fun h => !ofP x h) = wsL lk.W t
  ls : ∀ t ∈ R, (S.ls t).isSome = true
  key : ∀ t ∈ R, t.Key
  lh : ∀ t ∈ R, (S.h t).length ≤ 1000
  lv : ∀ t ∈ R, (S.v t).length ≤ 1000
  nd : R.Nodup
  u : lk.W.Pairwise fun a b => a.x ≠ b.x
  sz : lk.H.length + lk.W.length ≤ 1000
theorem RelI.start {x : Int} {l : Lk} {S S' : Sx} (hr : Rep l S) (hok : LkOk l) (hz : szL l ≤ 1000) (h1 : S'.h = S.h) (h2 : S'.v = S.v) (h3 : S'.tg = upd S.tg x []) (h4 : S'.wn = upd S.wn x none) (h5 : S'.ls = S.ls) : RelI x (relA l x) (rel0 l x) S' := by
  have hu := hok.w.uni
  have fh : ∀ t, (hsL l.H t).filter (fun h => !ofP x h) = hsL (rel0 l x).H t := fun t => (hsL_cut l.H t).symm
  have fw : ∀ t, (wsL l.W t).filter (fun h => !ofP x h) = wsL (rel0 l x).W t := fun t => (wsL_cut hu t).symm
  have nh : ∀ t, t ∉ relA l x → hsL l.H t = hsL (rel0 l x).H t := fun t ht => by
    rw [← fh t, eq_comm, List.filter_eq_self]
    intro h hh
    obtain ⟨o, ho, e, rfl⟩ := mem_hsL.1 hh
    simp only [ofP, Bool.not_eq_true', decide_eq_false_iff_not]
    intro e2
    exact ht (mem_relA.2 (.inl ⟨o, ho, e2, e⟩))
  have nw : ∀ t, t ∉ relA l x → wsL l.W t = wsL (rel0 l x).W t := fun t ht => by
    cases hw : waitL l.W x with
    | none =>
      show _ = wsL (cutW x l.W) t
      rw [cutW_none hw]
    | some o => exact (wsL_cut_ne hu hw fun e => ht (mem_relA.2 (.inr ⟨o, hw, e.symm⟩))).symm
  unfold szL at hz
  refine ⟨⟨fun t ht => by rw [h1, hr.h]; exact nh t ht, fun t ht => by rw [h2, hr.v]; exact nw t ht, by rw [h3, hr.tg]; exact (tgL_cut l.H).symm, by rw [h4, hr.wn]; exact (wnL_cut hu).symm, fun t ht => by rw [h5, hr.ls, any_th, any_th, nh t ht], fun o ho => hr.kh o (List.mem_filter.1 ho).1, fun o ho => hr.kw o (cutW_mem ho)⟩, fun t _ => by rw [h1, hr.h]; exact fh t, fun t _ => by rw [h2, hr.v]; exact fw t, fun t ht => ?_, fun t ht => ?_, fun t _ => by rw [h1, hr.h]; have := hsL_len l.H t; omega, fun t _ => by rw [h2, hr.v]; have := wsL_len l.W t; omega, relA_nodup l x, cutW_pw hu, ?_⟩
  · rw [h5]
    rcases mem_relA.1 ht with ⟨o, ho, _, e⟩ | ⟨o, ho, e⟩
    · rw [hr.ls]
      exact List.any_eq_true.2 ⟨o, ho, decide_eq_true e⟩
    · obtain ⟨b, hb⟩ := hr.line_ hok (mem_waitL ho).1
      rw [← e, hb]; rfl
  · rcases mem_relA.1 ht with ⟨o, ho, _, e⟩ | ⟨o, ho, e⟩
    · rw [← e]; exact (hr.kh o ho).1
    · rw [← e]; exact (hr.kw o (mem_waitL ho).1).1
  · have e1 : (rel0 l x).H.length ≤ l.H.length := List.length_filter_le _ _
    have e2 : (rel0 l x).W.length ≤ l.W.length := (cutW_sub x l.W).length_le
    omega
/-- a thing is done: its locks are cut, and it is swept -/
theorem RelI.step {x : Int} {t : Th} {R : List Th} {lk : Lk} {S S1 S' : Sx} (h : RelI x (t :: R) lk S) (h1 : S1.h = upd S.h t ((S.h t).filter fun h => !ofP x h)) (h2 : S1.v = upd S.v t ((S.v t).filter fun h => !ofP x h)) (h5 : S1.ls = S.ls) (hr : RepX R (sweepL lk t).1 S') (he : Elsewhere lk (sweepL lk t).1 S1 S' t) : RelI x R (sweepL lk t).1 S' := by
  have hnd := List.nodup_cons.1 h.nd
  have hne : ∀ t' ∈ R, t' ≠ t := fun t' h1 h2 => hnd.1 (h2 ▸ h1)
  have eh : ∀ t' ∈ R, S'.h t' = S.h t' := fun t' ht => by rw [he.h t' (hne t' ht), h1, upd_other _ _ (hne t' ht)]
  have ev : ∀ t' ∈ R, S'.v t' = S.v t' := fun t' ht => by rw [he.v t' (hne t' ht), h2, upd_other _ _ (hne t' ht)]
  refine ⟨hr, fun t' ht => ?_, fun t' ht => ?_, fun t' ht => ?_, fun t' ht => h.key t' (List.mem_cons_of_mem _ ht), fun t' ht => ?_, fun t' ht => ?_, hnd.2, sweepL_pw t h.u, ?_⟩
  · rw [eh t' ht, he.lh t' (hne t' ht)]; exact h.h t' (List.mem_cons_of_mem _ ht)
  · rw [ev t' ht, he.lw t' (hne t' ht)]; exact h.v t' (List.mem_cons_of_mem _ ht)
  · rw [he.ls t' (hne t' ht), h5]; exact h.ls t' (List.mem_cons_of_mem _ ht)
  · rw [eh t' ht]; exact h.lh t' (List.mem_cons_of_mem _ ht)
  · rw [ev t' ht]; exact h.lv t' (List.mem_cons_of_mem _ ht)
  · have := sweepL_sz lk t
    have := h.sz
    unfold szL at *
    omega
theorem RelI.cut {x : Int} {t : Th} {R : List Th} {lk : Lk} {S S1 : Sx} (h : RelI x (t :: R) lk S) (h1 : S1.h = upd S.h t ((S.h t).filter fun h => !ofP x h)) (h2 : S1.v = upd S.v t ((S.v t).filter fun h => !ofP x h)) (h3 : S1.tg = S.tg) (h4 : S1.wn = S.wn) (h5 : S1.ls = S.ls) : RepX (t :: R) lk S1 ∧ S1.h t = hsL lk.H t ∧ S1.v t = wsL lk.W t := by
  have ht : t ∈ t :: R := List.mem_cons_self
  have hne : ∀ t', t' ∉ t :: R → t' ≠ t := fun t' h1 h2 => h1 (h2 ▸ ht)
  exact ⟨⟨fun t' h6 => by rw [h1, upd_other _ _ (hne t' h6)]; exact h.r.h t' h6, fun t' h6 => by rw [h2, upd_other _ _ (hne t' h6)]; exact h.r.v t' h6, by rw [h3]; exact h.r.tg, by rw [h4]; exact h.r.wn, fun t' h6 => by rw [h5]; exact h.r.ls t' h6, h.r.kh, h.r.kw⟩, by rw [h1, upd_same]; exact h.h t ht, by rw [h2, upd_same]; exact h.v t ht⟩
/-- a thing's turn: cut and swept -/
theorem RelI.sweep_ {B tb b : Nat} {D : Nat → Prop} {w : World} {x : Int} {t : Th} {R : List Th} {lk : Lk} {S S1 : Sx} (h : RelI x (t :: R) lk S) (h1 : S1.h = upd S.h t ((S.h t).filter fun h => !ofP x h)) (h2 : S1.v = upd S.v t ((S.v t).filter fun h => !ofP x h)) (h3 : S1.tg = S.tg) (h4 : S1.wn = S.wn) (h5 : S1.ls = S.ls) (hm : Mm B D w tb S1) (hB : B ≤ w.heap.size) (hls : S.ls t = some b) (hR : R.length ≤ 1500) :
    Calls Tryz.prog 44 #[pt tb, pt b] w fun r w' => ∃ v, r = .returned v ∧ IntsRet w (sweepL lk t).2 w' v ∧ ∃ S', MTo B tb D w w' S' ∧ RelI x R (sweepL lk t).1 S' := by
  obtain ⟨q1, q2, q3⟩ := h.cut h1 h2 h3 h4 h5
  have := h.sz
  refine (sweepX_any hm hB q1 q2 q3 h.u (by rw [h5]; exact hls) (h.key t List.mem_cons_self) (by omega) (by omega)).mono ?_
  rintro r w' ⟨v, rfl, hi, S', k, hr, he⟩
  exact ⟨v, rfl, hi, S', k, h.step h1 h2 h5 hr he⟩
theorem sweepL_out (l : Lk) (t : Th) : (sweepL l t).2.length ≤ l.W.length := by
  have h : ∀ (pend done H : List Od), (sweepGo t done H pend).2.2.length ≤ pend.length := by
    intro pend
    induction pend with
    | nil => intro done H; simp [sweepGo]
    | cons o r ih =>
      intro done H
      rw [sweepGo]
      split
      · have := ih done (giveL o H); simp; omega
      · have := ih (done ++ [o]) H; simp; omega
  exact h l.W [] l.H
end Go.Proofs.YthbbheegkhlniaaGreat

/-
  The program's locks: a line's row cut of one transaction.
-/
namespace Go.Proofs.YthbbheegkhlniaaGreat
open Go.RowKit Go.Lib Go.Shelf Go.Maps

/-- the row of b's cell j cut: what is read ahead of it, what DeleteFunc comes to -/
structure CutTo (B tb b j n c : Nat) (A : Option Addr) (x : Int) (D : Nat → Prop) (w2 : World) (P : Sx → Prop) : Prop where
  cell : ∀ w', Below w2.heap.size w2 w' → w'.cell? ⟨b, j, none⟩ = some (.slice A n c) ∧ w'.frozen? ⟨b, j, none⟩ = false
  del : ∀ w3 q w4, Below w2.heap.size w2 w3 → OfAt w3 w4 q x → w4.cell? ⟨b, j, none⟩ = some (.slice A n c) ∧ w4.frozen? ⟨b, j, none⟩ = false ∧ Calls Tryz.prog 42 #[.slice A n c, .func (.func 67) #[] #[pt q]] w4 fun e w' => ∃ m, e = .returned (.slice A m c) ∧ w'.cell? ⟨b, j, none⟩ = some (.slice A n c) ∧ w'.frozen? ⟨b, j, none⟩ = false ∧ ∃ S5, MTo B tb D w2 (w'.setCell ⟨b, j, none⟩ (.slice A m c)) S5 ∧ P S5
section
variable {B tb b : Nat} {D : Nat → Prop} {w2 : World} {S : Sx} {t : Th}
theorem delH_any (x : Int) (h : Mm B D w2 tb S) (hB : B ≤ w2.heap.size) (hls : S.ls t = some b) (hl : (S.h t).length ≤ 1000000) : ∃ A n c, CutTo B tb b 3 n c A x D w2 fun S5 => S5.h = upd S.h t ((S.h t).filter fun h => !ofP x h) ∧ S5.v = S.v ∧ S5.tg = S.tg ∧ S5.wn = S.wn ∧ S5.ls = S.ls := by
  obtain ⟨A, c, hv, hL⟩ := h.readH hls
  have hc : ∀ w', Below w2.heap.size w2 w' → w'.cell? ⟨b, 3, none⟩ = some (.slice A (S.h t).length c) ∧ w'.frozen? ⟨b, 3, none⟩ = false := fun w' hb => ⟨(hL.below hb).cell, ((h.below hb).ln t b hls).2.frozen 3⟩
  refine ⟨A, (S.h t).length, c, hc, fun w3 q w4 hb3 hq => ?_⟩
  have hb4 : Below w2.heap.size w2 w4 := hb3.trans (hq.low.mono hb3.size)
  have hr := (h.below hb3).hr t
  rw [hv] at hr
  refine ⟨(hc w4 hb4).1, (hc w4 hb4).2, (of_del hq hr.own rfl hl).mono ?_⟩
  rintro e w' ⟨m, rfl, hm, hR⟩
  obtain ⟨c1, c2, c3⟩ := cutH_row (h.below hb4) (Nat.le_trans hB hb4.size) hls hv hm hR
  exact ⟨m, rfl, c1, c2, _, MTo.low hb4 h.foot hB c3, rfl, rfl, rfl, rfl, rfl⟩
theorem delW_any (x : Int) (h : Mm B D w2 tb S) (hB : B ≤ w2.heap.size) (hls : S.ls t = some b) (hl : (S.v t).length ≤ 1000000) : ∃ A n c, CutTo B tb b 4 n c A x D w2 fun S5 => S5.h = S.h ∧ S5.v = upd S.v t ((S.v t).filter fun h => !ofP x h) ∧ S5.tg = S.tg ∧ S5.wn = S.wn ∧ S5.ls = S.ls := by
  obtain ⟨A, c, hv, hL⟩ := h.readW hls
  have hc : ∀ w', Below w2.heap.size w2 w' → w'.cell? ⟨b, 4, none⟩ = some (.slice A (S.v t).length c) ∧ w'.frozen? ⟨b, 4, none⟩ = false := fun w' hb => ⟨(hL.below hb).cell, ((h.below hb).ln t b hls).2.frozen 4⟩
  refine ⟨A, (S.v t).length, c, hc, fun w3 q w4 hb3 hq => ?_⟩
  have hb4 : Below w2.heap.size w2 w4 := hb3.trans (hq.low.mono hb3.size)
  have hr := (h.below hb3).wr t
  rw [hv] at hr
  refine ⟨(hc w4 hb4).1, (hc w4 hb4).2, (of_del hq hr.own rfl hl).mono ?_⟩
  rintro e w' ⟨m, rfl, hm, hR⟩
  obtain ⟨c1, c2, c3⟩ := cutW_row (h.below hb4) (Nat.le_trans hB hb4.size) hls hv hm hR
  exact ⟨m, rfl, c1, c2, _, MTo.low hb4 h.foot hB c3, rfl, rfl, rfl, rfl, rfl⟩
end
theorem intsV_append (l k : List Int) : intsV l ++ intsV k = intsV (l ++ k) := by simp [intsV]
theorem relT_some {l : Lk} {x : Int} {o : Od} (h : waitL l.W x = some o) : relT l x = tgL l.H x ++ [o.th] := by unfold relT; rw [h]
theorem relT_none {l : Lk} {x : Int} (h : waitL l.W x = none) : relT l x = tgL l.H x := by unfold relT; rw [h, List.append_nil]
/-- what is read of the wants -/
theorem waV_rel {l : Lk} {S : Sx} (hr : Rep l S) (x : Int) : ∃ k t y m r, waV (S.wn x) = .agg #[.int .i64 k, .string t, .string y, .int .i64 m] ∧ (S.wn x).isSome = r ∧ (r = false → relT l x = tgL l.H x) ∧ (r = true → relT l x = tgL l.H x ++ [⟨k, t, y⟩]) := by
  cases hwt : waitL l.W x with
  | none =>
    have e1 : S.wn x = none := by rw [hr.wn, wnL_none hwt]
    rw [e1]
    exact ⟨0, ⟨#[]⟩, ⟨#[]⟩, 0, false, rfl, rfl, fun _ => relT_none hwt, fun h => by cases h⟩
  | some o =>
    have e1 : S.wn x = some (o.th, o.m) := by rw [hr.wn, wnL_some hwt]
    rw [e1]
    exact ⟨o.th.k, o.th.t, o.th.y, o.m, true, rfl, rfl, fun h => (by cases h), fun _ => relT_some hwt⟩
end Go.Proofs.YthbbheegkhlniaaGreat
