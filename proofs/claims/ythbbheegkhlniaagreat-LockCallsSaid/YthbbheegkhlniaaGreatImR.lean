/-
  The program's locks: sweep.
-/
import Derived.Test.YthbbheegkhlniaaGreatImQ
namespace Go.Proofs.YthbbheegkhlniaaGreat
open Go.RowKit Go.Lib Go.Shelf Go.Maps

theorem Tryz.infoint2 : (Tryz.prog.info? 3).map (fun i => (i.zero, i.size, i.bytes)) = some (some (.int .i64 0), 1, 8) := by kernel_rfl
theorem intsV_snoc (l : List Int) (x : Int) : intsV l ++ [.int .i64 x] = intsV (l ++ [x]) := by simp [intsV]
theorem own_dif2 {w : World} {B B' : Nat} {e e' : TypeId} {s s' n n' : Nat} {v v' : Value} {xs xs' : List Value} (h : w.ownsRow B e s v n xs) (h' : w.ownsRow B' e' s' v' n' xs') (he : e ≠ e') : ∀ k, v.ownBlock = some k → v'.ownBlock ≠ some k := fun k hk hk' => by
  obtain ⟨cur, h1⟩ := own_row h k hk
  exact own_ne h' h1 (fun e => he e.symm) hk'
/-- what a sweep leaves -/
structure SpTo (B tb N : Nat) (D : Nat → Prop) (w w' : World) (S S' : Sx) (t : Th) : Prop where
  mt : MTo B tb D w w' S'
  h : S'.h = upd S.h t (swp (S.h t) [] (S.v t)).1
  v : S'.v = upd S.v t (swp (S.h t) [] (S.v t)).2.1
  tg : S'.tg = tgS t (S.h t) (swp (S.h t) [] (S.v t)).2.2 S.tg
  wn : S'.wn = wnS (swp (S.h t) [] (S.v t)).2.2 S.wn
  ls : S'.ls = if (swp (S.h t) [] (S.v t)).1 = [] then upd S.ls t none else S.ls
  bd : Bnd (N + (S.v t).length) S'
set_option maxRecDepth 100000 in
set_option maxHeartbeats 12800000 in
theorem sweep_any {B tb b N T0 : Nat} {D : Nat → Prop} {w : World} {S : Sx} (h : Mm B D w tb S) (hB : B ≤ w.heap.size) {t : Th} (hls : S.ls t = some b) (hk : t.Key) (hlh : (S.h t).length ≤ 10000) (hlv : (S.v t).length ≤ 10000) (hlt : ∀ x, (S.tg x).length ≤ T0) (hT0 : T0 ≤ 800000) (hnx : ∀ o ∈ S.v t, NumI o.1) (hN : Bnd N S) (hN9 : N ≤ 800000000) :
    Calls Tryz.prog 44 #[pt tb, pt b] w fun r w' => ∃ v, r = .returned v ∧ IntsRet w ((swp (S.h t) [] (S.v t)).2.2.map fun o => o.1) w' v ∧ ∃ S', SpTo B tb N D w w' S S' t := by
  obtain ⟨i0, hi0, hz0, hz1, hz2⟩ := info_parts Tryz.infoint2
  obtain ⟨j0, hj0, hy0, hy1, hy2⟩ := info_parts Tryz.infohd2
  obtain ⟨AR, cR, hvR, hLR⟩ := h.readW hls
  obtain ⟨n, hn⟩ : ∃ n, n = (S.v t).length := ⟨_, rfl⟩
  rw [← hn] at hvR hlv
  have e4 := hLR.cell
  rw [← hn] at e4
  have z4 := (h.ln t b hls).2.frozen 4
  have hn0 : (0 : Int) ≤ (n : Int) := Int.natCast_nonneg _
  obtain ⟨w1, hw1⟩ : ∃ w1, w1 = w.setCell ⟨b, 4, none⟩ nilS := ⟨_, rfl⟩
  obtain ⟨hm1, hc1⟩ := h.nilW hls
  rw [← hw1] at hm1 hc1
  have hownR := (h.wr t).own
  have HS1 := Lib.hid (show Sw0 B tb D (offD D (S.wv t)) w w1 { S with o := offO S.o (S.wv t), wv := upd S.wv t nilS, v := upd S.v t [] } (S.wv t) n (heldV (S.v t)) nilS 0 [] from
    ⟨hm1, fun k hk => .inl hk.1, hc1.mono fun k _ hk => hk.1, by
      have h9 := own_chg hownR hc1 fun k hk hd => hd.2 hk
      rw [← hn] at h9
      exact h9, fun k hk hd => hd.2 hk, World.ownsRow_nil _ _ _ _, fun k hk => (by cases hk), hB⟩)
  have HL1 := Lib.hid (Lg.start (S0 := S) (S := { S with o := offO S.o (S.wv t), wv := upd S.wv t nilS, v := upd S.v t [] }) (t := t) N rfl rfl rfl rfl rfl ⟨hN.a, hN.b, hN.c⟩)
  have H := Lib.hid (And.intro h (And.intro hls (And.intro hk (And.intro hn (And.intro hvR (And.intro hnx (And.intro hlt hlh)))))))
  have HW := Lib.hid hw1
  clear h hB hls hk hlt hnx hN hvR hLR hm1 hc1 hownR hn hw1
  go_enter Tryz.func44, Tryz.ntmps44
  go_wp2_with fail
  rw [← HW.out]
  go_loopw [5, 8, 18] (fun lv _ iv wr => ∃ (k : Nat) (hs done given : List Hd) (D' : Nat → Prop) (S' : Sx) (AL : Option Addr) (nL cL : Nat), k ≤ n ∧ iv = .int .i64 k ∧ lv = .slice AL nL cL ∧ nL = given.length ∧ Sw0 B tb D D' w wr S' (S.wv t) n (heldV (S.v t)) (.slice AL nL cL) nL (given.map fun o => o.1) ∧ Lg N k S S' t hs done given) (fun _ _ iv _ => n - (intOf iv).toNat)
  case atStart => exact ⟨0, S.h t, [], [], _, _, none, 0, 0, by omega, rfl, rfl, rfl, HS1.out, HL1.out⟩
  case round =>
    obtain ⟨k, hs, done, given, D', S', AL, nL, cL, hk, rfl, rfl, hnL, hSw, hLg⟩ := hrel
    have hk0 : (0 : Int) ≤ (k : Int) := Int.natCast_nonneg _
    have HS := Lib.hid (And.intro hSw (And.intro hLg hnL))
    clear hSw hLg
    by_cases hlt : k < n
    · have hltz : (k : Int) < (n : Int) := by omega
      have hkl : k < (S.v t).length := by rw [← H.out.2.2.2.1]; exact hlt
      have ho := HS.out.1.old
      rw [H.out.2.2.2.2.1] at ho
      obtain ⟨ad, hAR, _, a0, a1, a2⟩ := hdI_at (RowG.of_rows (fun _ => rfl) ho H.out.2.2.2.1) hkl
      subst hAR
      obtain ⟨o, ho'⟩ : ∃ o, o = (S.v t)[k] := ⟨_, rfl⟩
      rw [← ho'] at a0 a1 a2
      have HO := Lib.hid ho'
      clear ho' ho hnL
      obtain ⟨wa, hwa⟩ : ∃ wa, wa = wr.alloc (.cells #[.int .i64 o.1, .int .i64 o.2.1, .bool o.2.2] 62) := ⟨_, rfl⟩
      have hba : Below wr.heap.size wr wa := by rw [hwa]; exact (Below.refl _ wr).alloc (Nat.le_refl _) _
      have HSA := Lib.hid (HS.out.1.below hba)
      obtain ⟨q, hq⟩ : ∃ q, q = wr.heap.size := ⟨_, rfl⟩
      have hat : HdAt wa q o := by rw [hwa, hq]; exact HdAt.new wr o
      have hqlt : q < wa.heap.size := by rw [hwa, hq]; simp
      have hqn : ¬ D' q := fun hd => by have := (HS.out.1.mm.foot q hd).2; omega
      have hls' : S'.ls t = some b := by rw [HS.out.2.1.ls]; exact H.out.2.1
      obtain ⟨Ah, ch, _, hLh⟩ := HSA.out.mm.readH hls'
      obtain ⟨Aw, cw, hvw, hLw⟩ := HSA.out.mm.readW hls'
      have ehs : S'.h t = hs := by rw [HS.out.2.1.h, upd_same]
      have ews : S'.v t = done := by rw [HS.out.2.1.v, upd_same]
      rw [ehs] at hLh
      rw [ews] at hLw hvw
      have lh : hs.length ≤ 1000000 := by have := HS.out.2.1.hl; have := H.out.2.2.2.2.2.2.2; omega
      have lw : done.length ≤ 1000000 := by have := HS.out.2.1.dl; omega
      obtain ⟨nw, hnw⟩ : ∃ nw, nw = done.length := ⟨_, rfl⟩
      have HF := Lib.hid (show ∀ w', Below wa.heap.size wa w' → (w'.cell? ⟨b, 4, none⟩ = some (.slice Aw nw cw) ∧ w'.cell? ⟨q, 0, none⟩ = some (.int .i64 o.1) ∧ w'.cell? ⟨q, 1, none⟩ = some (.int .i64 o.2.1) ∧ w'.cell? ⟨q, 2, none⟩ = some (.bool o.2.2)) ∧ Calls Tryz.prog 33 #[pt b, .agg #[.int .i64 o.1, .int .i64 o.2.1, .bool o.2.2], .slice Aw nw cw] w' fun e w2 => e = .returned (.bool (freeL o hs done)) ∧ Below w'.heap.size w' w2 from fun w' hb => by
        obtain ⟨g0, g1, g2⟩ := hat.below hb hqlt
        have h4 := (hLw.below hb).cell
        rw [← hnw] at h4
        exact ⟨⟨h4, g0, g1, g2⟩, free_any (hLh.below hb) lh (hLw.below hb).row hnw lw o⟩)
      have HQ := Lib.hid (And.intro hq (And.intro hwa (And.intro hat (And.intro hqlt (And.intro hqn (And.intro hls' (And.intro hvw (And.intro hnw (And.intro ehs (And.intro ews hba))))))))))
      have hcells := (HF.out wa (Below.refl _ _)).1
      have hbd : Below wa.heap.size wa wa.drew := (Below.refl _ _).drew
      have hcd := (HF.out wa.drew hbd).1
      have HFD := Lib.hid (And.intro (HF.out wa.drew hbd).2 hbd)
      clear hLh hLw hvw ehs ews lh hat hqlt hqn hba hnw
      go_upto_region 7 with fail
      rw [← hq, ← hwa]
      clear hq hwa
      cases hfr : freeL o hs done with
      | false =>
        have HR := Lib.hid hfr
        rw [hfr] at HFD
        clear hfr
        go_region_held3 (fun w' => w'.cell? ⟨b, 4, none⟩ = some (.slice Aw nw cw) ∧ w'.cell? ⟨q, 0, none⟩ = some (.int .i64 o.1) ∧ w'.cell? ⟨q, 1, none⟩ = some (.int .i64 o.2.1) ∧ w'.cell? ⟨q, 2, none⟩ = some (.bool o.2.2))
          (first
            | exact H7.out.2
            | exact hcd
            | exact hcells)
          (first
            | (go_at_call 33; refine HFD.out.1.mono ?_; rintro e w7 ⟨rfl, hb⟩; have hb7 : Below wa.heap.size wa w7 := HFD.out.2.trans hb; have H7 := Lib.hid (And.intro hb7 (HF.out _ hb7).1); clear hb hb7))
        go_upto_region 8 with fail
        obtain ⟨w8, hw8⟩ : ∃ w8, w8 = (w7.alloc (.cells #[.int .i64 o.1, .int .i64 o.2.1, .bool o.2.2] 62)).drew := ⟨_, rfl⟩
        have hb8 : Below w7.heap.size w7 w8 := by rw [hw8]; exact ((Below.refl _ w7).alloc (Nat.le_refl _) _).drew
        have hb78 : Below wa.heap.size wa w8 := H7.out.1.trans (hb8.mono H7.out.1.size)
        have hS8 := HSA.out.below hb78
        obtain ⟨⟨s0, s1, s2, s3⟩, _⟩ := HF.out w7.drew H7.out.1.drew
        obtain ⟨⟨y0, y1, y2, y3⟩, _⟩ := HF.out w8 hb78
        rw [hw8] at y0 y1 y2 y3
        have hown8 := (hS8.mm.wr t).own
        rw [HQ.out.2.2.2.2.2.2.1, HQ.out.2.2.2.2.2.2.2.2.2.1, ← HQ.out.2.2.2.2.2.2.2.1] at hown8
        have HV := Lib.hid (And.intro hown8 (And.intro hS8 hb8))
        have HA := Lib.hid (show ∀ A' c' w9, RowTo B 62 3 (.slice Aw nw cw) w8 (.slice A' (nw + 1) c') (nw + 1) (heldV done ++ [.int .i64 o.1, .int .i64 o.2.1, .bool o.2.2]) w9 → w9.cell? ⟨b, 4, none⟩ = some (.slice Aw nw cw) ∧ w9.frozen? ⟨b, 4, none⟩ = false ∧ ∃ D2 S2, Sw0 B tb D D2 w (w9.setCell ⟨b, 4, none⟩ (.slice A' (nw + 1) c')) S2 (S.wv t) n (heldV (S.v t)) (.slice AL nL cL) nL (given.map fun o => o.1) ∧ Lg N (k + 1) S S2 t hs (done ++ [o]) given from fun A' c' w9 hR => by
          have hne : (Value.slice Aw nw cw).ownBlock ≠ some b := fun e => by
            have h9 := (hS8.mm.wr t).lbl b (by rw [HQ.out.2.2.2.2.2.2.1, ← HQ.out.2.2.2.2.2.2.2.1]; exact e)
            rw [(hS8.mm.ln t b HQ.out.2.2.2.2.2.1).1] at h9
            cases h9
          have hbk := (hS8.mm.ln t b HQ.out.2.2.2.2.2.1).2.chg hR.chg hne
          refine ⟨by rw [hbk.cell 4]; show some (S'.wv t) = _; rw [HQ.out.2.2.2.2.2.2.1, ← HQ.out.2.2.2.2.2.2.2.1], hbk.frozen 4, ?_⟩
          have el : nw + 1 = (done ++ [o]).length := by rw [HQ.out.2.2.2.2.2.2.2.1]; simp
          have ev : heldV done ++ [.int .i64 o.1, .int .i64 o.2.1, .bool o.2.2] = heldV (done ++ [o]) := by rw [heldV_append]; rfl
          rw [ev] at hR
          have k7 := MTo.setW hS8.mm hS8.bw HQ.out.2.2.2.2.2.1 (w1 := w9) (v' := .slice A' (nw + 1) c') (l' := done ++ [o]) ⟨A', c', by rw [el]⟩ (by rw [HQ.out.2.2.2.2.2.2.1, ← HQ.out.2.2.2.2.2.2.2.1, ← el]; exact hR)
          refine ⟨_, _, hS8.step k7, ?_⟩
          have h9 := HS.out.2.1.stay (S' := { S' with o := setO S'.o (.slice A' (nw + 1) c') (.wr t), wv := upd S'.wv t (.slice A' (nw + 1) c'), v := upd S'.v t (done ++ [o]) }) hkl (by rw [← HO.out]; exact HR.out) rfl (by rw [← HO.out]) rfl rfl rfl ⟨HS.out.2.1.bd.a, HS.out.2.1.bd.b, HS.out.2.1.bd.c⟩
          rw [← HO.out] at h9
          exact h9)
        have hnw9 : nw ≤ 10000 := by rw [HQ.out.2.2.2.2.2.2.2.1]; have := HS.out.2.1.dl; omega
        have HB8 := Lib.hid (show B ≤ w8.heap.size from hS8.bw)
        clear hown8 hS8 hb8 hb78 lw hcells hcd hbd
        go_region_law (refine step_append_row rfl _ _ 46 rfl B 62 j0 (.agg #[.int .i64 0, .int .i64 0, .bool false]) 3 24 Tryz.underlying46 hj0 hy0 hy1 hy2 rfl (by decide) (.slice Aw nw cw) nw (heldV done) (by rw [← hw8]; exact HV.out.1) (by simp [Act.eval]) (some ⟨w7.heap.size, 0, none⟩) 1 1 [.int .i64 o.1, .int .i64 o.2.1, .bool o.2.2] (by simp [Act.eval]) rfl (fun h => by cases h) (fun ad' had => by cases had; exact World.news_of_block (Go.heap_alloc_new _ _)) (by intro u hu; simp at hu; rcases hu with rfl | rfl | rfl <;> rfl) (by simp [maxLen]; omega) (by omega) (by rw [← hw8]; exact HB8.out) ?_; intro A' c' w9 hR9; obtain ⟨x9, z9, hG⟩ := HA.out _ _ _ (by rw [hw8]; exact hR9); have HG := Lib.hid hG; clear hR9 hG y0 y1 y2 y3)
        all_goals
          go_wp2_with fail
          go_roundw
          case rel =>
            obtain ⟨D2, S2, h1, h2⟩ := HG.out
            exact ⟨k + 1, hs, done ++ [o], given, D2, S2, AL, nL, cL, by omega, by go_num, rfl, HS.out.2.2, h1, h2⟩
          case measure => simp [intOf]; omega
      | true =>
        have HR := Lib.hid hfr
        rw [hfr] at HFD
        clear hfr
        go_region_held3 (fun w' => w'.cell? ⟨b, 4, none⟩ = some (.slice Aw nw cw) ∧ w'.cell? ⟨q, 0, none⟩ = some (.int .i64 o.1) ∧ w'.cell? ⟨q, 1, none⟩ = some (.int .i64 o.2.1) ∧ w'.cell? ⟨q, 2, none⟩ = some (.bool o.2.2))
          (first
            | exact H7.out.2
            | exact hcd
            | exact hcells)
          (first
            | (go_at_call 33; refine HFD.out.1.mono ?_; rintro e w7 ⟨rfl, hb⟩; have hb7 : Below wa.heap.size wa w7 := HFD.out.2.trans hb; have H7 := Lib.hid (And.intro hb7 (HF.out _ hb7).1); clear hb hb7))
        have hS7 := HSA.out.below H7.out.1
        obtain ⟨s0, s1, s2, s3⟩ := H7.out.2
        have hxo : NumI o.1 := H.out.2.2.2.2.2.1 o (by rw [HO.out]; exact List.getElem_mem hkl)
        have hgv := give_any hS7.mm hS7.bw HQ.out.2.2.2.2.2.1 o.1 o.2.1 hxo (by rw [HQ.out.2.2.2.2.2.2.2.2.1]; have := HS.out.2.1.hl; omega) (by have := HS.out.2.1.tl o.1; have := H.out.2.2.2.2.2.2.1 o.1; omega) HS.out.2.1.bd (by omega)
        have HGV := Lib.hid (And.intro hgv (And.intro hS7 hxo))
        clear hgv hS7 hxo hcells hcd hbd lw
        go_upto_region 10 with (go_at_call 34; refine HGV.out.1.mono ?_; rintro e w8 ⟨rfl, S2, hG⟩; have HG := Lib.hid hG; clear hG)
        have hS8 := HGV.out.2.1.step HG.out.mt
        have hq7 : HdAt w7 q o := HQ.out.2.2.1.below H7.out.1 HQ.out.2.2.2.1
        have hqlt7 : q < w7.heap.size := Nat.lt_of_lt_of_le HQ.out.2.2.2.1 H7.out.1.size
        have y0 : w8.cell? ⟨q, 0, none⟩ = some (.int .i64 o.1) := (HG.out.mt.2.cell (p := ⟨q, 0, none⟩) hqlt7 HQ.out.2.2.2.2.1).trans hq7.x
        have c2 := hS8.mm.c2
        have HA := Lib.hid (show ∀ w9, MapM iV w9 3 S2.m2 (upd (f2 S2.wn) o.1 none) → Chg (fun q => q = S2.m2) w8.drew w9 → w9.cell? ⟨q, 0, none⟩ = some (.int .i64 o.1) ∧ ∃ D3 S3, Sw0 B tb D D3 w w9 S3 (S.wv t) n (heldV (S.v t)) (.slice AL nL cL) nL (given.map fun o => o.1) ∧ Lg N (k + 1) S S3 t (giveH o.1 o.2.1 hs) done (given ++ [o]) from fun w9 hM hC => by
          have hS8d := hS8.below (Below.refl _ _).drew
          have hm9 := hS8d.mm.setN (x := o.1) none hM hC
          have hqm : ¬ (q = S2.m2) := fun e => by
            have hd := hS8.mm.dom S2.m2 (by rw [hS8.mm.o2]; intro h; cases h)
            rw [← e] at hd
            exact hd.elim HQ.out.2.2.2.2.1 fun hd => by omega
          refine ⟨(hC.cell (p := ⟨q, 0, none⟩) (by show q < w8.heap.size; have := HG.out.mt.2.size; omega) hqm).trans y0, _, _, hS8d.same hm9, ?_⟩
          have h9 := HS.out.2.1.have_ (S' := { S2 with wn := upd S2.wn o.1 none }) hkl (by rw [← HO.out]; exact HR.out) (by rw [← HO.out]; exact HG.out.h) HG.out.v HG.out.ls (by rw [← HO.out]; show upd S2.wn o.1 none = _; rw [HG.out.wn]) (by rw [← HO.out]; exact HG.out.tg) ⟨HG.out.bd.a, HG.out.bd.b, by
            obtain ⟨l, h1, h2⟩ := HG.out.bd.c
            refine ⟨l, h1, ?_⟩
            show ∀ x, (f2 (upd S2.wn o.1 none) x).isSome = true → x ∈ l
            rw [f2_upd]
            exact mem_upd_none h2⟩
          rw [← HO.out] at h9
          exact h9)
        have HK2 := Lib.hid (hS8.mm.below (Below.refl _ _).drew).k2
        have hkey := HGV.out.2.2.key
        have HKEY := Lib.hid hkey
        clear hS8 hq7 hqlt7 s0 s1 s2 s3 hkey
        go_region_law (refine step_del (t := 54) (e := 34) (enc := iV) (b := S2.m2) rfl _ _ rfl (by simp [Act.eval]) HK2.out intK Tryz.underlying54 iV_inj o.1 HKEY.out (by simp [Act.eval]) ?_; intro w9 hM9 hC9; obtain ⟨x9, hZ⟩ := HA.out _ hM9 hC9; have HZ := Lib.hid hZ; clear hM9 hC9 hZ)
        all_goals
          have hnL9 : nL ≤ 10000 := by have := HS.out.2.2; have := HS.out.2.1.gl; omega
          obtain ⟨D3, S3, hS3, hL3⟩ := HZ.out
          have H3 := Lib.hid (And.intro hS3 hL3)
          clear hS3 hL3
          go_wp2_with (at_builtin; refine wpList_append_row rfl _ _ 41 rfl w.heap.size 3 i0 (.int .i64 0) 1 8 Tryz.underlying41 hi0 hz0 hz1 hz2 rfl (by decide) _ nL _ (H3.out.1.lst.alloc _) (by rfl) (some ⟨w9.heap.size, 0, none⟩) 1 1 [.int .i64 o.1] (by rfl) rfl (fun h => by cases h) (fun ad' had => by cases had; exact World.news_of_block (Go.heap_alloc_new _ _)) (fun u hu => by simp at hu; subst hu; rfl) (by first | (simp [maxLen]; done) | (simp [maxLen]; omega)) (by omega) (by have := H3.out.1.chg.size; simp; omega) ?_; intro AX cX wX hRX; have HX := Lib.hid hRX; clear hRX)
          go_roundw
          case rel =>
            have hRX := HX.out
            rw [intsV_snoc] at hRX
            have h1 := (H3.out.1.below ((Below.refl _ w9).alloc (Nat.le_refl _) _)).push hRX fun k hk => own_dif2 H3.out.1.lst H3.out.1.old (by decide) k hk
            refine ⟨k + 1, giveH o.1 o.2.1 hs, done, given ++ [o], D3, S3, AX, nL + 1, cX, by omega, by go_num, rfl, by rw [HS.out.2.2]; simp, ?_, H3.out.2⟩
            rw [List.map_append]
            exact h1
          case measure => simp [intOf]; omega
    · have hkn : k = n := by omega
      have hltz : ¬ (k : Int) < (n : Int) := by omega
      have hls' : S'.ls t = some b := by rw [HS.out.2.1.ls]; exact H.out.2.1
      obtain ⟨Ah, ch, hvh, hLh⟩ := HS.out.1.mm.readH hls'
      have ehs : S'.h t = hs := by rw [HS.out.2.1.h, upd_same]
      rw [ehs] at hLh hvh
      have e3 := hLh.cell
      have heq := HS.out.2.1.eq
      have hdrop : (S.v t).drop k = [] := List.drop_eq_nil_of_le (by rw [hkn, H.out.2.2.2.1]; exact Nat.le_refl _)
      rw [hdrop] at heq
      simp only [swp, List.append_nil] at heq
      have HE := Lib.hid (And.intro heq (And.intro hkn (And.intro hls' (And.intro hvh ehs))))
      have HB0 := Lib.hid (show ∀ w' S2 D2, Sw0 B tb D D2 w w' S2 (S.wv t) n (heldV (S.v t)) (.slice AL nL cL) nL (given.map fun o => o.1) → MTo B tb D w w' S2 ∧ IntsRet w (given.map fun o => o.1) w' (.slice AL nL cL) from fun w' S2 D2 hq => by
        refine ⟨⟨hq.mm.more (fun k hk => (hq.sub k hk).elim .inl fun h1 => .inr ⟨h1, (hq.mm.foot k hk).2⟩) fun k hk => ?_, hq.chg⟩, ⟨AL, nL, cL, rfl, by rw [HS.out.2.2]; simp, hq.lst⟩⟩
        have s := hq.chg.size
        have s0 := hq.low
        rcases hk with hk | hk
        · have := H.out.1.foot k hk; omega
        · omega)
      clear heq hdrop hls' hvh ehs hLh
      by_cases hz : hs = []
      · have hz2 := (swp_nil (r := S.v t) (hs := S.h t) (done := []) (by rw [HE.out.1]; exact hz) rfl)
        rw [HE.out.1] at hz2
        have hz2 : done = [] := hz2
        have hlz : hs.length = 0 := by rw [hz]; rfl
        rw [hlz] at e3
        have hbl := (HS.out.1.mm.ln t b HE.out.2.2.1).2
        have b0 := hbl.cell 0
        have b1 := hbl.cell 1
        have b2 := hbl.cell 2
        have c0 := HS.out.1.mm.c0
        simp only [List.getElem?_toArray, List.getElem?_cons_zero, List.getElem?_cons_succ] at b0 b1 b2
        obtain ⟨kl, hkl⟩ := th_key t H.out.2.2.1
        have HZ := Lib.hid (And.intro hz (And.intro hz2 hkl))
        have HK0 := Lib.hid (HS.out.1.mm.below (Below.refl _ _).drew).k0
        clear hz hz2 hlz hbl hkl hnL hk hkn
        go_upto_region 14 with fail
        go_region_law (refine step_del (t := 52) (e := 59) (enc := thV) (b := S'.m0) rfl _ _ rfl (by simp [Act.eval]) HK0.out thK Tryz.underlying52 (fun x y h => thV_inj h) t HZ.out.2.2 (by simp [Act.eval, thV]) ?_; intro w9 hM9 hC9; have H9 := Lib.hid (And.intro hM9 hC9); clear hM9 hC9)
        all_goals
          go_wp2_with fail
          go_ret
          have hd := (HS.out.1.mm.below (Below.refl _ _).drew).delL H9.out.1 H9.out.2
          obtain ⟨q1, q2⟩ := HB0.out _ _ _ ((HS.out.1.below (Below.refl _ _).drew).same hd)
          refine ⟨_, rfl, by rw [HE.out.1]; exact q2, _, q1, ?_, ?_, ?_, ?_, ?_, ?_⟩
          · rw [HE.out.1]
            show upd S'.h t [] = upd S.h t hs
            rw [HS.out.2.1.h, HZ.out.1]
            funext y; unfold upd; split <;> rfl
          · rw [HE.out.1]
            show upd S'.v t [] = upd S.v t done
            rw [HS.out.2.1.v, HZ.out.2.1]
            funext y; unfold upd; split <;> rfl
          · rw [HE.out.1]; exact HS.out.2.1.tg
          · rw [HE.out.1]; exact HS.out.2.1.wn
          · rw [HE.out.1, if_pos HZ.out.1]
            show upd S'.ls t none = _
            rw [HS.out.2.1.ls]
          · have hb := HS.out.2.1.bd
            rw [HE.out.2.1, H.out.2.2.2.1] at hb
            obtain ⟨⟨l, h1, h2⟩, hb2, hb3⟩ := hb
            refine ⟨⟨l, h1, ?_⟩, hb2, hb3⟩
            show ∀ t', (f0 (upd S'.ls t none) t').isSome = true → t' ∈ l
            rw [f0_upd]
            exact mem_upd_none h2
      · have hlz : hs.length ≠ 0 := fun e => hz (List.eq_nil_of_length_eq_zero e)
        obtain ⟨m, hm⟩ : ∃ m, m = hs.length := ⟨_, rfl⟩
        rw [← hm] at e3 hlz
        have hmz : ((m : Int) == 0) = false := by rw [beq_eq_false_iff_ne]; omega
        have HZ := Lib.hid hz
        clear hz hm hlz hnL
        go_wp2_with fail
        go_ret
        obtain ⟨q1, q2⟩ := HB0.out _ _ _ HS.out.1
        refine ⟨_, rfl, by rw [HE.out.1]; exact q2, S', q1, by rw [HE.out.1]; exact HS.out.2.1.h, by rw [HE.out.1]; exact HS.out.2.1.v, by rw [HE.out.1]; exact HS.out.2.1.tg, by rw [HE.out.1]; exact HS.out.2.1.wn, ?_, ?_⟩
        · rw [HE.out.1, if_neg HZ.out]; exact HS.out.2.1.ls
        · have hb := HS.out.2.1.bd
          rw [HE.out.2.1, H.out.2.2.2.1] at hb
          exact hb
end Go.Proofs.YthbbheegkhlniaaGreat
