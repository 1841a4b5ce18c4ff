/-
  The program's locks: give.
-/
import Derived.Test.YthbbheegkhlniaaGreatM12
namespace Go.Proofs.YthbbheegkhlniaaGreat
open Go.RowKit Go.Lib Go.Shelf Go.Maps

def giveH (x m : Int) (l : List Hd) : List Hd := match idxL (ofP x) l with
  | some i => l.set i (x, m, ((l[i]?).map fun h => h.2.2).getD false)
  | none => l ++ [(x, m, false)]
theorem heldV_setM (m : Int) : ∀ (l : List Hd) (i : Nat) (hi : i < l.length) (x : Int) (_ : l[i].1 = x), heldV (l.set i (x, m, ((l[i]?).map fun h => h.2.2).getD false)) = (heldV l).set (i * 3 + 1) (.int .i64 m)
  | a :: l, 0, _, x, h => by
    simp only [List.getElem_cons_zero] at h
    show heldC (x, m, _) ++ heldV l = (heldC a ++ heldV l).set 1 _
    subst h
    simp [heldC]
  | a :: l, i + 1, hi, x, h => by
    simp only [List.getElem_cons_succ] at h
    have ih := heldV_setM m l i (by simpa using hi) x h
    show heldC a ++ heldV (l.set i (x, m, (((a :: l)[i + 1]?).map fun h => h.2.2).getD false)) = (heldC a ++ heldV l).set ((i + 1) * 3 + 1) _
    rw [show ((a :: l)[i + 1]?) = l[i]? from rfl, ih, List.set_append_right _ _ (by show 3 ≤ _; omega)]
    show heldC a ++ _ = heldC a ++ _
    congr 2
    show _ = (i + 1) * 3 + 1 - 3
    omega
section
variable {B tb : Nat} {D : Nat → Prop} {w w1 : World} {S : Sx}
theorem MTo.setH (h : Mm B D w tb S) (hB : B ≤ w.heap.size) {t : Th} {b : Nat} (hls : S.ls t = some b) {v' : Value} {l' : List Hd} (hf : ∃ A c, v' = .slice A l'.length c) (hR : RowTo B 62 3 (S.hv t) w v' l'.length (heldV l') w1) :
    MTo B tb D w (w1.setCell ⟨b, 3, none⟩ v') { S with o := setO S.o v' (.hr t), hv := upd S.hv t v', h := upd S.h t l' } := by
  obtain ⟨h1, h2⟩ := h.setH hB hls hf hR
  have e : (w1.setCell ⟨b, 3, none⟩ v').heap.size = w1.heap.size := by simp
  exact ⟨h1.more (fun k hk => hk.elim .inl fun hk => .inr ⟨hk.1, by rw [e]; exact hk.2⟩) fun k hk => h1.foot k (hk.elim .inl fun hk => .inr ⟨hk.1, by rw [← e]; exact hk.2⟩), h2⟩
theorem MTo.setW (h : Mm B D w tb S) (hB : B ≤ w.heap.size) {t : Th} {b : Nat} (hls : S.ls t = some b) {v' : Value} {l' : List Hd} (hf : ∃ A c, v' = .slice A l'.length c) (hR : RowTo B 62 3 (S.wv t) w v' l'.length (heldV l') w1) :
    MTo B tb D w (w1.setCell ⟨b, 4, none⟩ v') { S with o := setO S.o v' (.wr t), wv := upd S.wv t v', v := upd S.v t l' } := by
  obtain ⟨h1, h2⟩ := h.setW hB hls hf hR
  have e : (w1.setCell ⟨b, 4, none⟩ v').heap.size = w1.heap.size := by simp
  exact ⟨h1.more (fun k hk => hk.elim .inl fun hk => .inr ⟨hk.1, by rw [e]; exact hk.2⟩) fun k hk => h1.foot k (hk.elim .inl fun hk => .inr ⟨hk.1, by rw [← e]; exact hk.2⟩), h2⟩
end
/-- what give leaves -/
structure GvTo (B tb N : Nat) (D : Nat → Prop) (w w' : World) (S S' : Sx) (t : Th) (x m : Int) : Prop where
  mt : MTo B tb D w w' S'
  h : S'.h = upd S.h t (giveH x m (S.h t))
  v : S'.v = S.v
  wn : S'.wn = S.wn
  ls : S'.ls = S.ls
  tg : S'.tg = if (S.h t).any (ofP x) = true then S.tg else upd S.tg x (S.tg x ++ [t])
  bd : Bnd (N + 1) S'
set_option maxRecDepth 100000 in
set_option maxHeartbeats 12800000 in
theorem give_any {B tb b N : Nat} {D : Nat → Prop} {w : World} {S : Sx} (h : Mm B D w tb S) (hB : B ≤ w.heap.size) {t : Th} (hls : S.ls t = some b) (x m : Int) (hx : NumI x) (hlh : (S.h t).length ≤ 900000) (hlt : (S.tg x).length ≤ 900000) (hN : Bnd N S) (hN9 : N ≤ 900000000) :
    Calls Tryz.prog 34 #[pt tb, pt b, .int .i64 x, .int .i64 m] w fun r w' => r = .returned (.tuple #[]) ∧ ∃ S', GvTo B tb N D w w' S S' t x m := by
  obtain ⟨A, c, hv, hR⟩ := h.readH hls
  have hho := holder_any hR (by omega) x
  have H := Lib.hid (And.intro h (And.intro hB (And.intro hls (And.intro hx (And.intro hN hv)))))
  clear hR
  cases hi : idxL (ofP x) (S.h t) with
  | some i =>
    rw [hi] at hho
    obtain ⟨hil, hpi, _⟩ := idxL_some hi
    have hx1 : (S.h t)[i].1 = x := of_decide_eq_true hpi
    have hown := (h.hr t).own
    rw [hv] at hown
    obtain ⟨g, rfl⟩ := own_form' hown (by omega)
    have hi0 : (0 : Int) ≤ (i : Int) := Int.natCast_nonneg _
    obtain ⟨n, hn⟩ : ∃ n, n = (S.h t).length := ⟨_, rfl⟩
    have hil' : i < n := by rw [hn]; exact hil
    have hilz : (i : Int) < (n : Int) := by omega
    have HS := Lib.hid (show ∀ w', Below w.heap.size w w' → w'.cell? ⟨b, 3, none⟩ = some (.slice (some ⟨g, 0, none⟩) n c) ∧ w'.cell? ⟨g, i * 3 + 1, none⟩ = some (.int .i64 (S.h t)[i].2.1) ∧ w'.frozen? ⟨g, i * 3 + 1, none⟩ = false ∧ GvTo B tb N D w (w'.setCell ⟨g, i * 3 + 1, none⟩ (.int .i64 m)) S { S with h := upd S.h t (giveH x m (S.h t)) } t x m from fun w' hb => by
      have h' := h.below hb
      have ho' := own_chg hown (F := Non) (Chg.of_below hb) fun _ _ hf => hf
      have hst := (ho'.stored (i * 3 + 1) (.int .i64 m)).1
      obtain ⟨ad, e, _, _, a1, _⟩ := hdI_at (RowG.of_rows (fun _ => rfl) ho' rfl) hil
      obtain rfl := Option.some.inj e
      rw [addr0] at a1
      refine ⟨by rw [hn, ← hv]; exact (h'.ln t b hls).2.cell 3, a1, ho'.frozenAt _, ?_⟩
      have eg : giveH x m (S.h t) = (S.h t).set i (x, m, (((S.h t)[i]?).map fun h => h.2.2).getD false) := by unfold giveH; rw [hi]
      have eany : (S.h t).any (ofP x) = true := by rw [← idxL_any, hi]; rfl
      rw [← heldV_setM m _ _ hil x hx1, ← eg] at hst
      have elen : (giveH x m (S.h t)).length = (S.h t).length := by rw [eg]; simp
      have hRT : RowTo B 62 3 (S.hv t) w' (S.hv t) (giveH x m (S.h t)).length (heldV (giveH x m (S.h t))) (w'.setCell ⟨g, i * 3 + 1, none⟩ (.int .i64 m)) := by
        rw [hv, elen]
        exact ⟨hst, fun k hk => .inl hk, (Chg.refl (fun k => (Value.slice (some ⟨g, 0, none⟩) (S.h t).length c).ownBlock = some k) w').setCell (p := ⟨g, i * 3 + 1, none⟩) (fun _ => rfl) _⟩
      obtain ⟨q1, q2⟩ := h'.setM elen hRT
      exact ⟨MTo.low hb h.foot hB ⟨q1, q2⟩, rfl, rfl, rfl, rfl, by rw [if_pos eany], (hN.mono (Nat.le_succ N)) |> fun z => ⟨z.a, z.b, z.c⟩⟩)
    rw [show idxI (some i) = (i : Int) from rfl] at hho
    have HH := Lib.hid hho
    clear h hB hls hx hlh hlt hN hv hho hi hpi hx1 hown hn
    go_enter Tryz.func34, Tryz.ntmps34
    go_wp2_with (go_at_call 29; refine HH.out.mono ?_; rintro e w2 ⟨rfl, hb⟩; obtain ⟨e0, e1, e2, e3⟩ := HS.out _ hb; have H3 := Lib.hid e3; clear e3 hb)
    refine bodyPost_ret (results_none rfl _ _ _) rfl ?_
    exact ⟨rfl, _, H3.out⟩
  | none =>
    rw [hi] at hho
    rw [show idxI none = -1 from rfl] at hho
    obtain ⟨i0, hi0, hz0, hz1, hz2⟩ := info_parts Tryz.infohd2
    obtain ⟨j0, hj0, hy0, hy1, hy2⟩ := info_parts Tryz.infothing
    have eg : giveH x m (S.h t) = S.h t ++ [(x, m, false)] := by unfold giveH; rw [hi]
    have eany : (S.h t).any (ofP x) = false := by rw [← idxL_any, hi]; rfl
    obtain ⟨n, hn⟩ : ∃ n, n = (S.h t).length := ⟨_, rfl⟩
    rw [← hn] at hv hlh
    have hown := (h.hr t).own
    rw [hv, ← hn] at hown
    have HO := Lib.hid (And.intro hown (And.intro hn (And.intro eg eany)))
    have HH := Lib.hid hho
    have HT := Lib.hid hlt
    clear h hB hls hx hlt hN hv hho hi hown hn eg eany
    go_enter Tryz.func34, Tryz.ntmps34
    go_upto_region 3 with (go_at_call 29; refine HH.out.mono ?_; rintro e w2 ⟨rfl, hb⟩; have H2 := Lib.hid hb; have c3 := (H.out.1.below hb).ln t b H.out.2.2.1 |>.2.cell 3; clear hb)
    have hB2 : B ≤ w2.heap.size := Nat.le_trans H.out.2.1 H2.out.size
    have HB2 := Lib.hid hB2
    have e3 : w2.cell? ⟨b, 3, none⟩ = some (.slice A n c) := by rw [c3]; show some (S.hv t) = _; rw [H.out.2.2.2.2.2, ← HO.out.2.1]
    clear c3 hB2
    go_upto_region 4 with (at_builtin; refine wpList_append_row rfl _ _ 46 rfl B 62 i0 (.agg #[.int .i64 0, .int .i64 0, .bool false]) 3 24 Tryz.underlying46 hi0 hz0 hz1 hz2 rfl (by decide) (.slice A n c) n (heldV (S.h t)) (own_chg HO.out.1 (F := Non) (Chg.of_below (H2.out.alloc H2.out.size _)) fun _ _ hf => hf) (by rfl) (some ⟨w2.heap.size, 0, none⟩) 1 1 [.int .i64 x, .int .i64 m, .bool false] (by rfl) rfl (fun h => by cases h) (fun ad' had => by cases had; exact World.news_of_block (Go.heap_alloc_new _ _)) (by intro u hu; simp at hu; rcases hu with rfl | rfl | rfl <;> rfl) (by simp [maxLen]; omega) (by omega) (by have := HB2.out; simp; omega) ?_; intro A6 c6 w6 hR6; have hb6 := ((H.out.1.below (H2.out.alloc H2.out.size (.cells #[.int .i64 x, .int .i64 m, .bool false] 62))).ln t b H.out.2.2.1).2.chg hR6.chg (fun e => by have h9 := (H.out.1.hr t).lbl b (by rw [H.out.2.2.2.2.2, ← HO.out.2.1]; exact e); rw [(H.out.1.ln t b H.out.2.2.1).1] at h9; cases h9); have x6 := hb6.cell 3; have z6 := hb6.frozen 3; simp only [List.getElem?_toArray, List.getElem?_cons_zero, List.getElem?_cons_succ] at x6; have HR6 := Lib.hid hR6; clear hR6 hb6)
    have hR6 := HR6.out
    have el : n + 1 = (giveH x m (S.h t)).length := by rw [HO.out.2.2.1, HO.out.2.1]; simp
    have ev : heldV (S.h t) ++ [.int .i64 x, .int .i64 m, .bool false] = heldV (giveH x m (S.h t)) := by rw [HO.out.2.2.1, heldV_append]; rfl
    rw [ev] at hR6
    have hb3 : Below w.heap.size w (w2.alloc (.cells #[.int .i64 x, .int .i64 m, .bool false] 62)) := H2.out.alloc H2.out.size _
    have h3 := H.out.1.below hb3
    have k7 := MTo.setH h3 (Nat.le_trans H.out.2.1 hb3.size) H.out.2.2.1 (w1 := w6) (v' := .slice A6 (n + 1) c6) (l' := giveH x m (S.h t)) ⟨A6, c6, by rw [el]⟩ (by rw [H.out.2.2.2.2.2, ← el, ← HO.out.2.1]; exact hR6)
    have k7' := MTo.low hb3 H.out.1.foot H.out.2.1 k7
    obtain ⟨w7, hw7⟩ : ∃ w7, w7 = w6.setCell ⟨b, 3, none⟩ (.slice A6 (n + 1) c6) := ⟨_, rfl⟩
    rw [← hw7] at k7' ⊢
    have HK7 := Lib.hid k7'
    clear k7 k7' hw7 hR6 h3 hb3 x6 z6 e3 el ev
    have hs7 : w.heap.size ≤ w7.heap.size := HK7.out.2.size
    obtain ⟨w8, hw8⟩ : ∃ w8, w8 = (w7.alloc (.cells #[.int .i64 t.k, .string t.t, .string t.y] 32)).drew := ⟨_, rfl⟩
    have hb8 : Below w7.heap.size w7 w8 := by rw [hw8]; exact ((Below.refl _ w7).alloc (Nat.le_refl _) _).drew
    have hm7 := HK7.out.1
    have hm7d := hm7.below ((Below.refl _ w7).drew)
    have hm8 := hm7.below hb8
    obtain ⟨A9, c9, hv9⟩ := (hm8.tr x).form
    have hv9' : (S.tf x).getD nilS = .slice A9 (S.tg x).length c9 := hv9
    obtain ⟨q, hq⟩ : ∃ q, q = (S.tg x).length := ⟨_, rfl⟩
    have hq9 : q ≤ 900000 := by rw [hq]; exact HT.out
    rw [← hq] at hv9'
    have lk7 := hm7d.look1 H.out.2.2.2.1
    have lk8 := hm8.look1 H.out.2.2.2.1
    have lk7' : (Instr.lookup 53 (.map (some S.m1)) (.int .i64 x) false).run Tryz.prog w7.drew = .ok (.slice A9 q c9) w7.drew := by rw [← hv9']; exact lk7
    have lk8' : (Instr.lookup 53 (.map (some S.m1)) (.int .i64 x) false).run Tryz.prog w8 = .ok (.slice A9 q c9) w8 := by rw [← hv9']; exact lk8
    have d1 : w7.drew.cell? ⟨tb, 1, none⟩ = some (.map (some S.m1)) := hm7d.c1
    have d1' : w8.cell? ⟨tb, 1, none⟩ = some (.map (some S.m1)) := hm8.c1
    have lk9 := lk8'
    have d9 := d1'
    rw [hw8] at lk9 d9
    have hbl := (hm7d.ln t b H.out.2.2.1).2
    have b0 : w7.drew.cell? ⟨b, 0, none⟩ = some (.int .i64 t.k) := hbl.cell 0
    have b1 : w7.drew.cell? ⟨b, 1, none⟩ = some (.string t.t) := hbl.cell 1
    have b2 : w7.drew.cell? ⟨b, 2, none⟩ = some (.string t.y) := hbl.cell 2
    have hown8 := (hm8.tr x).own
    have hown8' : w8.ownsRow B 32 3 (.slice A9 q c9) q (ths (S.tg x)) := by
      have h9 : w8.ownsRow B 32 3 ((S.tf x).getD nilS) (S.tg x).length (ths (S.tg x)) := hown8
      rw [hv9', ← hq] at h9
      exact h9
    have HV := Lib.hid (And.intro hv9' (And.intro hq (And.intro hm8 (And.intro hown8' hb8))))
    have hB8 : B ≤ w8.heap.size := Nat.le_trans H.out.2.1 (Nat.le_trans hs7 hb8.size)
    have HB8 := Lib.hid hB8
    have HA := Lib.hid (show ∀ A' c' w9, RowTo B 32 3 (.slice A9 q c9) w8 (.slice A' (q + 1) c') (q + 1) (ths (S.tg x) ++ [.int .i64 t.k, .string t.t, .string t.y]) w9 → w9.cell? ⟨tb, 1, none⟩ = some (.map (some S.m1)) ∧ ∃ w10, (Instr.mapUpdate 53 (.map (some S.m1)) (.int .i64 x) (.slice A' (q + 1) c')).run Tryz.prog w9 = .ok () w10 ∧ ∃ S', GvTo B tb N D w w10 S S' t x m from fun A' c' w9 hR => by
      have hne : (Value.slice A9 q c9).ownBlock ≠ some S.m1 := fun e => by
        have h9 := (hm8.tr x).lbl S.m1 (by show ((S.tf x).getD nilS).ownBlock = _; rw [hv9']; exact e)
        rw [hm8.o1] at h9
        cases h9
      have hne2 : (Value.slice A9 q c9).ownBlock ≠ some tb := fun e => by
        have h9 := (hm8.tr x).lbl tb (by show ((S.tf x).getD nilS).ownBlock = _; rw [hv9']; exact e)
        rw [hm8.r0] at h9
        cases h9
      have hk9 := hm8.k1.chg hR.chg hne
      obtain ⟨w10, hrun, hM, hC⟩ := MapM.store (t := 53) (e := 49) hk9 intK Tryz.underlying53 iV_inj H.out.2.2.2.1.key (.slice A' (q + 1) c') (H.out.2.2.2.2.1.b.choose_spec.2) (Nat.le_trans H.out.2.2.2.2.1.b.choose_spec.1 (by omega))
      refine ⟨(hm8.root.chg hR.chg hne2).cell 1, w10, hrun, ?_⟩
      have el : q + 1 = (S.tg x ++ [t]).length := by rw [hq]; simp
      have ev : ths (S.tg x) ++ [.int .i64 t.k, .string t.t, .string t.y] = ths (S.tg x ++ [t]) := by simp [ths, thC]
      rw [ev] at hR
      obtain ⟨q1, q2⟩ := hm8.setT hB8 (x := x) (v' := .slice A' (q + 1) c') (l' := S.tg x ++ [t]) (w1 := w9) (w2 := w10) (by simp) ⟨A', c', by rw [el]⟩ (by
        show RowTo B _ 3 ((S.tf x).getD nilS) w8 _ _ _ w9
        rw [hv9', ← el]
        exact hR) hM hC
      have k10 := (MTo.low hb8 hm7.foot (Nat.le_trans H.out.2.1 hs7) ⟨q1, q2⟩)
      refine ⟨_, ⟨HK7.out.trans k10 (fun k hk => (H.out.1.foot k hk).1) H.out.2.1, rfl, rfl, rfl, rfl, ?_, ?_⟩⟩
      · rw [HO.out.2.2.2]
        rfl
      · obtain ⟨⟨l, h1, h2⟩, ⟨l2, h3, h4⟩, ⟨l3, h5, h6⟩⟩ := H.out.2.2.2.2.1
        exact ⟨⟨l, by omega, h2⟩, mem_upd h3 h4, ⟨l3, by omega, h6⟩⟩)
    clear hm7 hm7d hm8 hv9 hv9' lk7 lk8 hbl hown8 hown8' hb8 hq hs7 hB8
    go_region_law (refine step_append_row rfl _ _ 49 rfl B 32 j0 (.agg #[.int .i64 0, .string ⟨#[]⟩, .string ⟨#[]⟩]) 3 40 Tryz.underlying49 hj0 hy0 hy1 hy2 rfl (by decide) (.slice A9 q c9) q (ths (S.tg x)) (by rw [← hw8]; exact HV.out.2.2.2.1) (by simp [Act.eval]) (some ⟨w7.heap.size, 0, none⟩) 1 1 [.int .i64 t.k, .string t.t, .string t.y] (by simp [Act.eval]) rfl (fun h => by cases h) (fun ad' had => by cases had; exact World.news_of_block (Go.heap_alloc_new _ _)) (by intro u hu; simp at hu; rcases hu with rfl | rfl | rfl <;> rfl) (by simp [maxLen]; omega) (by omega) (by rw [← hw8]; exact HB8.out) ?_; intro A' c' w9 hR9; obtain ⟨x9, w10, hrun, hG⟩ := HA.out _ _ _ (by rw [hw8]; exact hR9); clear lk9 d9; have HG := Lib.hid hG; clear hR9 hG)
    all_goals (go_wp2_with fail; go_end0)
    all_goals exact ⟨rfl, HG.out⟩
end Go.Proofs.YthbbheegkhlniaaGreat
