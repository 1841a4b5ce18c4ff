/-
  The program's timers: Set, Drop.
-/
import Derived.Test.YtcjhkafdfeopfaaTmW
import Derived.StillTailTactics
namespace Go.Proofs.Ytcjhkafdfeopfaa
open Go.RowKit Go.Lib Go.Maps

section
variable (w : World) {ops : Array Oper} {rest : List Oper} {o : Oper} {a : Act} {Q : Exit → Act → World → Prop}
theorem at_tell_p (hg : o.guard = none) (m x v : Operand) (hop : o.op = Op.mapUpdate 45 m x v) (b n : Nat) (D : DataW Value) (hm : a.eval m = .map (some b)) (hown : OwnP w b n D) (hn : n < maxLen) (id : Int) (hid : NumI id)
    (hx : a.eval x = .int .i64 id) (p : Nat) (hv : a.eval v = ptrT p)
    (hK : ∀ w', OwnP w' b (n + 1) (D.put (kI id) (.lit (.int .i64 p))) → w.grownBy w' (some b) → wpList Try.prog ops Q rest (a.put o.dst undef) w') : wpList Try.prog ops Q (o :: rest) a w :=
  wpList_mapUpdate_own w hg m x v _ hop 3 50 intK Try.underlying45 RP b n D hm hown hn _ _ (kI id) hx hv hid.key _ [] (rp_ptr p) hK
theorem at_strike_p (hg : o.guard = none) (m x : Operand) (hop : o.op = Op.call { callee := Callee.builtin Builtin.delete, args := #[m, x], argTypes := #[45, 3] }) (b n : Nat) (D : DataW Value) (hm : a.eval m = .map (some b)) (hown : OwnP w b n D) (id : Int) (hid : NumI id)
    (hx : a.eval x = .int .i64 id)
    (hK : ∀ w', OwnP w' b n (D.del (kI id)) → w.grownBy w' (some b) → wpList Try.prog ops Q rest (a.put o.dst (.tuple #[])) w') : wpList Try.prog ops Q (o :: rest) a w :=
  wpList_delete_own w hg m x _ _ hop 50 intK Try.underlying45 RP b n D hm hown _ (kI id) hx hid.key fun w' h1 h2 => hK w' h1 h2.grown
end
section
variable {B tb : Nat} {D : Nat → Prop} {w : World} {l : List On}
theorem dropO_none {id : Int} (h : atO id l = none) : dropO id l = l := by
  refine (dropO_sub id l).eq_of_length ?_
  rw [dropO_len, h]
  rfl
set_option maxRecDepth 100000 in
set_option maxHeartbeats 12800000 in
theorem set_any (id t : Int) (h : TI B D w tb l) (hl : l.length ≤ 900000) (hN : NumI id) : Calls Try.prog 9 #[.pointer (some ⟨tb, 0, none⟩), .int .i64 id, .int .i64 t] w fun r w' => r = .returned (.tuple #[]) ∧ TI B (Ext D w w') w' tb (setO ⟨id, t⟩ l) ∧ Chg D w w' := by
  obtain ⟨mb, E, A, c, n, f, Dm, hX⟩ := h
  have c1 := hX.q.cell1
  have hnl : n ≤ 900000 := by rw [hX.rel.len]; exact hl
  have HX := Lib.hid hX
  by_cases hh : ∃ k, k < n ∧ (f k).1.i = id
  · obtain ⟨k, hk, rfl⟩ := hh
    have hlk := look_has hX.m hX.kp hk hN
    have ct := hX.q.t_ hk
    have ft := (hX.q.one k hk).frozen 1
    obtain ⟨w1, hw1⟩ : ∃ w1, w1 = w.setCell ⟨(f k).2, 1, none⟩ (.int .i64 t) := ⟨_, rfl⟩
    obtain ⟨hq1, hc1⟩ := hX.q.time hk hw1
    have hupd : upd f k (⟨(f k).1.i, t⟩, (f k).2) k = (⟨(f k).1.i, t⟩, (f k).2) := by unfold upd; rw [if_pos rfl]
    have cp := hq1.p_ hk
    rw [hupd] at cp
    obtain ⟨w2, hw2⟩ : ∃ w2, w2 = w1.drew := ⟨_, rfl⟩
    have hq2 : QX B E w2 tb mb A c n (upd f k (⟨(f k).1.i, t⟩, (f k).2)) := by rw [hw2]; exact hq1.below (Below.refl _ w1).drew
    have hc2 : Chg E w w2 := by rw [hw2]; exact hc1.drew
    have hfix := fix_walk (heapJ B E w2 tb mb) ltF_tr ltF_asy k n _ w2 (by omega) hk ⟨SQ.start hq2, by omega⟩ (Hp.turned (le := leB ltF) ltF_tr hX.hp k _)
    have HFX := Lib.hid (And.intro hfix hc2)
    obtain ⟨b, hb⟩ : ∃ b, b = (f k).2 := ⟨_, rfl⟩
    have HK := Lib.hid (And.intro hk hb)
    unfold ptrT at hlk
    rw [← hb] at hlk ct ft hw1 cp
    have HW := Lib.hid (And.intro hw1 hw2)
    have hk0 : (0 : Int) ≤ (k : Int) := Int.natCast_nonneg _
    clear hX hl hq1 hc1 hupd hq2 hc2 hfix hb hw1 hw2 hN
    go_enter Try.func9, Try.ntmps9
    go_wp2_with fail
    rw [← HW.out.1]
    go_still_tail 8, (by kernel_rfl)
    repeat still_step
    change wpList _ _ _ _ _ w1.drew
    rw [← HW.out.2]
    go_wp2_with (go_at_call 21; refine HFX.out.1.mono ?_; rintro e w3 ⟨rfl, g, ⟨hS, _⟩, hH, hP⟩; have H3 := Lib.hid (And.intro hS (And.intro hH hP)); clear hS hH hP)
    refine bodyPost_ret (results_none rfl _ _ _) rfl ?_
    have hX := HX.out
    exact ⟨rfl, hX.close (chg_map hX.m HFX.out.2 hX.em) (HFX.out.2.mono fun q _ hq => hX.ed q hq) H3.out.1 (fun q hq => .inl (hX.ed q hq)) hX.em
      ((hX.kp.same fun q _ => by unfold upd; split <;> rename_i e <;> simp [e]).pm H3.out.2.2.pm) ((hX.rel.set hX.ok HK.out.1 t).pm H3.out.2.2.pm) H3.out.2.1 (hX.ok.set _)⟩
  · have hne : ∀ k, k < n → (f k).1.i ≠ id := fun k hk e => hh ⟨k, hk, e⟩
    obtain ⟨v0, hlk⟩ := look_none hX.m hX.kp hne hN
    obtain ⟨b, hb⟩ : ∃ b, b = w.heap.size := ⟨_, rfl⟩
    obtain ⟨w1, hw1⟩ : ∃ w1, w1 = w.alloc (.cells #[.int .i64 id, .int .i64 t, .int .i64 0] 53) := ⟨_, rfl⟩
    have hb1 : Blk w1 b 53 #[.int .i64 id, .int .i64 t, .int .i64 0] := by rw [hw1, hb]; exact Blk.new w _ _
    have hc1 : Chg E w w1 := by rw [hw1]; exact (Chg.refl E w).alloc _
    have hs1 : w1.heap.size = b + 1 := by rw [hw1, hb]; simp
    have hm1 : OwnP w1 mb n Dm := chg_map hX.m hc1 hX.em
    have c11 : w1.cell? ⟨tb, 1, none⟩ = some (.map (some mb)) := by rw [← c1]; exact (hX.q.blk.chg (F := Non) (by rw [hw1]; exact (Chg.refl Non w).alloc _) fun hf => hf).cell 1 |>.trans (hX.q.blk.cell 1).symm
    have HW := Lib.hid (And.intro hw1 (And.intro hb (And.intro hb1 (And.intro hc1 hs1))))
    have HM1 := Lib.hid hm1
    have HN := Lib.hid (And.intro hN hne)
    clear hX hl hb1 hc1 hs1 hm1 hN hne hh hw1
    go_enter Try.func9, Try.ntmps9
    go_upto_region 5 with fail
    rw [← hb, ← HW.out.1]
    go_wp2_with (first
      | (at_mapUpdate; refine at_tell_p _ rfl _ _ _ rfl mb n Dm rfl HM1.out (by unfold maxLen; omega) id HN.out.1 rfl b rfl ?_; intro w2 hown2 hgr2; have H2 := Lib.hid (And.intro hown2 hgr2); clear hown2 hgr2)
      | (go_at_call 22
         have h2s : Chg (fun q => q = mb) w1 w2 := (Chg.refl _ w1).grown H2.out.2 fun j hj _ => by cases hj; rfl
         have hX := HX.out
         have hlt : mb < w.heap.size := hX.m.lt
         have s2 := h2s.size
         have hb2 : Blk w2 b 53 #[.int .i64 id, .int .i64 t, .int .i64 0] := HW.out.2.2.1.chg h2s (by omega)
         have hq2 : QX B (fun q => E q ∨ q = b) w2 tb mb A c n f := ((hX.q.chg (F := Non) (Chg.of_below (by rw [HW.out.1]; exact (Below.refl _ w).alloc (Nat.le_refl _) _)) fun _ _ hf => hf).chg h2s fun q hq e => hX.em (e ▸ hq)).more (fun q hq => .inl hq) fun q hq => by
           have h9 := hX.q.foot tb hX.q.td
           have h8 := HW.out.2.2.2.2
           rcases hq with hq | hq
           · have := hX.q.foot q hq
             omega
           · omega
         have hpre : qPre B (fun q => E q ∨ q = b) w2 tb mb w2 n f (.iface 50 (ptrT b)) (⟨id, t⟩, b) := ⟨SQ.start hq2, by omega, rfl, ⟨_, hb2⟩, .inl (.inr rfl), fun k hk e => by
           have := (hX.q.foot _ (hX.q.od k hk)).2
           omega⟩
         rw [← hb]
         refine (push_walk (heapJ B (fun q => E q ∨ q = b) w2 tb mb) ltF_tr ltF_asy n f _ _ w2 (by omega) hpre hX.hp).mono ?_
         rintro e w3 ⟨rfl, g, ⟨hS, _⟩, hH, hP⟩
         have hfin := hX.close (l' := setO ⟨id, t⟩ l) H2.out.1 ((HW.out.2.2.2.1.mono fun q _ hq => hX.ed q hq).trans' h2s fun q _ e => e ▸ hX.md) hS (fun q hq => hq.elim (fun h => .inl (hX.ed q h)) fun h => .inr ⟨by omega, by have := HW.out.2.2.2.2; omega⟩) (fun h => h.elim hX.em fun h => by omega)
           ((hX.kp.add (hX.m.tidy intK) (x := (⟨id, t⟩, b)) HN.out.2).pm hP.pm) ((hX.rel.add hX.ok (x := (⟨id, t⟩, b)) HN.out.2 HN.out.1).pm hP.pm) hH (hX.ok.set _)
         have H3 := Lib.hid hfin
         clear hfin hS hH hP hpre hq2 hb2 s2 hlt h2s hX))
    go_end0
    exact ⟨rfl, H3.out⟩
set_option maxRecDepth 100000 in
set_option maxHeartbeats 12800000 in
theorem drop_any (id : Int) (h : TI B D w tb l) (hl : l.length ≤ 900000) (hN : NumI id) : Calls Try.prog 11 #[.pointer (some ⟨tb, 0, none⟩), .int .i64 id] w fun r w' => r = .returned (.bool (atO id l).isSome) ∧ TI B (Ext D w w') w' tb (dropO id l) ∧ Chg D w w' := by
  obtain ⟨mb, E, A, c, n, f, Dm, hX⟩ := h
  have c1 := hX.q.cell1
  have hnl : n ≤ 900000 := by rw [hX.rel.len]; exact hl
  have HX := Lib.hid hX
  by_cases hh : ∃ k, k < n ∧ (f k).1.i = id
  · obtain ⟨k, hk, rfl⟩ := hh
    obtain ⟨m, rfl⟩ : ∃ m, n = m + 1 := ⟨n - 1, by omega⟩
    have hlk := look_has hX.m hX.kp hk hN
    have ha := hX.rel.at_ hX.ok hk
    obtain ⟨b, hb⟩ : ∃ b, b = (f k).2 := ⟨_, rfl⟩
    have HK := Lib.hid (And.intro hk (And.intro hb hN))
    have HM := Lib.hid hX.m
    unfold ptrT at hlk
    rw [← hb] at hlk
    rw [ha]
    have hk0 : (0 : Int) ≤ (k : Int) := Int.natCast_nonneg _
    clear hX hl hb hN ha
    go_enter Try.func11, Try.ntmps11
    go_wp2_with (at_delete; refine at_strike_p _ rfl _ _ rfl mb (m + 1) Dm rfl HM.out (f k).1.i HK.out.2.2 rfl ?_; intro w1 hown1 hgr1; have H1 := Lib.hid (And.intro hown1 hgr1); clear hown1 hgr1)
    have h1s : Chg (fun q => q = mb) w w1 := (Chg.refl _ w).grown H1.out.2 fun j hj _ => by cases hj; rfl
    have hq1 : QX B E w1 tb mb A c (m + 1) f := HX.out.q.chg h1s fun q hq e => HX.out.em (e ▸ hq)
    have cp := hq1.p_ HK.out.1
    rw [← HK.out.2.1] at cp
    obtain ⟨w2, hw2⟩ : ∃ w2, w2 = w1.drew := ⟨_, rfl⟩
    have hq2 : QX B E w2 tb mb A c (m + 1) f := by rw [hw2]; exact hq1.below (Below.refl _ w1).drew
    have h2s : Chg (fun q => q = mb) w w2 := by rw [hw2]; exact h1s.drew
    have hm2 : OwnP w2 mb (m + 1) (Dm.del (kI (f k).1.i)) := by rw [hw2]; exact H1.out.1.drew
    have hrem := remove_walk (heapJ B E w2 tb mb) ltF_tr ltF_asy k m f w2 (by omega) (by omega) ⟨SQ.start hq2, by omega⟩ HX.out.hp
    have HR := Lib.hid (And.intro hrem (And.intro h2s hm2))
    have HW := Lib.hid hw2
    clear h1s hq1 hq2 h2s hm2 hrem hw2
    go_still_tail 8, (by kernel_rfl)
    repeat still_step
    change wpList _ _ _ _ _ w1.drew
    rw [← HW.out]
    go_wp2_with (go_at_call 23; refine HR.out.1.mono ?_; rintro e w3 ⟨v, g, rfl, ⟨hS, _⟩, hH, hP⟩; have H3 := Lib.hid (And.intro hS (And.intro hH hP)); clear hS hH hP)
    go_ret
    have hX := HX.out
    have hk := HK.out.1
    have hpm : Pm (m + 1) f (sw f k m) := (Sws.step .refl hk (by omega)).pm
    have hlast : sw f k m m = f k := sw_r k m
    have hkp := (hX.kp.pm hpm).cut (hX.m.tidy intK) (hX.rel.pm hpm).uni
    have hrel := (hX.rel.pm hpm).cut hX.ok
    rw [hlast] at hkp hrel
    exact ⟨rfl, hX.close HR.out.2.2 (HR.out.2.1.mono fun q _ e => e ▸ hX.md) H3.out.1 (fun q hq => .inl (hX.ed q hq)) hX.em (hkp.pm H3.out.2.2.pm) (hrel.pm H3.out.2.2.pm) H3.out.2.1 (hX.ok.drop _)⟩
  · have hne : ∀ k, k < n → (f k).1.i ≠ id := fun k hk e => hh ⟨k, hk, e⟩
    obtain ⟨v0, hlk⟩ := look_none hX.m hX.kp hne hN
    have ha := hX.rel.none_ (id := id) hne
    rw [ha, dropO_none ha]
    clear hX hl hN hne hh ha
    go_enter Try.func11, Try.ntmps11
    go_wp2_with fail
    go_ret
    have hX := HX.out
    exact ⟨rfl, ⟨mb, E, A, c, n, f, Dm, hX.q, hX.m, hX.kp, hX.rel, hX.hp, hX.ok, hX.em, fun q hq => .inl (hX.ed q hq), .inl hX.md, fun q hq => hq.elim (fun hq => hX.foot q hq) fun hq => by omega⟩, Chg.refl _ _⟩
end
end Go.Proofs.Ytcjhkafdfeopfaa
