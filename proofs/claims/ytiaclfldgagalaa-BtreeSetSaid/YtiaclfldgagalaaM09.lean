/-
  split: a page below becomes two.
-/
import Derived.Test.YtiaclfldgagalaaM07
import Derived.Deep.Cut
import Derived.Deep.DeepCutAuto
import Derived.Test.YtiaclfldgagalaaBJoin
namespace Go.Proofs.Ytiaclfldgagalaa
open Go.RowKit Go.Lib

theorem PgD.to {B a Kc Ic Kc' Ic' : Nat} {D : Nat → Prop} (D' : Nat → Prop) {w w6 W : World} {t : TypeId} {KA IA KA' IA' : Option Addr} {ks ks' : List En} {ps ps' : List Nat} {cs6 : Array Value} (h : PgD B D w a t KA Kc IA Ic ks ps) (hb6 : Blk w6 a t cs6)
    (ok : w6.ownsRow B 35 3 (.slice KA' ks'.length Kc') ks'.length (ecs ks')) (bk : ∀ k, (Value.slice KA' ks'.length Kc').ownBlock = some k → D' k)
    (oi : w6.ownsRow B 70 1 (.slice IA' ps'.length Ic') ps'.length (pcs ps')) (bi : ∀ k, (Value.slice IA' ps'.length Ic').ownBlock = some k → D' k)
    (hW : Chg (fun k => k = a) w6 W) (hbW : Blk W a t #[.slice KA' ks'.length Kc', .slice IA' ps'.length Ic']) (hD : ∀ k, D k → D' k) (hf : ∀ k, D' k → B ≤ k ∧ k < W.heap.size) : PgD B D' W a t KA' Kc' IA' Ic' ks' ps' := by
  have hte : 35 ≠ t := by rcases h.x.tt with e | e <;> rw [e] <;> decide
  have htp : 70 ≠ t := by rcases h.x.tt with e | e <;> rw [e] <;> decide
  refine ⟨⟨hbW, h.x.tt, own_chg ok hW fun k hk he => ?_, own_chg oi hW fun k hk he => ?_⟩, hD _ h.db, bk, bi, hf⟩
  · subst he
    exact own_ne ok hb6 hte hk
  · subst he
    exact own_ne oi hb6 htp hk
/-- the keys' row is changed where it lies -/
theorem PgD.inKeys {B a Kc Ic : Nat} {D : Nat → Prop} {w w5 : World} {t : TypeId} {KA IA : Option Addr} {ks ks' : List En} {ps : List Nat} (h : PgD B D w a t KA Kc IA Ic ks ps)
    (hR : RowTo B 35 3 (.slice KA ks.length Kc) w (.slice KA ks'.length Kc) ks'.length (ecs ks') w5) :
    PgD B D (w5.setCell ⟨a, 0, none⟩ (.slice KA ks'.length Kc)) a t KA Kc IA Ic ks' ps ∧ Chg D w (w5.setCell ⟨a, 0, none⟩ (.slice KA ks'.length Kc)) ∧ Blk w5 a t #[.slice KA ks.length Kc, .slice IA ps.length Ic] := by
  obtain ⟨n1, n2, n3⟩ := h.key_ne
  have hb5 : Blk w5 a t #[.slice KA ks.length Kc, .slice IA ps.length Ic] := h.x.blk.chg hR.chg n1
  have hcD : Chg D w w5 := hR.chg.mono fun k _ hk => h.dk k hk
  refine ⟨h.to D hb5 hR.own (fun k hk => h.dk k (ob hk)) (own_chg h.x.kids hR.chg n3) h.di ((Chg.refl (fun k => k = a) w5).setCell (fun _ => rfl) _) (hb5.put 0 _) (fun _ h => h) fun k hk => ⟨(h.foot k hk).1, ?_⟩, hcD.setCell (fun _ => h.db) _, hb5⟩
  have := (h.foot k hk).2
  have := hcD.size
  simp [World.setCell]; omega
theorem PgD.inKids {B a Kc Ic : Nat} {D : Nat → Prop} {w w5 : World} {t : TypeId} {KA IA : Option Addr} {ks : List En} {ps ps' : List Nat} (h : PgD B D w a t KA Kc IA Ic ks ps)
    (hR : RowTo B 70 1 (.slice IA ps.length Ic) w (.slice IA ps'.length Ic) ps'.length (pcs ps') w5) :
    PgD B D (w5.setCell ⟨a, 1, none⟩ (.slice IA ps'.length Ic)) a t KA Kc IA Ic ks ps' ∧ Chg D w (w5.setCell ⟨a, 1, none⟩ (.slice IA ps'.length Ic)) ∧ Blk w5 a t #[.slice KA ks.length Kc, .slice IA ps.length Ic] := by
  obtain ⟨n1, n2, n3⟩ := h.key_ne
  have hb5 : Blk w5 a t #[.slice KA ks.length Kc, .slice IA ps.length Ic] := h.x.blk.chg hR.chg n2
  have hcD : Chg D w w5 := hR.chg.mono fun k _ hk => h.di k hk
  refine ⟨h.to D hb5 (own_chg h.x.keys hR.chg fun k hk he => n3 k he hk) h.dk hR.own (fun k hk => h.di k (ob hk)) ((Chg.refl (fun k => k = a) w5).setCell (fun _ => rfl) _) (hb5.put 1 _) (fun _ h => h) fun k hk => ⟨(h.foot k hk).1, ?_⟩, hcD.setCell (fun _ => h.db) _, hb5⟩
  have := (h.foot k hk).2
  have := hcD.size
  simp [World.setCell]; omega
/-- what has been made since -/
def New (w w' : World) (k : Nat) : Prop := w.heap.size ≤ k ∧ k < w'.heap.size
/-- the first block made since w, and what has been made since w2 -/
def NewX (w w2 w' : World) (k : Nat) : Prop := k = w.heap.size ∨ (w2.heap.size ≤ k ∧ k < w'.heap.size)

theorem RowTo.from {B : Nat} {e : TypeId} {s n' : Nat} {v v' : Value} {wx wd w' : World} {xs' : List Value} (h : RowTo B e s v wd v' n' xs' w') (hb : Below wx.heap.size wx wd) : RowTo B e s v wx v' n' xs' w' :=
  ⟨h.own, fun k hk => (h.blk k hk).imp id fun hk => Nat.le_trans hb.size hk, (Chg.of_below hb).trans h.chg⟩
/-- what a split leaves: the page above, the page that was too great, the new one -/
def Splitted (B : Nat) (w : World) (b a nb : Nat) (D0 Da : Nat → Prop) (ks : List En) (ps : List Nat) (ka : List En) (pa : List Nat) (kn : List En) (pn : List Nat) (w' : World) : Prop :=
  ∃ D0' Dn, PgV B D0' w' b ks ps ∧ PgV B Da w' a ka pa ∧ PgV B Dn w' nb kn pn ∧ (∀ k, D0' k → ¬ Da k) ∧ (∀ k, D0' k → ¬ Dn k) ∧ (∀ k, D0' k → Ext D0 w w' k) ∧ (∀ k, Dn k → New w w' k) ∧ Chg (fun k => D0 k ∨ Da k) w w'
set_option maxRecDepth 100000 in
set_option maxHeartbeats 12800000 in
theorem split_any {B : Nat} {w : World} {b a : Nat} {D0 Da : Nat → Prop} {ks : List En} {ps : List Nat} {ka : List En} {pa : List Nat} (hp : PgV B D0 w b ks ps) (ha : PgV B Da w a ka pa)
    (d1 : ∀ k, D0 k → ¬ Da k) {i h : Nat} (hi : i ≤ ks.length) (hl : i < ps.length) (hpa : ps[i]? = some a) (hh : h = ka.length / 2) (hka : 2 ≤ ka.length)
    (n1 : ks.length ≤ 100) (n2 : ka.length ≤ 100) (n4 : pa.length ≤ 100) (n5 : ps.length ≤ 100) (hB : B ≤ w.heap.size) (rk : List En) (hin : (pa = [] ∧ rk = ka.drop h) ∨ (h + 1 < pa.length ∧ rk = ka.drop (h + 1) ∧ h + 1 < ka.length)) :
    Calls Try.prog 49 #[.pointer (some ⟨b, 0, none⟩), .int .i64 i] w fun r w' => r = .returned (.tuple #[]) ∧ ∃ nb, Splitted B w b a nb D0 Da (ks.take i ++ (ka[h]?.getD e0) :: ks.drop i) (ps.take (i + 1) ++ nb :: ps.drop (i + 1)) (ka.take h) (pa.take (h + 1)) rk (pa.drop (h + 1)) w' := by
  have hmx : Try.prog.follows .mixedOrders = true := by kernel_rfl
  obtain ⟨i0, hi0, hz0, hz1, hz2⟩ := info_parts Try.infoent
  obtain ⟨j0, hj0, hy0, hy1, hy2⟩ := info_parts Try.infoptr
  obtain ⟨tp, KP, kcp, IP, icp, hP⟩ := hp
  obtain ⟨ta, KA, kca, IA, ica, hA⟩ := ha
  obtain ⟨gp, hIP, q0⟩ := hP.kid hl
  have ep : ps[i] = a := (List.getElem?_eq_some_iff.1 hpa).2
  rw [ep] at q0
  have hhl : h < ka.length := by omega
  obtain ⟨gk, hKA, e0', e1, e2⟩ := hA.key hhl
  obtain ⟨x, hx⟩ : ∃ x, x = ka[h] := ⟨_, rfl⟩
  have hxd : ka[h]?.getD e0 = x := by rw [List.getElem?_eq_getElem hhl, hx]; rfl
  rw [hxd]
  rw [← hx] at e0' e1 e2
  obtain ⟨c0, c1⟩ := hP.cells
  obtain ⟨a0, a1⟩ := hA.cells
  rw [hIP] at c1
  rw [hKA] at a0
  obtain ⟨np, hnp⟩ : ∃ np, np = ps.length := ⟨_, rfl⟩
  obtain ⟨na, hna⟩ : ∃ na, na = ka.length := ⟨_, rfl⟩
  rw [← hnp] at c1
  rw [← hna] at a0
  have b0 : (0 : Int) ≤ (i : Int) := by omega
  have b1 : (i : Int) < (np : Int) := by omega
  have b2 : (na : Int) / 2 = (h : Int) := by omega
  have b3 : (h : Int) < (na : Int) := by omega
  have b4 : (0 : Int) ≤ (h : Int) := by omega
  have b5 : (0 : Int) ≤ (na : Int) := by omega
  have b6 : (na : Int) ≤ 100 := by omega
  obtain ⟨w1, hw1⟩ : ∃ w1, w1 = w.alloc (.cells #[.slice none 0 0, .slice none 0 0] 61) := ⟨_, rfl⟩
  have hb1 : Below w.heap.size w w1 := by rw [hw1]; exact (Below.refl _ w).alloc (Nat.le_refl _) _
  have s1 : w1.heap.size = w.heap.size + 1 := by rw [hw1]; simp
  have kn1 : Blk w1 w.heap.size 61 #[.slice none 0 0, .slice none 0 0] := by rw [hw1]; exact Blk.new _ _ _
  have hA1 := hA.below hb1
  have hP1 := hP.below hb1
  obtain ⟨r0, r1⟩ := hA1.cells
  rw [hKA, ← hna] at r0
  have hgA : Da gk := hA.dk gk (by rw [hKA]; rfl)
  have hgl := (hA.foot gk hgA).2
  have t0 := (hb1.cell (p := ⟨gk, h * 3, none⟩) hgl).trans e0'
  have t1 := (hb1.cell (p := ⟨gk, h * 3 + 1, none⟩) hgl).trans e1
  have t2 := (hb1.cell (p := ⟨gk, h * 3 + 2, none⟩) hgl).trans e2
  obtain ⟨w2, hw2⟩ : ∃ w2, w2 = w1.alloc (.cells #[.string x.s, .int .i64 x.p, .int .i64 x.k] 35) := ⟨_, rfl⟩
  have hb2 : Below w1.heap.size w1 w2 := by rw [hw2]; exact (Below.refl _ w1).alloc (Nat.le_refl _) _
  have s2 : w2.heap.size = w1.heap.size + 1 := by rw [hw2]; simp
  have kx2 : Blk w2 w1.heap.size 35 #[.string x.s, .int .i64 x.p, .int .i64 x.k] := by rw [hw2]; exact Blk.new _ _ _
  have hA2 := hA1.below hb2
  have hP2 := hP1.below hb2
  have kn2 := kn1.below hb2 (by omega)
  have hPT := eparted_any hA2.x.keys (ecs_one _) hhl (by omega)
  rw [hKA, ← hna] at hPT
  have HPT := Lib.hid hPT
  have HW1 := Lib.hid hw1
  have HW2 := Lib.hid hw2
  have HK := Lib.hid (And.intro kn2 (And.intro kx2 (And.intro hA2 hP2)))
  have HS := Lib.hid (And.intro s1 (And.intro s2 (And.intro (hb1.trans (hb2.mono hb1.size)) (And.intro hP hA))))
  have HN := Lib.hid (And.intro hnp (And.intro hna (And.intro hIP (And.intro hKA (And.intro hx hh)))))
  have HPA := Lib.hid hpa
  clear hw1 hw2 hb1 hb2 s1 s2 kn1 kn2 kx2 hA1 hA2 hP1 hP2 hnp hna hIP hKA hx hxd hh ep hpa hPT a0 a1 e0' e1 e2 hP hA hgl
  go_enter Try.func49, Try.ntmps49
  go_upto_region 1 with fail
  rw [← HW1.out]
  go_upto_region 3 with fail
  rw [← HW2.out]
  have u0 := HK.out.2.2.1.cells.1
  rw [HN.out.2.2.2.1, ← HN.out.2.1] at u0
  have a5 : (h : Int) ≤ (na : Int) := by omega
  clear r0 r1 t0 t1 t2 c0 c1 q0
  -- the keys in two
  have hS3 : ∀ w3 A2 c2, RowTo B 35 3 (.slice (some ⟨gk, 0, none⟩) na kca) w2 (.slice (some ⟨gk, 0, none⟩) h kca) h ((ecs ka).take (h * 3)) w3 → w3.ownsRow w2.heap.size 35 3 (.slice A2 (na - h) c2) (na - h) ((ecs ka).drop (h * 3)) →
      w3.cell? ⟨a, 0, none⟩ = some (.slice (some ⟨gk, 0, none⟩) na kca) ∧ w3.frozen? ⟨a, 0, none⟩ = false ∧ (w3.setCell ⟨a, 0, none⟩ (.slice (some ⟨gk, 0, none⟩) h kca)).cell? ⟨w.heap.size, 0, none⟩ = some (.slice none 0 0) ∧ (w3.setCell ⟨a, 0, none⟩ (.slice (some ⟨gk, 0, none⟩) h kca)).frozen? ⟨w.heap.size, 0, none⟩ = false ∧
      ∃ w4, w4 = (w3.setCell ⟨a, 0, none⟩ (.slice (some ⟨gk, 0, none⟩) h kca)).setCell ⟨w.heap.size, 0, none⟩ (.slice A2 (na - h) c2) ∧ PgD B Da w4 a ta KA kca IA ica (ka.take h) pa ∧ PgD B (NewX w w2 w4) w4 w.heap.size 61 A2 c2 none 0 (ka.drop h) [] ∧ PgD B D0 w4 b tp KP kcp IP icp ks ps ∧ Blk w4 w1.heap.size 35 #[.string x.s, .int .i64 x.p, .int .i64 x.k] ∧ Chg Da w w4 := by
    intro w3 A2 c2 hR ho
    obtain ⟨kn2, kx2, hA2, hP2⟩ := HK.out
    obtain ⟨s1, s2, hb2, hP, hA⟩ := HS.out
    have hlt : (ka.take h).length = h := by rw [List.length_take]; omega
    have hld : (ka.drop h).length = na - h := by rw [List.length_drop, HN.out.2.1]
    have hin3 := hA2.inKeys (ks' := ka.take h) (w5 := w3) (by rw [hlt, HN.out.2.2.2.1, ← HN.out.2.1, ← ecs_take]; exact hR)
    rw [hlt, HN.out.2.2.2.1] at hin3
    obtain ⟨h4, hc4, hb3⟩ := hin3
    have c0 := hb3.cell 0
    simp only [List.getElem?_toArray, List.getElem?_cons_zero] at c0
    rw [← HN.out.2.1] at c0
    have hnD : ¬ Da w.heap.size := fun hd => absurd (hA.foot _ hd).2 (Nat.lt_irrefl _)
    have hnX : ¬ Da w1.heap.size := fun hd => by have := (hA.foot _ hd).2; omega
    have hn4 := kn2.chg hc4 hnD
    have n0 := hn4.cell 0
    simp only [List.getElem?_toArray, List.getElem?_cons_zero] at n0
    have hcW : Chg (fun k => k = w.heap.size) (w3.setCell ⟨a, 0, none⟩ (.slice (some ⟨gk, 0, none⟩) h kca)) ((w3.setCell ⟨a, 0, none⟩ (.slice (some ⟨gk, 0, none⟩) h kca)).setCell ⟨w.heap.size, 0, none⟩ (.slice A2 (na - h) c2)) := (Chg.refl (fun k => k = w.heap.size) _).setCell (fun _ => rfl) _
    have hcA : Chg Da w (w3.setCell ⟨a, 0, none⟩ (.slice (some ⟨gk, 0, none⟩) h kca)) := (Chg.of_below hb2).trans hc4
    have hcA4 := hcA.trans' hcW fun k hk e => absurd hk (by rw [e]; exact Nat.lt_irrefl _)
    have hs4 := hcA.size
    have hs5 := hcW.size
    have hst : w2.heap.size ≤ w3.heap.size := hR.chg.size
    have hs3 : w2.heap.size ≤ (w3.setCell ⟨a, 0, none⟩ (.slice (some ⟨gk, 0, none⟩) h kca)).heap.size := hc4.size
    refine ⟨c0, hb3.frozen 0, n0, hn4.frozen 0, _, rfl, ?_, ?_, ?_, ?_, hcA4⟩
    · rw [HN.out.2.2.2.1]
      exact h4.chg hcW fun k hk e => hnD (e ▸ hk)
    · have hte : 35 ≠ 61 := by decide
      refine ⟨⟨?_, .inl rfl, ?_, ?_⟩, .inl rfl, fun k hk => ?_, fun k hk => (by cases hk), fun k hk => ?_⟩
      · rw [hld]
        exact hn4.put 0 _
      · rw [hld, ← ecs_drop]
        refine own_chg (own_chg (own_to_lt ho (by omega)) ((Chg.refl (fun k => k = a) w3).setCell (fun _ => rfl) (p := ⟨a, 0, none⟩) _) fun k hk e => ?_) hcW fun k hk e => ?_
        · have := (ho.lt k hk).1
          have := (hA.foot a hA.db).2
          omega
        · have := (ho.lt k hk).1
          omega
      · exact World.ownsRow_nil _ _ _ _
      · have h1 := ho.lt k (ob hk)
        refine .inr ⟨h1.1, ?_⟩
        have : w3.heap.size = (w3.setCell ⟨a, 0, none⟩ (.slice (some ⟨gk, 0, none⟩) h kca)).heap.size := by simp [World.setCell]
        omega
      · have := hn4.lt
        rcases hk with hk | hk
        · exact ⟨by omega, by omega⟩
        · exact ⟨by omega, hk.2⟩
    · exact (hP2.chg hc4 d1).chg hcW fun k hk e => by have := (hP.foot k hk).2; omega
    · exact (kx2.chg hc4 hnX).chg hcW (by omega)
  have HS3 := Lib.hid hS3
  clear hS3
  obtain ⟨lf, hlf⟩ : ∃ lf, lf = pa.isEmpty := ⟨_, rfl⟩
  have HLE := Lib.hid hlf
  clear hlf
  go_upto_if 47 with (first
    | (go_at_call 59; refine HPT.out.mono ?_; rintro r w3 ⟨A2, c2, rfl, hR3, ho3⟩
       obtain ⟨v0, v1, v2, v3, w4, hw4, hA4, hN4, hP4, hX4, hC4⟩ := HS3.out w3 A2 c2 hR3 ho3
       have HW4 := Lib.hid hw4
       have H4 := Lib.hid (And.intro hA4 (And.intro hN4 (And.intro hP4 (And.intro hX4 hC4))))
       have hLF := leaf_any (PgV.chg (F := Non) (w' := w4) ⟨_, _, _, _, _, hA4⟩ (Chg.refl _ _) fun _ _ h => h) (by omega)
       rw [← HLE.out] at hLF
       have HLF := Lib.hid hLF
       clear hw4 hA4 hN4 hP4 hX4 hC4 hR3 ho3 hLF)
    | (go_at_call 40; rw [← HW4.out]; refine HLF.out.mono ?_; rintro r w' ⟨rfl, rfl⟩))
  go_cut [] (fun wx => PgD B Da wx a ta KA kca IA ica (ka.take h) (pa.take (h + 1)) ∧ PgV B (New w wx) wx w.heap.size rk (pa.drop (h + 1)) ∧ PgD B D0 wx b tp KP kcp IP icp ks ps ∧ Blk wx w1.heap.size 35 #[.string x.s, .int .i64 x.p, .int .i64 x.k] ∧ Chg Da w wx)
  case first =>
    rcases hin with ⟨e1, e2⟩ | ⟨e1, e2, e3⟩
    · subst e1
      obtain rfl : lf = true := HLE.out
      have HF := Lib.hid (show PgD B Da w4 a ta KA kca IA ica (ka.take h) ((([] : List Nat)).take (h + 1)) ∧ PgV B (New w w4) w4 w.heap.size rk (([] : List Nat).drop (h + 1)) ∧ PgD B D0 w4 b tp KP kcp IP icp ks ps ∧ Blk w4 w1.heap.size 35 #[.string x.s, .int .i64 x.p, .int .i64 x.k] ∧ Chg Da w w4 from by
        rw [e2]
        simp only [List.take_nil, List.drop_nil]
        exact ⟨H4.out.1, ⟨_, _, _, _, _, H4.out.2.1.more (fun k hk => hk.elim (fun e => ⟨Nat.le_of_eq e.symm, (H4.out.2.1.foot k (.inl e)).2⟩) fun e => ⟨by have := HS.out.1; have := HS.out.2.1; omega, e.2⟩) (fun k hk => ⟨by have := hk.1; omega, hk.2⟩)⟩, H4.out.2.2.1, H4.out.2.2.2.1, H4.out.2.2.2.2⟩)
      clear e2
      go_wp2_with fail
      go_meet
      exact HF.out
    · obtain rfl : lf = false := by
        rw [HLE.out]
        cases pa with
        | nil => exact absurd e1 (by simp)
        | cons p ps => rfl
      obtain ⟨ma, hma⟩ : ∃ ma, ma = na - h := ⟨_, rfl⟩
      obtain ⟨la, hla⟩ : ∃ la, la = pa.length := ⟨_, rfl⟩
      have hld : (ka.drop h).length = ma := by rw [List.length_drop, hma, HN.out.2.1]
      have hld1 : (ka.drop (h + 1)).length = ma - 1 := by rw [List.length_drop, hma, HN.out.2.1]; omega
      obtain ⟨y0, _⟩ := H4.out.2.1.cells
      rw [hld] at y0
      have hED := edel_any H4.out.2.1.x.keys (ecs_one _) (i := 0) (j := 1) (by omega) (by rw [hld]; omega) (by rw [hld]; omega)
      rw [hld, Nat.sub_zero, show ((0 : Nat) : Int) = 0 from rfl, show ((1 : Nat) : Int) = 1 from rfl] at hED
      have HED := Lib.hid hED
      have hS5 : ∀ w5, RowTo B 35 3 (.slice A2 ma c2) w4 (.slice A2 (ma - 1) c2) (ma - 1) ((ecs (ka.drop h)).take (0 * 3) ++ (ecs (ka.drop h)).drop (1 * 3)) w5 →
          w5.cell? ⟨w.heap.size, 0, none⟩ = some (.slice A2 ma c2) ∧ w5.frozen? ⟨w.heap.size, 0, none⟩ = false ∧ (w5.setCell ⟨w.heap.size, 0, none⟩ (.slice A2 (ma - 1) c2)).cell? ⟨a, 1, none⟩ = some (.slice IA la ica) ∧
          ∃ w6, w6 = w5.setCell ⟨w.heap.size, 0, none⟩ (.slice A2 (ma - 1) c2) ∧ PgD B Da w6 a ta KA kca IA ica (ka.take h) pa ∧ PgD B (NewX w w2 w4) w6 w.heap.size 61 A2 c2 none 0 (ka.drop (h + 1)) [] ∧ PgD B D0 w6 b tp KP kcp IP icp ks ps ∧ Blk w6 w1.heap.size 35 #[.string x.s, .int .i64 x.p, .int .i64 x.k] ∧ Chg Da w w6 ∧ w4.heap.size ≤ w6.heap.size := by
        intro w5 hR
        obtain ⟨hA4, hN4, hP4, hX4, hC4⟩ := H4.out
        obtain ⟨s1, s2, hb2, hP, hA⟩ := HS.out
        have hee : (ecs (ka.drop h)).take (0 * 3) ++ (ecs (ka.drop h)).drop (1 * 3) = ecs (ka.drop (h + 1)) := by rw [ecs_take, ecs_drop, List.take_zero, List.drop_drop]; rfl
        rw [hee] at hR
        have h6 := hN4.inKeys (ks' := ka.drop (h + 1)) (w5 := w5) (by rw [hld, hld1]; exact hR)
        rw [hld1] at h6
        obtain ⟨hN6, hC6, hb5⟩ := h6
        have c0 := hb5.cell 0
        simp only [List.getElem?_toArray, List.getElem?_cons_zero] at c0
        rw [hld] at c0
        have hAF : ∀ k, Da k → ¬ NewX w w2 w4 k := fun k hk hn => by have := (hA.foot k hk).2; rcases hn with hn | hn <;> omega
        have hPF : ∀ k, D0 k → ¬ NewX w w2 w4 k := fun k hk hn => by have := (hP.foot k hk).2; rcases hn with hn | hn <;> omega
        have hA6 := hA4.chg hC6 hAF
        have c1 := hA6.cells.2
        rw [← hla] at c1
        refine ⟨c0, hb5.frozen 0, c1, _, rfl, hA6, hN6, hP4.chg hC6 hPF, hX4.chg hC6 fun hn => ?_, hC4.trans' hC6 fun k hk hn => ?_, hC6.size⟩
        · rcases hn with hn | hn <;> omega
        · rcases hn with hn | hn <;> omega
      have HS5 := Lib.hid hS5
      have hS7 : ∀ w6 w7 A3 c3, (PgD B Da w6 a ta KA kca IA ica (ka.take h) pa ∧ PgD B (NewX w w2 w4) w6 w.heap.size 61 A2 c2 none 0 (ka.drop (h + 1)) [] ∧ PgD B D0 w6 b tp KP kcp IP icp ks ps ∧ Blk w6 w1.heap.size 35 #[.string x.s, .int .i64 x.p, .int .i64 x.k] ∧ Chg Da w w6 ∧ w4.heap.size ≤ w6.heap.size) →
          RowTo B 70 1 (.slice IA la ica) w6 (.slice IA (h + 1) ica) (h + 1) ((pcs pa).take (h + 1)) w7 → w7.ownsRow w6.heap.size 70 1 (.slice A3 (la - (h + 1)) c3) (la - (h + 1)) ((pcs pa).drop (h + 1)) →
          w7.cell? ⟨a, 1, none⟩ = some (.slice IA la ica) ∧ w7.frozen? ⟨a, 1, none⟩ = false ∧ (w7.setCell ⟨a, 1, none⟩ (.slice IA (h + 1) ica)).cell? ⟨w.heap.size, 1, none⟩ = some (.slice none 0 0) ∧ (w7.setCell ⟨a, 1, none⟩ (.slice IA (h + 1) ica)).frozen? ⟨w.heap.size, 1, none⟩ = false ∧
          ∃ wx, wx = (w7.setCell ⟨a, 1, none⟩ (.slice IA (h + 1) ica)).setCell ⟨w.heap.size, 1, none⟩ (.slice A3 (la - (h + 1)) c3) ∧ PgD B Da wx a ta KA kca IA ica (ka.take h) (pa.take (h + 1)) ∧ PgV B (New w wx) wx w.heap.size rk (pa.drop (h + 1)) ∧ PgD B D0 wx b tp KP kcp IP icp ks ps ∧ Blk wx w1.heap.size 35 #[.string x.s, .int .i64 x.p, .int .i64 x.k] ∧ Chg Da w wx := by
        intro w6 w7 A3 c3 ⟨hA6, hN6, hP6, hX6, hC6, hs6⟩ hR ho
        obtain ⟨s1, s2, hb2, hP, hA⟩ := HS.out
        have hlt : (pa.take (h + 1)).length = h + 1 := by rw [List.length_take]; omega
        have hldp : (pa.drop (h + 1)).length = la - (h + 1) := by rw [List.length_drop, hla]
        have hpt : (pcs pa).take (h + 1) = pcs (pa.take (h + 1)) := by simp [pcs]
        have hpd : (pcs pa).drop (h + 1) = pcs (pa.drop (h + 1)) := by simp [pcs]
        rw [hpt] at hR
        rw [hpd] at ho
        have h8 := hA6.inKids (ps' := pa.take (h + 1)) (w5 := w7) (by rw [hlt, ← hla]; exact hR)
        rw [hlt] at h8
        obtain ⟨hA8, hC8, hb7⟩ := h8
        have c1 := hb7.cell 1
        simp only [List.getElem?_toArray, List.getElem?_cons_zero, List.getElem?_cons_succ] at c1
        rw [← hla] at c1
        have hAF : ∀ k, Da k → ¬ NewX w w2 w4 k := fun k hk hn => by have := (hA.foot k hk).2; rcases hn with hn | hn <;> omega
        have hN8 := hN6.chg hC8 fun k hn hk => hAF k hk hn
        have hnD : ¬ Da w.heap.size := fun hd => absurd (hA.foot _ hd).2 (Nat.lt_irrefl _)
        have hnX : ¬ Da w1.heap.size := fun hd => by have := (hA.foot _ hd).2; omega
        have n1 := hN8.cells.2
        simp only [List.length_nil] at n1
        have hcW : Chg (fun k => k = w.heap.size) (w7.setCell ⟨a, 1, none⟩ (.slice IA (h + 1) ica)) ((w7.setCell ⟨a, 1, none⟩ (.slice IA (h + 1) ica)).setCell ⟨w.heap.size, 1, none⟩ (.slice A3 (la - (h + 1)) c3)) := (Chg.refl (fun k => k = w.heap.size) _).setCell (fun _ => rfl) _
        have hs8 := hC8.size
        have hs9 := hcW.size
        have hsw := hC6.size
        have hlt7 : w7.heap.size = (w7.setCell ⟨a, 1, none⟩ (.slice IA (h + 1) ica)).heap.size := by simp [World.setCell]
        have hnlt := hN8.x.blk.lt
        refine ⟨c1, hb7.frozen 1, n1, hN8.x.blk.frozen 1, _, rfl, hA8.chg hcW fun k hk e => hnD (e ▸ hk), ?_, (hP6.chg hC8 d1).chg hcW fun k hk e => (by have := (hP.foot k hk).2; omega), (hX6.chg hC8 hnX).chg hcW (by omega), (hC6.trans hC8).trans' hcW fun k hk e => absurd hk (by rw [e]; exact Nat.lt_irrefl _)⟩
        refine ⟨_, A2, c2, A3, c3, hN8.to (ks' := rk) (ps' := pa.drop (h + 1)) (New w _) hN8.x.blk ?_ (fun k hk => ?_) ?_ (fun k hk => ?_) hcW ?_ (fun k hk => ?_) fun k hk => ⟨by have := hk.1; omega, hk.2⟩⟩
        · rw [e2]; exact hN8.x.keys
        · have h9 := hN8.foot k (hN8.dk k (ob hk))
          have h10 := hN8.dk k (ob hk)
          refine ⟨?_, by omega⟩
          rcases h10 with h10 | h10 <;> omega
        · rw [hldp]
          refine own_chg (own_to_lt ho (by omega)) ((Chg.refl (fun k => k = a) w7).setCell (fun _ => rfl) (p := ⟨a, 1, none⟩) _) fun k hk e => ?_
          have := (ho.lt k hk).1
          have := (hA.foot a hA.db).2
          omega
        · have h9 := ho.lt k (ob hk)
          exact ⟨by omega, by omega⟩
        · rw [e2, hldp]
          exact hN8.x.blk.put 1 _
        · have h9 := hN8.foot k hk
          refine ⟨?_, by omega⟩
          rcases hk with hk | hk <;> omega
      have HS7 := Lib.hid hS7
      have HM := Lib.hid (And.intro hma (And.intro hla (And.intro hld hld1)))
      have a6 : (h : Int) + 1 ≤ (la : Int) := by omega
      have a7 : IntKind.i64.wrap ((h : Int) + 1) = (h : Int) + 1 := by rw [IntKind.wrap_i64]; omega
      have a8 : (0 : Int) ≤ (h : Int) + 1 := by omega
      have hn0 : ((0 : Nat) : Int) = 0 := rfl
      have hlam : la ≤ 100 := by omega
      clear hma hla hld hld1 hED hS5 hS7 e2
      go_wp2_with (first
        | (go_at_call 39; refine HED.out.mono ?_; rintro r w5 ⟨rfl, hR5⟩
           obtain ⟨z0, z1, z2, w6, hw6, h6⟩ := HS5.out w5 hR5
           have HW6 := Lib.hid hw6
           have H6 := Lib.hid h6
           have hPP := pparted_any h6.1.x.kids (pcs_one _) e1 (by omega)
           rw [← HM.out.2.1, show ((h + 1 : Nat) : Int) = (h : Int) + 1 from rfl] at hPP
           have HPP := Lib.hid hPP
           clear hw6 h6 hPP hR5)
        | (go_at_call 60; rw [← HW6.out]; refine HPP.out.mono ?_; rintro r w7 ⟨A3, c3, rfl, hR7, ho7⟩
           obtain ⟨z3, z4, z5, z6, wx, hwx, hx⟩ := HS7.out w6 w7 A3 c3 H6.out hR7 ho7
           have HWX := Lib.hid hwx
           have H8 := Lib.hid hx
           clear hwx hx hR7 ho7))
      go_meet
      rw [← HWX.out]
      exact H8.out
  case rest =>
    rename World => wx
    obtain ⟨hAx, hNx, hPx, hXx, hCx⟩ := hcut
    have hBx : B ≤ wx.heap.size := Nat.le_trans hB hCx.size
    obtain ⟨p0, _⟩ := hPx.cells
    obtain ⟨nk, hnk⟩ : ∃ nk, nk = ks.length := ⟨_, rfl⟩
    obtain ⟨nq, hnq⟩ : ∃ nq, nq = ps.length := ⟨_, rfl⟩
    have x0 := hXx.cell 0
    have x1 := hXx.cell 1
    have x2 := hXx.cell 2
    simp only [List.getElem?_toArray, List.getElem?_cons_zero, List.getElem?_cons_succ] at x0 x1 x2
    obtain ⟨wd, hwd⟩ : ∃ wd, wd = wx.drew.alloc (.cells #[.string x.s, .int .i64 x.p, .int .i64 x.k] 35) := ⟨_, rfl⟩
    have hbd : Below wx.heap.size wx wd := by rw [hwd]; exact ((Below.refl _ wx).drew).alloc (Nat.le_refl _) _
    have hvd : Blk wd wx.heap.size 35 (En.vs x).toArray := by rw [hwd]; exact Blk.new wx.drew _ _
    have hPd := hPx.below hbd
    have hXd := hXx.below hbd hXx.lt
    have hv1 : ∀ u ∈ En.vs x, u.oneCell' = true := by
      intro u hu
      simp [En.vs] at hu
      rcases hu with rfl | rfl | rfl <;> rfl
    have hins := eins_any hPd.x.keys (ecs_one _) hi (by omega) (Nat.le_trans hBx hbd.size) hvd rfl hv1 fun e => by
      have := (hPx.foot _ (hPx.dk _ e)).2
      exact Nat.lt_irrefl _ this
    rw [← hnk] at hins p0
    have hH1 : wd.cell? ⟨b, 0, none⟩ = some (.slice KP nk kcp) ∧ wd.cell? ⟨w1.heap.size, 0, none⟩ = some (.string x.s) ∧ wd.cell? ⟨w1.heap.size, 1, none⟩ = some (.int .i64 x.p) ∧ wd.cell? ⟨w1.heap.size, 2, none⟩ = some (.int .i64 x.k) := by
      refine ⟨by rw [hnk]; exact hPd.cells.1, (hXd.cell 0).trans rfl, (hXd.cell 1).trans rfl, (hXd.cell 2).trans rfl⟩
    have hS8 : ∀ w8 A8 c8, RowTo B 35 3 (.slice KP nk kcp) wd (.slice A8 (nk + 1) c8) (nk + 1) ((ecs ks).take (i * 3) ++ En.vs x ++ (ecs ks).drop (i * 3)) w8 →
        w8.cell? ⟨b, 0, none⟩ = some (.slice KP nk kcp) ∧ w8.cell? ⟨w1.heap.size, 0, none⟩ = some (.string x.s) ∧ w8.cell? ⟨w1.heap.size, 1, none⟩ = some (.int .i64 x.p) ∧ w8.cell? ⟨w1.heap.size, 2, none⟩ = some (.int .i64 x.k) ∧ w8.frozen? ⟨b, 0, none⟩ = false ∧
        ∃ w9, w9 = w8.setCell ⟨b, 0, none⟩ (.slice A8 (nk + 1) c8) ∧ PgD B (Ext D0 wx w9) w9 b tp A8 c8 IP icp (ks.take i ++ x :: ks.drop i) ps ∧ Chg D0 wx w9 := by
      intro w8 A8 c8 hR
      have hlx : (ks.take i ++ x :: ks.drop i).length = nk + 1 := by rw [hnk]; simp; omega
      have hex : (ecs ks).take (i * 3) ++ En.vs x ++ (ecs ks).drop (i * 3) = ecs (ks.take i ++ x :: ks.drop i) := by rw [ecs_take, ecs_drop, ecs_append]; simp [ecs]
      have hR9 := hR.from hbd
      rw [hex] at hR9
      have h1 := hPx.putKeys (ks' := ks.take i ++ x :: ks.drop i) (KA' := A8) (Kc' := c8) hBx (by rw [hlx, ← hnk]; exact hR9)
      rw [hlx] at h1
      have hbb := hPx.x.blk.chg (hR9.chg.mono fun k _ (h : _ = some k) => (ob h : (Value.slice KP ks.length kcp).ownBlock = some k)) hPx.key_ne.1
      have cb := hbb.cell 0
      simp only [List.getElem?_toArray, List.getElem?_cons_zero] at cb
      have hx8 := hXx.chg hR9.chg fun e => by
        have h2 := hPx.foot _ (hPx.dk _ (ob e))
        have h3 := HS.out.2.2.2.1.foot _ (hPx.dk _ (ob e))
        have := HS.out.1
        omega
      exact ⟨by rw [hnk]; exact cb, (hx8.cell 0).trans rfl, (hx8.cell 1).trans rfl, (hx8.cell 2).trans rfl, hbb.frozen 0, _, rfl, h1.1, h1.2⟩
    have HS8 := Lib.hid hS8
    have HINS := Lib.hid hins
    have HH1 := Lib.hid hH1
    have HX := Lib.hid (And.intro hAx (And.intro hNx (And.intro hPx (And.intro hCx (And.intro hBx (And.intro hnk hnq))))))
    have HWD := Lib.hid hwd
    rw [hwd] at HINS HH1 HS8
    clear hAx hNx hPx hXx hCx hBx hnk hnq hbd hvd hPd hXd hv1 hins hH1 hS8 hwd hin
    go_wp2_with fail
    go_upto_region 7 with fail
    go_cut [] (fun wy => ∃ A8 c8, PgD B (Ext D0 wx wy) wy b tp A8 c8 IP icp (ks.take i ++ x :: ks.drop i) ps ∧ Chg D0 wx wy)
    case first =>
      refine wp_region_K (fun w' => w'.cell? ⟨b, 0, none⟩ = some (.slice KP nk kcp) ∧ w'.cell? ⟨w1.heap.size, 0, none⟩ = some (.string x.s) ∧ w'.cell? ⟨w1.heap.size, 1, none⟩ = some (.int .i64 x.p) ∧ w'.cell? ⟨w1.heap.size, 2, none⟩ = some (.int .i64 x.k)) 11 (by kernel_rfl) ⟨p0, x0, x1, x2⟩ (fun hHeld hInv => ?_)
      refine wpAnyK_pure (i := 0) (v := ?_) rfl (by kernel_rfl) (by kernel_rfl) (by kernel_rfl) (by kernel_rfl) (fun _ _ _ h => h) hInv (Or.inl ⟨by rfl, ?_⟩) (fun _ => hHeld) ?_
      rotate_left
      · (intro w hSw; (try dsimp only at hSw); go_simp; (try with_reducible rfl))
      intro hInv
      try simp only [Act.put, List.getElem_toArray, List.getElem_cons_zero, List.setIfInBounds_toArray, List.set_cons_zero, List.set_cons_succ] at hInv ⊢
      refine wpAnyK_pure (i := 1) (v := ?_) rfl (by kernel_rfl) (by kernel_rfl) (by kernel_rfl) (by kernel_rfl) (fun _ _ _ h => h) hInv (Or.inl ⟨by rfl, ?_⟩) (fun _ => hHeld) ?_
      rotate_left
      · (intro w hSw; (try dsimp only at hSw); go_simp; (try with_reducible rfl))
      intro hInv
      try simp only [Act.put, List.getElem_toArray, List.getElem_cons_succ, List.getElem_cons_zero, List.setIfInBounds_toArray, List.set_cons_zero, List.set_cons_succ] at hInv ⊢
      refine wpAnyK_pure (i := 2) (v := ?_) rfl (by kernel_rfl) (by kernel_rfl) (by kernel_rfl) (by kernel_rfl) (fun _ _ _ h => h) hInv (Or.inl ⟨by rfl, ?_⟩) (fun _ => hHeld) ?_
      rotate_left
      · (intro w hSw; (try dsimp only at hSw); go_simp; (try with_reducible rfl))
      intro hInv
      try simp only [Act.put, List.getElem_toArray, List.getElem_cons_succ, List.getElem_cons_zero, List.setIfInBounds_toArray, List.set_cons_zero, List.set_cons_succ] at hInv ⊢
      refine wpAnyK_pure (i := 3) (v := ?_) rfl (by kernel_rfl) (by kernel_rfl) (by kernel_rfl) (by kernel_rfl) (fun _ _ _ h => h) hInv (Or.inl ⟨by rfl, ?_⟩) (fun _ => hHeld) ?_
      rotate_left
      · (intro w hSw; (try dsimp only at hSw); go_simp; (try with_reducible rfl))
      intro hInv
      try simp only [Act.put, List.getElem_toArray, List.getElem_cons_succ, List.getElem_cons_zero, List.setIfInBounds_toArray, List.set_cons_zero, List.set_cons_succ] at hInv ⊢
      refine wpAnyK_load (i := 4) (v := ?_) rfl (by kernel_rfl) (by kernel_rfl) (by kernel_rfl) (by kernel_rfl) (by kernel_rfl) (fun _ _ _ h => h) hInv (Or.inl ⟨by rfl, ?_⟩) hHeld ?_
      rotate_left
      · (intro w hSw; (try dsimp only at hSw); go_simp; (try with_reducible rfl))
      intro hInv
      try simp only [Act.put, List.getElem_toArray, List.getElem_cons_succ, List.getElem_cons_zero, List.setIfInBounds_toArray, List.set_cons_zero, List.set_cons_succ] at hInv ⊢
      refine wpAnyK_pure (i := 5) (v := ?_) rfl (by kernel_rfl) (by kernel_rfl) (by kernel_rfl) (by kernel_rfl) (fun _ _ _ h => h) hInv (Or.inl ⟨by rfl, ?_⟩) (fun _ => hHeld) ?_
      rotate_left
      · (intro w hSw; (try dsimp only at hSw); go_simp; (try with_reducible rfl))
      intro hInv
      try simp only [Act.put, List.getElem_toArray, List.getElem_cons_succ, List.getElem_cons_zero, List.setIfInBounds_toArray, List.set_cons_zero, List.set_cons_succ] at hInv ⊢
      refine wpAnyK_load (i := 6) (v := ?_) rfl (by kernel_rfl) (by kernel_rfl) (by kernel_rfl) (by kernel_rfl) (by kernel_rfl) (fun _ _ _ h => h) hInv (Or.inl ⟨by rfl, ?_⟩) hHeld ?_
      rotate_left
      · (intro w hSw; (try dsimp only at hSw); go_simp; (try with_reducible rfl))
      intro hInv
      try simp only [Act.put, List.getElem_toArray, List.getElem_cons_succ, List.getElem_cons_zero, List.setIfInBounds_toArray, List.set_cons_zero, List.set_cons_succ] at hInv ⊢
      -- operation 7: Op.buildSlice 28 1 #[(0, t78)]
      refine wpAnyK_one (i := 7) (by kernel_rfl) rfl hInv (fun K hK => ?_)
      go_simp
      have hHeld := HH1.out
      refine hK.out _ _ (fun _ => hHeld) (fun hInv => ?_)
      clear hK K
      try simp only [Act.put, List.getElem_toArray, List.getElem_cons_succ, List.getElem_cons_zero, List.setIfInBounds_toArray, List.set_cons_zero, List.set_cons_succ] at hInv ⊢
      -- operation 8: Op.call { value (Operand.func 36), args := #[t76, t77, t79],
      refine wpAnyK_one (i := 8) (by kernel_rfl) rfl hInv (fun K hK => ?_)
      go_simp
      refine HINS.out.mono ?_
      rintro r w8 ⟨A8, c8, rfl, hR8⟩
      dsimp only
      obtain ⟨g0, g1, g2, g3, g4, h9⟩ := HS8.out w8 A8 c8 hR8
      have H9 := Lib.hid h9
      clear hR8 h9
      have hHeld := And.intro g0 (And.intro g1 (And.intro g2 g3))
      refine hK.out _ _ (fun _ => hHeld) (fun hInv => ?_)
      clear hK K
      try simp only [Act.put, List.getElem_toArray, List.getElem_cons_succ, List.getElem_cons_zero, List.setIfInBounds_toArray, List.set_cons_zero, List.set_cons_succ] at hInv ⊢
      refine wpAnyK_pure (i := 9) (v := ?_) rfl (by kernel_rfl) (by kernel_rfl) (by kernel_rfl) (by kernel_rfl) (fun _ _ _ h => h) hInv (Or.inl ⟨by rfl, ?_⟩) (fun _ => hHeld) ?_
      rotate_left
      · (intro w hSw; (try dsimp only at hSw); go_simp; (try with_reducible rfl))
      intro hInv
      try simp only [Act.put, List.getElem_toArray, List.getElem_cons_succ, List.getElem_cons_zero, List.setIfInBounds_toArray, List.set_cons_zero, List.set_cons_succ] at hInv ⊢
      refine wpAnyK_pure (i := 10) (v := ?_) rfl (by kernel_rfl) (by kernel_rfl) (by kernel_rfl) (by kernel_rfl) (fun _ _ _ h => h) hInv (Or.inl ⟨by rfl, ?_⟩) (fun _ => hHeld) ?_
      rotate_left
      · (intro w hSw; (try dsimp only at hSw); go_simp; (try with_reducible rfl))
      intro hInv
      try simp only [Act.put, List.getElem_toArray, List.getElem_cons_succ, List.getElem_cons_zero, List.setIfInBounds_toArray, List.set_cons_zero, List.set_cons_succ] at hInv ⊢
      -- operation 11: Op.store 28 t82 t80
      refine wpAnyK_one (i := 11) (by kernel_rfl) rfl hInv (fun K hK => ?_)
      go_simp
      refine hK.out _ _ (fun h => absurd (show true = false from h) (by decide)) (fun hInv => ?_)
      clear hK K
      try simp only [Act.put, List.getElem_toArray, List.getElem_cons_succ, List.getElem_cons_zero, List.setIfInBounds_toArray, List.set_cons_zero, List.set_cons_succ] at hInv ⊢
      refine wpAnyK_done (by kernel_rfl) ?_ _
      go_wp2_with fail
      go_meet
      obtain ⟨w9, hw9, hP9, hC9⟩ := H9.out
      rw [← hw9]
      exact ⟨_, _, hP9, hC9⟩
    case rest =>
      rename World => w9
      obtain ⟨A8, c8, hP9, hC9⟩ := hcut
      obtain ⟨_, q1⟩ := hP9.cells
      rw [← HX.out.2.2.2.2.2.2] at q1
      have hB9 : B ≤ w9.heap.size := Nat.le_trans HX.out.2.2.2.2.1 hC9.size
      obtain ⟨we, hwe⟩ : ∃ we, we = w9.alloc (.cells #[.pointer (some ⟨w.heap.size, 0, none⟩)] 70) := ⟨_, rfl⟩
      have hbe : Below w9.heap.size w9 we := by rw [hwe]; exact (Below.refl _ w9).alloc (Nat.le_refl _) _
      have hve : Blk we w9.heap.size 70 ([.pointer (some ⟨w.heap.size, 0, none⟩)] : List Value).toArray := by rw [hwe]; exact Blk.new w9 _ _
      have hPe := hP9.below hbe
      have hins := pins_any hPe.x.kids (pcs_one _) (i := i + 1) (by omega) (by omega) (Nat.le_trans hB9 hbe.size) hve rfl (by intro u hu; simp at hu; subst hu; rfl) fun e => by
        have := (hP9.foot _ (hP9.di _ e)).2
        exact Nat.lt_irrefl _ this
      rw [← HX.out.2.2.2.2.2.2, show ((i + 1 : Nat) : Int) = (i : Int) + 1 from rfl] at hins
      have hS10 : ∀ w10 A10 c10, RowTo B 70 1 (.slice IP nq icp) we (.slice A10 (nq + 1) c10) (nq + 1) ((pcs ps).take (i + 1) ++ [.pointer (some ⟨w.heap.size, 0, none⟩)] ++ (pcs ps).drop (i + 1)) w10 →
          w10.cell? ⟨b, 1, none⟩ = some (.slice IP nq icp) ∧ w10.frozen? ⟨b, 1, none⟩ = false ∧ Splitted B w b a w.heap.size D0 Da (ks.take i ++ x :: ks.drop i) (ps.take (i + 1) ++ w.heap.size :: ps.drop (i + 1)) (ka.take h) (pa.take (h + 1)) rk (pa.drop (h + 1)) (w10.setCell ⟨b, 1, none⟩ (.slice A10 (nq + 1) c10)) := by
        intro w10 A10 c10 hR
        have hlx : (ps.take (i + 1) ++ w.heap.size :: ps.drop (i + 1)).length = nq + 1 := by rw [HX.out.2.2.2.2.2.2]; simp; omega
        have hex : (pcs ps).take (i + 1) ++ [.pointer (some ⟨w.heap.size, 0, none⟩)] ++ (pcs ps).drop (i + 1) = pcs (ps.take (i + 1) ++ w.heap.size :: ps.drop (i + 1)) := by simp [pcs]
        have hR9 := hR.from hbe
        rw [hex] at hR9
        have h1 := hP9.putKids (ps' := ps.take (i + 1) ++ w.heap.size :: ps.drop (i + 1)) (IA' := A10) (Ic' := c10) hB9 (by rw [hlx, ← HX.out.2.2.2.2.2.2]; exact hR9)
        rw [hlx] at h1
        have hbb := hP9.x.blk.chg (hR9.chg.mono fun k _ (h : _ = some k) => (ob h : (Value.slice IP ps.length icp).ownBlock = some k)) hP9.key_ne.2.1
        have cb := hbb.cell 1
        simp only [List.getElem?_toArray, List.getElem?_cons_zero, List.getElem?_cons_succ] at cb
        refine ⟨by rw [HX.out.2.2.2.2.2.2]; exact cb, hbb.frozen 1, ?_⟩
        obtain ⟨s1, s2, hb2, hP, hA⟩ := HS.out
        obtain ⟨hAx, hNx, hPx, hCx, hBx, _, _⟩ := HX.out
        have sx := hCx.size
        have s9 := hC9.size
        have s10 := h1.2.size
        have dA : ∀ k, Ext D0 wx w9 k → ¬ Da k := fun k h hk => by
          have := (hA.foot k hk).2
          rcases h with h | h
          · exact d1 k h hk
          · omega
        have dN : ∀ k, Ext D0 wx w9 k → ¬ New w wx k := fun k h hk => by
          rcases h with h | h
          · have := (hP.foot k h).2
            have := hk.1
            omega
          · have := hk.2
            omega
        refine ⟨Ext (Ext D0 wx w9) w9 (w10.setCell ⟨b, 1, none⟩ (.slice A10 (nq + 1) c10)), New w wx, ⟨_, _, _, _, _, h1.1⟩, ?_, ?_, ?_, ?_, ?_, ?_, ?_⟩
        · exact PgV.chg (PgV.chg ⟨_, _, _, _, _, hAx⟩ hC9 fun k hk h => d1 k h hk) h1.2 fun k hk h => dA k h hk
        · exact (hNx.chg hC9 fun k hk h => dN k (.inl h) hk).chg h1.2 fun k hk h => dN k h hk
        · intro k h hk
          rcases h with h | h
          · exact dA k h hk
          · have := (hA.foot k hk).2
            omega
        · intro k h hk
          rcases h with h | h
          · exact dN k h hk
          · have := hk.2
            omega
        · intro k h
          rcases h with (h | h) | h
          · exact .inl h
          · exact .inr ⟨by omega, by omega⟩
          · exact .inr ⟨by omega, h.2⟩
        · intro k h
          exact ⟨h.1, by have := h.2; omega⟩
        · refine ((hCx.mono fun k _ h => .inr h).trans' hC9 fun k _ h => .inl h).trans' h1.2 fun k hk h => ?_
          rcases h with h | h
          · exact .inl h
          · omega
      have HINS2 := Lib.hid hins
      have HS10 := Lib.hid hS10
      have HWE := Lib.hid hwe
      have b7 : IntKind.i64.wrap ((i : Int) + 1) = (i : Int) + 1 := by rw [IntKind.wrap_i64]; omega
      have b8 : (0 : Int) ≤ (i : Int) + 1 := by omega
      clear hP9 hC9 hB9 hbe hve hPe hins hS10 hwe p0 x0 x1 x2
      go_wp2_with fail
      rw [← HWE.out]
      refine HINS2.out.mono ?_
      rintro r w10 ⟨A10, c10, rfl, hR10⟩
      obtain ⟨z0, z1, hF⟩ := HS10.out w10 A10 c10 hR10
      have HF := Lib.hid hF
      clear hR10 hF
      go_wp2_with fail
      go_end0
      exact ⟨rfl, w.heap.size, HF.out⟩
end Go.Proofs.Ytiaclfldgagalaa

/-
  A tree of pages in memory; two pages joined, a page parted, in such a tree.
-/
namespace Go.Proofs.Ytiaclfldgagalaa
open Go.RowKit Go.Lib

/-- a page below: its block, its footprint, its tree -/
structure Kid (d : Nat) where
  p : Nat
  D : Nat → Prop
  t : Tr d
/-- a page with its pages below, each in a footprint of its own -/
structure Node (B : Nat) {d : Nat} (S : (Nat → Prop) → World → Nat → Tr d → Prop) (D0 : Nat → Prop) (w : World) (b : Nat) (ks : List En) (kl : List (Kid d)) : Prop where
  pg : PgV B D0 w b ks (kl.map Kid.p)
  dis0 : ∀ y ∈ kl, ∀ k, D0 k → ¬ y.D k
  dis : kl.Pairwise fun y z => ∀ k, y.D k → ¬ z.D k
  sub : ∀ y ∈ kl, S y.D w y.p y.t
/-- the blocks of a page and of all below it -/
def NF {d : Nat} (D0 : Nat → Prop) (kl : List (Kid d)) (k : Nat) : Prop := D0 k ∨ ∃ y ∈ kl, y.D k
def Sub (B : Nat) : {d : Nat} → (Nat → Prop) → World → Nat → Tr d → Prop
  | 0, D, w, b, ks => PgV B D w b (keysT (d := 0) ks) []
  | _ + 1, D, w, b, x => ∃ (D0 : Nat → Prop) (kl : List (Kid _)), Node B (Sub B) D0 w b x.1 kl ∧ x.2 = kl.map Kid.t ∧ (∀ k, NF D0 kl k → D k) ∧ ∀ k, D k → B ≤ k ∧ k < w.heap.size

section
variable {B : Nat}
theorem Sub.foot : ∀ {d : Nat} {D : Nat → Prop} {w : World} {b : Nat} {t : Tr d}, Sub B D w b t → ∀ k, D k → B ≤ k ∧ k < w.heap.size
  | 0, _, _, _, _, h => PgV.foot h
  | _ + 1, _, _, _, _, ⟨_, _, _, _, _, h⟩ => h
theorem Sub.chg : ∀ {d : Nat} {D F : Nat → Prop} {w w' : World} {b : Nat} {t : Tr d}, Sub B D w b t → Chg F w w' → (∀ k, D k → ¬ F k) → Sub B D w' b t
  | 0, _, _, _, _, _, _, h, hc, hd => PgV.chg h hc hd
  | _ + 1, _, _, _, _, _, _, ⟨D0, kl, hn, he, hD, hf⟩, hc, hd =>
    ⟨D0, kl, ⟨hn.pg.chg hc fun k hk => hd k (hD k (.inl hk)), hn.dis0, hn.dis, fun y hy => (hn.sub y hy).chg hc fun k hk => hd k (hD k (.inr ⟨y, hy, hk⟩))⟩, he, hD, fun k hk => ⟨(hf k hk).1, Nat.lt_of_lt_of_le (hf k hk).2 hc.size⟩⟩
theorem Sub.below {d : Nat} {D : Nat → Prop} {w w' : World} {b : Nat} {t : Tr d} (h : Sub B D w b t) (hb : Below w.heap.size w w') : Sub B D w' b t := h.chg (F := Non) (Chg.of_below hb) fun _ _ hf => hf
theorem Sub.more : ∀ {d : Nat} {D D' : Nat → Prop} {w : World} {b : Nat} {t : Tr d}, Sub B D w b t → (∀ k, D k → D' k) → (∀ k, D' k → B ≤ k ∧ k < w.heap.size) → Sub B D' w b t
  | 0, _, _, _, _, _, h, hD, hf => PgV.more h hD hf
  | _ + 1, _, _, _, _, _, ⟨D0, kl, hn, he, hk, _⟩, hD, hf => ⟨D0, kl, hn, he, fun k h => hD k (hk k h), hf⟩
/-- its first page -/
theorem Sub.page : ∀ {d : Nat} {D : Nat → Prop} {w : World} {b : Nat} {t : Tr d}, Sub B D w b t → ∃ D0 ps, PgV B D0 w b (keysT t) ps ∧ (∀ k, D0 k → D k) ∧ (d = 0 → ps = []) ∧ (Cnt t → ∀ d', d = d' + 1 → ps.length = (keysT t).length + 1)
  | 0, D, _, _, _, h => ⟨D, [], h, fun _ h => h, fun _ => rfl, fun _ d' h => (by cases h)⟩
  | d + 1, D, _, _, x, ⟨D0, kl, hn, he, hk, _⟩ => ⟨D0, kl.map Kid.p, hn.pg, fun k h => hk k (.inl h), fun h => (by cases h), fun hc d' _ => by
      have h1 : x.2.length = kl.length := by rw [he, List.length_map]
      have h2 : x.2.length = x.1.length + 1 := hc.1
      rw [List.length_map]
      show kl.length = x.1.length + 1
      omega⟩
theorem Sub.db {d : Nat} {D : Nat → Prop} {w : World} {b : Nat} {t : Tr d} (h : Sub B D w b t) : D b := by
  obtain ⟨D0, ps, hp, hD, _⟩ := h.page
  exact hD _ hp.db
theorem Node.foot {d : Nat} {D0 : Nat → Prop} {w : World} {b : Nat} {ks : List En} {kl : List (Kid d)} (h : Node B (Sub B) D0 w b ks kl) : ∀ k, NF D0 kl k → B ≤ k ∧ k < w.heap.size := fun k hk => by
  rcases hk with hk | ⟨y, hy, hk⟩
  · exact h.pg.foot k hk
  · exact (h.sub y hy).foot k hk
theorem Node.to {d : Nat} {D0 D : Nat → Prop} {w : World} {b : Nat} {x : Tr (d + 1)} {kl : List (Kid d)} (h : Node B (Sub B) D0 w b x.1 kl) (he : x.2 = kl.map Kid.t) (hD : ∀ k, NF D0 kl k → D k) (hf : ∀ k, D k → B ≤ k ∧ k < w.heap.size) : Sub B D w b x := ⟨D0, kl, h, he, hD, hf⟩
end

theorem pw_mem {α : Type} {R : α → α → Prop} {l : List α} (h : l.Pairwise R) {i j : Nat} (hij : i < j) {x y : α} (hx : l[i]? = some x) (hy : l[j]? = some y) : R x y := by
  obtain ⟨h1, rfl⟩ := List.getElem?_eq_some_iff.1 hx
  obtain ⟨h2, rfl⟩ := List.getElem?_eq_some_iff.1 hy
  exact List.pairwise_iff_getElem.1 h i j h1 h2 hij
theorem cut1 {α : Type} {l : List α} {i : Nat} {x : α} (h : l[i]? = some x) : l = l.take i ++ x :: l.drop (i + 1) := by
  obtain ⟨h1, h2⟩ := List.getElem?_eq_some_iff.1 h
  conv => lhs; rw [← List.take_append_drop i l, List.drop_eq_getElem_cons h1, h2]
theorem cut2 {α : Type} {l : List α} {i : Nat} {x y : α} (h : l[i]? = some x) (h' : l[i + 1]? = some y) : l = l.take i ++ x :: y :: l.drop (i + 2) := by
  obtain ⟨h1, h2⟩ := List.getElem?_eq_some_iff.1 h
  obtain ⟨h3, h4⟩ := List.getElem?_eq_some_iff.1 h'
  conv => lhs; rw [← List.take_append_drop i l, List.drop_eq_getElem_cons h1, h2, List.drop_eq_getElem_cons h3, h4]
/-- two neighbours become one -/
theorem pw_join {d : Nat} {kl : List (Kid d)} {i : Nat} {x y z : Kid d} (h : kl.Pairwise fun y z => ∀ k, y.D k → ¬ z.D k) (hx : kl[i]? = some x) (hy : kl[i + 1]? = some y) {lim : Nat} (hl : ∀ u ∈ kl, ∀ k, u.D k → k < lim) (hz : ∀ k, z.D k → x.D k ∨ y.D k ∨ lim ≤ k) :
    (kl.take i ++ z :: kl.drop (i + 2)).Pairwise fun y z => ∀ k, y.D k → ¬ z.D k := by
  have hk := cut2 hx hy
  have h0 := h
  rw [hk] at h0
  obtain ⟨hA, hB, hAB⟩ := List.pairwise_append.1 h0
  obtain ⟨hx1, hB2⟩ := List.pairwise_cons.1 hB
  obtain ⟨hy1, hB3⟩ := List.pairwise_cons.1 hB2
  refine List.pairwise_append.2 ⟨hA, List.pairwise_cons.2 ⟨fun u hu k hk hk' => ?_, hB3⟩, fun u hu v hv k hk hk' => ?_⟩
  · rcases hz k hk with h1 | h1 | h1
    · exact hx1 u (List.mem_cons_of_mem _ hu) k h1 hk'
    · exact hy1 u hu k h1 hk'
    · have := hl u (List.mem_of_mem_drop hu) k hk'
      omega
  · rcases List.mem_cons.1 hv with rfl | hv
    · rcases hz k hk' with h1 | h1 | h1
      · exact hAB u hu x (by simp) k hk h1
      · exact hAB u hu y (by simp) k hk h1
      · have := hl u (List.mem_of_mem_take hu) k hk
        omega
    · exact hAB u hu v (by simp [hv]) k hk hk'
/-- one becomes two -/
theorem pw_split {d : Nat} {kl : List (Kid d)} {i : Nat} {x y z : Kid d} (h : kl.Pairwise fun y z => ∀ k, y.D k → ¬ z.D k) (hx : kl[i]? = some x) {lim : Nat} (hl : ∀ u ∈ kl, ∀ k, u.D k → k < lim) (hy : ∀ k, y.D k → x.D k ∨ lim ≤ k) (hz : ∀ k, z.D k → x.D k ∨ lim ≤ k) (hyz : ∀ k, y.D k → ¬ z.D k) :
    (kl.take i ++ y :: z :: kl.drop (i + 1)).Pairwise fun y z => ∀ k, y.D k → ¬ z.D k := by
  have hk := cut1 hx
  have h0 := h
  rw [hk] at h0
  obtain ⟨hA, hB, hAB⟩ := List.pairwise_append.1 h0
  obtain ⟨hx1, hB2⟩ := List.pairwise_cons.1 hB
  have right : ∀ v : Kid d, (∀ k, v.D k → x.D k ∨ lim ≤ k) → ∀ u ∈ kl.drop (i + 1), ∀ k, v.D k → ¬ u.D k := fun v hv u hu k hk hk' => by
    rcases hv k hk with h1 | h1
    · exact hx1 u hu k h1 hk'
    · have := hl u (List.mem_of_mem_drop hu) k hk'
      omega
  have left : ∀ v : Kid d, (∀ k, v.D k → x.D k ∨ lim ≤ k) → ∀ u ∈ kl.take i, ∀ k, u.D k → ¬ v.D k := fun v hv u hu k hk hk' => by
    rcases hv k hk' with h1 | h1
    · exact hAB u hu x (by simp) k hk h1
    · have := hl u (List.mem_of_mem_take hu) k hk
      omega
  refine List.pairwise_append.2 ⟨hA, List.pairwise_cons.2 ⟨fun u hu => ?_, List.pairwise_cons.2 ⟨right z hz, hB2⟩⟩, fun u hu v hv => ?_⟩
  · rcases List.mem_cons.1 hu with rfl | hu
    · exact hyz
    · exact right y hy u hu
  · rcases List.mem_cons.1 hv with rfl | hv
    · exact left v hy u hu
    · rcases List.mem_cons.1 hv with rfl | hv
      · exact left v hz u hu
      · exact hAB u hu v (by simp [hv])
/-- what a step on a page with its pages below leaves -/
def NodeTo (B : Nat) {d : Nat} (D0 : Nat → Prop) (kl : List (Kid d)) (w : World) (b : Nat) (x : Nd d) (w' : World) : Prop :=
  ∃ D0' kl', Node B (Sub B) D0' w' b x.1 kl' ∧ x.2 = kl'.map Kid.t ∧ (∀ k, NF D0' kl' k → Ext (NF D0 kl) w w' k) ∧ Chg (NF D0 kl) w w'
end Go.Proofs.Ytiaclfldgagalaa
