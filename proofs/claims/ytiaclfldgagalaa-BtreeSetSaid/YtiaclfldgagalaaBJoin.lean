/-
  join: a page below takes in the one behind it.
-/
import Derived.Test.YtiaclfldgagalaaM07
import Derived.Deep.Cut
import Derived.Deep.DeepCutAuto
namespace Go.Proofs.Ytiaclfldgagalaa
open Go.RowKit Go.Lib

/-- what a join leaves: the page above, the page that took the other one in -/
def Joined (B : Nat) (w : World) (b a : Nat) (D0 Da : Nat → Prop) (ks : List En) (ps : List Nat) (ka : List En) (pa : List Nat) (w' : World) : Prop :=
  ∃ D0' Da', PgV B D0' w' b ks ps ∧ PgV B Da' w' a ka pa ∧ (∀ k, D0' k → ¬ Da' k) ∧ (∀ k, D0' k → Ext D0 w w' k) ∧ (∀ k, Da' k → Ext Da w w' k) ∧ Chg (fun k => D0 k ∨ Da k) w w'
set_option maxRecDepth 100000 in
set_option maxHeartbeats 12800000 in
theorem join_any {B : Nat} {w : World} {b a a2 : Nat} {D0 Da Db : Nat → Prop} {ks : List En} {ps : List Nat} {ka kb : List En} {pa pb : List Nat} (hp : PgV B D0 w b ks ps) (ha : PgV B Da w a ka pa) (hb : PgV B Db w a2 kb pb)
    (d1 : ∀ k, D0 k → ¬ Da k) (_d2 : ∀ k, D0 k → ¬ Db k) (d3 : ∀ k, Da k → ¬ Db k) {i : Nat} (hi : i + 1 < ps.length) (hl : ps.length = ks.length + 1) (hpa : ps[i]? = some a) (hpb : ps[i + 1]? = some a2) {x : En} (hx : ks[i]? = some x)
    (n1 : ks.length ≤ 100) (n2 : ka.length ≤ 100) (n3 : kb.length ≤ 100) (n4 : pa.length ≤ 100) (n5 : pb.length ≤ 100) (hB : B ≤ w.heap.size) (kx : List En) (hin : (pa = [] ∧ pb = [] ∧ kx = []) ∨ (0 < pa.length ∧ kx = [x])) :
    Calls Try.prog 66 #[.pointer (some ⟨b, 0, none⟩), .int .i64 i] w fun r w' => r = .returned (.tuple #[]) ∧ Joined B w b a D0 Da (ks.take i ++ ks.drop (i + 1)) (ps.take (i + 1) ++ ps.drop (i + 2)) (ka ++ (kx ++ kb)) (pa ++ pb) w' := by
  have hmx : Try.prog.follows .mixedOrders = true := by kernel_rfl
  obtain ⟨i0, hi0, hz0, hz1, hz2⟩ := info_parts Try.infoent
  obtain ⟨j0, hj0, hy0, hy1, hy2⟩ := info_parts Try.infoptr
  obtain ⟨tp, KP, kcp, IP, icp, hP⟩ := hp
  have hiks : i < ks.length := (List.getElem?_eq_some_iff.1 hx).1
  obtain ⟨gp, hIP, q0⟩ := hP.kid (i := i) (by omega)
  obtain ⟨gp', hIP', q1⟩ := hP.kid (i := i + 1) hi
  rw [hIP] at hIP'
  cases hIP'
  have ep : ps[i]'(by omega) = a := (List.getElem?_eq_some_iff.1 hpa).2
  have eq : ps[i + 1] = a2 := (List.getElem?_eq_some_iff.1 hpb).2
  rw [ep] at q0
  rw [eq] at q1
  obtain ⟨c0, c1⟩ := hP.cells
  rw [hIP] at c1
  obtain ⟨np, hnp⟩ : ∃ np, np = ps.length := ⟨_, rfl⟩
  rw [← hnp] at c1
  have HP := Lib.hid hP
  have HI := Lib.hid (And.intro hIP (And.intro hnp (And.intro hpa (And.intro hpb hx))))
  have HA := Lib.hid ha
  have HB := Lib.hid hb
  have HL := Lib.hid hl
  have b0 : (0 : Int) ≤ (i : Int) := by omega
  have b1 : (i : Int) < (np : Int) := by omega
  have b2 : (i : Int) + 1 < (np : Int) := by omega
  have b3 : IntKind.i64.wrap ((i : Int) + 1) = (i : Int) + 1 := by rw [IntKind.wrap_i64]; omega
  have b4 : (0 : Int) ≤ (i : Int) + 1 := by omega
  have b5 : ((i : Int) + 1).toNat = i + 1 := by omega
  clear hP ha hb hIP hnp ep eq hpa hpb hx hl
  go_enter Try.func66, Try.ntmps66
  go_wp2_with fail
  go_quiet (fail)
  obtain ⟨w1, hw1⟩ : ∃ w1, w1 = w.drewN nq := ⟨_, rfl⟩
  have hb1 : Below w.heap.size w w1 := drewN_below hw1
  rw [← hw1]
  have hP1 := HP.out.below hb1
  have hA1 := HA.out.below hb1
  have hB1 := HB.out.below hb1
  have HW1 := Lib.hid hb1
  clear hw1 hb1 q0 q1 c0 c1
  obtain ⟨lf, hlf⟩ : ∃ lf, lf = pa.isEmpty := ⟨_, rfl⟩
  have hLF := leaf_any hA1 (by omega)
  rw [← hlf] at hLF
  have HLF := Lib.hid hLF
  have HLE := Lib.hid hlf
  clear hLF hlf
  go_upto_if 23 with (go_at_call 40; refine HLF.out.mono ?_; rintro r w' ⟨rfl, rfl⟩)
  go_cut [] (fun wx => PgD B D0 wx b tp KP kcp IP icp ks ps ∧ PgV B Db wx a2 kb pb ∧ PgV B (Ext Da w1 wx) wx a (ka ++ kx) pa ∧ Chg Da w1 wx)
  case first =>
    rcases hin with ⟨e1, e2, e3⟩ | ⟨hin, e3⟩
    · subst e1
      obtain rfl : lf = true := HLE.out
      have HF := Lib.hid (show PgD B D0 w1 b tp KP kcp IP icp ks ps ∧ PgV B Db w1 a2 kb pb ∧ PgV B (Ext Da w1 w1) w1 a (ka ++ kx) [] ∧ Chg Da w1 w1 from ⟨hP1, hB1, by rw [e3, List.append_nil]; exact hA1.more (fun k h => .inl h) (fun k h => h.elim (fun h => hA1.foot k h) fun h => absurd h.1 (by omega)), Chg.refl _ _⟩)
      clear e2 e3
      go_wp2_with fail
      go_meet
      exact HF.out
    · subst e3
      obtain rfl : lf = false := by
        rw [HLE.out]
        cases pa with
        | nil => exact absurd hin (by simp)
        | cons p ps => rfl
      go_wp2_with fail
      obtain ⟨ta, KA, kca, IA, ica, hA⟩ := hA1
      obtain ⟨gk, hKP, e0, e1, e2⟩ := hP1.key hiks
      have ex : ks[i] = x := (List.getElem?_eq_some_iff.1 HI.out.2.2.2.2).2
      rw [ex] at e0 e1 e2
      obtain ⟨p0, _⟩ := hP1.cells
      obtain ⟨a0, _⟩ := hA.cells
      rw [hKP] at p0
      obtain ⟨nk, hnk⟩ : ∃ nk, nk = ks.length := ⟨_, rfl⟩
      obtain ⟨na, hna⟩ : ∃ na, na = ka.length := ⟨_, rfl⟩
      rw [← hnk] at p0
      rw [← hna] at a0
      have bk1 : (i : Int) < (nk : Int) := by omega
      have bn : na ≤ 100 := by omega
      have HST := Lib.hid (show ∀ A5 c5 w5, RowTo B 35 3 (.slice KA na kca) (w1.drew.alloc (.cells #[.string x.s, .int .i64 x.p, .int .i64 x.k] 35)) (.slice A5 (na + 1) c5) (na + 1) (ecs ka ++ En.vs x) w5 →
          w5.cell? ⟨a, 0, none⟩ = some (.slice KA na kca) ∧ w5.cell? ⟨b, 0, none⟩ = some (.slice (some ⟨gk, 0, none⟩) nk kcp) ∧ w5.cell? ⟨gk, i * 3, none⟩ = some (.string x.s) ∧ w5.cell? ⟨gk, i * 3 + 1, none⟩ = some (.int .i64 x.p) ∧ w5.cell? ⟨gk, i * 3 + 2, none⟩ = some (.int .i64 x.k) ∧ w5.frozen? ⟨a, 0, none⟩ = false from by
        intro A5 c5 w5 hR
        rw [hna] at hR
        have hch : Chg (fun k => (Value.slice KA ka.length kca).ownBlock = some k) w1 w5 := ((Chg.refl _ w1).drew.alloc _).trans' hR.chg fun _ _ h => h
        have hba := hA.x.blk.chg hch hA.key_ne.1
        have hbb := hP1.x.blk.chg hch fun h => d1 _ hP1.db (hA.dk _ h)
        have hgd : D0 gk := hP1.dk gk (by rw [hKP]; rfl)
        have hgl := (hP1.foot gk hgd).2
        have hgc : ∀ j, w5.cell? ⟨gk, j, none⟩ = w1.cell? ⟨gk, j, none⟩ := fun j => hch.cell (p := ⟨gk, j, none⟩) hgl fun h => d1 _ hgd (hA.dk _ h)
        have ca := hba.cell 0
        have cb := hbb.cell 0
        simp only [List.getElem?_toArray, List.getElem?_cons_zero] at ca cb
        rw [hKP] at cb
        exact ⟨by rw [hna]; exact ca, by rw [hnk]; exact cb, (hgc _).trans e0, (hgc _).trans e1, (hgc _).trans e2, hba.frozen 0⟩)
      have HOW := Lib.hid (show (w1.drew.alloc (.cells #[.string x.s, .int .i64 x.p, .int .i64 x.k] 35)).ownsRow B 35 3 (.slice KA na kca) na (ecs ka) ∧
          (∀ ad, (some ⟨w1.heap.size, 0, none⟩ : Option Addr) = some ad → ∀ j u, (En.vs x)[j]? = some u → (w1.drew.alloc (.cells #[.string x.s, .int .i64 x.p, .int .i64 x.k] 35)).cell? (ad.add j) = some u) ∧ (∀ u ∈ En.vs x, u.oneCell' = true) ∧ B ≤ (w1.drew.alloc (.cells #[.string x.s, .int .i64 x.p, .int .i64 x.k] 35)).heap.size from by
        refine ⟨by rw [hna]; exact (show w1.drew.ownsRow _ _ _ _ _ _ from hA.x.keys).alloc _, fun ad ha j u hu => ?_, fun u hu => ?_, by have := HW1.out.size; simp; omega⟩
        · injection ha with ha
          subst ha
          rw [Addr.add_lit, Nat.zero_add]
          refine ((Blk.new w1.drew _ _).cell j).trans ?_
          simpa [En.vs] using hu
        · simp [En.vs] at hu
          rcases hu with rfl | rfl | rfl <;> rfl)
      have HX := Lib.hid (And.intro hA (And.intro hP1 (And.intro hB1 (And.intro hKP (And.intro hnk hna)))))
      have fa := hA.x.blk.frozen 0
      clear hA hP1 hB1 hKP hnk hna ex
      refine wp_region_K (fun w' => w'.cell? ⟨a, 0, none⟩ = some (.slice KA na kca) ∧ w'.cell? ⟨b, 0, none⟩ = some (.slice (some ⟨gk, 0, none⟩) nk kcp) ∧ w'.cell? ⟨gk, i * 3, none⟩ = some (.string x.s) ∧ w'.cell? ⟨gk, i * 3 + 1, none⟩ = some (.int .i64 x.p) ∧ w'.cell? ⟨gk, i * 3 + 2, none⟩ = some (.int .i64 x.k)) 16 (by kernel_rfl) ⟨a0, p0, e0, e1, e2⟩ (fun hHeld hInv => ?_)
      obtain ⟨s0, s1, s2, s3, s4⟩ : w1.drew.cell? ⟨a, 0, none⟩ = some (.slice KA na kca) ∧ w1.drew.cell? ⟨b, 0, none⟩ = some (.slice (some ⟨gk, 0, none⟩) nk kcp) ∧ w1.drew.cell? ⟨gk, i * 3, none⟩ = some (.string x.s) ∧ w1.drew.cell? ⟨gk, i * 3 + 1, none⟩ = some (.int .i64 x.p) ∧ w1.drew.cell? ⟨gk, i * 3 + 2, none⟩ = some (.int .i64 x.k) := ⟨hHeld.1, hHeld.2.1, hHeld.2.2.1, hHeld.2.2.2.1, hHeld.2.2.2.2⟩
      have HH1 := Lib.hid (show (w1.drew.alloc (.cells #[.string x.s, .int .i64 x.p, .int .i64 x.k] 35)).cell? ⟨a, 0, none⟩ = some (.slice KA na kca) ∧ (w1.drew.alloc (.cells #[.string x.s, .int .i64 x.p, .int .i64 x.k] 35)).cell? ⟨b, 0, none⟩ = some (.slice (some ⟨gk, 0, none⟩) nk kcp) ∧ (w1.drew.alloc (.cells #[.string x.s, .int .i64 x.p, .int .i64 x.k] 35)).cell? ⟨gk, i * 3, none⟩ = some (.string x.s) ∧ (w1.drew.alloc (.cells #[.string x.s, .int .i64 x.p, .int .i64 x.k] 35)).cell? ⟨gk, i * 3 + 1, none⟩ = some (.int .i64 x.p) ∧ (w1.drew.alloc (.cells #[.string x.s, .int .i64 x.p, .int .i64 x.k] 35)).cell? ⟨gk, i * 3 + 2, none⟩ = some (.int .i64 x.k) from ⟨Lib.cell?_alloc_some _ s0, Lib.cell?_alloc_some _ s1, Lib.cell?_alloc_some _ s2, Lib.cell?_alloc_some _ s3, Lib.cell?_alloc_some _ s4⟩)
      refine wpAnyK_pure (i := 0) (v := ?_) rfl (by kernel_rfl) (by kernel_rfl) (by kernel_rfl) (by kernel_rfl) (fun _ _ _ h => h) hInv (Or.inl ⟨by rfl, ?_⟩) (fun _ => hHeld) ?_
      rotate_left
      · (intro w hSw; (try dsimp only at hSw); go_simp; (try with_reducible rfl))
      intro hInv
      try simp only [Act.put, List.getElem_toArray, List.getElem_cons_zero, List.setIfInBounds_toArray, List.set_cons_zero, List.set_cons_succ] at hInv ⊢
      refine wpAnyK_pure (i := 1) (v := ?_) rfl (by kernel_rfl) (by kernel_rfl) (by kernel_rfl) (by kernel_rfl) (fun _ _ _ h => h) hInv (Or.inl ⟨by rfl, ?_⟩) (fun _ => hHeld) ?_
      rotate_left
      · (intro w hSw; (try dsimp only at hSw); go_simp; (try with_reducible rfl))
      intro hInv
      try simp only [Act.put, List.getElem_toArray, List.getElem_cons_succ, List.getElem_cons_zero, List.setIfInBounds_toArray, List.set_cons_zero, List.set_cons_succ] at hInv ⊢
      refine wpAnyK_pure (i := 2) (v := ?_) rfl (by kernel_rfl) (by kernel_rfl) (by kernel_rfl) (by kernel_rfl) (fun _ _ _ h => h) hInv (Or.inl ⟨by rfl, ?_⟩) (fun _ => hHeld) ?_
      rotate_left
      · (intro w hSw; (try dsimp only at hSw); go_simp; (try with_reducible rfl))
      intro hInv
      try simp only [Act.put, List.getElem_toArray, List.getElem_cons_succ, List.getElem_cons_zero, List.setIfInBounds_toArray, List.set_cons_zero, List.set_cons_succ] at hInv ⊢
      refine wpAnyK_pure (i := 3) (v := ?_) rfl (by kernel_rfl) (by kernel_rfl) (by kernel_rfl) (by kernel_rfl) (fun _ _ _ h => h) hInv (Or.inl ⟨by rfl, ?_⟩) (fun _ => hHeld) ?_
      rotate_left
      · (intro w hSw; (try dsimp only at hSw); go_simp; (try with_reducible rfl))
      intro hInv
      try simp only [Act.put, List.getElem_toArray, List.getElem_cons_succ, List.getElem_cons_zero, List.setIfInBounds_toArray, List.set_cons_zero, List.set_cons_succ] at hInv ⊢
      refine wpAnyK_load (i := 4) (v := ?_) rfl (by kernel_rfl) (by kernel_rfl) (by kernel_rfl) (by kernel_rfl) (by kernel_rfl) (fun _ _ _ h => h) hInv (Or.inl ⟨by rfl, ?_⟩) hHeld ?_
      rotate_left
      · (intro w hSw; (try dsimp only at hSw); go_simp; (try with_reducible rfl))
      intro hInv
      try simp only [Act.put, List.getElem_toArray, List.getElem_cons_succ, List.getElem_cons_zero, List.setIfInBounds_toArray, List.set_cons_zero, List.set_cons_succ] at hInv ⊢
      refine wpAnyK_pure (i := 5) (v := ?_) rfl (by kernel_rfl) (by kernel_rfl) (by kernel_rfl) (by kernel_rfl) (fun _ _ _ h => h) hInv (Or.inl ⟨by rfl, ?_⟩) (fun _ => hHeld) ?_
      rotate_left
      · (intro w hSw; (try dsimp only at hSw); go_simp; (try with_reducible rfl))
      intro hInv
      try simp only [Act.put, List.getElem_toArray, List.getElem_cons_succ, List.getElem_cons_zero, List.setIfInBounds_toArray, List.set_cons_zero, List.set_cons_succ] at hInv ⊢
      refine wpAnyK_pure (i := 6) (v := ?_) rfl (by kernel_rfl) (by kernel_rfl) (by kernel_rfl) (by kernel_rfl) (fun _ _ _ h => h) hInv (Or.inl ⟨by rfl, ?_⟩) (fun _ => hHeld) ?_
      rotate_left
      · (intro w hSw; (try dsimp only at hSw); go_simp; (try with_reducible rfl))
      intro hInv
      try simp only [Act.put, List.getElem_toArray, List.getElem_cons_succ, List.getElem_cons_zero, List.setIfInBounds_toArray, List.set_cons_zero, List.set_cons_succ] at hInv ⊢
      refine wpAnyK_pure (i := 7) (v := ?_) rfl (by kernel_rfl) (by kernel_rfl) (by kernel_rfl) (by kernel_rfl) (fun _ _ _ h => h) hInv (Or.inl ⟨by rfl, ?_⟩) (fun _ => hHeld) ?_
      rotate_left
      · (intro w hSw; (try dsimp only at hSw); go_simp; (try with_reducible rfl))
      intro hInv
      try simp only [Act.put, List.getElem_toArray, List.getElem_cons_succ, List.getElem_cons_zero, List.setIfInBounds_toArray, List.set_cons_zero, List.set_cons_succ] at hInv ⊢
      refine wpAnyK_load (i := 8) (v := ?_) rfl (by kernel_rfl) (by kernel_rfl) (by kernel_rfl) (by kernel_rfl) (by kernel_rfl) (fun _ _ _ h => h) hInv (Or.inl ⟨by rfl, ?_⟩) hHeld ?_
      rotate_left
      · (intro w hSw; (try dsimp only at hSw); go_simp; (try with_reducible rfl))
      intro hInv
      try simp only [Act.put, List.getElem_toArray, List.getElem_cons_succ, List.getElem_cons_zero, List.setIfInBounds_toArray, List.set_cons_zero, List.set_cons_succ] at hInv ⊢
      refine wpAnyK_pure (i := 9) (v := ?_) rfl (by kernel_rfl) (by kernel_rfl) (by kernel_rfl) (by kernel_rfl) (fun _ _ _ h => h) hInv (Or.inl ⟨by rfl, ?_⟩) (fun _ => hHeld) ?_
      rotate_left
      · (intro w hSw; (try dsimp only at hSw); go_simp; (try with_reducible rfl))
      intro hInv
      try simp only [Act.put, List.getElem_toArray, List.getElem_cons_succ, List.getElem_cons_zero, List.setIfInBounds_toArray, List.set_cons_zero, List.set_cons_succ] at hInv ⊢
      refine wpAnyK_pure (i := 10) (v := ?_) rfl (by kernel_rfl) (by kernel_rfl) (by kernel_rfl) (by kernel_rfl) (fun _ _ _ h => h) hInv (Or.inl ⟨by rfl, ?_⟩) (fun _ => hHeld) ?_
      rotate_left
      · (intro w hSw; (try dsimp only at hSw); go_simp; (try with_reducible rfl))
      intro hInv
      try simp only [Act.put, List.getElem_toArray, List.getElem_cons_succ, List.getElem_cons_zero, List.setIfInBounds_toArray, List.set_cons_zero, List.set_cons_succ] at hInv ⊢
      refine wpAnyK_load (i := 11) (v := ?_) rfl (by kernel_rfl) (by kernel_rfl) (by kernel_rfl) (by kernel_rfl) (by kernel_rfl) (fun _ _ _ h => h) hInv (Or.inl ⟨by rfl, ?_⟩) hHeld ?_
      rotate_left
      · (intro w hSw; (try dsimp only at hSw); go_simp; (try with_reducible rfl))
      intro hInv
      try simp only [Act.put, List.getElem_toArray, List.getElem_cons_succ, List.getElem_cons_zero, List.setIfInBounds_toArray, List.set_cons_zero, List.set_cons_succ] at hInv ⊢
      -- operation 12: Op.buildSlice 28 1 #[(0, t35)]
      refine wpAnyK_one (i := 12) (by kernel_rfl) rfl hInv (fun K hK => ?_)
      go_simp
      have hHeld := HH1.out
      refine hK.out _ _ (fun _ => hHeld) (fun hInv => ?_)
      clear hK K
      try simp only [Act.put, List.getElem_toArray, List.getElem_cons_succ, List.getElem_cons_zero, List.setIfInBounds_toArray, List.set_cons_zero, List.set_cons_succ] at hInv ⊢
      -- operation 13: Op.call { builtin append, args := #[t28, t36], argTypes := #
      refine wpAnyK_one (i := 13) (by kernel_rfl) rfl hInv (fun K hK => ?_)
      refine step_append_row rfl _ _ 28 rfl B 35 i0 (.agg #[.string ⟨#[]⟩, .int .i64 0, .int .i64 0]) 3 32 Try.underlying28 hi0 hz0 hz1 hz2 rfl (by decide) (.slice KA na kca) na (ecs ka) HOW.out.1 (by rfl) (some ⟨w1.heap.size, 0, none⟩) 1 1 (En.vs x) (by rfl) rfl (fun h => by cases h) HOW.out.2.1 HOW.out.2.2.1 (by simp [maxLen]; omega) (by omega) HOW.out.2.2.2 ?_
      intro A5 c5 w5 hR5
      obtain ⟨t0, t1, t2, t3, t4, t5⟩ := HST.out A5 c5 w5 hR5
      have HR5 := Lib.hid hR5
      clear hR5
      have hHeld := And.intro t0 (And.intro t1 (And.intro t2 (And.intro t3 t4)))
      refine hK.out _ _ (fun _ => hHeld) (fun hInv => ?_)
      clear hK K
      try simp only [Act.put, List.getElem_toArray, List.getElem_cons_succ, List.getElem_cons_zero, List.setIfInBounds_toArray, List.set_cons_zero, List.set_cons_succ] at hInv ⊢
      refine wpAnyK_pure (i := 14) (v := ?_) rfl (by kernel_rfl) (by kernel_rfl) (by kernel_rfl) (by kernel_rfl) (fun _ _ _ h => h) hInv (Or.inl ⟨by rfl, ?_⟩) (fun _ => hHeld) ?_
      rotate_left
      · (intro w hSw; (try dsimp only at hSw); go_simp; (try with_reducible rfl))
      intro hInv
      try simp only [Act.put, List.getElem_toArray, List.getElem_cons_succ, List.getElem_cons_zero, List.setIfInBounds_toArray, List.set_cons_zero, List.set_cons_succ] at hInv ⊢
      refine wpAnyK_pure (i := 15) (v := ?_) rfl (by kernel_rfl) (by kernel_rfl) (by kernel_rfl) (by kernel_rfl) (fun _ _ _ h => h) hInv (Or.inl ⟨by rfl, ?_⟩) (fun _ => hHeld) ?_
      rotate_left
      · (intro w hSw; (try dsimp only at hSw); go_simp; (try with_reducible rfl))
      intro hInv
      try simp only [Act.put, List.getElem_toArray, List.getElem_cons_succ, List.getElem_cons_zero, List.setIfInBounds_toArray, List.set_cons_zero, List.set_cons_succ] at hInv ⊢
      -- operation 16: Op.store 28 t39 t37
      refine wpAnyK_one (i := 16) (by kernel_rfl) rfl hInv (fun K hK => ?_)
      go_simp
      refine hK.out _ _ (fun h => absurd (show true = false from h) (by decide)) (fun hInv => ?_)
      clear hK K
      try simp only [Act.put, List.getElem_toArray, List.getElem_cons_succ, List.getElem_cons_zero, List.setIfInBounds_toArray, List.set_cons_zero, List.set_cons_succ] at hInv ⊢
      refine wpAnyK_done (by kernel_rfl) ?_ _
      go_wp2_with fail
      go_meet
      have hpk := HX.out.1.putKeys (ks' := ka ++ [x]) (Kc' := c5) (KA' := A5) (by have := HW1.out.size; omega) ⟨by simpa [ecs_append, ecs, HX.out.2.2.2.2.2] using HR5.out.own, fun k hk => (HR5.out.blk k (ob hk)).imp (fun h => ob h) (fun h => by simp at h; omega), by
        have h1 : Chg (fun k => (Value.slice KA ka.length kca).ownBlock = some k) w1 _ := (Chg.refl _ w1).drew.alloc (.cells #[.string x.s, .int .i64 x.p, .int .i64 x.k] 35)
        exact h1.trans' HR5.out.chg fun k _ hk => ob hk⟩
      rw [show (ka ++ [x]).length = na + 1 by rw [List.length_append, HX.out.2.2.2.2.2]; rfl] at hpk
      exact ⟨HX.out.2.1.chg hpk.2 d1, HX.out.2.2.1.chg hpk.2 fun k hk h => d3 k h hk, ⟨_, _, _, _, _, hpk.1⟩, hpk.2⟩
  case rest =>
    rename World => wd
    obtain ⟨hPc, ⟨tb, KB, kcb, IB, icb, hBc⟩, ⟨ta', KA', kca', IA', ica', hAc⟩, hCc⟩ := hcut
    obtain ⟨a0, a1⟩ := hAc.cells
    obtain ⟨c0, c1⟩ := hBc.cells
    obtain ⟨ma, hma⟩ : ∃ ma, ma = (ka ++ kx).length := ⟨_, rfl⟩
    obtain ⟨mb, hmb⟩ : ∃ mb, mb = kb.length := ⟨_, rfl⟩
    obtain ⟨la, hla⟩ : ∃ la, la = pa.length := ⟨_, rfl⟩
    obtain ⟨lb, hlb⟩ : ∃ lb, lb = pb.length := ⟨_, rfl⟩
    rw [← hma] at a0
    rw [← hla] at a1
    rw [← hmb] at c0
    rw [← hlb] at c1
    have hkx : kx.length ≤ 1 := by rcases hin with ⟨_, _, e⟩ | ⟨_, e⟩ <;> rw [e] <;> simp
    have bma : ma ≤ 101 := by rw [hma, List.length_append]; omega
    have bmb : mb ≤ 100 := by omega
    have bla : la ≤ 100 := by omega
    have blb : lb ≤ 100 := by omega
    have hBw : B ≤ wd.heap.size := by have := HW1.out.size; have := hCc.size; omega
    have d31 : ∀ k, Ext Da w1 wd k → ¬ Db k := fun k h hb => h.elim (fun h => d3 k h hb) fun h => by have := (hB1.foot k hb).2; omega
    have d11 : ∀ k, D0 k → ¬ Ext Da w1 wd k := fun k h he => he.elim (d1 k h) fun he => by have := (hP1.foot k h).2; omega
    have hne := hAc.key_ne
    have HN3 := Lib.hid (And.intro hma (And.intro hmb.symm (And.intro hla hlb.symm)))
    have HO3 := Lib.hid (show wd.drew.ownsRow B 35 3 (.slice KA' ma kca') ma (ecs (ka ++ kx)) ∧ ((KB = none → mb = 0) ∧ ∀ ad, KB = some ad → ∀ j u, (ecs kb)[j]? = some u → wd.drew.cell? (ad.add j) = some u) ∧ (IB = none → lb = 0) ∧ B ≤ wd.drew.heap.size from
      ⟨by rw [hma]; exact hAc.x.keys, by rw [hmb]; exact reads_row hBc.x.keys, by rw [hlb]; exact (reads_row hBc.x.kids).1, hBw⟩)
    have hS5 : ∀ A5 c5 w5, RowTo B 35 3 (.slice KA' ma kca') wd.drew (.slice A5 (ma + mb) c5) (ma + mb) (ecs (ka ++ kx) ++ ecs kb) w5 →
        w5.cell? ⟨a, 0, none⟩ = some (.slice KA' ma kca') ∧ w5.cell? ⟨a2, 0, none⟩ = some (.slice KB mb kcb) ∧ w5.cell? ⟨a, 1, none⟩ = some (.slice IA' la ica') ∧ w5.cell? ⟨a2, 1, none⟩ = some (.slice IB lb icb) ∧
        w5.ownsRow B 70 1 (.slice IA' la ica') la (pcs pa) ∧ B ≤ w5.heap.size ∧ (∀ ad, IB = some ad → ∀ j u, (pcs pb)[j]? = some u → w5.cell? (ad.add j) = some u) := by
      intro A5 c5 w5 hR
      have hch : Chg (fun k => (Value.slice KA' (ka ++ kx).length kca').ownBlock = some k) wd w5 := (Chg.undrew hR.chg).mono fun k _ h => ob h
      have hba := hAc.x.blk.chg hch hne.1
      have hbb := hBc.chg hch fun k hk h => d31 k (hAc.dk k h) hk
      have ca := hba.cell 0
      have ca1 := hba.cell 1
      simp only [List.getElem?_toArray, List.getElem?_cons_zero, List.getElem?_cons_succ] at ca ca1
      refine ⟨by rw [hma]; exact ca, by rw [hmb]; exact hbb.cells.1, by rw [hla]; exact ca1, by rw [hlb]; exact hbb.cells.2, ?_, Nat.le_trans hBw hch.size, (reads_row hbb.x.kids).2⟩
      rw [hla]
      exact own_chg hAc.x.kids hch hne.2.2
    have HS5 := Lib.hid hS5
    have hS6 : ∀ A5 c5 w5, RowTo B 35 3 (.slice KA' ma kca') wd.drew (.slice A5 (ma + mb) c5) (ma + mb) (ecs (ka ++ kx) ++ ecs kb) w5 →
        ∀ A6 c6 w6, RowTo B 70 1 (.slice IA' la ica') w5 (.slice A6 (la + lb) c6) (la + lb) (pcs pa ++ pcs pb) w6 →
        w6.cell? ⟨a, 0, none⟩ = some (.slice KA' ma kca') ∧ w6.cell? ⟨a2, 0, none⟩ = some (.slice KB mb kcb) ∧ w6.cell? ⟨a, 1, none⟩ = some (.slice IA' la ica') ∧ w6.cell? ⟨a2, 1, none⟩ = some (.slice IB lb icb) ∧ w6.frozen? ⟨a, 0, none⟩ = false ∧ w6.frozen? ⟨a, 1, none⟩ = false := by
      intro A5 c5 w5 hR A6 c6 w6 hR6
      have hch : Chg (fun k => (Value.slice KA' (ka ++ kx).length kca').ownBlock = some k) wd w5 := (Chg.undrew hR.chg).mono fun k _ h => ob h
      have hch6 : Chg (fun k => (Value.slice IA' pa.length ica').ownBlock = some k) w5 w6 := hR6.chg.mono fun k _ h => ob h
      have hba := (hAc.x.blk.chg hch hne.1).chg hch6 hne.2.1
      have hbb := (hBc.chg hch fun k hk h => d31 k (hAc.dk k h) hk).chg hch6 fun k hk h => d31 k (hAc.di k h) hk
      have ca := hba.cell 0
      have ca1 := hba.cell 1
      simp only [List.getElem?_toArray, List.getElem?_cons_zero, List.getElem?_cons_succ] at ca ca1
      exact ⟨by rw [hma]; exact ca, by rw [hmb]; exact hbb.cells.1, by rw [hla]; exact ca1, by rw [hlb]; exact hbb.cells.2, hba.frozen 0, hba.frozen 1⟩
    have HS6 := Lib.hid hS6
    have HX := Lib.hid (And.intro hAc (And.intro hPc (And.intro hCc (And.intro d11 hne))))
    clear hAc hBc hPc hCc hma hmb hla hlb hS5 hS6 d31 d11 hne hBw hin
    go_wp2_with fail
    go_upto_region 3 with fail
    go_cut [] (fun wx => PgD B D0 wx b tp KP kcp IP icp ks ps ∧ PgV B (Ext (Ext Da w1 wd) wd wx) wx a (ka ++ (kx ++ kb)) (pa ++ pb) ∧ Chg (Ext Da w1 wd) wd wx)
    case first =>
      refine wp_region_K (fun w' => w'.cell? ⟨a, 0, none⟩ = some (.slice KA' ma kca') ∧ w'.cell? ⟨a2, 0, none⟩ = some (.slice KB mb kcb) ∧ w'.cell? ⟨a, 1, none⟩ = some (.slice IA' la ica') ∧ w'.cell? ⟨a2, 1, none⟩ = some (.slice IB lb icb)) 22 (by kernel_rfl) ⟨a0, c0, a1, c1⟩ (fun hHeld hInv => ?_)
      refine wpAnyK_pure (i := 0) (v := ?_) rfl (by kernel_rfl) (by kernel_rfl) (by kernel_rfl) (by kernel_rfl) (fun _ _ _ h => h) hInv (Or.inl ⟨by rfl, ?_⟩) (fun _ => hHeld) ?_
      rotate_left
      · (intro w hSw; (try dsimp only at hSw); go_simp; (try with_reducible rfl))
      intro hInv
      try simp only [Act.put, List.getElem_toArray, List.getElem_cons_zero, List.setIfInBounds_toArray, List.set_cons_zero, List.set_cons_succ] at hInv ⊢
      refine wpAnyK_pure (i := 1) (v := ?_) rfl (by kernel_rfl) (by kernel_rfl) (by kernel_rfl) (by kernel_rfl) (fun _ _ _ h => h) hInv (Or.inl ⟨by rfl, ?_⟩) (fun _ => hHeld) ?_
      rotate_left
      · (intro w hSw; (try dsimp only at hSw); go_simp; (try with_reducible rfl))
      intro hInv
      try simp only [Act.put, List.getElem_toArray, List.getElem_cons_succ, List.getElem_cons_zero, List.setIfInBounds_toArray, List.set_cons_zero, List.set_cons_succ] at hInv ⊢
      refine wpAnyK_pure (i := 2) (v := ?_) rfl (by kernel_rfl) (by kernel_rfl) (by kernel_rfl) (by kernel_rfl) (fun _ _ _ h => h) hInv (Or.inl ⟨by rfl, ?_⟩) (fun _ => hHeld) ?_
      rotate_left
      · (intro w hSw; (try dsimp only at hSw); go_simp; (try with_reducible rfl))
      intro hInv
      try simp only [Act.put, List.getElem_toArray, List.getElem_cons_succ, List.getElem_cons_zero, List.setIfInBounds_toArray, List.set_cons_zero, List.set_cons_succ] at hInv ⊢
      refine wpAnyK_pure (i := 3) (v := ?_) rfl (by kernel_rfl) (by kernel_rfl) (by kernel_rfl) (by kernel_rfl) (fun _ _ _ h => h) hInv (Or.inl ⟨by rfl, ?_⟩) (fun _ => hHeld) ?_
      rotate_left
      · (intro w hSw; (try dsimp only at hSw); go_simp; (try with_reducible rfl))
      intro hInv
      try simp only [Act.put, List.getElem_toArray, List.getElem_cons_succ, List.getElem_cons_zero, List.setIfInBounds_toArray, List.set_cons_zero, List.set_cons_succ] at hInv ⊢
      refine wpAnyK_pure (i := 4) (v := ?_) rfl (by kernel_rfl) (by kernel_rfl) (by kernel_rfl) (by kernel_rfl) (fun _ _ _ h => h) hInv (Or.inl ⟨by rfl, ?_⟩) (fun _ => hHeld) ?_
      rotate_left
      · (intro w hSw; (try dsimp only at hSw); go_simp; (try with_reducible rfl))
      intro hInv
      try simp only [Act.put, List.getElem_toArray, List.getElem_cons_succ, List.getElem_cons_zero, List.setIfInBounds_toArray, List.set_cons_zero, List.set_cons_succ] at hInv ⊢
      refine wpAnyK_load (i := 5) (v := ?_) rfl (by kernel_rfl) (by kernel_rfl) (by kernel_rfl) (by kernel_rfl) (by kernel_rfl) (fun _ _ _ h => h) hInv (Or.inl ⟨by rfl, ?_⟩) hHeld ?_
      rotate_left
      · (intro w hSw; (try dsimp only at hSw); go_simp; (try with_reducible rfl))
      intro hInv
      try simp only [Act.put, List.getElem_toArray, List.getElem_cons_succ, List.getElem_cons_zero, List.setIfInBounds_toArray, List.set_cons_zero, List.set_cons_succ] at hInv ⊢
      refine wpAnyK_pure (i := 6) (v := ?_) rfl (by kernel_rfl) (by kernel_rfl) (by kernel_rfl) (by kernel_rfl) (fun _ _ _ h => h) hInv (Or.inl ⟨by rfl, ?_⟩) (fun _ => hHeld) ?_
      rotate_left
      · (intro w hSw; (try dsimp only at hSw); go_simp; (try with_reducible rfl))
      intro hInv
      try simp only [Act.put, List.getElem_toArray, List.getElem_cons_succ, List.getElem_cons_zero, List.setIfInBounds_toArray, List.set_cons_zero, List.set_cons_succ] at hInv ⊢
      refine wpAnyK_pure (i := 7) (v := ?_) rfl (by kernel_rfl) (by kernel_rfl) (by kernel_rfl) (by kernel_rfl) (fun _ _ _ h => h) hInv (Or.inl ⟨by rfl, ?_⟩) (fun _ => hHeld) ?_
      rotate_left
      · (intro w hSw; (try dsimp only at hSw); go_simp; (try with_reducible rfl))
      intro hInv
      try simp only [Act.put, List.getElem_toArray, List.getElem_cons_succ, List.getElem_cons_zero, List.setIfInBounds_toArray, List.set_cons_zero, List.set_cons_succ] at hInv ⊢
      refine wpAnyK_pure (i := 8) (v := ?_) rfl (by kernel_rfl) (by kernel_rfl) (by kernel_rfl) (by kernel_rfl) (fun _ _ _ h => h) hInv (Or.inl ⟨by rfl, ?_⟩) (fun _ => hHeld) ?_
      rotate_left
      · (intro w hSw; (try dsimp only at hSw); go_simp; (try with_reducible rfl))
      intro hInv
      try simp only [Act.put, List.getElem_toArray, List.getElem_cons_succ, List.getElem_cons_zero, List.setIfInBounds_toArray, List.set_cons_zero, List.set_cons_succ] at hInv ⊢
      refine wpAnyK_load (i := 9) (v := ?_) rfl (by kernel_rfl) (by kernel_rfl) (by kernel_rfl) (by kernel_rfl) (by kernel_rfl) (fun _ _ _ h => h) hInv (Or.inl ⟨by rfl, ?_⟩) hHeld ?_
      rotate_left
      · (intro w hSw; (try dsimp only at hSw); go_simp; (try with_reducible rfl))
      intro hInv
      try simp only [Act.put, List.getElem_toArray, List.getElem_cons_succ, List.getElem_cons_zero, List.setIfInBounds_toArray, List.set_cons_zero, List.set_cons_succ] at hInv ⊢
      refine wpAnyK_pure (i := 11) (v := ?_) rfl (by kernel_rfl) (by kernel_rfl) (by kernel_rfl) (by kernel_rfl) (fun _ _ _ h => h) hInv (Or.inl ⟨by rfl, ?_⟩) (fun _ => hHeld) ?_
      rotate_left
      · (intro w hSw; (try dsimp only at hSw); go_simp; (try with_reducible rfl))
      intro hInv
      try simp only [Act.put, List.getElem_toArray, List.getElem_cons_succ, List.getElem_cons_zero, List.setIfInBounds_toArray, List.set_cons_zero, List.set_cons_succ] at hInv ⊢
      refine wpAnyK_pure (i := 12) (v := ?_) rfl (by kernel_rfl) (by kernel_rfl) (by kernel_rfl) (by kernel_rfl) (fun _ _ _ h => h) hInv (Or.inl ⟨by rfl, ?_⟩) (fun _ => hHeld) ?_
      rotate_left
      · (intro w hSw; (try dsimp only at hSw); go_simp; (try with_reducible rfl))
      intro hInv
      try simp only [Act.put, List.getElem_toArray, List.getElem_cons_succ, List.getElem_cons_zero, List.setIfInBounds_toArray, List.set_cons_zero, List.set_cons_succ] at hInv ⊢
      refine wpAnyK_pure (i := 13) (v := ?_) rfl (by kernel_rfl) (by kernel_rfl) (by kernel_rfl) (by kernel_rfl) (fun _ _ _ h => h) hInv (Or.inl ⟨by rfl, ?_⟩) (fun _ => hHeld) ?_
      rotate_left
      · (intro w hSw; (try dsimp only at hSw); go_simp; (try with_reducible rfl))
      intro hInv
      try simp only [Act.put, List.getElem_toArray, List.getElem_cons_succ, List.getElem_cons_zero, List.setIfInBounds_toArray, List.set_cons_zero, List.set_cons_succ] at hInv ⊢
      refine wpAnyK_load (i := 14) (v := ?_) rfl (by kernel_rfl) (by kernel_rfl) (by kernel_rfl) (by kernel_rfl) (by kernel_rfl) (fun _ _ _ h => h) hInv (Or.inl ⟨by rfl, ?_⟩) hHeld ?_
      rotate_left
      · (intro w hSw; (try dsimp only at hSw); go_simp; (try with_reducible rfl))
      intro hInv
      try simp only [Act.put, List.getElem_toArray, List.getElem_cons_succ, List.getElem_cons_zero, List.setIfInBounds_toArray, List.set_cons_zero, List.set_cons_succ] at hInv ⊢
      refine wpAnyK_pure (i := 15) (v := ?_) rfl (by kernel_rfl) (by kernel_rfl) (by kernel_rfl) (by kernel_rfl) (fun _ _ _ h => h) hInv (Or.inl ⟨by rfl, ?_⟩) (fun _ => hHeld) ?_
      rotate_left
      · (intro w hSw; (try dsimp only at hSw); go_simp; (try with_reducible rfl))
      intro hInv
      try simp only [Act.put, List.getElem_toArray, List.getElem_cons_succ, List.getElem_cons_zero, List.setIfInBounds_toArray, List.set_cons_zero, List.set_cons_succ] at hInv ⊢
      refine wpAnyK_pure (i := 16) (v := ?_) rfl (by kernel_rfl) (by kernel_rfl) (by kernel_rfl) (by kernel_rfl) (fun _ _ _ h => h) hInv (Or.inl ⟨by rfl, ?_⟩) (fun _ => hHeld) ?_
      rotate_left
      · (intro w hSw; (try dsimp only at hSw); go_simp; (try with_reducible rfl))
      intro hInv
      try simp only [Act.put, List.getElem_toArray, List.getElem_cons_succ, List.getElem_cons_zero, List.setIfInBounds_toArray, List.set_cons_zero, List.set_cons_succ] at hInv ⊢
      refine wpAnyK_pure (i := 17) (v := ?_) rfl (by kernel_rfl) (by kernel_rfl) (by kernel_rfl) (by kernel_rfl) (fun _ _ _ h => h) hInv (Or.inl ⟨by rfl, ?_⟩) (fun _ => hHeld) ?_
      rotate_left
      · (intro w hSw; (try dsimp only at hSw); go_simp; (try with_reducible rfl))
      intro hInv
      try simp only [Act.put, List.getElem_toArray, List.getElem_cons_succ, List.getElem_cons_zero, List.setIfInBounds_toArray, List.set_cons_zero, List.set_cons_succ] at hInv ⊢
      refine wpAnyK_load (i := 18) (v := ?_) rfl (by kernel_rfl) (by kernel_rfl) (by kernel_rfl) (by kernel_rfl) (by kernel_rfl) (fun _ _ _ h => h) hInv (Or.inl ⟨by rfl, ?_⟩) hHeld ?_
      rotate_left
      · (intro w hSw; (try dsimp only at hSw); go_simp; (try with_reducible rfl))
      intro hInv
      try simp only [Act.put, List.getElem_toArray, List.getElem_cons_succ, List.getElem_cons_zero, List.setIfInBounds_toArray, List.set_cons_zero, List.set_cons_succ] at hInv ⊢
      -- operation 10: Op.call { builtin append, args := #[t45, t49], argTypes := #
      refine wpAnyK_one (i := 10) (by kernel_rfl) rfl hInv (fun K hK => ?_)
      refine step_append_row rfl _ _ 28 rfl B 35 i0 (.agg #[.string ⟨#[]⟩, .int .i64 0, .int .i64 0]) 3 32 Try.underlying28 hi0 hz0 hz1 hz2 rfl (by decide) (.slice KA' ma kca') ma (ecs (ka ++ kx)) HO3.out.1 (by rfl) KB mb kcb (ecs kb) (by rfl) (by rw [ecs_len, HN3.out.2.1]) HO3.out.2.1.1 HO3.out.2.1.2 (ecs_one _) (by simp [maxLen]; omega) (by omega) HO3.out.2.2.2 ?_
      intro A5 c5 w5 hR5
      obtain ⟨t0, t1, t2, t3, hk5, hr5⟩ := HS5.out A5 c5 w5 hR5
      have HR5 := Lib.hid (And.intro hR5 (And.intro hk5 hr5))
      clear hR5 hk5 hr5
      have hHeld := And.intro t0 (And.intro t1 (And.intro t2 t3))
      refine hK.out _ _ (fun _ => hHeld) (fun hInv => ?_)
      clear hK K
      try simp only [Act.put, List.getElem_toArray, List.getElem_cons_succ, List.getElem_cons_zero, List.setIfInBounds_toArray, List.set_cons_zero, List.set_cons_succ] at hInv ⊢
      -- operation 19: Op.call { builtin append, args := #[t54, t58], argTypes := #
      refine wpAnyK_one (i := 19) (by kernel_rfl) rfl hInv (fun K hK => ?_)
      refine step_append_row rfl _ _ 59 rfl B 70 j0 (.pointer none) 1 8 Try.underlying59 hj0 hy0 hy1 hy2 rfl (by decide) (.slice IA' la ica') la (pcs pa) HR5.out.2.1 (by rfl) IB lb icb (pcs pb) (by rfl) (by rw [pcs_len, HN3.out.2.2.2, Nat.mul_one]) HO3.out.2.2.1 HR5.out.2.2.2 (pcs_one _) (by simp [maxLen]; omega) (by omega) HR5.out.2.2.1 ?_
      intro A6 c6 w6 hR6
      obtain ⟨t0, t1, t2, t3, f0, f1⟩ := HS6.out A5 c5 w5 HR5.out.1 A6 c6 w6 hR6
      have HR6 := Lib.hid hR6
      clear hR6
      have hHeld := And.intro t0 (And.intro t1 (And.intro t2 t3))
      refine hK.out _ _ (fun _ => hHeld) (fun hInv => ?_)
      clear hK K
      try simp only [Act.put, List.getElem_toArray, List.getElem_cons_succ, List.getElem_cons_zero, List.setIfInBounds_toArray, List.set_cons_zero, List.set_cons_succ] at hInv ⊢
      refine wpAnyK_pure (i := 20) (v := ?_) rfl (by kernel_rfl) (by kernel_rfl) (by kernel_rfl) (by kernel_rfl) (fun _ _ _ h => h) hInv (Or.inl ⟨by rfl, ?_⟩) (fun _ => hHeld) ?_
      rotate_left
      · (intro w hSw; (try dsimp only at hSw); go_simp; (try with_reducible rfl))
      intro hInv
      try simp only [Act.put, List.getElem_toArray, List.getElem_cons_succ, List.getElem_cons_zero, List.setIfInBounds_toArray, List.set_cons_zero, List.set_cons_succ] at hInv ⊢
      refine wpAnyK_pure (i := 21) (v := ?_) rfl (by kernel_rfl) (by kernel_rfl) (by kernel_rfl) (by kernel_rfl) (fun _ _ _ h => h) hInv (Or.inl ⟨by rfl, ?_⟩) (fun _ => hHeld) ?_
      rotate_left
      · (intro w hSw; (try dsimp only at hSw); go_simp; (try with_reducible rfl))
      intro hInv
      try simp only [Act.put, List.getElem_toArray, List.getElem_cons_succ, List.getElem_cons_zero, List.setIfInBounds_toArray, List.set_cons_zero, List.set_cons_succ] at hInv ⊢
      -- operation 22: Op.store 28 t61 t50
      refine wpAnyK_one (i := 22) (by kernel_rfl) rfl hInv (fun K hK => ?_)
      go_simp
      refine hK.out _ _ (fun h => absurd (show true = false from h) (by decide)) (fun hInv => ?_)
      clear hK K
      try simp only [Act.put, List.getElem_toArray, List.getElem_cons_succ, List.getElem_cons_zero, List.setIfInBounds_toArray, List.set_cons_zero, List.set_cons_succ] at hInv ⊢
      refine wpAnyK_pure (i := 23) (v := ?_) rfl (by kernel_rfl) (by kernel_rfl) (by kernel_rfl) (by kernel_rfl) (fun _ _ _ h => h) hInv (Or.inl ⟨by rfl, ?_⟩) (fun h => absurd (show true = false from h) (by decide)) ?_
      rotate_left
      · (intro w hSw; (try dsimp only at hSw); go_simp; (try with_reducible rfl))
      intro hInv
      try simp only [Act.put, List.getElem_toArray, List.getElem_cons_succ, List.getElem_cons_zero, List.setIfInBounds_toArray, List.set_cons_zero, List.set_cons_succ] at hInv ⊢
      refine wpAnyK_pure (i := 24) (v := ?_) rfl (by kernel_rfl) (by kernel_rfl) (by kernel_rfl) (by kernel_rfl) (fun _ _ _ h => h) hInv (Or.inl ⟨by rfl, ?_⟩) (fun h => absurd (show true = false from h) (by decide)) ?_
      rotate_left
      · (intro w hSw; (try dsimp only at hSw); go_simp; (try with_reducible rfl))
      intro hInv
      try simp only [Act.put, List.getElem_toArray, List.getElem_cons_succ, List.getElem_cons_zero, List.setIfInBounds_toArray, List.set_cons_zero, List.set_cons_succ] at hInv ⊢
      -- operation 25: Op.store 59 t63 t59
      refine wpAnyK_one (i := 25) (by kernel_rfl) rfl hInv (fun K hK => ?_)
      go_simp
      refine hK.out _ _ (fun h => absurd (show true = false from h) (by decide)) (fun hInv => ?_)
      clear hK K
      try simp only [Act.put, List.getElem_toArray, List.getElem_cons_succ, List.getElem_cons_zero, List.setIfInBounds_toArray, List.set_cons_zero, List.set_cons_succ] at hInv ⊢
      refine wpAnyK_done (by kernel_rfl) ?_ _
      go_wp2_with fail
      go_meet
      have hwn := HX.out.1.new (KA' := A5) (Kc' := c5) (IA' := A6) (Ic' := c6) (ks' := ka ++ (kx ++ kb)) (ps' := pa ++ pb) (w6 := w6) (cs6 := #[.slice KA' (ka ++ kx).length kca', .slice IA' pa.length ica']) (W := (w6.setCell ⟨a, 0, none⟩ (.slice A5 (ma + mb) c5)).setCell ⟨a, 1, none⟩ (.slice A6 (la + lb) c6)) (by have := HW1.out.size; have := HX.out.2.2.1.size; omega)
        (((Chg.undrew HR5.out.1.chg).mono fun k _ h => HX.out.1.dk k (ob h)).trans (HR6.out.chg.mono fun k _ h => HX.out.1.di k (ob h)))
        ((HX.out.1.x.blk.chg ((Chg.undrew HR5.out.1.chg).mono fun k _ (h : _ = some k) => (ob h : (Value.slice KA' (ka ++ kx).length kca').ownBlock = some k)) HX.out.2.2.2.2.1).chg (HR6.out.chg.mono fun k _ (h : _ = some k) => (ob h : (Value.slice IA' pa.length ica').ownBlock = some k)) HX.out.2.2.2.2.2.1)
        (by
          have hlen : (ka ++ (kx ++ kb)).length = ma + mb := by rw [HN3.out.1, ← HN3.out.2.1]; simp; omega
          rw [hlen, ← List.append_assoc, ecs_append]
          exact own_chg HR5.out.1.own HR6.out.chg fun k hk h => by
            obtain ⟨c1, hc1⟩ := own_row HR5.out.1.own k hk
            exact own_ne HR5.out.2.1 hc1 (by decide) h)
        (fun k hk => (HR5.out.1.blk k (ob hk)).imp (fun h => HX.out.1.dk k (ob h)) id)
        (by
          have hlen : (pa ++ pb).length = la + lb := by rw [HN3.out.2.2.1, ← HN3.out.2.2.2]; simp
          rw [hlen, pcs_append]
          exact HR6.out.own)
        (fun k hk => (HR6.out.blk k (ob hk)).imp (fun h => HX.out.1.di k (ob h)) fun h => Nat.le_trans HR5.out.1.chg.size h)
        (((Chg.refl (fun k => k = a) w6).setCell (fun _ => rfl) _).setCell (fun _ => rfl) _)
        (by
          have hlen : (ka ++ (kx ++ kb)).length = ma + mb := by rw [HN3.out.1, ← HN3.out.2.1]; simp; omega
          have hlen2 : (pa ++ pb).length = la + lb := by rw [HN3.out.2.2.1, ← HN3.out.2.2.2]; simp
          rw [hlen, hlen2]
          exact ((((HX.out.1.x.blk.chg ((Chg.undrew HR5.out.1.chg).mono fun k _ (h : _ = some k) => (ob h : (Value.slice KA' (ka ++ kx).length kca').ownBlock = some k)) HX.out.2.2.2.2.1).chg (HR6.out.chg.mono fun k _ (h : _ = some k) => (ob h : (Value.slice IA' pa.length ica').ownBlock = some k)) HX.out.2.2.2.2.2.1).put 0 _).put 1 _))
      exact ⟨HX.out.2.1.chg hwn.2 HX.out.2.2.2.1, ⟨_, _, _, _, _, hwn.1⟩, hwn.2⟩
    case rest =>
      rename World => wx
      obtain ⟨hPx, hAx, hCx⟩ := hcut
      have hBx : B ≤ wx.heap.size := by have := HW1.out.size; have := HX.out.2.2.1.size; have := hCx.size; omega
      obtain ⟨p0, p1⟩ := hPx.cells
      obtain ⟨nk, hnk⟩ : ∃ nk, nk = ks.length := ⟨_, rfl⟩
      obtain ⟨nq, hnq⟩ : ∃ nq, nq = ps.length := ⟨_, rfl⟩
      have HD7 := Lib.hid (edel_any hPx.x.keys (ecs_one _) (i := i) (j := i + 1) (by omega) (by omega) (by omega))
      rw [show i + 1 - i = 1 by omega] at HD7
      rw [← hnk] at p0 HD7
      rw [← hnq] at p1
      have hlx : (ks.take i ++ ks.drop (i + 1)).length = nk - 1 := by rw [hnk, List.length_append, List.length_take, List.length_drop]; omega
      have hex : (ecs ks).take (i * 3) ++ (ecs ks).drop ((i + 1) * 3) = ecs (ks.take i ++ ks.drop (i + 1)) := by rw [ecs_take, ecs_drop, ecs_append]
      have hS7 : ∀ w7, RowTo B 35 3 (.slice KP nk kcp) wx (.slice KP (nk - 1) kcp) (nk - 1) ((ecs ks).take (i * 3) ++ (ecs ks).drop ((i + 1) * 3)) w7 →
          (PgD B (Ext D0 wx (w7.setCell ⟨b, 0, none⟩ (.slice KP (nk - 1) kcp))) (w7.setCell ⟨b, 0, none⟩ (.slice KP (nk - 1) kcp)) b tp KP kcp IP icp (ks.take i ++ ks.drop (i + 1)) ps ∧ Chg D0 wx (w7.setCell ⟨b, 0, none⟩ (.slice KP (nk - 1) kcp))) ∧ w7.cell? ⟨b, 0, none⟩ = some (.slice KP nk kcp) ∧ w7.frozen? ⟨b, 0, none⟩ = false := by
        intro w7 hR
        rw [hex] at hR
        have h1 := hPx.putKeys (ks' := ks.take i ++ ks.drop (i + 1)) (KA' := KP) (Kc' := kcp) hBx (by rw [hlx, ← hnk]; exact hR)
        rw [hlx] at h1
        have hbb := hPx.x.blk.chg (hR.chg.mono fun k _ (h : _ = some k) => (ob h : (Value.slice KP ks.length kcp).ownBlock = some k)) hPx.key_ne.1
        have cb := hbb.cell 0
        simp only [List.getElem?_toArray, List.getElem?_cons_zero] at cb
        exact ⟨h1, by rw [hnk]; exact cb, hbb.frozen 0⟩
      have HS7 := Lib.hid hS7
      have HN7 := Lib.hid (And.intro hnk hnq)
      have HXX := Lib.hid (And.intro hPx (And.intro hAx (And.intro hCx hBx)))
      have b6 : IntKind.i64.wrap ((i : Int) + 2) = (i : Int) + 2 := by rw [IntKind.wrap_i64]; omega
      have b7 : ((i : Int) + 1) + 1 = (i : Int) + 2 := by omega
      clear hPx hAx hCx hBx hnk hnq hlx hex hS7
      have hc1 : ((i + 1 : Nat) : Int) = (i : Int) + 1 := by omega
      rw [hc1] at HD7
      clear hc1
      go_wp2_with fail
      refine HD7.out.mono ?_
      rintro r w7 ⟨rfl, hR7⟩
      obtain ⟨⟨hP8, hC8⟩, p0', f0'⟩ := HS7.out w7 hR7
      obtain ⟨_, q1⟩ := hP8.cells
      rw [← HN7.out.2] at q1
      have HP8 := Lib.hid (And.intro hP8 hC8)
      obtain ⟨w8, hw8⟩ : ∃ w8, w8 = w7.setCell ⟨b, 0, none⟩ (.slice KP (nk - 1) kcp) := ⟨_, rfl⟩
      rw [← hw8] at HP8
      have hB8 : B ≤ w8.heap.size := Nat.le_trans HXX.out.2.2.2 HP8.out.2.size
      have HD9 := Lib.hid (pdel_any HP8.out.1.x.kids (pcs_one _) (i := i + 1) (j := i + 2) (by omega) (by omega) (by have := HL.out; omega))
      rw [show i + 2 - (i + 1) = 1 by omega] at HD9
      rw [← HN7.out.2] at HD9
      have hc1 : ((i + 1 : Nat) : Int) = (i : Int) + 1 := by omega
      have hc2 : ((i + 2 : Nat) : Int) = (i : Int) + 2 := by omega
      rw [hc1, hc2] at HD9
      have hlx : (ps.take (i + 1) ++ ps.drop (i + 2)).length = nq - 1 := by rw [HN7.out.2, List.length_append, List.length_take, List.length_drop]; omega
      have hex : (pcs ps).take ((i + 1) * 1) ++ (pcs ps).drop ((i + 2) * 1) = pcs (ps.take (i + 1) ++ ps.drop (i + 2)) := by simp [pcs]
      have hS9 : ∀ w9, RowTo B 70 1 (.slice IP nq icp) w8 (.slice IP (nq - 1) icp) (nq - 1) ((pcs ps).take ((i + 1) * 1) ++ (pcs ps).drop ((i + 2) * 1)) w9 →
          Joined B w b a D0 Da (ks.take i ++ ks.drop (i + 1)) (ps.take (i + 1) ++ ps.drop (i + 2)) (ka ++ (kx ++ kb)) (pa ++ pb) (w9.setCell ⟨b, 1, none⟩ (.slice IP (nq - 1) icp)) ∧ w9.cell? ⟨b, 1, none⟩ = some (.slice IP nq icp) ∧ w9.frozen? ⟨b, 1, none⟩ = false := by
        intro w9 hR
        rw [hex] at hR
        have h1 := HP8.out.1.putKids (ps' := ps.take (i + 1) ++ ps.drop (i + 2)) (IA' := IP) (Ic' := icp) hB8 (by rw [hlx, ← HN7.out.2]; exact hR)
        rw [hlx] at h1
        have hbb := HP8.out.1.x.blk.chg (hR.chg.mono fun k _ (h : _ = some k) => (ob h : (Value.slice IP ps.length icp).ownBlock = some k)) HP8.out.1.key_ne.2.1
        have cb := hbb.cell 1
        simp only [List.getElem?_toArray, List.getElem?_cons_zero, List.getElem?_cons_succ] at cb
        refine ⟨?_, by rw [HN7.out.2]; exact cb, hbb.frozen 1⟩
        have sw1 := HW1.out.size
        have swd := HX.out.2.2.1.size
        have swx := HXX.out.2.2.1.size
        have sw8 := HP8.out.2.size
        have sw9 := h1.2.size
        have hf0 := HP.out.foot
        have hfA := HXX.out.2.1.foot
        have dA : ∀ k, Ext D0 wx w8 k → ¬ Ext (Ext Da w1 wd) wd wx k := fun k h he => by
          have h9 := (hfA k he).2
          rcases h with h | h
          · rcases he with he | he
            · exact HX.out.2.2.2.1 k h he
            · have := (hf0 k h).2; omega
          · omega
        have dA2 : ∀ k, Ext (Ext D0 wx w8) w8 (w9.setCell ⟨b, 1, none⟩ (.slice IP (nq - 1) icp)) k → ¬ Ext (Ext Da w1 wd) wd wx k := fun k h he => by
          rcases h with h | h
          · exact dA k h he
          · have := (hfA k he).2; omega
        have cWx : Chg (fun k => D0 k ∨ Da k) w wx := ((Chg.of_below HW1.out).trans (HX.out.2.2.1.mono fun k _ h => .inr h)).trans' HXX.out.2.2.1 fun k hk h => by
          rcases h with h | h
          · exact .inr h
          · omega
        have cW8 : Chg (fun k => D0 k ∨ Da k) w w8 := cWx.trans (HP8.out.2.mono fun k _ h => .inl h)
        have cW9 := cW8.trans' h1.2 fun k hk h => by
          rcases h with h | h
          · exact .inl h
          · omega
        refine ⟨_, _, ⟨_, _, _, _, _, h1.1⟩, (HXX.out.2.1.chg HP8.out.2 fun k hk h => dA k (.inl h) hk).chg h1.2 fun k hk h => dA k h hk, dA2, fun k h => ?_, fun k h => ?_, cW9⟩
        · rcases h with (h | h) | h
          · exact .inl h
          · exact .inr ⟨by omega, by omega⟩
          · exact .inr ⟨by omega, h.2⟩
        · rcases h with (h | h) | h
          · exact .inl h
          · exact .inr ⟨by omega, by omega⟩
          · exact .inr ⟨by omega, by omega⟩
      have HS9 := Lib.hid hS9
      have b8 : (0 : Int) ≤ (i : Int) + 2 := by omega
      clear hR7 hP8 hC8 p0 p1 hS9 hex hlx hc1 hc2 hB8
      go_wp2_with fail
      rw [← hw8]
      clear hw8
      refine HD9.out.mono ?_
      rintro r w9 ⟨rfl, hR9⟩
      obtain ⟨hJ, p1', f1'⟩ := HS9.out w9 hR9
      have HJ := Lib.hid hJ
      clear hR9 hJ
      go_wp2_with fail
      go_end0
      exact ⟨rfl, HJ.out⟩
end Go.Proofs.Ytiaclfldgagalaa
