/-
  The document's order of things: below.
-/
import Derived.Test.YthbbheegkhlniaaGreatM27
namespace Go.Proofs.YthbbheegkhlniaaGreat
open Go.RowKit Go.Lib

/-- a thing whose texts are not too long to be compared -/
def Sm (t : Th) : Prop := t.t.size ≤ 1000 ∧ t.y.size ≤ 1000
theorem tx_says (s t : ByteArray) (w : World) (hs : s.size ≤ 1000) (ht : t.size ≤ 1000) : Says Tryz.prog 94 #[.string s, .string t] w (.int .i64 (cmpS s t)) :=
  (refTexts_any s t w (by omega) (by omega)).mono fun _ _ ⟨he, _, hw⟩ => ⟨he, drewN_below hw⟩
set_option maxRecDepth 100000 in
set_option maxHeartbeats 6400000 in
theorem rbelow_any (a b : Th) (w : World) (ha : Sm a) (hb : Sm b) : Says Tryz.prog 73 #[thV a, thV b] w (.bool (belowT a b)) := by
  obtain ⟨w1, hw1⟩ : ∃ w1, w1 = w.alloc (.cells #[.int .i64 a.k, .string a.t, .string a.y] 32) := ⟨_, rfl⟩
  obtain ⟨w2, hw2⟩ : ∃ w2, w2 = w1.alloc (.cells #[.int .i64 b.k, .string b.t, .string b.y] 32) := ⟨_, rfl⟩
  obtain ⟨p, hp⟩ : ∃ p, p = w.heap.size := ⟨_, rfl⟩
  obtain ⟨q, hq⟩ : ∃ q, q = w.heap.size + 1 := ⟨_, rfl⟩
  obtain ⟨hT, hB1⟩ := tg_new w a
  rw [← hw1] at hT hB1
  have hs1 : w1.heap.size = w.heap.size + 1 := by rw [hw1]; simp
  obtain ⟨hU, hB2⟩ := tg_new w1 b
  rw [← hw2, hs1] at hU
  rw [← hw2] at hB2
  have hT2 := hT.below hB2 (by omega)
  have hs2 : w2.heap.size = w.heap.size + 2 := by rw [hw2]; simp; omega
  rw [← hp] at hT2
  rw [← hq] at hU
  have HB := Lib.hid (And.intro (hB1.trans (hB2.mono hB1.size)) (And.intro hT2 (And.intro hU (And.intro (show p < w2.heap.size by omega) (show q < w2.heap.size by omega)))))
  have HW := Lib.hid (And.intro hw1 (And.intro hw2 (And.intro hp hq)))
  have HT := Lib.hid (And.intro (fun w => tx_says a.t b.t w ha.1 hb.1) (fun w => tx_says a.y b.y w ha.2 hb.2))
  have a0 := hT2.k
  have a1 := hT2.t
  have a2 := hT2.y
  have b0 := hU.k
  have b1 := hU.t
  have b2 := hU.y
  obtain ⟨r, hr⟩ : ∃ r, r = belowT a b := ⟨_, rfl⟩
  rw [← hr]
  unfold belowT at hr
  have HR := Lib.hid hr
  clear hT hB1 hB2 hT2 hU hw1 hw2 ha hb hr hs1 hs2
  by_cases hk : a.k = b.k
  · have q1 : (a.k != b.k) = false := by simp [hk]
    have HR2 := Lib.hid (show r = if cmpS a.t b.t ≠ 0 then decide (cmpS a.t b.t < 0) else decide (cmpS a.y b.y < 0) by rw [HR.out, if_neg (by simpa using hk)])
    obtain ⟨x, hx⟩ : ∃ x, x = cmpS a.t b.t := ⟨_, rfl⟩
    obtain ⟨y, hy⟩ : ∃ y, y = cmpS a.y b.y := ⟨_, rfl⟩
    have HXY := Lib.hid (And.intro hx hy)
    clear hk hx hy
    by_cases h0 : x = 0
    · have q2 : (x != 0) = false := by simp [h0]
      have HR3 := Lib.hid (show r = decide (y < 0) by rw [HR2.out, ← HXY.out.1, ← HXY.out.2, if_neg (by simpa using h0)])
      clear h0
      go_enter Tryz.func73, Tryz.ntmps73
      go_upto_region 1 with fail
      rw [← HW.out.1, ← HW.out.2.1, ← hq, ← hp]; clear hp hq
      go_upto_region 4 with (go_at_call 94; refine (HT.out.1 _).mono ?_; rw [← HXY.out.1]; rintro e w3 ⟨rfl, hb3⟩; have H3 := Lib.hid (HB.out.1.trans (hb3.mono HB.out.1.size)); have a2 := (HB.out.2.1.below hb3 HB.out.2.2.2.1).y; have b2 := (HB.out.2.2.1.below hb3 HB.out.2.2.2.2).y; clear hb3)
      go_wp2_with (go_at_call 94; refine (HT.out.2 _).mono ?_; rw [← HXY.out.2]; rintro e w4 ⟨rfl, hb4⟩; have H4 := Lib.hid (H3.out.trans (hb4.mono H3.out.size)); clear hb4)
      go_ret
      exact ⟨by rw [HR3.out]; rfl, H4.out⟩
    · have q2 : (x != 0) = true := by simp [h0]
      have HR3 := Lib.hid (show r = decide (x < 0) by rw [HR2.out, ← HXY.out.1, if_pos h0])
      clear h0
      go_enter Tryz.func73, Tryz.ntmps73
      go_upto_region 1 with fail
      rw [← HW.out.1, ← HW.out.2.1, ← hq, ← hp]; clear hp hq
      go_wp2_with (go_at_call 94; refine (HT.out.1 _).mono ?_; rw [← HXY.out.1]; rintro e w3 ⟨rfl, hb3⟩; have H3 := Lib.hid (HB.out.1.trans (hb3.mono HB.out.1.size)); clear hb3)
      go_ret
      exact ⟨by rw [HR3.out]; rfl, H3.out⟩
  · have q1 : (a.k != b.k) = true := by simp [hk]
    have HR2 := Lib.hid (show r = decide (a.k < b.k) by rw [HR.out, if_pos hk])
    clear hk
    go_enter Tryz.func73, Tryz.ntmps73
    go_upto_region 1 with fail
    rw [← HW.out.1, ← HW.out.2.1, ← hq, ← hp]; clear hp hq
    go_wp2_with fail
    go_ret
    exact ⟨by rw [HR2.out]; rfl, HB.out.1⟩
end Go.Proofs.YthbbheegkhlniaaGreat

/-
  The document's put: a thing more in order. Written by genrkl.py.
-/
namespace Go.Proofs.YthbbheegkhlniaaGreat
open Go.RowKit Go.Lib

theorem Tryz.infoth : (Tryz.prog.info? 32).map (fun i => (i.zero, i.size, i.bytes)) = some (some (.agg #[.int .i64 0, .string ⟨#[]⟩, .string ⟨#[]⟩]), 3, 40) := by kernel_rfl
/-- a thing of a row -/
theorem th_at {w : World} {B : Nat} {A : Option Addr} {l : List Th} (h : RowG thC 3 w B A l) {i : Nat} (hi : i < l.length) : ∃ ad, A = some ad ∧ ad.block < B ∧ w.cell? (ad.add (i * 3)) = some (.int .i64 l[i].k) ∧ w.cell? ⟨(ad.add (i * 3)).block, (ad.add (i * 3)).off + 1, none⟩ = some (.string l[i].t) ∧ w.cell? ⟨(ad.add (i * 3)).block, (ad.add (i * 3)).off + 2, none⟩ = some (.string l[i].y) := by
  obtain ⟨ad, rfl, hlt⟩ := h.lo (by omega)
  have get : ∀ j u, (thC l[i])[j]? = some u → w.cell? (ad.add (i * 3 + j)) = some u := fun j u hu => by
    obtain ⟨ad', e, hc⟩ := h.cell i hi j u hu
    obtain rfl := Option.some.inj e
    exact hc
  have addr_field : ∀ (a : Addr) (j : Nat), 0 < j → (⟨a.block, a.off + j, none⟩ : Addr) = a.add j := fun a j hj => by unfold Addr.add; rw [if_neg (by omega)]
  refine ⟨ad, rfl, hlt, get 0 _ rfl, ?_, ?_⟩
  · rw [addr_field _ _ (by omega), addr_add]; exact get 1 _ rfl
  · rw [addr_field _ _ (by omega), addr_add]; exact get 2 _ rfl
theorem Ow.pushT {w0 w w' : World} {m m2 : Nat} {v v' : Value} {xs : List Th} {x : Th} {cs : Array Value} (h : Ow w0 w 32 3 v m (ths xs)) (hR : RowTo w0.heap.size 32 3 v (w.alloc (.cells cs 32)) v' m2 (ths xs ++ thC x) w') : Ow w0 w' 32 3 v' m2 (ths (xs ++ [x])) := by
  rw [show ths (xs ++ [x]) = ths xs ++ thC x by simp [ths]]
  exact h.stepA hR
theorem Ow.box {w0 w w' : World} {m m2 b : Nat} {v v' : Value} {xs ys : List Value} {cs : Array Value} {t : Th} (_ : Ow w0 w 32 3 v m xs) (hR : RowTo w0.heap.size 32 3 v (w.alloc (.cells cs 32)) v' m2 ys w') (hb : Blk w b 32 #[.int .i64 t.k, .string t.t, .string t.y]) (hne : v.ownBlock ≠ some b) : Blk w' b 32 #[.int .i64 t.k, .string t.t, .string t.y] := (hb.alloc _).chg hR.chg hne
theorem nb_step {w0 w w' : World} {m2 b : Nat} {v v' : Value} {ys : List Value} {cs : Array Value} {e ty : TypeId} {s : Nat} (hR : RowTo w0.heap.size e s v (w.alloc (.cells cs ty)) v' m2 ys w') (hne : v.ownBlock ≠ some b) (hb : b < w.heap.size) : v'.ownBlock ≠ some b := fun hh => by
  rcases hR.blk b hh with h | h
  · exact hne h
  · simp at h; omega
theorem Ow.lo {w0 w : World} {A : Option Addr} {m c s : Nat} {e : TypeId} {xs : List Value} (h : Ow w0 w e s (.slice A m c) m xs) : ∀ ad m' z', Value.slice A m c = .slice (some ad) m' z' → w0.heap.size ≤ ad.block := by
  intro ad m' z' e
  injection e with e1 _ _
  subst e1
  rcases own_form2 h.own with ⟨h1, _⟩ | ⟨g, h1⟩
  · cases h1
  · injection h1 with h1
    subst h1
    exact (h.own.lt g rfl).1
theorem Ow.gT {w0 w : World} {A : Option Addr} {m c : Nat} {xs : List Th} (h : Ow w0 w 32 3 (.slice A m c) m (ths xs)) (hm : m = xs.length) : RowG thC 3 w w.heap.size A xs := RowG.of_rows (fun _ => rfl) h.own hm
/-- a row of things is there to be read -/
def ThsRd (w' : World) (xs : List Th) (v : Value) : Prop := ∃ A n c, v = .slice A n c ∧ n = xs.length ∧ n ≤ c ∧ RowG thC 3 w' w'.heap.size A xs
set_option maxRecDepth 100000 in
set_option maxHeartbeats 12800000 in
theorem rput_any {B n c : Nat} {A : Option Addr} {w : World} {l : List Th} (h : RowG thC 3 w B A l) (hB : B ≤ w.heap.size) (hn : n = l.length) (hnc : n ≤ c) (hl : l.length ≤ 1000000) (hsm : ∀ y ∈ l, Sm y) (t : Th) (ht : Sm t) :
    Calls Tryz.prog 50 #[.slice A n c, thV t] w fun r w' => ∃ v, r = .returned v ∧ ThsRd w' (putT l t) v ∧ Below w.heap.size w w' ∧ ∀ ad m' z', v = .slice (some ad) m' z' → A = some ad ∨ w.heap.size ≤ ad.block := by
  have hmix : Tryz.prog.follows .mixedOrders = true := by kernel_rfl
  obtain ⟨i0, hi, hz0, hz1, hz2⟩ := info_parts Tryz.infoth
  obtain ⟨w1, hw1⟩ : ∃ w1, w1 = w.alloc (.cells #[.int .i64 t.k, .string t.t, .string t.y] 32) := ⟨_, rfl⟩
  obtain ⟨b, hb⟩ : ∃ b, b = w.heap.size := ⟨_, rfl⟩
  obtain ⟨w2, hw2⟩ : ∃ w2, w2 = w1.alloc (.cells #[] 32) := ⟨_, rfl⟩
  have hB1 : Below w.heap.size w w1 := by rw [hw1]; exact (Below.refl _ w).alloc (Nat.le_refl _) _
  have hO : Ow w w2 32 3 (.slice (some ⟨w1.heap.size, 0, none⟩) 0 0) 0 (ths []) := by
    have h1 := Ow.new w1 32 3
    rw [← hw2] at h1
    exact ⟨hB1.trans (h1.low.mono hB1.size), own_to_lt h1.own hB1.size⟩
  have hb2 : Below w1.heap.size w1 w2 := by rw [hw2]; exact (Below.refl _ w1).alloc (Nat.le_refl _) _
  have hK : Blk w2 b 32 #[.int .i64 t.k, .string t.t, .string t.y] := by
    have h1 : Blk w1 b 32 #[.int .i64 t.k, .string t.t, .string t.y] := by rw [hw1, hb]; exact Blk.new _ _ _
    exact h1.below hb2 h1.lt
  have HW := Lib.hid (And.intro hw1 (And.intro hb hw2))
  have HO := Lib.hid hO
  have HK := Lib.hid hK
  have hnn : n ≤ 1000000 := by omega
  have hn0 : (0 : Int) ≤ (n : Int) := Int.natCast_nonneg _
  have H := Lib.hid (And.intro (h.more hB) (And.intro hn (And.intro hnc (And.intro hsm (And.intro ht (show w.heap.size ≤ b by omega))))))
  clear h hB hn hnc hl hO hw1 hw2 hB1 hb2 hK hsm ht
  go_enter Tryz.func50, Tryz.ntmps50
  go_upto_region 1 with fail
  rw [← hb, ← HW.out.1]; clear hb
  go_upto_region 2 with fail
  rw [← HW.out.2.2]
  go_wp2_with fail
  go_loopw [5, 6, 7] (fun ov dv iv wr => ∃ (k m c' : Nat) (A' : Option Addr) (d : Bool) (out : List Th), k ≤ n ∧ iv = .int .i64 k ∧ dv = .bool d ∧ ov = .slice A' m c' ∧ m = out.length ∧ m ≤ 2 * k ∧ (∀ i (hi : i < l.length), i < k → l[i] ≠ t) ∧ putGo belowT t false l = out ++ putGo belowT t d (l.drop k) ∧ Ow w wr 32 3 (.slice A' m c') m (ths out) ∧ Blk wr b 32 #[.int .i64 t.k, .string t.t, .string t.y] ∧ (Value.slice A' m c').ownBlock ≠ some b) (fun _ _ iv _ => n - (intOf iv).toNat)
  case atStart => exact ⟨0, 0, 0, _, false, [], Nat.zero_le _, rfl, rfl, rfl, rfl, by omega, fun _ _ h => absurd h (by omega), rfl, HO.out, HK.out, fun e => by simp [Value.ownBlock] at e; have := HK.out.lt; have := HW.out.2.1; have := HW.out.1; subst this; simp at e; omega⟩
  case round =>
    obtain ⟨k, m, c', A', d, out, hk, rfl, rfl, rfl, hm, hmk, hno, hat, hOw, hKr, hnb⟩ := hrel
    have hk0 : (0 : Int) ≤ (k : Int) := Int.natCast_nonneg _
    have HOW := Lib.hid hOw
    have HKR := Lib.hid hKr
    have HNB := Lib.hid hnb
    have HAT := Lib.hid (And.intro hat (And.intro hno hm))
    clear hOw hat hno hm hKr hnb
    by_cases hlt : k < n
    · have hlt1 : (k : Int) < (n : Int) := by omega
      have hkl : k < l.length := by rw [← H.out.2.1]; exact hlt
      obtain ⟨ad, rfl, _, p0, p1, p2⟩ := th_at (H.out.1.below HOW.out.low (Nat.le_refl _)) hkl
      obtain ⟨y, hy⟩ : ∃ y, y = l[k] := ⟨_, rfl⟩
      rw [← hy] at p0 p1 p2
      have hdr : l.drop k = y :: l.drop (k + 1) := by rw [hy]; exact List.drop_eq_getElem_cons hkl
      have HY := Lib.hid (And.intro hy (And.intro hdr (H.out.2.2.2.1 y (by rw [hy]; exact List.getElem_mem hkl))))
      clear hy hdr
      have g0 : wr.cell? ⟨b, 0, none⟩ = some (.int .i64 t.k) := HKR.out.cell 0
      have g1 : wr.cell? ⟨b, 1, none⟩ = some (.string t.t) := HKR.out.cell 1
      have g2 : wr.cell? ⟨b, 2, none⟩ = some (.string t.y) := HKR.out.cell 2
      have d0 := BelowBy.cell p0
      have d1 := BelowBy.cell p1
      have d2 := BelowBy.cell p2
      have s0 := BelowBy.cell g0
      have s1 := BelowBy.cell g1
      have s2 := BelowBy.cell g2
      clear p0 p1 p2 g0 g1 g2
      by_cases he : y = t
      · have hq := eqTh_run y t true (decide_eq_true he)
        have HE := Lib.hid he
        clear he
        go_upto_region 6 with fail
        refine wp_region_below hmix (by kernel_rfl) ?_
        repeat (first | go_big_quiet_step (fail) | quiet_step (fail))
        refine wpQuiet_nil ?_
        intro wz hw'
        obtain ⟨pp, hw''⟩ := hw'
        obtain ⟨w3, hw3⟩ : ∃ w3, w3 = pp.w' := ⟨_, rfl⟩
        have hb3 : Below wr.heap.size wr w3 := by rw [hw3]; exact pp.h
        have HO3 := Lib.hid (HOW.out.below hb3)
        have HB3 := Lib.hid (HKR.out.below hb3 HKR.out.lt)
        rw [← hw3] at hw''
        subst wz
        clear d0 d1 d2 s0 s1 s2 hq hw3 hb3
        go_wp2_with fail
        go_ret
        have hin : t ∈ l := by rw [← HE.out, HY.out.1]; exact List.getElem_mem hkl
        refine ⟨_, rfl, ⟨_, _, _, rfl, ?_, H.out.2.2.1, ?_⟩, HO3.out.low, fun ad m' z' e => .inl (by injection e)⟩
        · unfold putT putL; rw [if_pos hin]; exact H.out.2.1
        · unfold putT putL; rw [if_pos hin]; exact (H.out.1.below HO3.out.low (Nat.le_refl _)).more HO3.out.low.size
      · have hq := eqTh_run y t false (decide_eq_false he)
        have HE := Lib.hid (show ∀ i (hi : i < l.length), i < k + 1 → l[i] ≠ t from fun i hi h => by
          rcases Nat.lt_or_ge i k with h1 | h1
          · exact HAT.out.2.1 i hi h1
          · obtain rfl : i = k := by omega
            rw [← HY.out.1]; exact he)
        clear he
        go_upto_region 6 with fail
        refine wp_region_below hmix (by kernel_rfl) ?_
        repeat (first | go_big_quiet_step (fail) | quiet_step (fail))
        refine wpQuiet_nil ?_
        intro wz hw'
        obtain ⟨pp, hw''⟩ := hw'
        obtain ⟨w3, hw3⟩ : ∃ w3, w3 = pp.w' := ⟨_, rfl⟩
        have hb3 : Below wr.heap.size wr w3 := by rw [hw3]; exact pp.h
        have HO3 := Lib.hid (HOW.out.below hb3)
        have HB3 := Lib.hid (HKR.out.below hb3 HKR.out.lt)
        rw [← hw3] at hw''
        subst wz
        clear d0 d1 d2 s0 s1 s2 hq hw3 hb3
        have g0 : w3.cell? ⟨b, 0, none⟩ = some (.int .i64 t.k) := HB3.out.cell 0
        have g1 : w3.cell? ⟨b, 1, none⟩ = some (.string t.t) := HB3.out.cell 1
        have g2 : w3.cell? ⟨b, 2, none⟩ = some (.string t.y) := HB3.out.cell 2
        obtain ⟨ad2, e2, _, p0, p1, p2⟩ := th_at (H.out.1.below HO3.out.low (Nat.le_refl _)) hkl
        obtain rfl := Option.some.inj e2
        rw [← HY.out.1] at p0 p1 p2
        clear e2
        have d0 := BelowBy.cell p0
        have d1 := BelowBy.cell p1
        have d2 := BelowBy.cell p2
        have s0 := BelowBy.cell g0
        have s1 := BelowBy.cell g1
        have s2 := BelowBy.cell g2
        clear p0 p1 p2 g0 g1 g2
        cases d with
        | true =>
          go_upto_region 8 with fail
          refine wp_region_below hmix (by kernel_rfl) ?_
          repeat (first | go_big_quiet_step (fail) | quiet_step (fail))
          refine wpQuiet_nil ?_
          intro wz hw'
          obtain ⟨pp, hw''⟩ := hw'
          obtain ⟨w4, hw4⟩ : ∃ w4, w4 = pp.w' := ⟨_, rfl⟩
          have hb4 : Below w3.heap.size w3 w4 := by rw [hw4]; exact pp.h
          have HO4 := Lib.hid (HO3.out.below hb4)
          have HB4 := Lib.hid (HB3.out.below hb4 HB3.out.lt)
          rw [← hw4] at hw''
          subst wz
          clear d0 d1 d2 s0 s1 s2 hw4 hb4
          obtain ⟨ad2, e2, _, p0, p1, p2⟩ := th_at (H.out.1.below HO4.out.low (Nat.le_refl _)) hkl
          obtain rfl := Option.some.inj e2
          rw [← HY.out.1] at p0 p1 p2
          clear e2
          go_wp2_with (at_builtin; refine wpList_append_row rfl _ _ 49 rfl w.heap.size 32 i0 (.agg #[.int .i64 0, .string ⟨#[]⟩, .string ⟨#[]⟩]) 3 40 Tryz.underlying49 hi hz0 hz1 hz2 rfl (by decide) _ m _ (HO4.out.own.alloc _) (by rfl) (some ⟨w4.heap.size, 0, none⟩) 1 1 (thC y) (by rfl) rfl (fun h => by cases h) (fun ad' had => by cases had; exact World.news_of_block (Go.heap_alloc_new _ _)) (fun u hu => by simp [thC] at hu; rcases hu with rfl | rfl | rfl <;> rfl) (by first | (simp [maxLen]; done) | (simp [maxLen]; omega)) (by omega) (by have := HO4.out.low.size; simp; omega) ?_; intro A5 c5 w5 hR5; have HO5 := Lib.hid (HO4.out.pushT hR5); have HB5 := Lib.hid (HO4.out.box hR5 HB4.out HNB.out); have HN5 := Lib.hid (nb_step hR5 HNB.out HB4.out.lt); clear hR5)
          go_roundw
          case rel => exact ⟨k + 1, m + 1, c5, A5, true, out ++ [y], by omega, by go_num, rfl, rfl, by rw [HAT.out.2.2]; simp, by omega, HE.out, by rw [HAT.out.1, HY.out.2.1, putGo_t]; simp, HO5.out, HB5.out, HN5.out⟩
          case measure => simp [intOf]; omega
        | false =>
          cases hlt2 : belowT t y with
          | true =>
            have HL := Lib.hid hlt2
            clear hlt2
            go_upto_region 8 with fail
            refine wp_region_below hmix (by kernel_rfl) ?_
            repeat (first | go_big_quiet_step ((go_at_call 73; exact calls_below ((rbelow_any t y _ H.out.2.2.2.2.1 HY.out.2.2).to (congrArg Value.bool HL.out)))) | quiet_step ((go_at_call 73; exact calls_below ((rbelow_any t y _ H.out.2.2.2.2.1 HY.out.2.2).to (congrArg Value.bool HL.out)))))
            refine wpQuiet_nil ?_
            intro wz hw'
            obtain ⟨pp, hw''⟩ := hw'
            obtain ⟨w4, hw4⟩ : ∃ w4, w4 = pp.w' := ⟨_, rfl⟩
            have hb4 : Below w3.heap.size w3 w4 := by rw [hw4]; exact pp.h
            have HO4 := Lib.hid (HO3.out.below hb4)
            have HB4 := Lib.hid (HB3.out.below hb4 HB3.out.lt)
            rw [← hw4] at hw''
            subst wz
            clear d0 d1 d2 s0 s1 s2 hw4 hb4
            have g0 : w4.cell? ⟨b, 0, none⟩ = some (.int .i64 t.k) := HB4.out.cell 0
            have g1 : w4.cell? ⟨b, 1, none⟩ = some (.string t.t) := HB4.out.cell 1
            have g2 : w4.cell? ⟨b, 2, none⟩ = some (.string t.y) := HB4.out.cell 2
            go_upto_region 10 with (at_builtin; refine wpList_append_row rfl _ _ 49 rfl w.heap.size 32 i0 (.agg #[.int .i64 0, .string ⟨#[]⟩, .string ⟨#[]⟩]) 3 40 Tryz.underlying49 hi hz0 hz1 hz2 rfl (by decide) _ m _ (HO4.out.own.alloc _) (by rfl) (some ⟨w4.heap.size, 0, none⟩) 1 1 (thC t) (by rfl) rfl (fun h => by cases h) (fun ad' had => by cases had; exact World.news_of_block (Go.heap_alloc_new _ _)) (fun u hu => by simp [thC] at hu; rcases hu with rfl | rfl | rfl <;> rfl) (by first | (simp [maxLen]; done) | (simp [maxLen]; omega)) (by omega) (by have := HO4.out.low.size; simp; omega) ?_; intro A5 c5 w5 hR5; have HO5 := Lib.hid (HO4.out.pushT hR5); have HB5 := Lib.hid (HO4.out.box hR5 HB4.out HNB.out); have HN5 := Lib.hid (nb_step hR5 HNB.out HB4.out.lt); clear hR5)
            obtain ⟨ad2, e2, _, p0, p1, p2⟩ := th_at (H.out.1.below HO5.out.low (Nat.le_refl _)) hkl
            obtain rfl := Option.some.inj e2
            rw [← HY.out.1] at p0 p1 p2
            clear e2
            clear g0 g1 g2
            go_wp2_with (at_builtin; refine wpList_append_row rfl _ _ 49 rfl w.heap.size 32 i0 (.agg #[.int .i64 0, .string ⟨#[]⟩, .string ⟨#[]⟩]) 3 40 Tryz.underlying49 hi hz0 hz1 hz2 rfl (by decide) _ (m + 1) _ (HO5.out.own.alloc _) (by rfl) (some ⟨w5.heap.size, 0, none⟩) 1 1 (thC y) (by rfl) rfl (fun h => by cases h) (fun ad' had => by cases had; exact World.news_of_block (Go.heap_alloc_new _ _)) (fun u hu => by simp [thC] at hu; rcases hu with rfl | rfl | rfl <;> rfl) (by first | (simp [maxLen]; done) | (simp [maxLen]; omega)) (by omega) (by have := HO5.out.low.size; simp; omega) ?_; intro A6 c6 w6 hR6; have HO6 := Lib.hid (HO5.out.pushT hR6); have HB6 := Lib.hid (HO5.out.box hR6 HB5.out HN5.out); have HN6 := Lib.hid (nb_step hR6 HN5.out HB5.out.lt); clear hR6)
            go_roundw
            case rel => exact ⟨k + 1, m + 1 + 1, c6, A6, true, out ++ [t] ++ [y], by omega, by go_num, rfl, rfl, by rw [HAT.out.2.2]; simp, by omega, HE.out, by rw [HAT.out.1, HY.out.2.1, putGo_f HL.out]; simp, HO6.out, HB6.out, HN6.out⟩
            case measure => simp [intOf]; omega
          | false =>
            have HL := Lib.hid hlt2
            clear hlt2
            go_upto_region 8 with fail
            refine wp_region_below hmix (by kernel_rfl) ?_
            repeat (first | go_big_quiet_step ((go_at_call 73; exact calls_below ((rbelow_any t y _ H.out.2.2.2.2.1 HY.out.2.2).to (congrArg Value.bool HL.out)))) | quiet_step ((go_at_call 73; exact calls_below ((rbelow_any t y _ H.out.2.2.2.2.1 HY.out.2.2).to (congrArg Value.bool HL.out)))))
            refine wpQuiet_nil ?_
            intro wz hw'
            obtain ⟨pp, hw''⟩ := hw'
            obtain ⟨w4, hw4⟩ : ∃ w4, w4 = pp.w' := ⟨_, rfl⟩
            have hb4 : Below w3.heap.size w3 w4 := by rw [hw4]; exact pp.h
            have HO4 := Lib.hid (HO3.out.below hb4)
            have HB4 := Lib.hid (HB3.out.below hb4 HB3.out.lt)
            rw [← hw4] at hw''
            subst wz
            clear d0 d1 d2 s0 s1 s2 hw4 hb4
            obtain ⟨ad2, e2, _, p0, p1, p2⟩ := th_at (H.out.1.below HO4.out.low (Nat.le_refl _)) hkl
            obtain rfl := Option.some.inj e2
            rw [← HY.out.1] at p0 p1 p2
            clear e2
            go_wp2_with (at_builtin; refine wpList_append_row rfl _ _ 49 rfl w.heap.size 32 i0 (.agg #[.int .i64 0, .string ⟨#[]⟩, .string ⟨#[]⟩]) 3 40 Tryz.underlying49 hi hz0 hz1 hz2 rfl (by decide) _ m _ (HO4.out.own.alloc _) (by rfl) (some ⟨w4.heap.size, 0, none⟩) 1 1 (thC y) (by rfl) rfl (fun h => by cases h) (fun ad' had => by cases had; exact World.news_of_block (Go.heap_alloc_new _ _)) (fun u hu => by simp [thC] at hu; rcases hu with rfl | rfl | rfl <;> rfl) (by first | (simp [maxLen]; done) | (simp [maxLen]; omega)) (by omega) (by have := HO4.out.low.size; simp; omega) ?_; intro A5 c5 w5 hR5; have HO5 := Lib.hid (HO4.out.pushT hR5); have HB5 := Lib.hid (HO4.out.box hR5 HB4.out HNB.out); have HN5 := Lib.hid (nb_step hR5 HNB.out HB4.out.lt); clear hR5)
            go_roundw
            case rel => exact ⟨k + 1, m + 1, c5, A5, false, out ++ [y], by omega, by go_num, rfl, rfl, by rw [HAT.out.2.2]; simp, by omega, HE.out, by rw [HAT.out.1, HY.out.2.1, putGo_n HL.out]; simp, HO5.out, HB5.out, HN5.out⟩
            case measure => simp [intOf]; omega
    · have hlt1 : ¬ (k : Int) < (n : Int) := by omega
      have hnil : l.drop k = [] := List.drop_eq_nil_of_le (by rw [← H.out.2.1]; omega)
      have HNI := Lib.hid (show putT l t = putGo belowT t false l by
        unfold putT putL
        rw [if_neg]
        intro hin
        obtain ⟨i, hi, e⟩ := List.mem_iff_getElem.1 hin
        exact HAT.out.2.1 i hi (by have := H.out.2.1; omega) e)
      have HNL := Lib.hid hnil
      clear hnil
      cases d with
      | true =>
        go_wp2_with fail
        go_ret
        have e : putT l t = out := by rw [HNI.out, HAT.out.1, HNL.out]; simp [putGo]
        rw [e]
        exact ⟨_, rfl, ⟨_, _, _, rfl, HAT.out.2.2, (own_caps HOW.out.own).1, HOW.out.gT HAT.out.2.2⟩, HOW.out.low, fun ad m' z' e => .inr (HOW.out.lo ad m' z' e)⟩
      | false =>
        have g0 : wr.cell? ⟨b, 0, none⟩ = some (.int .i64 t.k) := HKR.out.cell 0
        have g1 : wr.cell? ⟨b, 1, none⟩ = some (.string t.t) := HKR.out.cell 1
        have g2 : wr.cell? ⟨b, 2, none⟩ = some (.string t.y) := HKR.out.cell 2
        go_wp2_with (at_builtin; refine wpList_append_row rfl _ _ 49 rfl w.heap.size 32 i0 (.agg #[.int .i64 0, .string ⟨#[]⟩, .string ⟨#[]⟩]) 3 40 Tryz.underlying49 hi hz0 hz1 hz2 rfl (by decide) _ m _ (HOW.out.own.alloc _) (by rfl) (some ⟨wr.heap.size, 0, none⟩) 1 1 (thC t) (by rfl) rfl (fun h => by cases h) (fun ad' had => by cases had; exact World.news_of_block (Go.heap_alloc_new _ _)) (fun u hu => by simp [thC] at hu; rcases hu with rfl | rfl | rfl <;> rfl) (by first | (simp [maxLen]; done) | (simp [maxLen]; omega)) (by omega) (by have := HOW.out.low.size; simp; omega) ?_; intro A5 c5 w5 hR5; have HO5 := Lib.hid (HOW.out.pushT hR5); have HB5 := Lib.hid (HOW.out.box hR5 HKR.out HNB.out); have HN5 := Lib.hid (nb_step hR5 HNB.out HKR.out.lt); clear hR5)
        go_ret
        have e : putT l t = out ++ [t] := by rw [HNI.out, HAT.out.1, HNL.out]; simp [putGo]
        rw [e]
        have hm2 : m + 1 = (out ++ [t]).length := by rw [HAT.out.2.2]; simp
        exact ⟨_, rfl, ⟨_, _, _, rfl, hm2, (own_caps HO5.out.own).1, HO5.out.gT hm2⟩, HO5.out.low, fun ad m' z' e => .inr (HO5.out.lo ad m' z' e)⟩
end Go.Proofs.YthbbheegkhlniaaGreat

/-
  The document's State and Things. Written by genrkm.py.
-/
namespace Go.Proofs.YthbbheegkhlniaaGreat
open Go.RowKit Go.Lib

theorem Tryz.infoheld : (Tryz.prog.info? 62).map (fun i => (i.zero, i.size, i.bytes)) = some (some (.agg #[.int .i64 0, .int .i64 0, .bool false]), 3, 24) := by kernel_rfl
def hls (l : List (Int × Int × Bool)) : List Value := l.flatMap heldC
/-- the locks, a row of one's own, and a thing in its block -/
structure Sth (w0 w : World) (B tb : Nat) (D : Nat → Prop) (A : Option Addr) (n c : Nat) (A' : Option Addr) (n' c' : Nat) (l : Lk) (v : Value) (m : Nat) (xs : List (Int × Int × Bool)) (b : Nat) (t : Th) : Prop where
  r : RkX B D w tb A n c A' n' c' l
  o : Ow w0 w 62 3 v m (hls xs)
  q : Blk w b 32 #[.int .i64 t.k, .string t.t, .string t.y]
section
variable {w0 w w' : World} {B tb n c n' c' m m2 b : Nat} {D : Nat → Prop} {A A' : Option Addr} {l : Lk} {v v' : Value} {xs : List (Int × Int × Bool)} {t : Th} {y : Int × Int × Bool} {cs : Array Value}
theorem Sth.below (h : Sth w0 w B tb D A n c A' n' c' l v m xs b t) (hb : Below w.heap.size w w') : Sth w0 w' B tb D A n c A' n' c' l v m xs b t := ⟨h.r.below hb, h.o.below hb, h.q.below hb h.q.lt⟩
theorem Sth.pushH (h : Sth w0 w B tb D A n c A' n' c' l v m xs b t) (hR : RowTo w0.heap.size 62 3 v (w.alloc (.cells cs 62)) v' m2 (hls xs ++ heldC y) w') (hD : ∀ k, D k → k < w0.heap.size) : Sth w0 w' B tb D A n c A' n' c' l v' m2 (xs ++ [y]) b t := by
  have ha : Below w.heap.size w (w.alloc (.cells cs 62)) := (Below.refl _ w).alloc (Nat.le_refl _) _
  have h1 := h.below ha
  refine ⟨h1.r.chg hR.chg fun k hk e => ?_, by rw [show hls (xs ++ [y]) = hls xs ++ heldC y by simp [hls]]; exact h.o.stepA hR, h1.q.chg hR.chg (own_ne h1.o.own h1.q (by decide))⟩
  have := (h1.o.own.lt k e).1
  have := hD k hk
  omega
end
def stF (b : Bool) (t : Th) (L : List Od) : List (Int × Int × Bool) := (L.filter fun o => decide (o.th = t)).map fun o => (o.x, o.m, b)
theorem stF_step {b : Bool} {t : Th} {L : List Od} {k : Nat} (hk : k < L.length) : stF b t (L.drop k) = if decide (L[k].th = t) = true then (L[k].x, L[k].m, b) :: stF b t (L.drop (k + 1)) else stF b t (L.drop (k + 1)) := by
  rw [List.drop_eq_getElem_cons hk]
  unfold stF
  rw [List.filter_cons]
  split <;> simp
theorem stF_nil {b : Bool} {t : Th} {L : List Od} {k : Nat} (hk : L.length ≤ k) : stF b t (L.drop k) = [] := by rw [List.drop_eq_nil_of_le hk]; rfl
set_option maxRecDepth 100000 in
set_option maxHeartbeats 12800000 in
theorem rstate_any {B tb : Nat} {D : Nat → Prop} {w : World} {l : Lk} (h : RkV B D w tb l) (hl : szL l ≤ 900000) (t : Th) :
    Calls Tryz.prog 18 #[.pointer (some ⟨tb, 0, none⟩), thV t] w fun r w' => ∃ A n c, r = .returned (.slice A n c) ∧ n = (stateL l t).length ∧ RowG heldC 3 w' w'.heap.size A (stateL l t) ∧ Below w.heap.size w w' := by
  have hmix : Tryz.prog.follows .mixedOrders = true := by kernel_rfl
  obtain ⟨i0, hi, hz0, hz1, hz2⟩ := info_parts Tryz.infoheld
  obtain ⟨A, n, c, A', n', c', hX⟩ := h
  have hsz : n + n' ≤ 900000 := by rw [hX.hn, hX.wn]; exact hl
  have hn0 : (0 : Int) ≤ (n : Int) := Int.natCast_nonneg _
  have hn0' : (0 : Int) ≤ (n' : Int) := Int.natCast_nonneg _
  obtain ⟨w1, hw1⟩ : ∃ w1, w1 = w.alloc (.cells #[.int .i64 t.k, .string t.t, .string t.y] 32) := ⟨_, rfl⟩
  obtain ⟨b, hb⟩ : ∃ b, b = w.heap.size := ⟨_, rfl⟩
  obtain ⟨w2, hw2⟩ : ∃ w2, w2 = w1.alloc (.cells #[] 62) := ⟨_, rfl⟩
  have hB1 : Below w.heap.size w w1 := by rw [hw1]; exact (Below.refl _ w).alloc (Nat.le_refl _) _
  have hb2 : Below w1.heap.size w1 w2 := by rw [hw2]; exact (Below.refl _ w1).alloc (Nat.le_refl _) _
  have hS : Sth w w2 B tb D A n c A' n' c' l (.slice (some ⟨w1.heap.size, 0, none⟩) 0 0) 0 [] b t := by
    have h1 := Ow.new w1 62 3
    rw [← hw2] at h1
    have k1 : Blk w1 b 32 #[.int .i64 t.k, .string t.t, .string t.y] := by rw [hw1, hb]; exact Blk.new _ _ _
    exact ⟨(hX.below hB1).below hb2, ⟨hB1.trans (h1.low.mono hB1.size), own_to_lt h1.own hB1.size⟩, k1.below hb2 k1.lt⟩
  have HW := Lib.hid (And.intro hw1 (And.intro hb hw2))
  have HS := Lib.hid hS
  have HN := Lib.hid (And.intro hX.hn (And.intro hX.wn (fun (k : Nat) (hk : D k) => (hX.foot k hk).2)))
  have HST := Lib.hid (show stateL l t = stF false t l.H ++ stF true t l.W from rfl)
  clear hX hl hB1 hb2 hS hw1 hw2
  go_enter Tryz.func18, Tryz.ntmps18
  go_upto_region 1 with fail
  rw [← hb, ← HW.out.1]; clear hb
  go_upto_region 2 with fail
  rw [← HW.out.2.2]
  go_wp2_with fail
  go_loopw [5, 6] (fun ov iv wr => ∃ (k m x : Nat) (A1 : Option Addr) (out : List (Int × Int × Bool)), k ≤ n ∧ iv = .int .i64 k ∧ ov = .slice A1 m x ∧ m = out.length ∧ m ≤ k ∧ out ++ stF false t (l.H.drop k) = stF false t l.H ∧ Sth w wr B tb D A n c A' n' c' l (.slice A1 m x) m out b t) (fun _ iv _ => n - (intOf iv).toNat)
  case atStart => exact ⟨0, 0, 0, _, [], Nat.zero_le _, rfl, rfl, rfl, Nat.le_refl _, by rw [List.drop_zero]; rfl, HS.out⟩
  case round =>
    obtain ⟨k, m, x, A1, out, hk, rfl, rfl, hm, hmk, hat, hSr⟩ := hrel
    have hk0 : (0 : Int) ≤ (k : Int) := Int.natCast_nonneg _
    have HSR := Lib.hid hSr
    have HAT := Lib.hid (And.intro hat hm)
    have c0 := hSr.r.c0
    clear hSr hat hm
    by_cases hlt : k < n
    · have hlt1 : (k : Int) < (n : Int) := by omega
      have hkl : k < l.H.length := by rw [← HN.out.1]; exact hlt
      obtain ⟨ad, rfl, _, a0, a1, a2, _, _, _⟩ := od_at HSR.out.r.hg hkl
      have hst := stF_step (b := false) (t := t) hkl
      obtain ⟨y, hy⟩ : ∃ y, y = l.H[k] := ⟨_, rfl⟩
      rw [← hy] at a0 a1 a2 hst
      have HST1 := Lib.hid (And.intro hst hy)
      have d0 := BelowBy.cell a0
      have d1 := BelowBy.cell a1
      have d2 := BelowBy.cell a2
      have f0 := BelowBy.cell c0
      have s0 := BelowBy.cell (show wr.cell? ⟨b, 0, none⟩ = some (.int .i64 t.k) from HSR.out.q.cell 0)
      have s1 := BelowBy.cell (show wr.cell? ⟨b, 1, none⟩ = some (.string t.t) from HSR.out.q.cell 1)
      have s2 := BelowBy.cell (show wr.cell? ⟨b, 2, none⟩ = some (.string t.y) from HSR.out.q.cell 2)
      clear hst hy a0 a1 a2
      cases h1 : decide (y.th = t) with
      | false =>
        have he := eqTh_run y.th t false h1
        have HI := Lib.hid (show stF false t (l.H.drop k) = stF false t (l.H.drop (k + 1)) by rw [HST1.out.1, h1, if_neg (by decide)])
        clear h1
        go_upto_region 5 with fail
        refine wp_region_below hmix (by kernel_rfl) ?_
        repeat (first | go_big_quiet_step (fail) | quiet_step (fail))
        refine wpQuiet_nil ?_
        intro wz hw'
        obtain ⟨pp, hw''⟩ := hw'
        obtain ⟨w3, hw3⟩ : ∃ w3, w3 = pp.w' := ⟨_, rfl⟩
        have hb3 : Below wr.heap.size wr w3 := by rw [hw3]; exact pp.h
        have H3 := Lib.hid (HSR.out.below hb3)
        rw [← hw3] at hw''
        subst wz
        clear c0 d0 d1 d2 f0 s0 s1 s2 he hw3 hb3
        go_wp2_with fail
        go_roundw
        case rel => exact ⟨k + 1, m, x, A1, out, by omega, by go_num, rfl, HAT.out.2, by omega, by rw [← HI.out]; exact HAT.out.1, H3.out⟩
        case measure => simp [intOf]; omega
      | true =>
        have he := eqTh_run y.th t true h1
        have HI := Lib.hid (show stF false t (l.H.drop k) = (y.x, y.m, false) :: stF false t (l.H.drop (k + 1)) by rw [HST1.out.1, h1, if_pos rfl])
        clear h1
        go_upto_region 5 with fail
        refine wp_region_below hmix (by kernel_rfl) ?_
        repeat (first | go_big_quiet_step (fail) | quiet_step (fail))
        refine wpQuiet_nil ?_
        intro wz hw'
        obtain ⟨pp, hw''⟩ := hw'
        obtain ⟨w3, hw3⟩ : ∃ w3, w3 = pp.w' := ⟨_, rfl⟩
        have hb3 : Below wr.heap.size wr w3 := by rw [hw3]; exact pp.h
        have H3 := Lib.hid (HSR.out.below hb3)
        rw [← hw3] at hw''
        subst wz
        clear c0 d0 d1 d2 f0 s0 s1 s2 he hw3 hb3
        obtain ⟨ad2, e2, _, _, _, _, d3, d4, d5⟩ := od_at H3.out.r.hg hkl
        obtain rfl := Option.some.inj e2
        rw [← HST1.out.2] at d3 d4
        have c0 := H3.out.r.c0
        clear e2
        go_wp2_with (at_builtin; refine wpList_append_row rfl _ _ 46 rfl w.heap.size 62 i0 (.agg #[.int .i64 0, .int .i64 0, .bool false]) 3 24 Tryz.underlying46 hi hz0 hz1 hz2 rfl (by decide) _ m _ (H3.out.o.own.alloc _) (by rfl) (some ⟨w3.heap.size, 0, none⟩) 1 1 (heldC (y.x, y.m, false)) (by rfl) rfl (fun h => by cases h) (fun ad' had => by cases had; exact World.news_of_block (Go.heap_alloc_new _ _)) (fun u hu => by simp [heldC] at hu; rcases hu with rfl | rfl | rfl <;> rfl) (by first | (simp [maxLen]; done) | (simp [maxLen]; omega)) (by omega) (by have := H3.out.o.low.size; simp; omega) ?_; intro A4 c4 w4 hR4; have H4 := Lib.hid (H3.out.pushH hR4 HN.out.2.2); clear hR4)
        go_roundw
        case rel => exact ⟨k + 1, m + 1, c4, A4, out ++ [(y.x, y.m, false)], by omega, by go_num, rfl, by rw [HAT.out.2]; simp, by omega, by rw [← HAT.out.1, HI.out]; simp, H4.out⟩
        case measure => simp [intOf]; omega
    · have hlt1 : ¬ (k : Int) < (n : Int) := by omega
      have HP1 := Lib.hid (show out = stF false t l.H by rw [← HAT.out.1, stF_nil (by rw [← HN.out.1]; omega), List.append_nil])
      obtain ⟨pre, hpre⟩ : ∃ pre, pre = out := ⟨_, rfl⟩
      have HPR := Lib.hid (show pre = stF false t l.H by rw [hpre]; exact HP1.out)
      have hmn : m ≤ n := by omega
      clear hpre
      go_wp2_with fail
      go_loopw [5, 7] (fun ov iv wr => ∃ (k m x : Nat) (A1 : Option Addr) (out : List (Int × Int × Bool)), k ≤ n' ∧ iv = .int .i64 k ∧ ov = .slice A1 m x ∧ m = out.length ∧ m ≤ n + k ∧ out ++ stF true t (l.W.drop k) = pre ++ stF true t l.W ∧ Sth w wr B tb D A n c A' n' c' l (.slice A1 m x) m out b t) (fun _ iv _ => n' - (intOf iv).toNat)
      case atStart => exact ⟨0, m, _, _, out, Nat.zero_le _, rfl, rfl, HAT.out.2, by omega, by rw [List.drop_zero, HPR.out, HP1.out], HSR.out⟩
      case round =>
        clear HSR HAT HP1 hk hk0 hmk hlt hlt1 hmn c0
        obtain ⟨k, m, x, A1, out, hk, rfl, rfl, hm, hmk, hat, hSr⟩ := hrel
        have hk0 : (0 : Int) ≤ (k : Int) := Int.natCast_nonneg _
        have HSR := Lib.hid hSr
        have HAT := Lib.hid (And.intro hat hm)
        have c1 := hSr.r.c1
        clear hSr hat hm
        by_cases hlt : k < n'
        · have hlt1 : (k : Int) < (n' : Int) := by omega
          have hkl : k < l.W.length := by rw [← HN.out.2.1]; exact hlt
          obtain ⟨ad, rfl, _, a0, a1, a2, _, _, _⟩ := od_at HSR.out.r.wg hkl
          have hst := stF_step (b := true) (t := t) hkl
          obtain ⟨y, hy⟩ : ∃ y, y = l.W[k] := ⟨_, rfl⟩
          rw [← hy] at a0 a1 a2 hst
          have HST1 := Lib.hid (And.intro hst hy)
          have d0 := BelowBy.cell a0
          have d1 := BelowBy.cell a1
          have d2 := BelowBy.cell a2
          have f1 := BelowBy.cell c1
          have s0 := BelowBy.cell (show wr.cell? ⟨b, 0, none⟩ = some (.int .i64 t.k) from HSR.out.q.cell 0)
          have s1 := BelowBy.cell (show wr.cell? ⟨b, 1, none⟩ = some (.string t.t) from HSR.out.q.cell 1)
          have s2 := BelowBy.cell (show wr.cell? ⟨b, 2, none⟩ = some (.string t.y) from HSR.out.q.cell 2)
          clear hst hy a0 a1 a2
          cases h1 : decide (y.th = t) with
          | false =>
            have he := eqTh_run y.th t false h1
            have HI := Lib.hid (show stF true t (l.W.drop k) = stF true t (l.W.drop (k + 1)) by rw [HST1.out.1, h1, if_neg (by decide)])
            clear h1
            go_upto_region 10 with fail
            refine wp_region_below hmix (by kernel_rfl) ?_
            repeat (first | go_big_quiet_step (fail) | quiet_step (fail))
            refine wpQuiet_nil ?_
            intro wz hw'
            obtain ⟨pp, hw''⟩ := hw'
            obtain ⟨w3, hw3⟩ : ∃ w3, w3 = pp.w' := ⟨_, rfl⟩
            have hb3 : Below wr.heap.size wr w3 := by rw [hw3]; exact pp.h
            have H3 := Lib.hid (HSR.out.below hb3)
            rw [← hw3] at hw''
            subst wz
            clear c1 d0 d1 d2 f1 s0 s1 s2 he hw3 hb3
            go_wp2_with fail
            go_roundw
            case rel => exact ⟨k + 1, m, x, A1, out, by omega, by go_num, rfl, HAT.out.2, by omega, by rw [← HI.out]; exact HAT.out.1, H3.out⟩
            case measure => simp [intOf]; omega
          | true =>
            have he := eqTh_run y.th t true h1
            have HI := Lib.hid (show stF true t (l.W.drop k) = (y.x, y.m, true) :: stF true t (l.W.drop (k + 1)) by rw [HST1.out.1, h1, if_pos rfl])
            clear h1
            go_upto_region 10 with fail
            refine wp_region_below hmix (by kernel_rfl) ?_
            repeat (first | go_big_quiet_step (fail) | quiet_step (fail))
            refine wpQuiet_nil ?_
            intro wz hw'
            obtain ⟨pp, hw''⟩ := hw'
            obtain ⟨w3, hw3⟩ : ∃ w3, w3 = pp.w' := ⟨_, rfl⟩
            have hb3 : Below wr.heap.size wr w3 := by rw [hw3]; exact pp.h
            have H3 := Lib.hid (HSR.out.below hb3)
            rw [← hw3] at hw''
            subst wz
            clear c1 d0 d1 d2 f1 s0 s1 s2 he hw3 hb3
            obtain ⟨ad2, e2, _, _, _, _, d3, d4, d5⟩ := od_at H3.out.r.wg hkl
            obtain rfl := Option.some.inj e2
            rw [← HST1.out.2] at d3 d4
            have c1 := H3.out.r.c1
            clear e2
            go_wp2_with (at_builtin; refine wpList_append_row rfl _ _ 46 rfl w.heap.size 62 i0 (.agg #[.int .i64 0, .int .i64 0, .bool false]) 3 24 Tryz.underlying46 hi hz0 hz1 hz2 rfl (by decide) _ m _ (H3.out.o.own.alloc _) (by rfl) (some ⟨w3.heap.size, 0, none⟩) 1 1 (heldC (y.x, y.m, true)) (by rfl) rfl (fun h => by cases h) (fun ad' had => by cases had; exact World.news_of_block (Go.heap_alloc_new _ _)) (fun u hu => by simp [heldC] at hu; rcases hu with rfl | rfl | rfl <;> rfl) (by first | (simp [maxLen]; done) | (simp [maxLen]; omega)) (by omega) (by have := H3.out.o.low.size; simp; omega) ?_; intro A4 c4 w4 hR4; have H4 := Lib.hid (H3.out.pushH hR4 HN.out.2.2); clear hR4)
            go_roundw
            case rel => exact ⟨k + 1, m + 1, c4, A4, out ++ [(y.x, y.m, true)], by omega, by go_num, rfl, by rw [HAT.out.2]; simp, by omega, by rw [← HAT.out.1, HI.out]; simp, H4.out⟩
            case measure => simp [intOf]; omega
        · have hlt1 : ¬ (k : Int) < (n' : Int) := by omega
          have HF := Lib.hid (show out = stateL l t by rw [HST.out, ← HPR.out, ← HAT.out.1, stF_nil (by rw [← HN.out.2.1]; omega), List.append_nil])
          go_wp2_with fail
          go_ret
          rw [← HF.out]
          exact ⟨_, _, ⟨_, rfl⟩, HAT.out.2, RowG.of_rows (fun _ => rfl) HSR.out.o.own HAT.out.2, HSR.out.o.low⟩
theorem thingsL_step {H : List Od} {x : Int} {k : Nat} (hk : k < H.length) (acc : List Th) : (((H.drop k).filter fun o => decide (o.x = x)).foldl (fun l o => putT l o.th) acc) = if H[k].x = x then (((H.drop (k + 1)).filter fun o => decide (o.x = x)).foldl (fun l o => putT l o.th) (putT acc H[k].th)) else (((H.drop (k + 1)).filter fun o => decide (o.x = x)).foldl (fun l o => putT l o.th) acc) := by
  rw [List.drop_eq_getElem_cons hk, List.filter_cons]
  by_cases h : H[k].x = x <;> simp [h]
theorem putT_len (l : List Th) (t : Th) : (putT l t).length ≤ l.length + 1 := by
  unfold putT putL
  split
  · omega
  · have := putGo_len belowT t false l
    simpa using this
theorem putT_sm {l : List Th} {t : Th} (h : ∀ y ∈ l, Sm y) (ht : Sm t) : ∀ y ∈ putT l t, Sm y := fun y hy => by
  rcases mem_putL.1 hy with h1 | rfl
  · exact h y h1
  · exact ht
set_option maxRecDepth 100000 in
set_option maxHeartbeats 12800000 in
theorem rthings_any {B tb : Nat} {D : Nat → Prop} {w : World} {l : Lk} (h : RkV B D w tb l) (hl : l.H.length ≤ 900000) (hsm : ∀ o ∈ l.H, Sm o.th) (x : Int) :
    Calls Tryz.prog 24 #[.pointer (some ⟨tb, 0, none⟩), .int .i64 x] w fun r w' => ∃ v, r = .returned v ∧ ThsRd w' (thingsL l.H x) v ∧ Below w.heap.size w w' ∧ ∀ ad m' z', v = .slice (some ad) m' z' → w.heap.size ≤ ad.block := by
  obtain ⟨A, n, c, A', n', c', hX⟩ := h
  have hn : n ≤ 900000 := by rw [hX.hn]; exact hl
  have hn0 : (0 : Int) ≤ (n : Int) := Int.natCast_nonneg _
  obtain ⟨w1, hw1⟩ : ∃ w1, w1 = w.alloc (.cells #[] 32) := ⟨_, rfl⟩
  have hO := Ow.new w 32 3
  rw [← hw1] at hO
  have hX1 := hX.below hO.low
  have HW := Lib.hid hw1
  have HS := Lib.hid (And.intro hX1 (And.intro (hO.gT (xs := []) rfl) hO.low))
  have HN := Lib.hid (And.intro hX.hn hsm)
  clear hX hl hO hX1 hw1 hsm
  go_enter Tryz.func24, Tryz.ntmps24
  go_upto_region 2 with fail
  rw [← HW.out]
  go_wp2_with fail
  go_loopw [5, 6] (fun ov iv wr => ∃ (k m z : Nat) (A1 : Option Addr) (out : List Th), k ≤ n ∧ iv = .int .i64 k ∧ ov = .slice A1 m z ∧ m = out.length ∧ m ≤ z ∧ m ≤ k ∧ (∀ y ∈ out, Sm y) ∧ (((l.H.drop k).filter fun o => decide (o.x = x)).foldl (fun l o => putT l o.th) out) = thingsL l.H x ∧ RkX B D wr tb A n c A' n' c' l ∧ RowG thC 3 wr wr.heap.size A1 out ∧ Below w.heap.size w wr ∧ ∀ ad, A1 = some ad → w.heap.size ≤ ad.block) (fun _ iv _ => n - (intOf iv).toNat)
  case atStart => exact ⟨0, 0, 0, _, [], Nat.zero_le _, rfl, rfl, rfl, Nat.le_refl _, Nat.le_refl _, fun y hy => (by cases hy), by rw [List.drop_zero]; rfl, HS.out.1, HS.out.2.1, HS.out.2.2, fun ad e => by injection e with e; rw [← e]; exact Nat.le_refl _⟩
  case round =>
    obtain ⟨k, m, z, A1, out, hk, rfl, rfl, hm, hmz, hmk, hso, hat, hXr, hrow, hlow, hlo⟩ := hrel
    have hk0 : (0 : Int) ≤ (k : Int) := Int.natCast_nonneg _
    have c0 := hXr.c0
    have HSR := Lib.hid (And.intro hXr (And.intro hrow (And.intro hlow hlo)))
    have HAT := Lib.hid (And.intro hat (And.intro hm (And.intro hso hmz)))
    clear hlo hXr hrow hlow hat hm hso hmz
    by_cases hlt : k < n
    · have hlt1 : (k : Int) < (n : Int) := by omega
      have hkl : k < l.H.length := by rw [← HN.out.1]; exact hlt
      obtain ⟨ad, rfl, _, d0, d1, d2, d3, _, _⟩ := od_at HSR.out.1.hg hkl
      have hst := thingsL_step (x := x) hkl out
      obtain ⟨y, hy⟩ : ∃ y, y = l.H[k] := ⟨_, rfl⟩
      rw [← hy] at d0 d1 d2 d3 hst
      have HST := Lib.hid (And.intro hst (show Sm y.th by rw [hy]; exact HN.out.2 _ (List.getElem_mem hkl)))
      clear hst hy
      by_cases hx : y.x = x
      · have q1 : (y.x == x) = true := by simp [hx]
        have HI := Lib.hid (show (((l.H.drop (k + 1)).filter fun o => decide (o.x = x)).foldl (fun l o => putT l o.th) (putT out y.th)) = thingsL l.H x by rw [← HAT.out.1, HST.out.1, if_pos hx])
        clear hx
        go_wp2_with (go_at_call 50; refine (rput_any HSR.out.2.1 (Nat.le_refl _) HAT.out.2.1 HAT.out.2.2.2 (by have := HAT.out.2.1; omega) HAT.out.2.2.1 y.th HST.out.2).mono ?_; rintro e w5 ⟨v5, rfl, ⟨A5, n5, c5, rfl, hn5, hc5, hr5⟩, hb5, hl5⟩; have H5 := Lib.hid (And.intro hn5 (And.intro hc5 (And.intro hr5 (And.intro hb5 hl5)))); clear hn5 hc5 hr5 hb5 hl5)
        go_roundw
        case rel => exact ⟨k + 1, n5, c5, A5, putT out y.th, by omega, by go_num, rfl, H5.out.1, H5.out.2.1, by have := putT_len out y.th; have := H5.out.1; have := HAT.out.2.1; omega, putT_sm HAT.out.2.2.1 HST.out.2, HI.out, HSR.out.1.below H5.out.2.2.2.1, H5.out.2.2.1, HSR.out.2.2.1.trans (H5.out.2.2.2.1.mono HSR.out.2.2.1.size), fun ad e => (H5.out.2.2.2.2 ad _ _ (by rw [e])).elim (HSR.out.2.2.2 ad) (Nat.le_trans HSR.out.2.2.1.size)⟩
        case measure => simp [intOf]; omega
      · have q1 : (y.x == x) = false := by simp [hx]
        have HI := Lib.hid (show (((l.H.drop (k + 1)).filter fun o => decide (o.x = x)).foldl (fun l o => putT l o.th) out) = thingsL l.H x by rw [← HAT.out.1, HST.out.1, if_neg hx])
        clear hx
        go_wp2_with fail
        go_roundw
        case rel => exact ⟨k + 1, m, z, A1, out, by omega, by go_num, rfl, HAT.out.2.1, HAT.out.2.2.2, by omega, HAT.out.2.2.1, HI.out, HSR.out.1, HSR.out.2.1, HSR.out.2.2.1, HSR.out.2.2.2⟩
        case measure => simp [intOf]; omega
    · have hlt1 : ¬ (k : Int) < (n : Int) := by omega
      have HF := Lib.hid (show thingsL l.H x = out by rw [← HAT.out.1, List.drop_eq_nil_of_le (by rw [← HN.out.1]; omega)]; rfl)
      go_wp2_with fail
      go_ret
      rw [HF.out]
      exact ⟨_, rfl, ⟨_, _, _, rfl, HAT.out.2.1, HAT.out.2.2.2, HSR.out.2.1⟩, HSR.out.2.2.1, fun ad m' z' e => HSR.out.2.2.2 ad (by injection e)⟩
end Go.Proofs.YthbbheegkhlniaaGreat
