/-
  What is done to a leaf: an entry put in, an entry taken out.
-/
import Derived.Test.YtiaclfldgagalaaM10
import Derived.Test.YtiaclfldgagalaaM07
import Derived.StillTail
import Derived.Test.YtiaclfldgagalaaM11
namespace Go.Proofs.Ytiaclfldgagalaa
open Go.RowKit Go.Lib

/-- what a change leaves of a page and all below it -/
def SubTo (B : Nat) {d : Nat} (D : Nat → Prop) (w : World) (b : Nat) (t : Tr d) (w' : World) : Prop := Sub B (Ext D w w') w' b t ∧ Chg D w w'
/-- what a deed owes: at any leaf in any footprint of pages made before lim, in any later world -/
def Deed (ins : Bool) (f : Nat) (cap : Array Value) (e : En) (lim : Nat) (w : World) : Prop :=
  ∀ (w' : World) (B : Nat) (D : Nat → Prop) (b : Nat) (ks : List En), Below w.heap.size w w' → PgV B D w' b ks [] → (∀ k, D k → k < lim) → B ≤ w'.heap.size → ks.length ≤ 10 →
    Calls Try.prog f (#[.pointer (some ⟨b, 0, none⟩), .int .i64 (plN e ks), .bool (plB ks e)] ++ cap) w' fun r w'' => r = .returned (.bool (chgT ins (d := 0) ks e).1) ∧ SubTo B (d := 0) D w' b (chgT ins (d := 0) ks e).2 w''
theorem Deed.below {ins : Bool} {f : Nat} {cap : Array Value} {e : En} {lim : Nat} {w w1 : World} (h : Deed ins f cap e lim w) (hb : Below w.heap.size w w1) : Deed ins f cap e lim w1 := fun w' B D b ks hb' => h w' B D b ks (hb.trans (hb'.mono hb.size))
theorem SubTo.same {B d : Nat} {D : Nat → Prop} {w w' : World} {b : Nat} {t : Tr d} (h : Sub B D w b t) (hb : Below w.heap.size w w') (hB : B ≤ w.heap.size) : SubTo B D w b t w' :=
  ⟨(h.below hb).more (fun _ h => .inl h) (fun k hk => hk.elim (fun h2 => (h.below hb).foot k h2) fun h2 => ⟨by omega, h2.2⟩), Chg.of_below hb⟩

set_option maxRecDepth 100000 in
set_option maxHeartbeats 6400000 in
theorem delete1_any {B : Nat} {D : Nat → Prop} {w : World} {b : Nat} {ks : List En} (h : PgV B D w b ks []) (e : En) (hk : ks.length ≤ 10) (hB : B ≤ w.heap.size) :
    Calls Try.prog 38 #[.pointer (some ⟨b, 0, none⟩), .int .i64 (plN e ks), .bool (plB ks e)] w fun r w' => r = .returned (.bool (plB ks e)) ∧ SubTo B (d := 0) D w b (delL ks e) w' := by
  cases hp : plB ks e with
  | false =>
    have HS := Lib.hid (show SubTo B (d := 0) D w b (delL ks e) w by
      rw [show delL ks e = ks by unfold delL; rw [hp]; rfl]
      exact SubTo.same (d := 0) (t := ks) h (Below.refl _ _) hB)
    clear h hk hB hp
    go_enter Try.func38, Try.ntmps38
    go_wp2_with fail
    go_ret
    exact ⟨rfl, HS.out⟩
  | true =>
    obtain ⟨hlt, hek⟩ := plB_at hp
    obtain ⟨t, KA, Kc, IA, Ic, hP⟩ := h
    have hde := edel_any (i := plN e ks) (j := plN e ks + 1) hP.x.keys (ecs_one ks) (by omega) (by omega) (by omega)
    obtain ⟨n, hn⟩ : ∃ n, n = plN e ks := ⟨_, rfl⟩
    have hdl : delL ks e = ks.take n ++ ks.drop (n + 1) := by unfold delL; rw [hp, if_pos rfl, ← hn]
    rw [← hn] at hde hlt ⊢
    have c0 := hP.cells.1
    have hnl : (delL ks e).length = ks.length - (n + 1 - n) := by rw [hdl]; simp; omega
    have hec : (ecs ks).take (n * 3) ++ (ecs ks).drop ((n + 1) * 3) = ecs (delL ks e) := by rw [hdl, ecs_append, ecs_take, ecs_drop]
    rw [hec, ← hnl] at hde
    have HD := Lib.hid hde
    have H := Lib.hid (And.intro hP hB)
    obtain ⟨q, hq⟩ : ∃ q, q = ks.length := ⟨_, rfl⟩
    rw [← hq] at c0 HD
    obtain ⟨q', hq'⟩ : ∃ q, q = (delL ks e).length := ⟨_, rfl⟩
    rw [← hq'] at HD
    have HI := Lib.hid (show ((n : Int) + 1) = ((n + 1 : Nat) : Int) by omega)
    have hn5 : (n : Int) ≤ 10 := by omega
    have hn6 : (0 : Int) ≤ (n : Int) := by omega
    have HQ := Lib.hid (And.intro hq hq')
    clear hde hP hB hp hlt hek hdl hec hnl hk hn hq hq'
    go_enter Try.func38, Try.ntmps38
    go_wp2_with fail
    rw [HI.out]
    refine HD.out.mono ?_
    rintro r w5 ⟨rfl, hR⟩
    have hR2 := hR
    rw [HQ.out.1, HQ.out.2] at hR2
    obtain ⟨r1, r2⟩ := H.out.1.putKeys H.out.2 hR2
    have HN := Lib.hid (And.intro r1 r2)
    have b5 := (H.out.1.x.blk.chg hR2.chg (fun e => H.out.1.key_ne.1 e)).cell 0
    simp only [List.getElem?_toArray, List.getElem?_cons_zero] at b5
    have f5 := (H.out.1.x.blk.chg hR2.chg (fun e => H.out.1.key_ne.1 e)).frozen 0
    clear hR hR2 r1 r2
    go_wp2_with fail
    go_ret
    rw [HQ.out.2]
    exact ⟨rfl, ⟨_, _, _, _, _, HN.out.1⟩, HN.out.2⟩
end Go.Proofs.Ytiaclfldgagalaa

/-
  page.change: the deed is done to the leaf that an entry belongs to, and the pages between follow.
-/
namespace Go.Proofs.Ytiaclfldgagalaa
open Go.RowKit Go.Lib

def Ent (f : Nat) : Prop := ∀ (args : Array Value) (w : World), Sem.run Try.prog (callFunc f args) w = .ok (.enter f args) w
/-- what page.change owes at depth d -/
def ChgC (ins : Bool) (f : Nat) (cap : Array Value) (e : En) (lim : Nat) (d : Nat) : Prop :=
  ∀ {B : Nat} {D : Nat → Prop} {w : World} {b : Nat} {t : Tr d}, Sub B D w b t → TrOk t → (∀ k, D k → k < lim) → lim ≤ w.heap.size → Ent f → Deed ins f cap e lim w → B ≤ w.heap.size →
    Calls Try.prog 48 #[.pointer (some ⟨b, 0, none⟩), e.val, .func (.func f) #[] cap] w fun r w' => r = .returned (.bool (chgT ins t e).1) ∧ SubTo B D w b (chgT ins t e).2 w'
theorem SubTo.from {B d : Nat} {D : Nat → Prop} {w w1 w' : World} {b : Nat} {t : Tr d} (h : SubTo B D w1 b t w') (hb : Below w.heap.size w w1) (hB : B ≤ w.heap.size) (hD : ∀ k, D k → B ≤ k ∧ k < w.heap.size) : SubTo B D w b t w' := by
  refine ⟨h.1.more (fun k hk => hk.imp id fun hk => ⟨Nat.le_trans hb.size hk.1, hk.2⟩) (fun k hk => ?_), (Chg.of_below hb).trans h.2⟩
  have := h.2.size
  have := hb.size
  rcases hk with hk | hk
  · have := hD k hk
    omega
  · exact ⟨by omega, hk.2⟩
set_option maxRecDepth 100000 in
set_option maxHeartbeats 6400000 in
theorem change_leaf {ins : Bool} {f : Nat} {cap : Array Value} {e : En} {lim : Nat} : ChgC ins f cap e lim 0 := by
  intro B D w b t h hk hlim hll HCF HDD hB
  replace HCF := Lib.hid HCF
  obtain ⟨ks, hks⟩ : ∃ ks : List En, ks = t := ⟨_, rfl⟩
  subst hks
  obtain ⟨w1, hw1⟩ : ∃ w1, w1 = w.alloc (.cells #[.string e.s, .int .i64 e.p, .int .i64 e.k] 35) := ⟨_, rfl⟩
  have hb1 : Below w.heap.size w w1 := by rw [hw1]; exact (Below.refl _ w).alloc (Nat.le_refl _) _
  have k1 : Blk w1 w.heap.size 35 #[.string e.s, .int .i64 e.p, .int .i64 e.k] := by rw [hw1]; exact Blk.new _ _ _
  have hP1 := PgV.below h hb1
  have h10 : ks.length ≤ 10 := hk.few
  have hFN := find_any hP1 hk.srt (by show ks.length ≤ 1000000; omega) e
  have HFN := Lib.hid hFN
  unfold En.val at HFN
  have c0 := k1.cell 0
  have c1 := k1.cell 1
  have c2 := k1.cell 2
  simp only [List.getElem?_toArray, List.getElem?_cons_zero, List.getElem?_cons_succ] at c0 c1 c2
  have HW1 := Lib.hid hw1
  have H := Lib.hid (And.intro h (And.intro hb1 (And.intro hP1 (And.intro hlim (And.intro HDD (And.intro hB h10))))))
  clear h hb1 k1 hP1 hlim HDD hB hk hFN hw1 h10 hll
  go_enter Try.func48, Try.ntmps48
  unfold En.val
  go_wp2_with fail
  rw [← HW1.out]
  go_wp2_with (first
    | (go_at_call 43; refine HFN.out.mono ?_; rintro r w2 ⟨rfl, hb2⟩; have HB2 := Lib.hid hb2; have HLF := Lib.hid (leaf_yes (PgV.below H.out.2.2.1 hb2)); clear hb2)
    | (go_at_call 40; refine HLF.out.mono ?_; rintro r w' ⟨rfl, rfl⟩))
  have HD2 := Lib.hid (H.out.2.2.2.2.1 w2 B D b ks (H.out.2.1.trans (HB2.out.mono H.out.2.1.size)) (PgV.below H.out.2.2.1 HB2.out) H.out.2.2.2.1 (Nat.le_trans H.out.2.2.2.2.2.1 (Nat.le_trans H.out.2.1.size HB2.out.size)) H.out.2.2.2.2.2.2)
  rw [HCF.out, Oper.upon_enter]
  refine HD2.out.mono ?_
  rintro r w3 ⟨rfl, hS⟩
  have HS3 := Lib.hid hS
  clear hS
  go_wp2_with fail
  go_ret
  exact ⟨rfl, HS3.out.from (H.out.2.1.trans (HB2.out.mono H.out.2.1.size)) H.out.2.2.2.2.2.1 (Sub.foot H.out.1)⟩
end Go.Proofs.Ytiaclfldgagalaa

/-
  A page below is replaced; a key is replaced.
-/
namespace Go.Proofs.Ytiaclfldgagalaa
open Go.RowKit Go.Lib

theorem pw_one {d : Nat} {kl : List (Kid d)} {i : Nat} {x z : Kid d} (h : kl.Pairwise fun y z => ∀ k, y.D k → ¬ z.D k) (hx : kl[i]? = some x) {lim : Nat} (hl : ∀ u ∈ kl, ∀ k, u.D k → k < lim) (hz : ∀ k, z.D k → x.D k ∨ lim ≤ k) :
    (kl.take i ++ z :: kl.drop (i + 1)).Pairwise fun y z => ∀ k, y.D k → ¬ z.D k := by
  have hk := cut1 hx
  have h0 := h
  rw [hk] at h0
  obtain ⟨hA, hB, hAB⟩ := List.pairwise_append.1 h0
  obtain ⟨hx1, hB2⟩ := List.pairwise_cons.1 hB
  refine List.pairwise_append.2 ⟨hA, List.pairwise_cons.2 ⟨fun u hu k hk hk' => ?_, hB2⟩, fun u hu v hv k hk hk' => ?_⟩
  · rcases hz k hk with h1 | h1
    · exact hx1 u hu k h1 hk'
    · have := hl u (List.mem_of_mem_drop hu) k hk'
      omega
  · rcases List.mem_cons.1 hv with rfl | hv
    · rcases hz k hk' with h1 | h1
      · exact hAB u hu x (by simp) k hk h1
      · have := hl u (List.mem_of_mem_take hu) k hk
        omega
    · exact hAB u hu v (by simp [hv]) k hk hk'
section
variable {B d b j : Nat} {D0 : Nat → Prop} {w w' : World} {ks : List En} {kl : List (Kid d)} {y : Kid d} {t2 : Tr d}
theorem kid_put (hn : Node B (Sub B) D0 w b ks kl) (h1 : kl[j]? = some y) (hs : SubTo B y.D w y.p t2 w') :
    Node B (Sub B) D0 w' b ks (kl.take j ++ ⟨y.p, Ext y.D w w', t2⟩ :: kl.drop (j + 1)) ∧ (∀ k, NF D0 (kl.take j ++ ⟨y.p, Ext y.D w w', t2⟩ :: kl.drop (j + 1)) k → Ext (NF D0 kl) w w' k) ∧ Chg (NF D0 kl) w w' := by
  have hm1 := List.mem_of_getElem? h1
  have hlim : ∀ u ∈ kl, ∀ k, u.D k → k < w.heap.size := fun u hu k hk => ((hn.sub u hu).foot k hk).2
  have hjl : j < kl.length := (List.getElem?_eq_some_iff.1 h1).1
  have hother : ∀ u, u ∈ kl.take j ∨ u ∈ kl.drop (j + 1) → u ∈ kl ∧ (∀ k, u.D k → ¬ y.D k) := fun u hu => by
    have hu' : u ∈ kl := hu.elim List.mem_of_mem_take List.mem_of_mem_drop
    refine ⟨hu', fun k hk hk' => ?_⟩
    rcases hu with hu | hu
    · obtain ⟨q, hq, rfl⟩ := List.mem_iff_getElem.1 hu
      have hqj : q < j := by rw [List.length_take] at hq; omega
      exact pw_mem hn.dis (i := q) (j := j) hqj (by rw [List.getElem?_eq_getElem (by omega), List.getElem_take]) h1 k hk hk'
    · obtain ⟨q, hq, rfl⟩ := List.mem_iff_getElem.1 hu
      rw [List.length_drop] at hq
      exact pw_mem hn.dis (i := j) (j := j + 1 + q) (by omega) h1 (by rw [List.getElem?_eq_getElem (by omega), List.getElem_drop]) k hk' hk
  refine ⟨⟨?_, ?_, pw_one hn.dis h1 hlim (fun k hk => hk.imp id And.left), ?_⟩, ?_, hs.2.mono fun k _ hk => .inr ⟨y, hm1, hk⟩⟩
  · have he : (kl.take j ++ (⟨y.p, Ext y.D w w', t2⟩ : Kid d) :: kl.drop (j + 1)).map Kid.p = kl.map Kid.p := by
      conv => rhs; rw [cut1 h1]
      simp
    rw [he]; exact hn.pg.chg hs.2 fun k hk => hn.dis0 y hm1 k hk
  · intro u hu k hk hk'
    rcases List.mem_append.1 hu with hu | hu
    · exact hn.dis0 u (hother u (.inl hu)).1 k hk hk'
    · rcases List.mem_cons.1 hu with rfl | hu
      · rcases hk' with h | h
        · exact hn.dis0 y hm1 k hk h
        · have h1 := (hn.pg.foot k hk).2
          have := h.1
          omega
      · exact hn.dis0 u (hother u (.inr hu)).1 k hk hk'
  · intro u hu
    rcases List.mem_append.1 hu with hu | hu
    · have := hother u (.inl hu)
      exact (hn.sub u this.1).chg hs.2 this.2
    · rcases List.mem_cons.1 hu with rfl | hu
      · exact hs.1
      · have := hother u (.inr hu)
        exact (hn.sub u this.1).chg hs.2 this.2
  · intro k hk
    rcases hk with hk | ⟨u, hu, hk⟩
    · exact .inl (.inl hk)
    · rcases List.mem_append.1 hu with hu | hu
      · exact .inl (.inr ⟨u, List.mem_of_mem_take hu, hk⟩)
      · rcases List.mem_cons.1 hu with rfl | hu
        · exact hk.imp (fun h => .inr ⟨y, hm1, h⟩) id
        · exact .inl (.inr ⟨u, List.mem_of_mem_drop hu, hk⟩)
theorem Node.below (hn : Node B (Sub B) D0 w b ks kl) (hb : Below w.heap.size w w') : Node B (Sub B) D0 w' b ks kl := ⟨hn.pg.below hb, hn.dis0, hn.dis, fun u hu => (hn.sub u hu).below hb⟩
end
theorem ecs_set (x : En) : ∀ (l : List En) (n : Nat), ((((ecs l).set (n * 3) (.string x.s)).set (n * 3 + 1) (.int .i64 x.p)).set (n * 3 + 2) (.int .i64 x.k)) = ecs (l.set n x)
  | [], n => by simp [ecs]
  | a :: l, 0 => by simp [ecs, En.vs]
  | a :: l, n + 1 => by
    have h1 : ∀ l : List En, ecs (a :: l) = .string a.s :: .int .i64 a.p :: .int .i64 a.k :: ecs l := fun l => by simp [ecs, En.vs]
    rw [List.set_cons_succ, h1, h1, ← ecs_set x l n, show (n + 1) * 3 = n * 3 + 3 by omega]
    rfl
/-- the three stores of an entry into a row -/
def putEn (w : World) (g n : Nat) (x : En) : World := ((w.setCell ⟨g, n * 3, none⟩ (.string x.s)).setCell ⟨g, n * 3 + 1, none⟩ (.int .i64 x.p)).setCell ⟨g, n * 3 + 2, none⟩ (.int .i64 x.k)
theorem own_putEn {w : World} {B g c m : Nat} {l : List En} {e : TypeId} (h : w.ownsRow B e 3 (.slice (some ⟨g, 0, none⟩) m c) m (ecs l)) (n : Nat) (x : En) : (putEn w g n x).ownsRow B e 3 (.slice (some ⟨g, 0, none⟩) m c) m (ecs (l.set n x)) := by
  obtain ⟨cur, hg, hb, hnc, hcm, hcl, htk, _⟩ := own_cur h
  have hb1 : Blk w g e cur.toArray := hg
  have h3 := ((hb1.put (n * 3) (.string x.s)).put (n * 3 + 1) (.int .i64 x.p)).put (n * 3 + 2) (.int .i64 x.k)
  simp only [List.setIfInBounds_toArray] at h3
  refine own_of_cur (cur := ((cur.set (n * 3) (.string x.s)).set (n * 3 + 1) (.int .i64 x.p)).set (n * 3 + 2) (.int .i64 x.k)) h3 hb hnc hcm (by simpa using hcl) _ ?_
  rw [List.take_set, List.take_set, List.take_set, htk, ecs_set]
theorem key_put {B d b g n kc q : Nat} {D0 : Nat → Prop} {w : World} {ks : List En} {kl : List (Kid d)} (hn : Node B (Sub B) D0 w b ks kl) (hk : w.cell? ⟨b, 0, none⟩ = some (.slice (some ⟨g, 0, none⟩) q kc)) (x : En) :
    Node B (Sub B) D0 (putEn w g n x) b (ks.set n x) kl ∧ Chg D0 w (putEn w g n x) := by
  obtain ⟨t, KA, Kc, IA, Ic, hP⟩ := hn.pg
  have h0 := hP.cells.1
  rw [hk] at h0
  injection h0 with h0
  injection h0 with h1 h2 h3
  subst h1
  have hg : D0 g := hP.dk g rfl
  have hc : Chg D0 w (putEn w g n x) := (((Chg.refl D0 w).setCell (fun _ => hg) _).setCell (fun _ => hg) _).setCell (fun _ => hg) _
  have hne := hP.key_ne
  have hcg : Chg (fun k => k = g) w (putEn w g n x) := (((Chg.refl (fun k => k = g) w).setCell (fun _ => rfl) _).setCell (fun _ => rfl) _).setCell (fun _ => rfl) _
  have hrow := own_putEn hP.x.keys n x
  refine ⟨⟨⟨t, some ⟨g, 0, none⟩, Kc, IA, Ic, ⟨?_, hP.x.tt, ?_, ?_⟩, hP.db, ?_, hP.di, fun k hk => ⟨(hP.foot k hk).1, Nat.lt_of_lt_of_le (hP.foot k hk).2 hc.size⟩⟩, hn.dis0, hn.dis, fun u hu => (hn.sub u hu).chg hc fun k hk h0 => hn.dis0 u hu k h0 hk⟩, hc⟩
  · rw [List.length_set]
    exact hP.x.blk.chg hcg fun e => hne.1 (by rw [e]; rfl)
  · rw [List.length_set]; exact hrow
  · exact own_chg hP.x.kids hcg fun k hk e => hne.2.2 k hk (by rw [e]; rfl)
  · rw [List.length_set]; exact hP.dk
end Go.Proofs.Ytiaclfldgagalaa

/-
  from, at a page with pages below.
-/
namespace Go.Proofs.Ytiaclfldgagalaa
open Go.RowKit Go.Lib Go.Shelf
attribute [local go_sem] Oper.semAt_some

theorem kid_ok {d : Nat} {x : Tr (d + 1)} (h : TrOk x) {t : Tr d} (ht : t ∈ x.2) : TrOk t := by
  obtain ⟨ks, ts⟩ := x
  have hl : ts.length = ks.length + 1 := h.cnt.1
  obtain ⟨i, hi, rfl⟩ := List.mem_iff_getElem.1 (show t ∈ ts from ht)
  have hg : GoodT ts[i] := h.cnt.2 _ (List.getElem_mem hi)
  have hf : flatN (ks, ts) = wl (ks.take i) ((ts.take i).map flat) ++ (flat ts[i] ++ wr (ks.drop i) ((ts.drop (i + 1)).map flat)) := by
    rw [← flat_at _ hl hi, ← ts_cut (List.getElem?_eq_getElem hi)]
  have ho := h.ord
  change (flatN (ks, ts)).Pairwise ltM at ho
  rw [hf] at ho
  exact ⟨hg.2.2, fun _ => by have := hg.1; omega, by have := hg.2.1; omega, (List.pairwise_append.1 (List.pairwise_append.1 ho).2.1).1⟩
/-- the frame in the loop over the pages below -/
def fr56 (l bp be wz b gp nq Ic j m : Nat) (e : En) (i : Nat) (ds : List Nat) (u9 u45 u46 u47 u48 u49 u50 u56 : Value) : Act :=
  { tmps := #[.func (.yield l) #[] #[], .pointer (some ⟨bp, 0, none⟩), .pointer (some ⟨be, 0, none⟩), .pointer (some ⟨wz, 0, none⟩), undef, undef, undef, undef, undef, u9, undef, .pointer (some ⟨b, 0, none⟩), .bool false, undef, undef, undef, undef, undef, undef, undef, undef, undef, undef, undef, undef, undef, undef, undef, undef, undef, undef, undef, undef, undef, undef, .pointer (some ⟨b, 0, none⟩), .pointer (some ⟨b, 0, none⟩), .pointer (some ⟨b, 1, none⟩), .slice (some ⟨gp, 0, none⟩) nq Ic, .pointer (some ⟨b, 0, none⟩), .agg #[.string e.s, .int .i64 e.p, .int .i64 e.k], .int .i64 (j : Int), .slice (some ⟨gp, j, none⟩) m (Ic - j), .int .i64 (m : Int), .int .i64 (i : Int), u45, u46, u47, u48, u49, u50, undef, undef, undef, undef, undef, u56], defers := ds.map mark }
/-- the frame of a round of the loop over what a page below hands out -/
def rf56 (l bp be wz b gp nq Ic j m : Nat) (e : En) (i : Nat) (u9 u45 u46 u47 u48 u49 u50 u56 v10 v51 : Value) : Act :=
  { tmps := #[.func (.yield l) #[] #[], .pointer (some ⟨bp, 0, none⟩), .pointer (some ⟨be, 0, none⟩), .pointer (some ⟨wz, 0, none⟩), undef, undef, undef, undef, undef, u9, v10, .pointer (some ⟨b, 0, none⟩), .bool false, undef, undef, undef, undef, undef, undef, undef, undef, undef, undef, undef, undef, undef, undef, undef, undef, undef, undef, undef, undef, undef, undef, .pointer (some ⟨b, 0, none⟩), .pointer (some ⟨b, 0, none⟩), .pointer (some ⟨b, 1, none⟩), .slice (some ⟨gp, 0, none⟩) nq Ic, .pointer (some ⟨b, 0, none⟩), .agg #[.string e.s, .int .i64 e.p, .int .i64 e.k], .int .i64 (j : Int), .slice (some ⟨gp, j, none⟩) m (Ic - j), .int .i64 (m : Int), .int .i64 (i : Int), u45, u46, u47, u48, u49, u50, v51, undef, undef, undef, undef, u56], defers := [] }
theorem ent_from : ∀ (args : Array Value) (w : World), Sem.run Try.prog (callFunc 56 args) w = .ok (.enter 56 args) w := fun args w => by
  simp [callFunc, Try.func56, Try.f56]
theorem Node.keep {B d b : Nat} {D0 D : Nat → Prop} {Mine : World → Nat → Prop} {w w' : World} {ks : List En} {kl : List (Kid d)} (h : Node B (Sub B) D0 w b ks kl) (hD : ∀ k, NF D0 kl k → D k) (hk : KeepM Mine w w') (hm : ∀ k, D k → ¬ Mine w k) : Node B (Sub B) D0 w' b ks kl :=
  ⟨h.pg.chg hk.chg fun k hd => hm k (hD k (.inl hd)), h.dis0, h.dis, fun y hy => (h.sub y hy).chg hk.chg fun k hd => hm k (hD k (.inr ⟨y, hy, hd⟩))⟩
set_option maxRecDepth 100000 in
set_option maxHeartbeats 8000000 in
theorem from_node {d : Nat} (IH : FromOk d) : FromOk (d + 1) := by
  intro B D w b x e bp be h hk hbp hbe hnp hne l J Jx Mine W hM hcW hSM hJ hJx hJM hY h0 n
  have hmx : Try.prog.follows .mixedOrders = true := by kernel_rfl
  have hdd : ∀ k : Nat, (Fence.wide.depth.isSome = true → 1 ≤ k) := fun k h => by cases h
  have hSW : Sub B D W b x := h.chg hcW fun k hk hn => hn (.inl hk)
  have hpW := hbp.chg hcW fun hn => hn (.inr (.inl rfl))
  have heW := hbe.chg hcW fun hn => hn (.inr (.inr rfl))
  clear h hbp hbe hcW
  obtain ⟨D0, kl, hN, hut, hD, hf⟩ := hSW
  have hkl : kl.length = x.1.length + 1 := by
    have h3 : x.2.length = kl.length := by rw [hut, List.length_map]
    have h4 : x.2.length = x.1.length + 1 := hk.cnt.1
    omega
  have hx10 : x.1.length ≤ 10 := hk.few
  obtain ⟨j, hj⟩ : ∃ j, j = wayN x.1 e := ⟨_, rfl⟩
  have hjl : j < kl.length := by
    obtain ⟨t', ht', _⟩ := hk.way e
    rw [← hj, hut] at ht'
    have := (List.getElem?_eq_some_iff.1 ht').1
    rwa [List.length_map] at this
  have hxs : fromL e (ents x) = ((kl.drop j).map fun y => fromL e (ents y.t)).flatten := by
    rw [from_kids hk e, ← hj, hut]
    simp only [List.map_drop, List.map_map]; rfl
  obtain ⟨PI, hPI⟩ : ∃ PI : Nat → List En, PI = fun i => (((kl.drop j).take i).map fun y => fromL e (ents y.t)).flatten := ⟨_, rfl⟩
  have hP0 : PI 0 = [] := by rw [hPI]; rfl
  have hPs : ∀ i y, kl[j + i]? = some y → PI (i + 1) = PI i ++ fromL e (ents y.t) := fun i y hy => by
    have h1 : (kl.drop j)[i]? = some y := by rw [List.getElem?_drop]; exact hy
    obtain ⟨h2, h3⟩ := List.getElem?_eq_some_iff.1 h1
    rw [hPI]
    show (((kl.drop j).take (i + 1)).map _).flatten = _
    rw [List.take_succ_eq_append_getElem h2, h3, List.map_append, List.flatten_append]
    simp
  obtain ⟨xs, hxx⟩ : ∃ xs, xs = fromL e (ents x) := ⟨_, rfl⟩
  have hPx : ∀ i, PI i <+: xs := fun i => by
    rw [hxx, hxs, hPI]
    refine ⟨(((kl.drop j).drop i).map fun y => fromL e (ents y.t)).flatten, ?_⟩
    show (((kl.drop j).take i).map _).flatten ++ _ = _
    rw [← List.flatten_append, ← List.map_append, List.take_append_drop]
  have hPm : PI (kl.length - j) = xs := by
    rw [hxx, hxs, hPI]
    show (((kl.drop j).take _).map _).flatten = _
    rw [List.take_of_length_le (by rw [List.length_drop]; exact Nat.le_refl _)]
  rw [← hxx] at hY ⊢
  have HPI := Lib.hid (And.intro hP0 (And.intro hPs (And.intro hPx hPm)))
  have hgood : ∀ y ∈ kl, GoodT y.t := fun y hy => hk.cnt.2 y.t (by rw [hut]; exact List.mem_map.2 ⟨y, hy, rfl⟩)
  have htrok : ∀ y ∈ kl, TrOk y.t := fun y hy => kid_ok hk (by rw [hut]; exact List.mem_map.2 ⟨y, hy, rfl⟩)
  obtain ⟨W1, hW1⟩ : ∃ W1, W1 = W.alloc (.cells #[.func (.yield l) #[] #[]] 43) := ⟨_, rfl⟩
  have hb1 : Below W.heap.size W W1 := by rw [hW1]; exact (Below.refl _ W).alloc (Nat.le_refl _) _
  have ky : Blk W1 W.heap.size 43 #[.func (.yield l) #[] #[]] := by rw [hW1]; exact Blk.new _ _ _
  have hN1 : Node B (Sub B) D0 W1 b x.1 kl := hN.below hb1
  have hp1 := hpW.below hb1 hpW.lt
  have he1 := heW.below hb1 heW.lt
  have HLF := Lib.hid (leaf_no hN1.pg (by rw [List.length_map]; omega) (by rw [List.length_map]; omega))
  have hWY := fun p : BelowBy W1 => way_any (hN1.pg.below p.h) hk.srt (by show x.1.length ≤ 1000000; omega) e
  simp only [← hj] at hWY
  have HWY := Lib.hid hWY
  unfold En.val at HWY
  obtain ⟨tt, KA, Kc, IA, Ic, hP1⟩ := hN1.pg
  have c0 := hp1.cell 0
  have d0 := he1.cell 0
  have d1 := he1.cell 1
  have d2 := he1.cell 2
  have y0 := ky.cell 0
  simp only [List.getElem?_toArray, List.getElem?_cons_zero, List.getElem?_cons_succ] at c0 d0 d1 d2 y0
  obtain ⟨gp, rfl⟩ := own_form' hP1.x.kids (by rw [List.length_map]; omega)
  have i1 := hP1.cells.2
  obtain ⟨nq, hnq⟩ : ∃ nq, nq = kl.length := ⟨_, rfl⟩
  rw [List.length_map, ← hnq] at i1
  have hqc := (own_caps hP1.x.kids).1
  rw [List.length_map, ← hnq] at hqc
  have a1 : (j : Int) ≤ (nq : Int) := by omega
  have a2 : (0 : Int) ≤ (j : Int) := by omega
  have a3 : ¬ (Ic = j) := by omega
  have a4 : j ≤ nq := by omega
  have HW1 := Lib.hid hW1
  have H1 := Lib.hid (And.intro hb1 (And.intro ky (And.intro hN1 (And.intro hp1 he1))))
  have HH := Lib.hid (And.intro hM (And.intro hSM (And.intro hJ (And.intro hJx (And.intro hJM hY)))))
  have HT := Lib.hid (And.intro hD (And.intro hf (And.intro hgood (And.intro htrok (And.intro hnq (And.intro hjl (And.intro hkl hx10)))))))
  rw [hW1] at HLF
  clear hM hSM hJ hJx hJM hY hb1 ky hN1 hp1 he1 hD hf hgood htrok hnq hjl hkl hx10 hWY hP1 hN hut hk hj hxs hpW hPI hP0 hPs hPx hPm hxx heW hnp hne
  refine callsIn_of_wp_marks Try.func56 rfl trivial ?_
  simp only [Try.ntmps56, List.size_toArray, List.length_cons, List.length_nil, Nat.reduceAdd, Nat.reduceSub, Array.replicate_succ, Array.replicate_zero, List.push_toArray, List.append_toArray, List.nil_append, List.cons_append]
  have c0' := c0
  rw [hW1] at c0'
  clear hW1
  gi_wp2_with (first
    | (refine ⟨trivial, hdd _, ?_⟩; gi_at_call 40; refine (callsIn_wide.2 HLF.out).mono ?_; rintro r w' ⟨rfl, rfl⟩))
  rw [← HW1.out]
  refine wpIn_wide.2 ?_
  clear c0'
  have b0 := BelowBy.cell c0
  have b1 := BelowBy.cell d0
  have b2 := BelowBy.cell d1
  have b3 := BelowBy.cell d2
  have b4 := BelowBy.cell i1
  refine wp_region_below hmx (by kernel_rfl) ?_
  repeat (quiet_step (first | (go_at_call 42; exact calls_below (HWY.out _))))
  refine wpQuiet_nil ?_
  intro _ hw'
  obtain ⟨pq, hw''⟩ := hw'
  subst hw''
  gi_wp2
  obtain ⟨m, hm⟩ : ∃ m, m = nq - j := ⟨_, rfl⟩
  rw [← hm]
  obtain ⟨w2, hw2⟩ : ∃ w2, w2 = pq.w' := ⟨_, rfl⟩
  have hb2 : Below W1.heap.size W1 w2 := by rw [hw2]; exact pq.h
  rw [← hw2]
  have hbW := H1.out.1.trans (hb2.mono H1.out.1.size)
  have hs2 := grown_below hbW
  have hK2 : KeepM Mine W w2 := (KeepM.refl Mine W).grown HH.out.1 hs2 (fun r e => by cases e)
  have hnm : ∀ k, (D k ∨ k = bp ∨ k = be) ∨ k = W.heap.size → ¬ Mine w2 k := fun k hk hm => by
    have h1 := HH.out.1 W w2 none k hs2 (fun r e => by cases e) hm
    rcases hk with hk | hk
    · exact HH.out.2.1 k hk h1
    · have h2 := HH.out.2.2.2.2.1 [] W k h0 h1
      omega
  have HN := Lib.hid (And.intro hnm (And.intro (H1.out.2.2.1.below hb2) (And.intro (H1.out.2.1.below hb2 H1.out.2.1.lt) (H1.out.2.2.2.2.below hb2 H1.out.2.2.2.2.lt))))
  have HJ2 := Lib.hid (show J [] w2 ∧ KeepM Mine W w2 ∧ Below W.heap.size W w2 from ⟨HH.out.2.2.1 [] W w2 none h0 hs2 (fun r e => by cases e), hK2, hbW⟩)
  have HI1 := Lib.hid (And.intro ((hb2.cell (p := ⟨b, 1, none⟩) (by obtain ⟨_, _, _, _, _, hP⟩ := H1.out.2.2.1.pg; exact hP.x.blk.lt)).trans i1) (show D b from HT.out.1 b (by obtain ⟨_, _, _, _, _, hP⟩ := H1.out.2.2.1.pg; exact .inl hP.db)))
  have HM := Lib.hid hm
  clear hw2 hb2 hbW hs2 hK2 hnm hm h0 c0 d0 d1 d2 y0 i1 b0 b1 b2 b3 b4 HLF HWY pq
  refine wpIn_loop (fun a' w' => ∃ (i : Nat) (ds : List Nat) (u9 u45 u46 u47 u48 u49 u50 u56 : Value), a' = fr56 l bp be W.heap.size b gp nq Ic j m e i ds u9 u45 u46 u47 u48 u49 u50 u56 ∧ i ≤ m ∧ J (PI i) w' ∧ KeepM Mine w2 w' ∧ ds.Nodup ∧
      ∀ d ∈ ds, W.heap.size ≤ d ∧ w'.heap[d]? = some (.deferred (some [])) ∧ ¬ Mine w' d) (fun a' _ => m - (intOf (a'.tmps.getD 44 undef)).toNat) ?_ ?_
  · exact ⟨0, [], undef, undef, undef, undef, undef, undef, undef, undef, rfl, Nat.zero_le _, by rw [HPI.out.1]; exact HJ2.out.1, KeepM.refl _ _, List.nodup_nil, fun d hd => by cases hd⟩
  · rintro _ wr ⟨i, ds, u9, u45, u46, u47, u48, u49, u50, u56, rfl, him, hJi, hKi, hnd, hds⟩
    by_cases hi : i < m
    · have hql := HT.out.2.2.2.2.1
      have hmm := HM.out
      have hNr := HN.out.2.1.keep HT.out.1 hKi fun k hk => HN.out.1 k (.inl (.inl hk))
      have hyr := HN.out.2.2.1.chg hKi.chg (HN.out.1 _ (.inr rfl))
      have her := HN.out.2.2.2.chg hKi.chg (HN.out.1 _ (.inl (.inr (.inr rfl))))
      have hil : j + i < kl.length := by omega
      obtain ⟨y, hy⟩ : ∃ y, kl[j + i]? = some y := ⟨_, List.getElem?_eq_getElem hil⟩
      have hym := List.mem_of_getElem? hy
      obtain ⟨g', c', _, _, a5, a6, _⟩ := kid_cells hNr hy
      have hbr : wr.cell? ⟨b, 1, none⟩ = some (.slice (some ⟨gp, 0, none⟩) nq Ic) := (World.cell?_of_block (hKi.same (by obtain ⟨_, _, _, _, _, hP⟩ := HN.out.2.1.pg; exact hP.x.blk.lt) (HN.out.1 b (.inl (.inl HI1.out.2))))).trans HI1.out.1
      rw [hbr] at a5
      injection a5 with a5
      injection a5 with a5 a7 a8
      injection a5 with a5
      injection a5 with a5
      subst a5
      clear a7 a8
      have d0 := her.cell 0
      have d1 := her.cell 1
      have d2 := her.cell 2
      simp only [List.getElem?_toArray, List.getElem?_cons_zero, List.getElem?_cons_succ] at d0 d1 d2
      have hpf := pagefrom_any wr y.p e
      have HPF := Lib.hid hpf
      unfold En.val at HPF
      have b1 : (i : Int) < (m : Int) := by omega
      have b2 : (0 : Int) ≤ (i : Int) := by omega
      have b3 : (m : Int) ≤ 20 := by have := HT.out.2.2.2.2.2.2.1; have := HT.out.2.2.2.2.2.2.2; omega
      have b4 : IntKind.i64.wrap ((i : Int) + 1) = (i : Int) + 1 := by rw [IntKind.wrap_i64]; omega
      have HR := Lib.hid (And.intro hNr (And.intro hyr (And.intro hJi (And.intro hKi (And.intro hnd (And.intro hds (And.intro hy (And.intro hym (And.intro hi him)))))))))
      clear hNr hyr her hJi hKi hnd hds hy hym hi him hql hmm hil hpf hbr
      unfold fr56
      gi_wp2_with (first
        | (refine ⟨trivial, hdd _, ?_⟩; gi_at_call 46; refine (callsIn_wide.2 HPF.out).mono ?_; rintro r wk ⟨rfl, hwk⟩; have HWK := Lib.hid hwk; clear hwk))
      obtain ⟨hNr, hyr, hJi, hKi, hnd, hds, hy, hym, hi, him⟩ := HR.out
      obtain ⟨hM, hSM, hJ, hJx, hJM, hY⟩ := HH.out
      obtain ⟨wm, hwm⟩ : ∃ wm, wm = wr.alloc (.cells #[.pointer (some ⟨y.p, 0, none⟩)] 70) := ⟨_, rfl⟩
      have hwk := HWK.out
      rw [← hwm] at hwk
      have hsm : wm.heap.size = wr.heap.size + 1 := by rw [hwm]; simp
      have hsk : wk.heap.size = wr.heap.size + 2 := by rw [hwk]; simp [hsm]
      have hbk : Below wr.heap.size wr wk := by
        rw [hwk, hwm]
        exact ((Below.refl _ wr).alloc (Nat.le_refl _) _).alloc (by simp) _
      have kp : Blk wk wr.heap.size 70 #[.pointer (some ⟨y.p, 0, none⟩)] := by
        rw [hwk]
        refine Blk.alloc ?_ _
        rw [hwm]
        exact Blk.new _ _ _
      have ke : Blk wk (wr.heap.size + 1) 35 #[.string e.s, .int .i64 e.p, .int .i64 e.k] := by
        have h := Blk.new wm 35 #[.string e.s, .int .i64 e.p, .int .i64 e.k]
        rw [← hwk, hsm] at h
        exact h
      have hyk := hyr.below hbk hyr.lt
      have hsub := hNr.sub y hym
      have hseq := IH (hsub.below hbk) (HT.out.2.2.2.1 y hym) kp ke (fun h => by have := (hsub.foot _ h).2; omega) (fun h => by have := (hsub.foot _ h).2; omega)
      have hgk := grown_below hbk
      have hJk : J (PI i) wk := hJ _ _ _ none hJi hgk (fun r e => by cases e)
      have hMk : ∀ k, Mine wk k → Mine wr k := fun k => hM _ _ none k hgk (fun r e => by cases e)
      have hMlt : ∀ k, Mine wk k → k < wr.heap.size := fun k hk => hJM _ _ k hJi (hMk k hk)
      have hKk : KeepM Mine w2 wk := hKi.grown hM hgk (fun r e => by cases e)
      have sWk : W.heap.size ≤ wk.heap.size := by
        have h1 := HJ2.out.2.2.size
        have h2 := hKk.chg.size
        omega
      have hDm : ∀ k, y.D k → ¬ Mine wk k := fun k hk hm => hKi.not (by have h1 := (HN.out.2.1.sub y hym).foot k hk; exact h1.2) (HN.out.1 k (.inl (.inl (HT.out.1 k (.inr ⟨y, hym, hk⟩))))) (hMk k hm)
      have hyx : ¬ Mine wk W.heap.size := fun hm => hKi.not HN.out.2.2.1.lt (HN.out.1 _ (.inr rfl)) (hMk _ hm)
      have hdk : ∀ d ∈ ds, ¬ Mine wk d := fun d hd hm => (hds d hd).2.2 (hMk d hm)
      have hdl : ∀ d ∈ ds, d < wr.heap.size := fun d hd => (Array.getElem?_eq_some_iff.1 (hds d hd).2.1).1
      have hdh : ∀ d ∈ ds, wk.heap[d]? = some (.deferred (some [])) := fun d hd => (hbk.block d (hdl d hd)).trans (hds d hd).2.1
      refine range_own (w := wk) (w0 := wk) rfl rfl (gf := 56) (lb := #[.pointer (some ⟨wr.heap.size, 0, none⟩), .pointer (some ⟨wr.heap.size + 1, 0, none⟩)]) rfl trivial ent_from hseq (Chg.refl _ _) (fun k hk => ?_) Mine hM (fun _ => rfl)
        (fun pre W' => J (PI i ++ pre) W' ∧ KeepM Mine wk W' ∧ wk.heap.size + 2 ≤ W'.heap.size ∧ ¬ Mine W' wk.heap.size ∧ ¬ Mine W' (wk.heap.size + 1))
        (fun c pre W' => c = .ret ∧ Jx (PI i ++ pre) W' ∧ KeepM Mine wk W') ?_ ?_ ?_ ?_
        (fun pre z a' W' => (J (PI i ++ pre) W' ∧ KeepM Mine wk W' ∧ wk.heap.size + 2 ≤ W'.heap.size ∧ ¬ Mine W' wk.heap.size ∧ ¬ Mine W' (wk.heap.size + 1)) ∧ ∃ Bx, Blk W' Bx 35 #[.string z.s, .int .i64 z.p, .int .i64 z.k] ∧
          a' = rf56 l bp be W.heap.size b gp nq Ic j m e i (.pointer (some ⟨y.p, 0, none⟩)) (.bool true) (.pointer (some ⟨gp, j + i, none⟩)) (.pointer (some ⟨y.p, 0, none⟩)) (.pointer (some ⟨y.p, 0, none⟩)) (.agg #[.string e.s, .int .i64 e.p, .int .i64 e.k]) (.func (.func 56) #[] #[.pointer (some ⟨wr.heap.size, 0, none⟩), .pointer (some ⟨wr.heap.size + 1, 0, none⟩)]) u56 (.pointer (some ⟨Bx, 0, none⟩)) (.agg #[.string z.s, .int .i64 z.p, .int .i64 z.k]))
        ?_ ?_ ?_ ?_ ?_
      · rcases hk with hk | rfl | rfl
        · have := (hsub.foot _ hk).2; omega
        · omega
        · omega
      · rintro pre A C row ⟨h1, h2, h3, h4, h5⟩ hg hr
        have hr' : ∀ r, row = some r → ∃ o : Obj, A.heap[r]? = some o ∧ o.isCells = false := fun r e => (hr r e).2
        exact ⟨hJ _ A C row h1 hg fun r e => ⟨Nat.le_trans sWk (hr r e).1, (hr r e).2⟩, h2.grown hM hg hr, Nat.le_trans h3 hg.size, fun h => h4 (hM A C row _ hg hr' h), fun h => h5 (hM A C row _ hg hr' h)⟩
      · rintro c pre A C row ⟨h1, h2, h3⟩ hg hr
        exact ⟨h1, hJx _ A C row h2 hg fun r e => ⟨Nat.le_trans sWk (hr r e).1, (hr r e).2⟩, h3.grown hM hg hr⟩
      · rintro pre W' ⟨h1, h2, h3, h4, h5⟩
        exact ⟨h3, h4, h5, fun k hk => hJM _ _ k h1 hk⟩
      · intro o
        have hg1 : wk.grownBy ((wk.alloc (.deferred (some []))).alloc (.loop o)) none := grown_below (((Below.refl _ wk).alloc (Nat.le_refl _) _).alloc (by simp) _)
        have hM1 : ∀ k, Mine ((wk.alloc (.deferred (some []))).alloc (.loop o)) k → Mine wk k := fun k => hM _ _ none k hg1 (fun r e => by cases e)
        refine ⟨⟨?_, (KeepM.refl Mine wk).grown hM hg1 (fun r e => by cases e), by simp, fun h => by have := hMlt _ (hM1 _ h); omega, fun h => by have := hMlt _ (hM1 _ h); omega⟩, fun k hk h => ?_⟩
        · rw [List.append_nil]
          exact hJ _ _ _ none hJk hg1 (fun r e => by cases e)
        · rcases hk with hk | rfl | rfl
          · exact hDm k hk (hM1 k h)
          · have := hMlt _ (hM1 _ h); omega
          · have := hMlt _ (hM1 _ h); omega
      · rintro pre z a' _ A C row ⟨⟨h1, h2, h3, h4, h5⟩, Bx, h6, h7⟩ hg hr
        have hr' : ∀ r, row = some r → ∃ o : Obj, A.heap[r]? = some o ∧ o.isCells = false := fun r e => (hr r e).2
        refine ⟨⟨hJ _ A C row h1 hg fun r e => ⟨Nat.le_trans sWk (hr r e).1, (hr r e).2⟩, h2.grown hM hg hr, Nat.le_trans h3 hg.size, fun h => h4 (hM A C row _ hg hr' h), fun h => h5 (hM A C row _ hg hr' h)⟩, Bx, ?_, h7⟩
        refine (hg.block Bx h6.lt fun ee => ?_).trans h6
        obtain ⟨o, ho, hc⟩ := hr' Bx ee.symm
        rw [show A.heap[Bx]? = _ from h6] at ho
        cases ho
        cases hc
      · rintro m' l' pre z Wr ⟨h1, h2, h3, h4, h5⟩ _ K hK
        have HKK := Lib.hid (fun (o : Obj) (ho : o = .cells #[.string z.s, .int .i64 z.p, .int .i64 z.k] 35) => hK (rf56 l bp be W.heap.size b gp nq Ic j m e i (.pointer (some ⟨y.p, 0, none⟩)) (.bool true) (.pointer (some ⟨gp, j + i, none⟩)) (.pointer (some ⟨y.p, 0, none⟩)) (.pointer (some ⟨y.p, 0, none⟩)) (.agg #[.string e.s, .int .i64 e.p, .int .i64 e.k]) (.func (.func 56) #[] #[.pointer (some ⟨wr.heap.size, 0, none⟩), .pointer (some ⟨wr.heap.size + 1, 0, none⟩)]) u56 (.pointer (some ⟨Wr.heap.size, 0, none⟩)) (.agg #[.string z.s, .int .i64 z.p, .int .i64 z.k])) (Wr.alloc o)
          ((KeepM.refl Mine Wr).grown hM (World.grownBy_alloc Wr o none) (fun r e => by cases e))
          ⟨⟨hJ _ _ _ none h1 (World.grownBy_alloc Wr o none) (fun r e => by cases e), h2.grown hM (World.grownBy_alloc Wr o none) (fun r e => by cases e), by simp; omega, fun h => h4 (hM _ _ none _ (World.grownBy_alloc Wr o none) (fun r e => by cases e) h), fun h => h5 (hM _ _ none _ (World.grownBy_alloc Wr o none) (fun r e => by cases e) h)⟩, Wr.heap.size, by rw [ho]; exact Blk.new Wr _ _, rfl⟩)
        unfold rf56 at HKK
        clear h1 h2 h3 h4 h5 hK hJ hJx hJM hY hM hSM hKk hMk hMlt hDm hyx hdk hdl hdh hseq hsub hNr hds hKi hJi hJk
        unfold En.val
        gi_wp2
        exact HKK.out _ rfl
      · rintro m' l' pre z a' Wb ⟨⟨h1, h2, h3, h4, h5⟩, Bx, h6, rfl⟩ ⟨post, hpost⟩
        have hyb := hyk.chg h2.chg hyx
        have y0 := hyb.cell 0
        have x0 := h6.cell 0
        have x1 := h6.cell 1
        have x2 := h6.cell 2
        simp only [List.getElem?_toArray, List.getElem?_cons_zero, List.getElem?_cons_succ] at y0 x0 x1 x2
        have hsplit : ∃ post', xs = (PI i ++ pre) ++ z :: post' := by
          obtain ⟨q, hq⟩ := HPI.out.2.2.1 (i + 1)
          rw [HPI.out.2.1 i y hy, hpost] at hq
          exact ⟨post ++ q, by rw [← hq]; simp⟩
        obtain ⟨fn, tmps, assign, body, hy2, hR⟩ := hY (m' - 1) (PI i ++ pre) z Wb h1 hsplit
        unfold En.val at hy2
        have hR2 : RoundIn (Fence.wide.inRound l') (m' - 1) Try.prog l fn tmps assign body Wb (fun e W' => (e = .returned (.bool true) ∧ J (PI i ++ pre ++ [z]) W' ∧ KeepM Mine Wb W') ∨ (e = .returned (.bool false) ∧ Jx (PI i ++ pre ++ [z]) W' ∧ KeepM Mine Wb W')) := hR
        have HB := Lib.hid (And.intro h2 (And.intro h3 (And.intro h4 h5)))
        have hddr : ∀ k : Nat, ((Fence.wide.inRound l').depth.isSome = true → 1 ≤ k) := fun k h => by cases h
        clear h1 h2 h3 h4 h5 h6 hyb hsplit hR hJ hJx hJM hY hM hSM hKk hMk hMlt hDm hyx hdk hdl hdh hseq hsub hNr hds hKi hJi hJk hpost hyk hyr hwk hbk hgk kp ke
        unfold rf56
        gi_wp2
        refine ⟨hddr _, ?_⟩
        refine hR2.mono ?_
        rintro r W3 (⟨rfl, hJ3, hk3⟩ | ⟨rfl, hJ3, hk3⟩)
        · have HE := Lib.hid (And.intro hJ3 hk3)
          clear hJ3 hk3 hR2 hy2 y0 x0 x1 x2
          gi_wp2
          obtain ⟨h2, h3, h4, h5⟩ := HB.out
          have h7 := HE.out.2.chg.size
          exact ⟨HE.out.2, by rw [← List.append_assoc]; exact HE.out.1, h2.trans HE.out.2, Nat.le_trans h3 h7, HE.out.2.not (by omega) h4, HE.out.2.not (by omega) h5⟩
        · have HE := Lib.hid (And.intro hJ3 hk3)
          clear hJ3 hk3 hR2 hy2 y0 x0 x1 x2
          gi_wp2
          exact ⟨HE.out.2, rfl, by rw [← List.append_assoc]; exact HE.out.1, HB.out.1.trans HE.out.2⟩
      · rintro o W' ⟨h1, h2, h3, h4, h5⟩ _ hD
        have HE := Lib.hid (show J (PI (i + 1)) W' ∧ KeepM Mine w2 W' ∧ (wk.heap.size :: ds).Nodup ∧ ∀ d ∈ wk.heap.size :: ds, W.heap.size ≤ d ∧ W'.heap[d]? = some (.deferred (some [])) ∧ ¬ Mine W' d from by
          refine ⟨by rw [HPI.out.2.1 i y hy]; exact h1, hKk.trans h2, List.nodup_cons.2 ⟨fun h => by have := hdl _ h; omega, hnd⟩, fun d hd => ?_⟩
          rcases List.mem_cons.1 hd with rfl | hd
          · exact ⟨sWk, hD, h4⟩
          · have hl := hdl d hd
            exact ⟨(hds d hd).1, (h2.same (by omega) (hdk d hd)).trans (hdh d hd), h2.not (by omega) (hdk d hd)⟩)
        clear h1 h2 h3 h4 h5 hD hJ hJx hJM hY hM hSM hKk hMk hMlt hDm hyx hdk hdl hdh hseq hsub hNr hds hKi hJi hJk hyk hyr hwk hbk hgk kp ke
        gi_wp2
        refine ⟨⟨i + 1, wk.heap.size :: ds, _, _, _, _, _, _, _, _, rfl, hi, HE.out.1, HE.out.2.1, HE.out.2.2.1, HE.out.2.2.2⟩, ?_⟩
        simp [intOf]
        omega
      · rintro c pre W' hpre ⟨rfl, h2, h3⟩ hD
        have HL := Lib.hid (fun tmps => leaves_marks (F := Fence.wide) (n := n) (P := Try.prog) (fn := Try.f56) (tmps := tmps) (B := W.heap.size) (K := fun W' => (J xs W' ∧ KeepM Mine W W') ∨ ∃ pre, pre <+: xs ∧ Jx pre W') (ends_own hM hJ hJx) rfl (wk.heap.size :: ds) W' (fun d hd => by
          rcases List.mem_cons.1 hd with rfl | hd
          · exact ⟨sWk, hD⟩
          · have hl := hdl d hd
            exact ⟨(hds d hd).1, (h3.same (by omega) (hdk d hd)).trans (hdh d hd)⟩) (List.nodup_cons.2 ⟨fun h => by have := hdl _ h; omega, hnd⟩) (.inr ⟨_, by
            obtain ⟨q, hq⟩ := HPI.out.2.2.1 (i + 1)
            obtain ⟨q2, hq2⟩ := hpre
            rw [HPI.out.2.1 i y hy, ← hq2] at hq
            exact ⟨q2 ++ q, by rw [← hq]; simp⟩, h2⟩))
        clear h2 h3 hD hJ hJx hJM hY hM hSM hKk hMk hMlt hDm hyx hdk hdl hdh hseq hsub hNr hds hKi hJi hJk hyk hyr hwk hbk hgk kp ke
        gi_wp2
        exact HL.out _
    · have b1 : ¬ (i : Int) < (m : Int) := by omega
      have hfin : PI i = xs := by
        rw [← HPI.out.2.2.2]
        congr 1
        have := HT.out.2.2.2.2.1
        have := HM.out
        omega
      rw [hfin] at hJi
      have HL := Lib.hid (fun tmps => leaves_marks (F := Fence.wide) (n := n) (P := Try.prog) (fn := Try.f56) (tmps := tmps) (B := W.heap.size) (K := fun W' => (J xs W' ∧ KeepM Mine W W') ∨ ∃ pre, pre <+: xs ∧ Jx pre W') (ends_own HH.out.1 HH.out.2.2.1 HH.out.2.2.2.1) rfl ds wr (fun d hd => ⟨(hds d hd).1, (hds d hd).2.1⟩) hnd (.inl ⟨hJi, HJ2.out.2.1.trans hKi⟩))
      clear hJi hKi hnd hds hfin
      unfold fr56
      gi_wp2
      exact HL.out _
end Go.Proofs.Ytiaclfldgagalaa
