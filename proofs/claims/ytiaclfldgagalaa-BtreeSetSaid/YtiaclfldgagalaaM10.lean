/-
  join and split, said of pages with their pages below.
-/
import Derived.Test.YtiaclfldgagalaaM09
import Derived.Deep.LoopGhost
namespace Go.Proofs.Ytiaclfldgagalaa
open Go.RowKit Go.Lib

section
variable {B d b j : Nat} {D0 D0' : Nat → Prop} {w w' : World} {ks ks' : List En} {kl : List (Kid d)} {y1 y2 z z2 : Kid d}
theorem join_fin (hn : Node B (Sub B) D0 w b ks kl) (h1 : kl[j]? = some y1) (h2 : kl[j + 1]? = some y2) (hP : PgV B D0' w' b ks' ((kl.map Kid.p).take (j + 1) ++ (kl.map Kid.p).drop (j + 2))) (hzp : z.p = y1.p) (hz : Sub B z.D w' z.p z.t)
    (hzD : ∀ k, z.D k → y1.D k ∨ y2.D k ∨ w.heap.size ≤ k) (hD0 : ∀ k, D0' k → Ext D0 w w' k) (hdz : ∀ k, D0' k → ¬ z.D k) (hc : Chg (fun k => D0 k ∨ y1.D k) w w') :
    Node B (Sub B) D0' w' b ks' (kl.take j ++ z :: kl.drop (j + 2)) ∧ (∀ k, NF D0' (kl.take j ++ z :: kl.drop (j + 2)) k → Ext (NF D0 kl) w w' k) ∧ Chg (NF D0 kl) w w' := by
  have hm1 := List.mem_of_getElem? h1
  have hm2 := List.mem_of_getElem? h2
  have hlim : ∀ u ∈ kl, ∀ k, u.D k → k < w.heap.size := fun u hu k hk => ((hn.sub u hu).foot k hk).2
  have hjl : j < kl.length := (List.getElem?_eq_some_iff.1 h1).1
  have hother : ∀ u, u ∈ kl.take j ∨ u ∈ kl.drop (j + 2) → u ∈ kl ∧ (∀ k, u.D k → ¬ (D0 k ∨ y1.D k)) := fun u hu => by
    have hu' : u ∈ kl := hu.elim List.mem_of_mem_take List.mem_of_mem_drop
    refine ⟨hu', fun k hk hk' => ?_⟩
    rcases hk' with hk' | hk'
    · exact hn.dis0 u hu' k hk' hk
    · rcases hu with hu | hu
      · obtain ⟨q, hq, rfl⟩ := List.mem_iff_getElem.1 hu
        have hqj : q < j := by rw [List.length_take] at hq; omega
        exact pw_mem hn.dis (i := q) (j := j) hqj (by rw [List.getElem?_eq_getElem (by omega), List.getElem_take]) h1 k hk hk'
      · obtain ⟨q, hq, rfl⟩ := List.mem_iff_getElem.1 hu
        rw [List.length_drop] at hq
        exact pw_mem hn.dis (i := j) (j := j + 2 + q) (by omega) h1 (by rw [List.getElem?_eq_getElem (by omega), List.getElem_drop]) k hk' hk
  refine ⟨⟨?_, ?_, pw_join hn.dis h1 h2 hlim fun k hk => hzD k hk, ?_⟩, ?_, hc.mono fun k _ hk => hk.imp id fun hk => ⟨y1, hm1, hk⟩⟩
  · have he : (kl.take j ++ z :: kl.drop (j + 2)).map Kid.p = (kl.map Kid.p).take (j + 1) ++ (kl.map Kid.p).drop (j + 2) := by
      rw [List.map_append, List.map_cons, List.map_take, List.map_drop, hzp, List.take_succ_eq_append_getElem (by simpa using hjl)]
      have : (kl.map Kid.p)[j]'(by simpa using hjl) = y1.p := by
        rw [List.getElem_map]
        exact congrArg Kid.p (List.getElem?_eq_some_iff.1 h1).2
      rw [this]; simp
    rw [he]; exact hP
  · intro u hu k hk hk'
    rcases List.mem_append.1 hu with hu | hu
    · have := hother u (.inl hu)
      rcases hD0 k hk with h | h
      · exact hn.dis0 u this.1 k h hk'
      · have := hlim u this.1 k hk'; omega
    · rcases List.mem_cons.1 hu with rfl | hu
      · exact hdz k hk hk'
      · have := hother u (.inr hu)
        rcases hD0 k hk with h | h
        · exact hn.dis0 u this.1 k h hk'
        · have := hlim u this.1 k hk'; omega
  · intro u hu
    rcases List.mem_append.1 hu with hu | hu
    · have := hother u (.inl hu)
      exact (hn.sub u this.1).chg hc this.2
    · rcases List.mem_cons.1 hu with rfl | hu
      · exact hz
      · have := hother u (.inr hu)
        exact (hn.sub u this.1).chg hc this.2
  · intro k hk
    rcases hk with hk | ⟨u, hu, hk⟩
    · exact (hD0 k hk).imp .inl id
    · rcases List.mem_append.1 hu with hu | hu
      · exact .inl (.inr ⟨u, List.mem_of_mem_take hu, hk⟩)
      · rcases List.mem_cons.1 hu with rfl | hu
        · rcases hzD k hk with h | h | h
          · exact .inl (.inr ⟨y1, hm1, h⟩)
          · exact .inl (.inr ⟨y2, hm2, h⟩)
          · exact .inr ⟨h, (hz.foot k hk).2⟩
        · exact .inl (.inr ⟨u, List.mem_of_mem_drop hu, hk⟩)
theorem split_fin (hn : Node B (Sub B) D0 w b ks kl) (h1 : kl[j]? = some y1) (hP : PgV B D0' w' b ks' ((kl.map Kid.p).take (j + 1) ++ z2.p :: (kl.map Kid.p).drop (j + 1))) (hzp : z.p = y1.p) (hz : Sub B z.D w' z.p z.t) (hz2 : Sub B z2.D w' z2.p z2.t)
    (hzD : ∀ k, z.D k → y1.D k ∨ w.heap.size ≤ k) (hz2D : ∀ k, z2.D k → y1.D k ∨ w.heap.size ≤ k) (hzz : ∀ k, z.D k → ¬ z2.D k) (hD0 : ∀ k, D0' k → Ext D0 w w' k) (hdz : ∀ k, D0' k → ¬ z.D k) (hdz2 : ∀ k, D0' k → ¬ z2.D k) (hc : Chg (fun k => D0 k ∨ y1.D k) w w') :
    Node B (Sub B) D0' w' b ks' (kl.take j ++ z :: z2 :: kl.drop (j + 1)) ∧ (∀ k, NF D0' (kl.take j ++ z :: z2 :: kl.drop (j + 1)) k → Ext (NF D0 kl) w w' k) ∧ Chg (NF D0 kl) w w' := by
  have hm1 := List.mem_of_getElem? h1
  have hlim : ∀ u ∈ kl, ∀ k, u.D k → k < w.heap.size := fun u hu k hk => ((hn.sub u hu).foot k hk).2
  have hjl : j < kl.length := (List.getElem?_eq_some_iff.1 h1).1
  have hother : ∀ u, u ∈ kl.take j ∨ u ∈ kl.drop (j + 1) → u ∈ kl ∧ (∀ k, u.D k → ¬ (D0 k ∨ y1.D k)) := fun u hu => by
    have hu' : u ∈ kl := hu.elim List.mem_of_mem_take List.mem_of_mem_drop
    refine ⟨hu', fun k hk hk' => ?_⟩
    rcases hk' with hk' | hk'
    · exact hn.dis0 u hu' k hk' hk
    · rcases hu with hu | hu
      · obtain ⟨q, hq, rfl⟩ := List.mem_iff_getElem.1 hu
        have hqj : q < j := by rw [List.length_take] at hq; omega
        exact pw_mem hn.dis (i := q) (j := j) hqj (by rw [List.getElem?_eq_getElem (by omega), List.getElem_take]) h1 k hk hk'
      · obtain ⟨q, hq, rfl⟩ := List.mem_iff_getElem.1 hu
        rw [List.length_drop] at hq
        exact pw_mem hn.dis (i := j) (j := j + 1 + q) (by omega) h1 (by rw [List.getElem?_eq_getElem (by omega), List.getElem_drop]) k hk' hk
  refine ⟨⟨?_, ?_, pw_split hn.dis h1 hlim hzD hz2D hzz, ?_⟩, ?_, hc.mono fun k _ hk => hk.imp id fun hk => ⟨y1, hm1, hk⟩⟩
  · have he : (kl.take j ++ z :: z2 :: kl.drop (j + 1)).map Kid.p = (kl.map Kid.p).take (j + 1) ++ z2.p :: (kl.map Kid.p).drop (j + 1) := by
      rw [List.map_append, List.map_cons, List.map_cons, List.map_take, List.map_drop, hzp, List.take_succ_eq_append_getElem (by simpa using hjl)]
      have : (kl.map Kid.p)[j]'(by simpa using hjl) = y1.p := by
        rw [List.getElem_map]
        exact congrArg Kid.p (List.getElem?_eq_some_iff.1 h1).2
      rw [this]; simp
    rw [he]; exact hP
  · intro u hu k hk hk'
    have oth : u ∈ kl.take j ∨ u ∈ kl.drop (j + 1) → False := fun h => by
      have := hother u h
      rcases hD0 k hk with h | h
      · exact hn.dis0 u this.1 k h hk'
      · have := hlim u this.1 k hk'; omega
    rcases List.mem_append.1 hu with hu | hu
    · exact oth (.inl hu)
    · rcases List.mem_cons.1 hu with rfl | hu
      · exact hdz k hk hk'
      · rcases List.mem_cons.1 hu with rfl | hu
        · exact hdz2 k hk hk'
        · exact oth (.inr hu)
  · intro u hu
    have oth : u ∈ kl.take j ∨ u ∈ kl.drop (j + 1) → Sub B u.D w' u.p u.t := fun h => by
      have := hother u h
      exact (hn.sub u this.1).chg hc this.2
    rcases List.mem_append.1 hu with hu | hu
    · exact oth (.inl hu)
    · rcases List.mem_cons.1 hu with rfl | hu
      · exact hz
      · rcases List.mem_cons.1 hu with rfl | hu
        · exact hz2
        · exact oth (.inr hu)
  · intro k hk
    rcases hk with hk | ⟨u, hu, hk⟩
    · exact (hD0 k hk).imp .inl id
    · rcases List.mem_append.1 hu with hu | hu
      · exact .inl (.inr ⟨u, List.mem_of_mem_take hu, hk⟩)
      · rcases List.mem_cons.1 hu with rfl | hu
        · rcases hzD k hk with h | h
          · exact .inl (.inr ⟨y1, hm1, h⟩)
          · exact .inr ⟨h, (hz.foot k hk).2⟩
        · rcases List.mem_cons.1 hu with rfl | hu
          · rcases hz2D k hk with h | h
            · exact .inl (.inr ⟨y1, hm1, h⟩)
            · exact .inr ⟨h, (hz2.foot k hk).2⟩
          · exact .inl (.inr ⟨u, List.mem_of_mem_drop hu, hk⟩)
end
theorem map_get {d : Nat} {kl : List (Kid d)} {j : Nat} {y : Kid d} (h : kl[j]? = some y) : (kl.map Kid.p)[j]? = some y.p := by rw [List.getElem?_map, h]; rfl
/-- join -/
theorem join_node {B : Nat} : ∀ {d : Nat} {D0 : Nat → Prop} {w : World} {b : Nat} {ks : List En} {kl : List (Kid d)} (_ : Node B (Sub B) D0 w b ks kl) {j : Nat} {y1 y2 : Kid d} {x : En} (_ : kl[j]? = some y1) (_ : kl[j + 1]? = some y2) (_ : ks[j]? = some x) (_ : kl.length = ks.length + 1)
    (_ : Cnt y1.t) (_ : Cnt y2.t) (_ : (keysT y1.t).length ≤ 10) (_ : (keysT y2.t).length ≤ 10) (_ : ks.length ≤ 50) (_ : B ≤ w.heap.size),
    Calls Try.prog 66 #[.pointer (some ⟨b, 0, none⟩), .int .i64 j] w fun r w' => r = .returned (.tuple #[]) ∧ ∃ D0' z, z.t = joinT y1.t x y2.t ∧ Node B (Sub B) D0' w' b (ks.take j ++ ks.drop (j + 1)) (kl.take j ++ z :: kl.drop (j + 2)) ∧
      (∀ k, NF D0' (kl.take j ++ z :: kl.drop (j + 2)) k → Ext (NF D0 kl) w w' k) ∧ Chg (NF D0 kl) w w'
  | 0, D0, w, b, ks, kl, hn, j, y1, y2, x, h1, h2, hx, hl, c1, c2, l1, l2, lk, hB => by
    have hm1 := List.mem_of_getElem? h1
    have hm2 := List.mem_of_getElem? h2
    have s1 : PgV B y1.D w y1.p (keysT y1.t) [] := hn.sub y1 hm1
    have s2 : PgV B y2.D w y2.p (keysT y2.t) [] := hn.sub y2 hm2
    refine (join_any hn.pg s1 s2 (fun k hk => hn.dis0 y1 hm1 k hk) (fun k hk => hn.dis0 y2 hm2 k hk) (fun k hk => pw_mem hn.dis (Nat.lt_succ_self j) h1 h2 k hk) (i := j) (by rw [List.length_map]; exact (List.getElem?_eq_some_iff.1 h2).1) (by rw [List.length_map]; exact hl) (map_get h1) (map_get h2) hx (by omega) (by omega) (by omega) (by simp) (by simp) hB [] (.inl ⟨rfl, rfl, rfl⟩)).mono ?_
    rintro r w' ⟨rfl, D0', Da', hP, hA, hd, e1, e2, hc⟩
    refine ⟨rfl, D0', ⟨y1.p, Da', joinT y1.t x y2.t⟩, rfl, join_fin hn h1 h2 hP rfl ?_ (fun k hk => ?_) e1 hd hc⟩
    · exact hA
    · rcases e2 k hk with h | h
      · exact .inl h
      · exact .inr (.inr h.1)
  | d + 1, D0, w, b, ks, kl, hn, j, y1, y2, x, h1, h2, hx, hl, c1, c2, l1, l2, lk, hB => by
    have hm1 := List.mem_of_getElem? h1
    have hm2 := List.mem_of_getElem? h2
    obtain ⟨D1, kl1, n1, t1, f1, g1⟩ := hn.sub y1 hm1
    obtain ⟨D2, kl2, n2, t2, f2, g2⟩ := hn.sub y2 hm2
    have d12 := pw_mem hn.dis (Nat.lt_succ_self j) h1 h2
    have hl1 : kl1.length = (keysT y1.t).length + 1 := by
      have h3 : y1.t.2.length = kl1.length := by rw [t1, List.length_map]
      have h4 : y1.t.2.length = y1.t.1.length + 1 := c1.1
      show kl1.length = y1.t.1.length + 1
      omega
    have hl2 : kl2.length = (keysT y2.t).length + 1 := by
      have h3 : y2.t.2.length = kl2.length := by rw [t2, List.length_map]
      have h4 : y2.t.2.length = y2.t.1.length + 1 := c2.1
      show kl2.length = y2.t.1.length + 1
      omega
    refine (join_any hn.pg n1.pg n2.pg (fun k hk hk' => hn.dis0 y1 hm1 k hk (f1 k (.inl hk'))) (fun k hk hk' => hn.dis0 y2 hm2 k hk (f2 k (.inl hk'))) (fun k hk hk' => d12 k (f1 k (.inl hk)) (f2 k (.inl hk'))) (i := j) (by rw [List.length_map]; exact (List.getElem?_eq_some_iff.1 h2).1) (by rw [List.length_map]; exact hl) (map_get h1) (map_get h2) hx (by omega) (by show (keysT y1.t).length ≤ 100; omega) (by show (keysT y2.t).length ≤ 100; omega) (by rw [List.length_map]; omega) (by rw [List.length_map]; omega) hB [x] (.inr ⟨by rw [List.length_map]; omega, rfl⟩)).mono ?_
    rintro r w' ⟨rfl, D0', Da', hP, hA, hd, e1, e2, hc⟩
    have hg : ∀ u ∈ kl1 ++ kl2, ∀ k, u.D k → (y1.D k ∨ y2.D k) ∧ ¬ (D0 k ∨ D1 k) := fun u hu k hk => by
      rcases List.mem_append.1 hu with hu | hu
      · have h3 := f1 k (.inr ⟨u, hu, hk⟩)
        exact ⟨.inl h3, fun h => h.elim (fun h => hn.dis0 y1 hm1 k h h3) fun h => n1.dis0 u hu k h hk⟩
      · have h3 := f2 k (.inr ⟨u, hu, hk⟩)
        exact ⟨.inr h3, fun h => h.elim (fun h => hn.dis0 y2 hm2 k h h3) fun h => d12 k (f1 k (.inl h)) h3⟩
    have hlt : ∀ k, y1.D k ∨ y2.D k → k < w.heap.size := fun k h => h.elim (fun h => (g1 k h).2) fun h => (g2 k h).2
    have hnode : Node B (Sub B) Da' w' y1.p (joinT y1.t x y2.t).1 (kl1 ++ kl2) := by
      refine ⟨?_, fun u hu k hk hk' => ?_, List.pairwise_append.2 ⟨n1.dis, n2.dis, fun u hu v hv k hk hk' => d12 k (f1 k (.inr ⟨u, hu, hk⟩)) (f2 k (.inr ⟨v, hv, hk'⟩))⟩, fun u hu => ?_⟩
      · rw [List.map_append]
        exact hA
      · have h3 := hg u hu k hk'
        rcases e2 k hk with h | h
        · exact h3.2 (.inr h)
        · have := hlt k h3.1; omega
      · have h3 : Sub B u.D w u.p u.t := by
          rcases List.mem_append.1 hu with hu | hu
          · exact n1.sub u hu
          · exact n2.sub u hu
        exact h3.chg hc fun k hk => (hg u hu k hk).2
    refine ⟨rfl, D0', ⟨y1.p, fun k => Da' k ∨ y1.D k ∨ y2.D k, joinT y1.t x y2.t⟩, rfl, join_fin hn h1 h2 hP rfl ?_ (fun k hk => ?_) e1 (fun k hk hk' => ?_) (hc.mono fun k _ h => h.imp id fun h => f1 k (.inl h))⟩
    · refine Node.to hnode ?_ (fun k hk => ?_) fun k hk => ?_
      · show y1.t.2 ++ y2.t.2 = _
        rw [t1, t2, List.map_append]
      · rcases hk with hk | ⟨u, hu, hk⟩
        · exact .inl hk
        · exact .inr (hg u hu k hk).1
      · rcases hk with hk | hk | hk
        · exact hA.foot k hk
        · exact ⟨(g1 k hk).1, by have := (g1 k hk).2; have := hc.size; omega⟩
        · exact ⟨(g2 k hk).1, by have := (g2 k hk).2; have := hc.size; omega⟩
    · rcases hk with hk | hk | hk
      · rcases e2 k hk with h | h
        · exact .inl (f1 k (.inl h))
        · exact .inr (.inr h.1)
      · exact .inl hk
      · exact .inr (.inl hk)
    · rcases hk' with hk' | hk' | hk'
      · exact hd k hk hk'
      · rcases e1 k hk with h | h
        · exact hn.dis0 y1 hm1 k h hk'
        · have := (g1 k hk').2; omega
      · rcases e1 k hk with h | h
        · exact hn.dis0 y2 hm2 k h hk'
        · have := (g2 k hk').2; omega
end Go.Proofs.Ytiaclfldgagalaa

/-
  split, said of pages with their pages below.
-/
namespace Go.Proofs.Ytiaclfldgagalaa
open Go.RowKit Go.Lib

theorem Node.split_list {B d : Nat} {D0 : Nat → Prop} {w : World} {b : Nat} {ks : List En} {kl : List (Kid d)} (h : Node B (Sub B) D0 w b ks kl) (q : Nat) : (∀ u ∈ kl.take q, ∀ v ∈ kl.drop q, ∀ k, u.D k → ¬ v.D k) ∧ (kl.take q).Pairwise (fun y z => ∀ k, y.D k → ¬ z.D k) ∧ (kl.drop q).Pairwise (fun y z => ∀ k, y.D k → ¬ z.D k) := by
  have h0 := h.dis
  rw [← List.take_append_drop q kl] at h0
  obtain ⟨hA, hB, hAB⟩ := List.pairwise_append.1 h0
  exact ⟨hAB, hA, hB⟩
theorem split_node {B : Nat} : ∀ {d : Nat} {D0 : Nat → Prop} {w : World} {b : Nat} {ks : List En} {kl : List (Kid d)} (_ : Node B (Sub B) D0 w b ks kl) {j : Nat} {y : Kid d} (_ : kl[j]? = some y) (_ : kl.length = ks.length + 1)
    (_ : Cnt y.t) (_ : 5 ≤ (keysT y.t).length) (_ : (keysT y.t).length ≤ 10) (_ : ks.length ≤ 50) (_ : B ≤ w.heap.size),
    Calls Try.prog 49 #[.pointer (some ⟨b, 0, none⟩), .int .i64 j] w fun r w' => r = .returned (.tuple #[]) ∧ ∃ D0' z z2, z.t = (splitT y.t).1 ∧ z2.t = (splitT y.t).2.2 ∧ Node B (Sub B) D0' w' b (ks.take j ++ (splitT y.t).2.1 :: ks.drop j) (kl.take j ++ z :: z2 :: kl.drop (j + 1)) ∧
      (∀ k, NF D0' (kl.take j ++ z :: z2 :: kl.drop (j + 1)) k → Ext (NF D0 kl) w w' k) ∧ Chg (NF D0 kl) w w'
  | 0, D0, w, b, ks, kl, hn, j, y, h1, hl, c1, l5, l1, lk, hB => by
    have hm1 := List.mem_of_getElem? h1
    have s1 : PgV B y.D w y.p (keysT y.t) [] := hn.sub y hm1
    have hjl : j < kl.length := (List.getElem?_eq_some_iff.1 h1).1
    refine (split_any hn.pg s1 (fun k hk => hn.dis0 y hm1 k hk) (i := j) (h := (keysT y.t).length / 2) (by omega) (by rw [List.length_map]; exact hjl) (map_get h1) rfl (by omega) (by omega) (by omega) (by simp) (by rw [List.length_map]; omega) hB _ (.inl ⟨rfl, rfl⟩)).mono ?_
    rintro r w' ⟨rfl, nb, D0', Dn, hP, hA, hN, d1, d2, e1, e2, hc⟩
    simp only [List.take_nil, List.drop_nil] at hA hN
    refine ⟨rfl, D0', ⟨y.p, y.D, (splitT y.t).1⟩, ⟨nb, Dn, (splitT y.t).2.2⟩, rfl, rfl, split_fin hn h1 hP rfl ?_ ?_ (fun k hk => .inl hk) (fun k hk => .inr (e2 k hk).1) (fun k hk hk' => ?_) e1 d1 d2 hc⟩
    · exact hA
    · exact hN
    · have := (s1.foot k hk).2
      have := (e2 k hk').1
      omega
  | d + 1, D0, w, b, ks, kl, hn, j, y, h1, hl, c1, l5, l1, lk, hB => by
    have hm1 := List.mem_of_getElem? h1
    have hjl : j < kl.length := (List.getElem?_eq_some_iff.1 h1).1
    obtain ⟨D1, kl1, n1, t1, f1, g1⟩ := hn.sub y hm1
    have hl1 : kl1.length = (keysT y.t).length + 1 := by
      have h3 : y.t.2.length = kl1.length := by rw [t1, List.length_map]
      have h4 : y.t.2.length = y.t.1.length + 1 := c1.1
      show kl1.length = y.t.1.length + 1
      omega
    obtain ⟨h, hh⟩ : ∃ h, h = (keysT y.t).length / 2 := ⟨_, rfl⟩
    refine (split_any hn.pg n1.pg (fun k hk hk' => hn.dis0 y hm1 k hk (f1 k (.inl hk'))) (i := j) (h := h) (by omega) (by rw [List.length_map]; exact hjl) (map_get h1) hh (by show 2 ≤ (keysT y.t).length; omega) (by omega) (by show (keysT y.t).length ≤ 100; omega) (by rw [List.length_map]; omega) (by rw [List.length_map]; omega) hB (y.t.1.drop (h + 1)) (.inr ⟨by rw [List.length_map]; omega, rfl, by show h + 1 < (keysT y.t).length; omega⟩)).mono ?_
    rintro r w' ⟨rfl, nb, D0', Dn, hP, hA, hN, d1, d2, e1, e2, hc⟩
    obtain ⟨q1, q2, q3⟩ := n1.split_list (h + 1)
    have hg : ∀ u ∈ kl1, ∀ k, u.D k → y.D k ∧ ¬ (D0 k ∨ D1 k) := fun u hu k hk => by
      have h3 := f1 k (.inr ⟨u, hu, hk⟩)
      exact ⟨h3, fun h => h.elim (fun h => hn.dis0 y hm1 k h h3) fun h => n1.dis0 u hu k h hk⟩
    have hnew : ∀ k, Dn k → ¬ y.D k := fun k hk hk' => by have := (g1 k hk').2; have := (e2 k hk).1; omega
    have hsub : ∀ u ∈ kl1, Sub B u.D w' u.p u.t := fun u hu => (n1.sub u hu).chg hc fun k hk => (hg u hu k hk).2
    have hk : (splitT y.t).1.1 = y.t.1.take h ∧ (splitT y.t).1.2 = y.t.2.take (h + 1) ∧ (splitT y.t).2.2.1 = y.t.1.drop (h + 1) ∧ (splitT y.t).2.2.2 = y.t.2.drop (h + 1) ∧ (splitT y.t).2.1 = (y.t.1[h]?).getD e0 := by rw [hh]; exact ⟨rfl, rfl, rfl, rfl, rfl⟩
    have hnA : Node B (Sub B) D1 w' y.p (splitT y.t).1.1 (kl1.take (h + 1)) := by
      rw [hk.1]
      refine ⟨?_, fun u hu k hk => n1.dis0 u (List.mem_of_mem_take hu) k hk, q2, fun u hu => hsub u (List.mem_of_mem_take hu)⟩
      rw [List.map_take]; exact hA
    have hnB : Node B (Sub B) Dn w' nb (splitT y.t).2.2.1 (kl1.drop (h + 1)) := by
      rw [hk.2.2.1]
      refine ⟨?_, fun u hu k hk hk' => hnew k hk (hg u (List.mem_of_mem_drop hu) k hk').1, q3, fun u hu => hsub u (List.mem_of_mem_drop hu)⟩
      rw [List.map_drop]; exact hN
    have sc := hc.size
    refine ⟨rfl, D0', ⟨y.p, NF D1 (kl1.take (h + 1)), (splitT y.t).1⟩, ⟨nb, NF Dn (kl1.drop (h + 1)), (splitT y.t).2.2⟩, rfl, rfl, ?_⟩
    rw [hk.2.2.2.2]
    refine split_fin hn h1 hP rfl ?_ ?_ (fun k hk => ?_) (fun k hk => ?_) (fun k hk hk' => ?_) e1 (fun k hk hk' => ?_) (fun k hk hk' => ?_) (hc.mono fun k _ h => h.imp id fun h => f1 k (.inl h))
    · exact Node.to hnA (by rw [hk.2.1, t1, List.map_take]) (fun k h => h) hnA.foot
    · exact Node.to hnB (by rw [hk.2.2.2.1, t1, List.map_drop]) (fun k h => h) hnB.foot
    · rcases hk with hk | ⟨u, hu, hk⟩
      · exact .inl (f1 k (.inl hk))
      · exact .inl (hg u (List.mem_of_mem_take hu) k hk).1
    · rcases hk with hk | ⟨u, hu, hk⟩
      · exact .inr (e2 k hk).1
      · exact .inl (hg u (List.mem_of_mem_drop hu) k hk).1
    · rcases hk with hk | ⟨u, hu, hk⟩
      · rcases hk' with hk' | ⟨v, hv, hk'⟩
        · exact hnew k hk' (f1 k (.inl hk))
        · exact n1.dis0 v (List.mem_of_mem_drop hv) k hk hk'
      · rcases hk' with hk' | ⟨v, hv, hk'⟩
        · exact hnew k hk' (hg u (List.mem_of_mem_take hu) k hk).1
        · exact q1 u hu v hv k hk hk'
    · rcases hk' with hk' | ⟨u, hu, hk'⟩
      · exact d1 k hk hk'
      · have h3 := (hg u (List.mem_of_mem_take hu) k hk').1
        rcases e1 k hk with h | h
        · exact hn.dis0 y hm1 k h h3
        · have := (g1 k h3).2; omega
    · rcases hk' with hk' | ⟨u, hu, hk'⟩
      · exact d2 k hk hk'
      · have h3 := (hg u (List.mem_of_mem_drop hu) k hk').1
        rcases e1 k hk with h | h
        · exact hn.dis0 y hm1 k h h3
        · have := (g1 k h3).2; omega
end Go.Proofs.Ytiaclfldgagalaa

/-
  mend: a page below is brought back within its bounds.
-/
namespace Go.Proofs.Ytiaclfldgagalaa
open Go.RowKit Go.Lib

/-- at the cut: one page below may still be too great -/
def MidM (B : Nat) {d : Nat} (D0 : Nat → Prop) (kl : List (Kid d)) (w : World) (b : Nat) (ks : List En) (i : Nat) (s1 : Value) (wx : World) : Prop :=
  ∃ (j : Nat) (D0' : Nat → Prop) (ks' : List En) (kl' : List (Kid d)) (y : Kid d), s1 = .int .i64 j ∧ kl'[j]? = some y ∧ Node B (Sub B) D0' wx b ks' kl' ∧ kl'.length = ks'.length + 1 ∧ Cnt y.t ∧ (keysT y.t).length ≤ 10 ∧ ks'.length ≤ 50 ∧
    (∀ k, NF D0' kl' k → Ext (NF D0 kl) w wx k) ∧ Chg (NF D0 kl) w wx ∧ mendT (ks, kl.map Kid.t) i = if 4 < (keysT y.t).length then splitAt (ks', kl'.map Kid.t) j else (ks', kl'.map Kid.t)
theorem map_getT {d : Nat} {kl : List (Kid d)} {j : Nat} {y : Kid d} (h : kl[j]? = some y) : (kl.map Kid.t)[j]? = some y.t := by rw [List.getElem?_map, h]; rfl
/-- a page's keys, where the page above tells of it -/
theorem kid_cells {B d : Nat} {D0 : Nat → Prop} {w : World} {b : Nat} {ks : List En} {kl : List (Kid d)} (hn : Node B (Sub B) D0 w b ks kl) {j : Nat} {y : Kid d} (h : kl[j]? = some y) :
    ∃ g c KA kc, w.cell? ⟨b, 1, none⟩ = some (.slice (some ⟨g, 0, none⟩) kl.length c) ∧ w.cell? ⟨g, j, none⟩ = some (.pointer (some ⟨y.p, 0, none⟩)) ∧ w.cell? ⟨y.p, 0, none⟩ = some (.slice KA (keysT y.t).length kc) := by
  obtain ⟨hj, hy⟩ := List.getElem?_eq_some_iff.1 h
  obtain ⟨t, KA, Kc, IA, Ic, hP⟩ := hn.pg
  obtain ⟨g, hIA, q⟩ := hP.kid (i := j) (by rw [List.length_map]; exact hj)
  obtain ⟨D1, ps, ⟨t', KA', Kc', IA', Ic', hY⟩, _⟩ := (hn.sub y (List.mem_of_getElem? h)).page
  have c1 := hP.cells.2
  rw [hIA, List.length_map] at c1
  refine ⟨g, Ic, KA', Kc', c1, ?_, hY.cells.1⟩
  rw [q, List.getElem_map, hy]
set_option maxRecDepth 100000 in
set_option maxHeartbeats 6400000 in
theorem mend_any {B d : Nat} {D0 : Nat → Prop} {w : World} {b : Nat} {ks : List En} {kl : List (Kid d)} (hn : Node B (Sub B) D0 w b ks kl) {i : Nat} {y : Kid d} (hy : kl[i]? = some y) (hl : kl.length = ks.length + 1) (hk1 : 1 ≤ ks.length) (hk2 : ks.length ≤ 10)
    (hL : ∀ u ∈ kl.take i, GoodT u.t) (hR : ∀ u ∈ kl.drop (i + 1), GoodT u.t) (hc : Cnt y.t) (h1 : 1 ≤ (keysT y.t).length) (h5 : (keysT y.t).length ≤ 5) (hB : B ≤ w.heap.size) :
    Calls Try.prog 58 #[.pointer (some ⟨b, 0, none⟩), .int .i64 i] w fun r w' => r = .returned (.tuple #[]) ∧ NodeTo B D0 kl w b (mendT (ks, kl.map Kid.t) i) w' := by
  have hil : i < kl.length := (List.getElem?_eq_some_iff.1 hy).1
  have hcA : cntAt (ks, kl.map Kid.t) i = (keysT y.t).length := cntAt_some (x := (ks, kl.map Kid.t)) (map_getT hy)
  obtain ⟨g, c, KA, kc, c1, q0, k0⟩ := kid_cells hn hy
  obtain ⟨nq, hnq⟩ : ∃ nq, nq = kl.length := ⟨_, rfl⟩
  obtain ⟨ny, hny⟩ : ∃ ny, ny = (keysT y.t).length := ⟨_, rfl⟩
  rw [← hnq] at c1
  rw [← hny] at k0
  have b0 : (0 : Int) ≤ (i : Int) := by omega
  have b1 : (i : Int) < (nq : Int) := by omega
  have b2 : (ny : Int) ≤ 10 := by omega
  have b5 : (i : Int) ≤ 100 := by omega
  have hmax : max ((i : Int) - 1) 0 = ((i - 1 : Nat) : Int) := by omega
  have HM := Lib.hid (show ∀ z : Value, 2 ≤ (keysT y.t).length → z = .int .i64 i → MidM B D0 kl w b ks i z w from fun z h2 hz =>
    ⟨i, D0, ks, kl, y, hz, hy, hn, hl, hc, by omega, by omega, fun k h => .inl h, Chg.refl _ _, by unfold mendT; rw [hcA, if_neg (by omega)]⟩)
  have HJ : Hid ((keysT y.t).length < 2 → Calls Try.prog 66 #[.pointer (some ⟨b, 0, none⟩), .int .i64 ((i - 1 : Nat) : Int)] w fun r w' => r = .returned (.tuple #[]) ∧ MidM B D0 kl w b ks i (.int .i64 ((i - 1 : Nat) : Int)) w') := Lib.hid (by
    intro h2
    obtain ⟨y1, y2, x, e1, e2, ex, gc1, gc2, gl1, gl2⟩ : ∃ y1 y2 x, kl[i - 1]? = some y1 ∧ kl[i - 1 + 1]? = some y2 ∧ ks[i - 1]? = some x ∧ Cnt y1.t ∧ Cnt y2.t ∧ (keysT y1.t).length + (keysT y2.t).length ≤ 5 ∧ 1 ≤ (keysT y1.t).length ∧ 1 ≤ (keysT y2.t).length := by
      rcases Nat.eq_zero_or_pos i with h0 | h0
      · subst h0
        have hlt : 1 < kl.length := by omega
        have hg := hR kl[1] (List.mem_iff_getElem.2 ⟨0, by simp; omega, by simp⟩)
        exact ⟨y, kl[1], ks[0], hy, List.getElem?_eq_getElem hlt, List.getElem?_eq_getElem (by omega), hc, hg.2.2, by have := hg.2.1; omega, h1, by have := hg.1; omega⟩
      · obtain ⟨j, rfl⟩ : ∃ j, i = j + 1 := ⟨i - 1, by omega⟩
        have hg := hL kl[j] (List.mem_iff_getElem.2 ⟨j, by simp; omega, by simp⟩)
        exact ⟨kl[j], y, ks[j], List.getElem?_eq_getElem (by omega), hy, List.getElem?_eq_getElem (by omega), hg.2.2, hc, by have := hg.2.1; omega, by have := hg.1; omega, h1⟩
    generalize hj : i - 1 = j at *
    refine (join_node hn e1 e2 ex hl gc1 gc2 (by omega) (by omega) (by omega) hB).mono ?_
    rintro r w' ⟨rfl, D0', z, hz, hN, hF, hC⟩
    have hl1 := (List.getElem?_eq_some_iff.1 e2).1
    have hl2 := (List.getElem?_eq_some_iff.1 ex).1
    have hjt : (kl.take j).length = j := by simp; omega
    have hjoin : joinAt (ks, kl.map Kid.t) j = (ks.take j ++ ks.drop (j + 1), (kl.take j ++ z :: kl.drop (j + 2)).map Kid.t) := by
      show (match (kl.map Kid.t)[j]?, ks[j]?, (kl.map Kid.t)[j + 1]? with | some a, some k, some b => _ | _, _, _ => _) = _
      rw [map_getT e1, ex, map_getT e2]
      simp only [List.map_append, List.map_cons, List.map_take, List.map_drop, hz]
    have hzat : (kl.take j ++ z :: kl.drop (j + 2))[j]? = some z := by rw [List.getElem?_append_right (by omega), hjt, Nat.sub_self]; rfl
    have hcz : cntAt (joinAt (ks, kl.map Kid.t) j) j = (keysT z.t).length := by rw [hjoin]; exact cntAt_some (map_getT hzat)
    have hcnt : Cnt z.t ∧ (keysT z.t).length ≤ 10 := by
      rw [hz]
      match d, y1, y2, gc1, gc2, gl1 with
      | 0, y1, y2, _, _, gl1 =>
        refine ⟨trivial, ?_⟩
        show (List.append (keysT y1.t) (keysT y2.t)).length ≤ 10
        rw [show (List.append (keysT y1.t) (keysT y2.t)).length = (keysT y1.t).length + (keysT y2.t).length from List.length_append ..]; omega
      | d + 1, y1, y2, gc1, gc2, gl1 =>
        refine ⟨⟨?_, fun t ht => ?_⟩, ?_⟩
        · show (y1.t.2 ++ y2.t.2).length = (y1.t.1 ++ x :: y2.t.1).length + 1
          have := gc1.1; have := gc2.1
          simp; omega
        · rcases List.mem_append.1 (show t ∈ y1.t.2 ++ y2.t.2 from ht) with ht | ht
          · exact gc1.2 t ht
          · exact gc2.2 t ht
        · show (y1.t.1 ++ x :: y2.t.1).length ≤ 10
          have h7 : (keysT y1.t).length = y1.t.1.length := rfl
          have h8 : (keysT y2.t).length = y2.t.1.length := rfl
          rw [List.length_append, List.length_cons]; omega
    refine ⟨rfl, j, D0', _, _, z, rfl, hzat, hN, by simp; omega, hcnt.1, hcnt.2, by simp; omega, hF, hC, ?_⟩
    unfold mendT
    rw [hcA, if_pos h2, hj, hcz, hjoin])
  have HN := Lib.hid (And.intro hny hnq)
  clear hn hy hl hk1 hk2 hL hR hc h1 h5 hil hcA hnq hny
  go_enter Try.func58, Try.ntmps58
  go_upto_if 15 with fail
  go_cut [1] (fun s1 wx => MidM B D0 kl w b ks i s1 wx)
  case first =>
    by_cases h2 : ny < 2
    · have b3 : (ny : Int) < 2 := by omega
      have b4 : decide ((ny : Int) < 2) = true := decide_eq_true b3
      have HJ2 := Lib.hid (HJ.out (by rw [← HN.out.1]; exact h2))
      rcases Nat.eq_zero_or_pos i with hi | hi
      · have HI := Lib.hid (show ((i - 1 : Nat) : Int) = 0 by omega)
        rw [HI.out] at HJ2
        have hi2 : (i : Int) - 1 < 0 := by omega
        have hi3 : ¬ (0 : Int) ≤ (i : Int) - 1 := by omega
        have hi4 : ¬ (1 : Int) ≤ (i : Int) := by omega
        have HI0 := Lib.hid hi
        clear hi
        go_wp2_with fail
        refine HJ2.out.mono ?_
        rintro r w5 ⟨rfl, hM5⟩
        have HM5 := Lib.hid hM5
        clear hM5
        go_wp2_with fail
        go_meet
        exact HM5.out
      · have HI := Lib.hid (show ((i - 1 : Nat) : Int) = (i : Int) - 1 by omega)
        rw [HI.out] at HJ2
        have hi2 : ¬ (i : Int) - 1 < 0 := by omega
        have hi3 : (0 : Int) ≤ (i : Int) - 1 := by omega
        have hi4 : (1 : Int) ≤ (i : Int) := by omega
        have HI0 := Lib.hid hi
        clear hi
        go_wp2_with fail
        refine HJ2.out.mono ?_
        rintro r w5 ⟨rfl, hM5⟩
        have HM5 := Lib.hid hM5
        clear hM5
        go_wp2_with fail
        go_meet
        exact HM5.out
    · have b3 : ¬ (ny : Int) < 2 := by omega
      have b4 : decide ((ny : Int) < 2) = false := decide_eq_false b3
      have HF := Lib.hid (HM.out _ (by rw [← HN.out.1]; omega) rfl)
      go_wp2_with fail
      go_meet
      exact HF.out
  case rest =>
    rename World => wx
    obtain ⟨j, D0', ks', kl', y', rfl, hy', hN', hl', hc', hy10, hk50, hF', hC', hmT⟩ := hcut
    have hjl : j < kl'.length := (List.getElem?_eq_some_iff.1 hy').1
    obtain ⟨g', c', KA', kc', c1', q0', k0'⟩ := kid_cells hN' hy'
    obtain ⟨nq', hnq'⟩ : ∃ nq', nq' = kl'.length := ⟨_, rfl⟩
    obtain ⟨ny', hny'⟩ : ∃ ny', ny' = (keysT y'.t).length := ⟨_, rfl⟩
    rw [← hnq'] at c1'
    rw [← hny'] at k0'
    have a0 : (0 : Int) ≤ (j : Int) := by omega
    have a1 : (j : Int) < (nq' : Int) := by omega
    have a2 : (ny' : Int) ≤ 10 := by omega
    have hBx : B ≤ wx.heap.size := Nat.le_trans hB hC'.size
    by_cases h4 : 4 < ny'
    · have a3 : (4 : Int) < (ny' : Int) := by omega
      have hsp := split_node hN' hy' hl' hc' (by omega) (by omega) (by omega) hBx
      have hfin : ∀ w' D0'' z z2, z.t = (splitT y'.t).1 → z2.t = (splitT y'.t).2.2 → Node B (Sub B) D0'' w' b (ks'.take j ++ (splitT y'.t).2.1 :: ks'.drop j) (kl'.take j ++ z :: z2 :: kl'.drop (j + 1)) →
          (∀ k, NF D0'' (kl'.take j ++ z :: z2 :: kl'.drop (j + 1)) k → Ext (NF D0' kl') wx w' k) → Chg (NF D0' kl') wx w' → NodeTo B D0 kl w b (mendT (ks, kl.map Kid.t) i) w' := by
        intro w' D0'' z z2 hz hz2 hN hF hC
        have he : mendT (ks, kl.map Kid.t) i = (ks'.take j ++ (splitT y'.t).2.1 :: ks'.drop j, (kl'.take j ++ z :: z2 :: kl'.drop (j + 1)).map Kid.t) := by
          rw [hmT, if_pos (by rw [← hny']; exact h4)]
          show (match (kl'.map Kid.t)[j]? with | some t => _ | none => _) = _
          rw [map_getT hy']
          simp only [List.map_append, List.map_cons, List.map_take, List.map_drop, hz, hz2]
        rw [he]
        have sw := hC'.size
        have sx := hC.size
        refine ⟨D0'', _, hN, rfl, fun k hk => ?_, hC'.trans' hC fun k hk h => ?_⟩
        · rcases hF k hk with h | h
          · rcases hF' k h with h | h
            · exact .inl h
            · exact .inr ⟨h.1, by omega⟩
          · exact .inr ⟨by omega, h.2⟩
        · rcases hF' k h with h | h
          · exact h
          · omega
      have HSP := Lib.hid hsp
      have HF2 := Lib.hid hfin
      clear hN' hy' hl' hc' hy10 hk50 hF' hC' hmT hjl hnq' hny' hsp hfin h4
      go_wp2_with fail
      refine HSP.out.mono ?_
      rintro r w9 ⟨rfl, D0'', z, z2, e1, e2, e3, e4, e5⟩
      have HR := Lib.hid (HF2.out w9 D0'' z z2 e1 e2 e3 e4 e5)
      clear e1 e2 e3 e4 e5
      go_wp2_with fail
      go_end0
      exact ⟨rfl, HR.out⟩
    · have a3 : ¬ (4 : Int) < (ny' : Int) := by omega
      have HR := Lib.hid (show NodeTo B D0 kl w b (mendT (ks, kl.map Kid.t) i) wx from by
        rw [hmT, if_neg (by rw [← hny']; exact h4)]
        exact ⟨D0', kl', hN', rfl, hF', hC'⟩)
      clear hN' hy' hl' hc' hy10 hk50 hF' hC' hmT hjl hnq' hny' h4
      go_wp2_with fail
      go_end0
      exact ⟨rfl, HR.out⟩
end Go.Proofs.Ytiaclfldgagalaa

/-
  least, Has: down to a leaf.
-/
namespace Go.Proofs.Ytiaclfldgagalaa
open Go.RowKit Go.Lib

/-- a tree whose pages are within their bounds, its marks in order -/
structure TrOk {d : Nat} (t : Tr d) : Prop where
  cnt : Cnt t
  one : 0 < d → 1 ≤ (keysT t).length
  few : (keysT t).length ≤ 10
  ord : (flat t).Pairwise ltM
theorem TrOk.srt {d : Nat} {t : Tr d} (h : TrOk t) : Srt (keysT t) := by
  match d, t, h with
  | 0, (ks : List En), h => exact map_srt h.ord
  | d + 1, (ks, ts), h => exact keys_srt h.cnt.1 h.ord
/-- the way down -/
theorem TrOk.way {d : Nat} {x : Tr (d + 1)} (h : TrOk x) (e : En) : ∃ t, x.2[wayN x.1 e]? = some t ∧ TrOk t ∧ 1 ≤ (keysT t).length ∧ plB (ents x) e = plB (ents t) e ∧ GoodT t := by
  obtain ⟨ks, ts⟩ := x
  have hl : ts.length = ks.length + 1 := h.cnt.1
  obtain ⟨hi, hP, hS⟩ := way_sides hl h.ord e
  have hg : GoodT ts[wayN ks e] := h.cnt.2 _ (List.getElem_mem hi)
  have hf : flatN (ks, ts) = wl (ks.take (wayN ks e)) ((ts.take (wayN ks e)).map flat) ++ (flat ts[wayN ks e] ++ wr (ks.drop (wayN ks e)) ((ts.drop (wayN ks e + 1)).map flat)) := by
    rw [← flat_at _ hl hi, ← ts_cut (List.getElem?_eq_getElem hi)]
  have ho := h.ord
  change (flatN (ks, ts)).Pairwise ltM at ho
  refine ⟨ts[wayN ks e], List.getElem?_eq_getElem hi, ⟨hg.2.2, fun _ => by have := hg.1; omega, by have := hg.2.1; omega, ?_⟩, by have := hg.1; omega, ?_, hg⟩
  · rw [hf] at ho
    exact (List.pairwise_append.1 (List.pairwise_append.1 ho).2.1).1
  · show plB (entsF (flatN (ks, ts))) e = _
    rw [hf, entsF_append, entsF_append]
    exact plB_mid (fun x hx => ltM_ee.1 (hP _ (mem_entsF.1 hx))) fun x hx => by
      have h2 := ltM_ee.1 (hS _ (mem_entsF.1 hx))
      have h3 := good_ordE.anti e x
      omega
theorem results_cell1 {fn : Func} {p : Tmp} {ty : TypeId} (h : fn.results = #[.cell p ty]) (tmps : Array Value) (P : Program) (w : World) :
    (results fn tmps).run P w = ((asAddr (tmps.getD p undef)).run P w).andThen fun a w₁ => (loadVar ty a).run P w₁ := by
  simp only [results, h]
  simp [Sem.run_bind, Result.andThen]

def LeRel (B : Nat) {d : Nat} (t : Tr d) (w1 : World) (g : Nat) (p : Value) (wr : World) : Prop :=
  ∃ (D : Nat → Prop) (b : Nat) (u : Tr g), p = .pointer (some ⟨b, 0, none⟩) ∧ Sub B D wr b u ∧ Cnt u ∧ 1 ≤ (keysT u).length ∧ (keysT u).length ≤ 10 ∧ leastT u = leastT t ∧ wr = w1
set_option maxRecDepth 100000 in
set_option maxHeartbeats 6400000 in
theorem least_any {B d : Nat} {D : Nat → Prop} {w : World} {b : Nat} {t : Tr d} (h : Sub B D w b t) (hc : Cnt t) (h1 : 1 ≤ (keysT t).length) (h10 : (keysT t).length ≤ 10) :
    Calls Try.prog 57 #[.pointer (some ⟨b, 0, none⟩)] w fun r w' => r = .returned (leastT t).val ∧ Below w.heap.size w w' := by
  obtain ⟨w1, hw1⟩ : ∃ w1, w1 = w.alloc (.cells #[.string ⟨#[]⟩, .int .i64 0, .int .i64 0] 35) := ⟨_, rfl⟩
  have hb1 : Below w.heap.size w w1 := by rw [hw1]; exact (Below.refl _ w).alloc (Nat.le_refl _) _
  have kr : Blk w1 w.heap.size 35 #[.string ⟨#[]⟩, .int .i64 0, .int .i64 0] := by rw [hw1]; exact Blk.new _ _ _
  have HR0 := Lib.hid (show LeRel B t w1 d (.pointer (some ⟨b, 0, none⟩)) w1 from ⟨D, b, t, rfl, h.below hb1, hc, h1, h10, rfl, rfl⟩)
  have HB1 := Lib.hid (And.intro hb1 kr)
  have HW1 := Lib.hid hw1
  clear h hc h1 h10 hb1 kr hw1
  go_enter Try.func57, Try.ntmps57
  go_wp2_with fail
  rw [← HW1.out]
  go_loopg [0] d (fun g p wr => LeRel B t w1 g p wr)
  case atStart => exact HR0.out
  case round =>
    obtain ⟨D', b', u, rfl, hS, hcu, hu1, hu10, hle, rfl⟩ := hrel
    match gk, u, hS, hcu, hu1, hu10, hle with
    | 0, (ks : List En), hS, hcu, hu1, hu10, hle =>
      have hS' : PgV B D' wr b' ks [] := hS
      have HLF := Lib.hid (leaf_yes hS')
      obtain ⟨tt, KA, Kc, IA, Ic, hP⟩ := hS'
      have hk0 : 0 < ks.length := hu1
      obtain ⟨g, hKA, e0, e1, e2⟩ := hP.key hk0
      obtain ⟨x, hx⟩ : ∃ x, x = ks[0] := ⟨_, rfl⟩
      rw [← hx] at e0 e1 e2
      have c0 := hP.cells.1
      rw [hKA] at c0
      obtain ⟨nk, hnk⟩ : ∃ nk, nk = ks.length := ⟨_, rfl⟩
      rw [← hnk] at c0
      have hxt : leastT (d := 0) ks = x := by
        rw [hx]
        match ks, hk0 with
        | a :: l, _ => rfl
      have k0 := HB1.out.2.cell 0
      have k1 := HB1.out.2.cell 1
      have k2 := HB1.out.2.cell 2
      simp only [List.getElem?_toArray, List.getElem?_cons_zero, List.getElem?_cons_succ] at k0 k1 k2
      have f0 := HB1.out.2.frozen 0
      have f1 := HB1.out.2.frozen 1
      have f2 := HB1.out.2.frozen 2
      have hn1 : (0 : Int) < (nk : Int) := by omega
      simp only [Nat.zero_mul, Nat.zero_add] at e0 e1 e2
      have HX := Lib.hid (And.intro (show leastT t = x by rw [← hle]; exact hxt) HB1.out)
      clear hS hcu hu1 hu10 hle hP hKA hx hnk hxt hk0
      go_wp2_with (go_at_call 40; refine HLF.out.mono ?_; rintro r w' ⟨rfl, rfl⟩)
      obtain ⟨w3, hw3⟩ : ∃ w3, w3 = ((wr.setCell ⟨w.heap.size, 0, none⟩ (.string x.s)).setCell ⟨w.heap.size, 1, none⟩ (.int .i64 x.p)).setCell ⟨w.heap.size, 2, none⟩ (.int .i64 x.k) := ⟨_, rfl⟩
      have h3 : Blk w3 w.heap.size 35 #[.string x.s, .int .i64 x.p, .int .i64 x.k] := by
        rw [hw3]
        exact ((HX.out.2.2.put 0 _).put 1 _).put 2 _
      have hb3 : Below w.heap.size w w3 := by
        rw [hw3]
        exact ((HX.out.2.1.setCell (Nat.le_refl _) _).setCell (Nat.le_refl _) _).setCell (Nat.le_refl _) _
      have m0 := h3.cell 0
      have m1 := h3.cell 1
      have m2 := h3.cell 2
      simp only [List.getElem?_toArray, List.getElem?_cons_zero, List.getElem?_cons_succ] at m0 m1 m2
      rw [← hw3]
      have HF := Lib.hid (And.intro hb3 HX.out.1)
      clear hw3 h3 hb3 k0 k1 k2 e0 e1 e2 c0 f0 f1 f2
      refine bodyPost_ret (v := .agg #[.string x.s, .int .i64 x.p, .int .i64 x.k]) (by rw [results_cell1 rfl]; go_simp; try exact rfl) rfl ?_
      exact ⟨by rw [HF.out.2]; rfl, HF.out.1⟩
    | gk + 1, u, ⟨D0, kl, hN, hut, hD, hf⟩, hcu, hu1, hu10, hle =>
      have hkl : kl.length = u.1.length + 1 := by
        have h3 : u.2.length = kl.length := by rw [hut, List.length_map]
        have h4 : u.2.length = u.1.length + 1 := hcu.1
        omega
      have hu10' : u.1.length ≤ 10 := hu10
      have h0 : kl[0]? = some kl[0] := List.getElem?_eq_getElem (by omega)
      obtain ⟨y, hy⟩ : ∃ y, y = kl[0] := ⟨_, rfl⟩
      rw [← hy] at h0
      have hym := List.mem_of_getElem? h0
      have hg : GoodT y.t := hcu.2 y.t (by rw [hut]; exact List.mem_map.2 ⟨y, hym, rfl⟩)
      have hly : leastT u = leastT y.t := by
        have h5 : u.2 = y.t :: (kl.drop 1).map Kid.t := by
          rw [hut]
          conv => lhs; rw [cut1 h0]
          simp
        show (match u.2 with | t :: _ => leastT t | [] => e0) = _
        rw [h5]
      have HLF := Lib.hid (leaf_no hN.pg (by rw [List.length_map]; omega) (by rw [List.length_map]; omega))
      obtain ⟨g, c, KA, kc, c1, q0, _⟩ := kid_cells hN h0
      obtain ⟨nq, hnq⟩ : ∃ nq, nq = kl.length := ⟨_, rfl⟩
      rw [← hnq] at c1
      have hn1 : (0 : Int) < (nq : Int) := by omega
      have HF := Lib.hid (show LeRel B t wr gk (.pointer (some ⟨y.p, 0, none⟩)) wr from ⟨y.D, y.p, y.t, rfl, hN.sub y hym, hg.2.2, by have := hg.1; omega, by have := hg.2.1; omega, by rw [← hly]; exact hle, rfl⟩)
      clear hN hut hD hf hcu hu1 hu10 hle hkl hu10' h0 hy hym hg hly hnq
      go_wp2_with (go_at_call 40; refine HLF.out.mono ?_; rintro r w' ⟨rfl, rfl⟩)
      go_roundg gk
      case measure => omega
      case rel => exact HF.out

/-! ### Has -/
def HaRel (B : Nat) (e : En) (q : Bool) (w1 : World) (g : Nat) (p : Value) (wr : World) : Prop :=
  ∃ (D : Nat → Prop) (b : Nat) (u : Tr g), p = .pointer (some ⟨b, 0, none⟩) ∧ Sub B D wr b u ∧ TrOk u ∧ plB (ents u) e = q ∧ Below w1.heap.size w1 wr
set_option maxRecDepth 100000 in
set_option maxHeartbeats 6400000 in
theorem has_any {B d : Nat} {D : Nat → Prop} {w : World} {b : Nat} {t : Tr d} (h : Sub B D w b t) (hk : TrOk t) (e : En) :
    Calls Try.prog 22 #[.pointer (some ⟨b, 0, none⟩), e.val] w fun r w' => r = .returned (.bool (plB (ents t) e)) ∧ Below w.heap.size w w' := by
  have hmx : Try.prog.follows .mixedOrders = true := by kernel_rfl
  obtain ⟨w1, hw1⟩ : ∃ w1, w1 = w.alloc (.cells #[.string e.s, .int .i64 e.p, .int .i64 e.k] 35) := ⟨_, rfl⟩
  have hb1 : Below w.heap.size w w1 := by rw [hw1]; exact (Below.refl _ w).alloc (Nat.le_refl _) _
  have k1 : Blk w1 w.heap.size 35 #[.string e.s, .int .i64 e.p, .int .i64 e.k] := by rw [hw1]; exact Blk.new _ _ _
  obtain ⟨q, hq⟩ : ∃ q, q = plB (ents t) e := ⟨_, rfl⟩
  rw [← hq]
  have HR0 := Lib.hid (show HaRel B e q w1 d (.pointer (some ⟨b, 0, none⟩)) w1 from ⟨D, b, t, rfl, h.below hb1, hk, hq.symm, Below.refl _ _⟩)
  have HB1 := Lib.hid (And.intro hb1 k1)
  have HW1 := Lib.hid hw1
  have HS1 := Lib.hid (show w1.heap.size = w.heap.size + 1 by rw [hw1]; simp)
  clear h hk hb1 k1 hw1 hq
  unfold En.val
  go_enter Try.func22, Try.ntmps22
  go_wp2_with fail
  rw [← HW1.out]
  go_loopg [5] d (fun g p wr => HaRel B e q w1 g p wr)
  case atStart => exact HR0.out
  case round =>
    obtain ⟨D', b', u, rfl, hS, hok, hqq, hbl⟩ := hrel
    have kr := HB1.out.2.below hbl (by rw [HS1.out]; omega)
    have k0 := kr.cell 0
    have k1 := kr.cell 1
    have k2 := kr.cell 2
    simp only [List.getElem?_toArray, List.getElem?_cons_zero, List.getElem?_cons_succ] at k0 k1 k2
    have HBL := Lib.hid hbl
    match gk, u, hS, hok, hqq with
    | 0, (ks : List En), hS, hok, hqq =>
      have hS' : PgV B D' wr b' ks [] := hS
      have hl : ks.length ≤ 10 := hok.few
      have HLF := Lib.hid (leaf_yes hS')
      have hFN := find_any hS' hok.srt (by show ks.length ≤ 1000000; omega) e
      have hqe : plB ks e = q := by rw [← hqq]; exact congrArg (plB · e) (entsF_map ks).symm
      rw [hqe] at hFN
      have HFN := Lib.hid hFN
      unfold En.val at HFN
      clear hS hS' hok hqq hqe hFN hbl kr
      go_wp2_with (first
        | (go_at_call 40; refine HLF.out.mono ?_; rintro r w' ⟨rfl, rfl⟩)
        | (go_at_call 43; refine HFN.out.mono ?_; rintro r w6 ⟨rfl, hb6⟩; have HB6 := Lib.hid (HBL.out.trans (hb6.mono HBL.out.size)); clear hb6))
      go_ret
      exact ⟨rfl, HB1.out.1.trans (HB6.out.mono HB1.out.1.size)⟩
    | gk + 1, u, ⟨D0, kl, hN, hut, hD, hf⟩, hok, hqq =>
      obtain ⟨t', ht', hokt, hone, hpl, hgd⟩ := hok.way e
      have hkl : kl.length = u.1.length + 1 := by
        have h3 : u.2.length = kl.length := by rw [hut, List.length_map]
        have h4 : u.2.length = u.1.length + 1 := hok.cnt.1
        omega
      have hu10' : u.1.length ≤ 10 := hok.few
      obtain ⟨j, hj⟩ : ∃ j, j = wayN u.1 e := ⟨_, rfl⟩
      rw [← hj] at ht'
      obtain ⟨y, hy, hyt⟩ : ∃ y, kl[j]? = some y ∧ y.t = t' := by
        rw [hut, List.getElem?_map] at ht'
        cases hk : kl[j]? with
        | none => rw [hk] at ht'; cases ht'
        | some y => rw [hk] at ht'; exact ⟨y, rfl, Option.some.inj ht'⟩
      have hjl := (List.getElem?_eq_some_iff.1 hy).1
      have hym := List.mem_of_getElem? hy
      have HLF := Lib.hid (leaf_no hN.pg (by rw [List.length_map]; omega) (by rw [List.length_map]; omega))
      have hWY := fun p : BelowBy wr => way_any (hN.pg.below p.h) hok.srt (by show u.1.length ≤ 1000000; omega) e
      simp only [← hj] at hWY
      have HWY := Lib.hid hWY
      unfold En.val at HWY
      obtain ⟨g, c, KA, kc, c1, q0, _⟩ := kid_cells hN hy
      obtain ⟨nq, hnq⟩ : ∃ nq, nq = kl.length := ⟨_, rfl⟩
      rw [← hnq] at c1
      have hn0 : (0 : Int) ≤ (j : Int) := by omega
      have hn1 : (j : Int) < (nq : Int) := by omega
      have b0 := BelowBy.cell c1
      have b1 := BelowBy.cell q0
      have d0 := BelowBy.cell k0
      have d1 := BelowBy.cell k1
      have d2 := BelowBy.cell k2
      have HF := Lib.hid (show ∀ w', Below wr.heap.size wr w' → HaRel B e q w1 gk (.pointer (some ⟨y.p, 0, none⟩)) w' from fun w' hb => ⟨y.D, y.p, y.t, rfl, (hN.sub y hym).below hb, by rw [hyt]; exact hokt, by rw [hyt, ← hpl]; exact hqq, HBL.out.trans (hb.mono HBL.out.size)⟩)
      clear hN hut hD hf hok hqq hkl hu10' hj hy hyt hym hnq hjl ht' hokt hone hpl hgd hWY hbl kr
      go_wp2_with (go_at_call 40; refine HLF.out.mono ?_; rintro r w' ⟨rfl, rfl⟩)
      refine wp_region_below hmx (by kernel_rfl) ?_
      repeat (quiet_step (first | (go_at_call 42; exact calls_below (HWY.out _))))
      refine wpQuiet_nil ?_
      intro _ hw'
      obtain ⟨pq, hw''⟩ := hw'
      subst hw''
      go_wp2_with fail
      go_roundg gk
      case measure => omega
      case rel => exact HF.out _ pq.h
end Go.Proofs.Ytiaclfldgagalaa
