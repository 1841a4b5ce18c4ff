/-
  The program's locks: Things.
-/
import Derived.Test.YthbbheegkhlniaaGreatM16
namespace Go.Proofs.YthbbheegkhlniaaGreat
open Go.RowKit Go.Lib Go.Shelf Go.Maps

theorem mem_tgL {H : List Od} {x : Int} {t : Th} : t ∈ tgL H x ↔ ∃ o ∈ H, o.x = x ∧ o.th = t := by
  unfold tgL
  rw [List.mem_map]
  constructor
  · rintro ⟨o, ho, e⟩
    rw [List.mem_filter] at ho
    exact ⟨o, ho.1, of_decide_eq_true ho.2, e⟩
  · rintro ⟨o, ho, e1, e2⟩
    exact ⟨o, List.mem_filter.2 ⟨ho, decide_eq_true e1⟩, e2⟩
theorem tgL_nodup {H : List Od} (h : HOk H) (x : Int) : (tgL H x).Nodup := by
  unfold tgL
  rw [List.Nodup, List.pairwise_map]
  refine (h.apart.filter _).imp_of_mem fun {a b} ha hb hab e => ?_
  rw [List.mem_filter] at ha hb
  exact (hab e).1 ((of_decide_eq_true ha.2).trans (of_decide_eq_true hb.2).symm)
theorem sort_tgL {H : List Od} (h : HOk H) (x : Int) : sortT (tgL H x) = thingsL H x :=
  srt_ext (sortT_srt (tgL_nodup h x)) (thingsL_srt H x) fun t => by rw [(sortT_perm _).mem_iff, mem_tgL, mem_thingsL]
theorem thC_row {w : World} {B n c : Nat} {A : Option Addr} {l : List Th} (h : w.ownsRow B 32 3 (.slice A n c) n (ths l)) : ∀ ad, A = some ad → ∀ j u, (ths l)[j]? = some u → w.cell? (ad.add j) = some u := fun ad ha j u hu => by
  rcases own_form2 h with ⟨h1, _⟩ | ⟨g, h1⟩
  · rw [h1] at ha; cases ha
  · rw [h1] at ha
    obtain rfl := Option.some.inj ha
    subst h1
    exact h.cells (g := g) rfl j u hu
theorem ths_one (l : List Th) : ∀ u ∈ ths l, u.oneCell' = true := by
  intro u hu
  obtain ⟨x, _, hx⟩ := List.mem_flatMap.1 hu
  exact thC_one x u hx
set_option maxRecDepth 100000 in
set_option maxHeartbeats 6400000 in
theorem lthings_any {B tb : Nat} {D : Nat → Prop} {w : World} {l : Lk} (x : Int) (h : TI B D w tb l) (hz : szL l ≤ 1000) (hx : NumI x) :
    Calls Tryz.prog 23 #[ptrL tb, .int .i64 x] w fun r w' => ∃ A n c, r = .returned (.slice A n c) ∧ n = (thingsL l.H x).length ∧ w'.ownsRow w.heap.size 32 3 (.slice A n c) n (ths (thingsL l.H x)) ∧ Below w.heap.size w w' := by
  obtain ⟨hok, S, hm, hr⟩ := h
  have hlk := hm.look1 hx
  have c1 := hm.c1
  obtain ⟨A, c, hv⟩ := (hm.tr x).form
  rw [hv] at hlk
  have ho := (hm.tr x).own
  rw [hv, hr.tg] at ho
  rw [hr.tg] at hlk
  obtain ⟨n, hn⟩ : ∃ n, n = (tgL l.H x).length := ⟨_, rfl⟩
  rw [← hn] at hlk ho
  have hl := tgL_len l.H x
  unfold szL at hz
  have hn9 : n ≤ 1000000 := by omega
  rw [← sort_tgL hok.h x]
  have hcl := cloneT_any (w := w) (A := A) (m := n) (cc := c) (zs := ths (tgL l.H x)) (by rw [ths_len, hn]) (fun h => by subst h; exact (own_nil ho).1) (thC_row ho) (ths_one _) hn9
  have H := Lib.hid (And.intro hcl (And.intro hn hl))
  clear hcl ho hm hr hok hv hl hn
  go_enter Tryz.func23, Tryz.ntmps23
  go_wp2_with (first
    | (go_at_call 58; refine H.out.1.mono ?_; rintro e w2 ⟨A2, c2, rfl, ho2, hb2, _⟩; have H2 := Lib.hid (And.intro ho2 hb2); clear ho2 hb2)
    | (go_at_call 47; refine (sortF_any H2.out.1 H.out.2.1 (by rw [← H.out.2.1]; exact hn9)).mono ?_; rintro e w3 ⟨rfl, hR⟩; have H3 := Lib.hid hR; clear hR))
  go_ret
  refine ⟨A2, n, c2, rfl, by rw [sortT_len]; exact H.out.2.1, H3.out.own, H2.out.2.trans (H3.out.chg.below (fun k hk => (H2.out.1.lt k hk).1) H2.out.2.size)⟩
end Go.Proofs.YthbbheegkhlniaaGreat

/-
  Whom a transaction waits for, as mathematics.
-/
namespace Go.Proofs.YthbbheegkhlniaaGreat
open Go.RowKit Go.Lib Go.Shelf Go.Maps

section
variable {α : Type} [Inhabited α]
theorem arr_get {l : List α} {m : Nat} (h : m < l.length) : l.toArray[m]! = l[m] := by simp [getElem!_pos, h]
variable [DecidableEq α]
theorem compUp_mem {l : List α} {x : α} : ∀ {m : Nat}, m ≤ l.length → (x ∈ Lib.compactUpTo l.toArray m ↔ x ∈ l.take m)
  | 0, _ => by simp [Lib.compactUpTo]
  | m + 1, h => by
    have hm : m < l.length := by omega
    rw [Lib.compactUpTo_succ, List.mem_append, compUp_mem (m := m) (by omega), List.take_succ_eq_append_getElem hm, List.mem_append, arr_get hm]
    by_cases hk : Lib.keeps l.toArray m = true
    · rw [if_pos hk]
    · rw [if_neg hk]
      have h1 : m ≠ 0 ∧ l[m] = l[m - 1]'(by omega) := by
        unfold Lib.keeps at hk
        simp only [decide_eq_true_eq, not_or, Decidable.not_not] at hk
        refine ⟨hk.1, ?_⟩
        have h2 := hk.2
        rw [arr_get hm, arr_get (by omega)] at h2
        exact h2
      constructor
      · rintro (h2 | h2)
        · exact .inl h2
        · cases h2
      · rintro (h2 | h2)
        · exact .inl h2
        · rw [List.mem_singleton] at h2
          refine .inl ?_
          rw [h2, h1.2]
          exact List.mem_take_iff_getElem.2 ⟨m - 1, by omega, rfl⟩
theorem comp_mem {l : List α} {x : α} : x ∈ Lib.compact l ↔ x ∈ l := by
  unfold Lib.compact
  rw [compUp_mem (Nat.le_refl _), List.take_length]
theorem compUp_srt {R lt : α → α → Prop} {l : List α} (hl : l.Pairwise R) (h1 : ∀ a b, R a b → a ≠ b → lt a b) (h2 : ∀ a b, R a b → R b a → a = b) : ∀ {m : Nat}, m ≤ l.length → (Lib.compactUpTo l.toArray m).Pairwise lt
  | 0, _ => by simp [Lib.compactUpTo]
  | m + 1, h => by
    have hm : m < l.length := by omega
    rw [Lib.compactUpTo_succ]
    have ih := compUp_srt hl h1 h2 (m := m) (by omega)
    by_cases hk : Lib.keeps l.toArray m = true
    · rw [if_pos hk, List.pairwise_append]
      refine ⟨ih, List.pairwise_singleton _ _, fun y hy z hz => ?_⟩
      rw [List.mem_singleton] at hz
      subst hz
      rw [arr_get hm]
      rw [compUp_mem (by omega)] at hy
      obtain ⟨j, hj, rfl⟩ := List.mem_take_iff_getElem.1 hy
      have hjm : j < m := by omega
      have hR := List.pairwise_iff_getElem.1 hl
      refine h1 _ _ (hR j m (by omega) hm hjm) fun e => ?_
      have h3 : l[m] ≠ l[m - 1]'(by omega) := by
        unfold Lib.keeps at hk
        simp only [decide_eq_true_eq] at hk
        rcases hk with h0 | h0
        · omega
        · rw [arr_get hm, arr_get (by omega)] at h0
          exact h0
      by_cases e2 : j = m - 1
      · subst e2; exact h3 e.symm
      · have h4 := hR j (m - 1) (by omega) (by omega) (by omega)
        have h5 := hR (m - 1) m (by omega) hm (by omega)
        rw [← e] at h5
        exact h3 (e.symm.trans (h2 _ _ h4 h5))
    · rw [if_neg hk, List.append_nil]
      exact ih
theorem comp_srt {R lt : α → α → Prop} {l : List α} (hl : l.Pairwise R) (h1 : ∀ a b, R a b → a ≠ b → lt a b) (h2 : ∀ a b, R a b → R b a → a = b) : (Lib.compact l).Pairwise lt := compUp_srt hl h1 h2 (Nat.le_refl _)
end
/-! ### things -/
theorem compT_srt (l : List Th) : SrtT (Lib.compact (sortT l)) :=
  comp_srt (R := fun a b => belowT b a = false) (lt := fun a b => belowT a b = true) (sortT_le l) (fun a b h hne => by
    cases h1 : belowT a b with
    | true => rfl
    | false => exact absurd (bt_tot h1 h) hne) fun a b h1 h2 => bt_tot h2 h1
theorem mem_compT {l : List Th} {t : Th} : t ∈ Lib.compact (sortT l) ↔ t ∈ l := by rw [comp_mem, (sortT_perm l).mem_iff]
/-! ### numbers -/
def SrtI (l : List Int) : Prop := l.Pairwise fun a b => a < b
theorem sortI_le (l : List Int) : (sortI l).Pairwise fun a b => a ≤ b := by
  have h := List.pairwise_mergeSort (le := fun x y : Int => decide (x ≤ y)) (fun a b c h1 h2 => by simp at *; omega) (fun a b => by simp; omega) l
  exact h.imp fun {a b} h => by simpa using h
theorem compI_srt (l : List Int) : SrtI (Lib.compact (sortI l)) :=
  comp_srt (R := fun a b : Int => a ≤ b) (lt := fun a b => a < b) (sortI_le l) (fun a b h hne => by omega) fun a b h1 h2 => by omega
theorem mem_compI {l : List Int} {t : Int} : t ∈ Lib.compact (sortI l) ↔ t ∈ l := by
  rw [comp_mem]
  unfold sortI
  rw [(List.mergeSort_perm l _).mem_iff]
theorem srtI_ext : ∀ {l k : List Int}, SrtI l → SrtI k → (∀ x, x ∈ l ↔ x ∈ k) → l = k
  | [], [], _, _, _ => rfl
  | [], a :: k, _, _, h => absurd ((h a).2 List.mem_cons_self) (by simp)
  | a :: l, [], _, _, h => absurd ((h a).1 List.mem_cons_self) (by simp)
  | a :: l, b :: k, hl, hk, h => by
    have hl' := List.pairwise_cons.1 hl
    have hk' := List.pairwise_cons.1 hk
    have e : a = b := by
      rcases List.mem_cons.1 ((h a).1 List.mem_cons_self) with h1 | h1
      · exact h1
      · rcases List.mem_cons.1 ((h b).2 List.mem_cons_self) with h2 | h2
        · exact h2.symm
        · have h3 := hl'.1 b h2
          have h4 := hk'.1 a h1
          omega
    subst e
    rw [srtI_ext hl'.2 hk'.2 fun x => ?_]
    constructor
    · intro hx
      rcases List.mem_cons.1 ((h x).1 (List.mem_cons_of_mem _ hx)) with h1 | h1
      · subst h1; have := hl'.1 x hx; omega
      · exact h1
    · intro hx
      rcases List.mem_cons.1 ((h x).2 (List.mem_cons_of_mem _ hx)) with h1 | h1
      · subst h1; have := hk'.1 x hx; omega
      · exact h1
theorem putGoI_srt {t : Int} : ∀ {l : List Int} {b : Bool}, SrtI l → (b = false → ∀ x ∈ l, x ≠ t) → SrtI (putGo (fun a b : Int => decide (a < b)) t b l)
  | [], false, _, _ => by simp [putGo, SrtI]
  | [], true, _, _ => by simp [putGo, SrtI]
  | u :: r, true, h, _ => by
    have h' := List.pairwise_cons.1 h
    rw [putGo]
    refine List.pairwise_cons.2 ⟨fun x hx => ?_, putGoI_srt (b := true) h'.2 (fun e => by cases e)⟩
    rcases mem_putGo.1 hx with h1 | h1
    · exact h'.1 x h1
    · exact absurd h1.1 (by decide)
  | u :: r, false, h, hn => by
    have h' := List.pairwise_cons.1 h
    have hne : u ≠ t := hn rfl u List.mem_cons_self
    rw [putGo]
    split
    · rename_i hlt
      have hlt : t < u := by simpa using hlt
      refine List.pairwise_cons.2 ⟨fun x hx => ?_, List.pairwise_cons.2 ⟨fun x hx => ?_, putGoI_srt (b := true) h'.2 (fun e => by cases e)⟩⟩
      · rcases List.mem_cons.1 hx with h1 | h1
        · omega
        · rcases mem_putGo.1 h1 with h2 | h2
          · have := h'.1 x h2; omega
          · exact absurd h2.1 (by decide)
      · rcases mem_putGo.1 hx with h2 | h2
        · exact h'.1 x h2
        · exact absurd h2.1 (by decide)
    · rename_i hlt
      have hlt : ¬ t < u := by simpa using hlt
      refine List.pairwise_cons.2 ⟨fun x hx => ?_, putGoI_srt (b := false) h'.2 (fun _ x hx => hn rfl x (List.mem_cons_of_mem _ hx))⟩
      rcases mem_putGo.1 hx with h1 | h1
      · exact h'.1 x h1
      · rw [h1.2]; omega
theorem putN_srt {l : List Int} (h : SrtI l) (t : Int) : SrtI (putN l t) := by
  unfold putN putL
  split
  · exact h
  · rename_i hn
    exact putGoI_srt h fun _ x hx e => hn (e ▸ hx)
theorem foldN_srt {α : Type} (f : α → Int) : ∀ (l : List α) {a : List Int}, SrtI a → SrtI (l.foldl (fun acc b => putN acc (f b)) a)
  | [], _, h => h
  | _ :: r, _, h => foldN_srt f r (putN_srt h _)
theorem mem_foldN {α : Type} {f : α → Int} {u : Int} {l : List α} {init : List Int} : u ∈ l.foldl (fun acc b => putN acc (f b)) init ↔ u ∈ init ∨ ∃ b ∈ l, f b = u := mem_fold_putL
/-! ### whom it waits for -/
/-- those of a thing's holders and first waiters that bar a lock -/
def bars (o : Hd) (hs ws : List Hd) : List Int := ((hs ++ ws).filter (agP o)).map fun h => h.1
theorem idxL_ws {t : Th} {x : Int} : ∀ {W : List Od} {o : Od}, waitL W x = some o → o.th = t → ∃ i, idxL (ofP x) (wsL W t) = some i ∧ (∃ hi : i < (wsL W t).length, (wsL W t)[i] = (o.x, o.m, true)) ∧ (wsL W t).take i = wsL (W.takeWhile fun a => decide (a.x ≠ x)) t
  | [], o, h, _ => by cases h
  | a :: r, o, h, ht => by
    have hc := wsL_cons a r t
    unfold waitL at h
    rw [List.find?_cons] at h
    by_cases h2 : a.x = x
    · rw [decide_eq_true h2] at h
      injection h with h
      subst h
      rw [if_pos ht] at hc
      refine ⟨0, by rw [hc, idxL, if_pos (by simp [ofP, h2])], ⟨by rw [hc]; simp, by simp only [hc, List.getElem_cons_zero]⟩, ?_⟩
      rw [List.takeWhile_cons_of_neg (by simp [h2])]
      rfl
    · rw [decide_eq_false h2] at h
      obtain ⟨i, h3, ⟨h4, h5⟩, h6⟩ := idxL_ws (W := r) h ht
      rw [List.takeWhile_cons_of_pos (by simp [h2])]
      have hc2 := wsL_cons a (r.takeWhile fun a => decide (a.x ≠ x)) t
      by_cases h1 : a.th = t
      · rw [if_pos h1] at hc
        refine ⟨i + 1, by rw [hc, idxL, if_neg (by simp [ofP, h2]), h3]; rfl, ⟨by rw [hc]; simpa using h4, by simp only [hc, List.getElem_cons_succ]; exact h5⟩, ?_⟩
        rw [hc, List.take_succ_cons, h6, hc2, if_pos h1]
      · rw [if_neg h1] at hc
        refine ⟨i, by rw [hc]; exact h3, ⟨by rw [hc]; exact h4, by simp only [hc]; exact h5⟩, ?_⟩
        rw [hc, h6, hc2, if_neg h1]
theorem mem_hsL {H : List Od} {t : Th} {h : Hd} : h ∈ hsL H t ↔ ∃ o ∈ H, o.th = t ∧ h = (o.x, o.m, false) := by
  unfold hsL
  rw [List.mem_map]
  constructor
  · rintro ⟨o, ho, e⟩
    rw [List.mem_filter] at ho
    exact ⟨o, ho.1, of_decide_eq_true ho.2, e.symm⟩
  · rintro ⟨o, ho, e1, e2⟩
    exact ⟨o, List.mem_filter.2 ⟨ho, decide_eq_true e1⟩, e2.symm⟩
theorem mem_wsL {W : List Od} {t : Th} {h : Hd} : h ∈ wsL W t ↔ ∃ o ∈ W, o.th = t ∧ h = (o.x, o.m, true) := by
  unfold wsL
  rw [List.mem_map]
  constructor
  · rintro ⟨o, ho, e⟩
    rw [List.mem_filter] at ho
    exact ⟨o, ho.1, of_decide_eq_true ho.2, e.symm⟩
  · rintro ⟨o, ho, e1, e2⟩
    exact ⟨o, List.mem_filter.2 ⟨ho, decide_eq_true e1⟩, e2.symm⟩
theorem mem_tw {x : Int} : ∀ {W : List Od} {a : Od}, a ∈ W.takeWhile (fun a => decide (a.x ≠ x)) → a.x ≠ x
  | b :: r, a, h => by
    rw [List.takeWhile_cons] at h
    split at h
    · rename_i hb
      rcases List.mem_cons.1 h with h1 | h1
      · rw [h1]; simpa using hb
      · exact mem_tw h1
    · cases h
theorem block_bars {l : Lk} {x : Int} {o : Od} (h : waitL l.W x = some o) : blockL l x = Lib.compact (sortI (bars (o.x, o.m, true) (hsL l.H o.th) (wsL (l.W.takeWhile fun a => decide (a.x ≠ x)) o.th))) := by
  have hx := (mem_waitL h).2
  unfold blockL
  rw [h]
  simp only
  refine srtI_ext (foldN_srt _ _ (foldN_srt _ _ List.Pairwise.nil)) (compI_srt _) fun u => ?_
  rw [mem_compI, mem_foldN, mem_foldN]
  unfold bars
  rw [List.mem_map]
  constructor
  · rintro ((h1 | ⟨k, hk, rfl⟩) | ⟨a, ha, rfl⟩)
    · cases h1
    · rw [List.mem_filter] at hk
      obtain ⟨e1, e2, e3⟩ := inWay_iff.1 hk.2
      refine ⟨(k.x, k.m, false), List.mem_filter.2 ⟨List.mem_append.2 (.inl (mem_hsL.2 ⟨k, hk.1, e1, rfl⟩)), ?_⟩, rfl⟩
      unfold agP
      simp [e2, e3]
    · rw [List.mem_filter] at ha
      obtain ⟨e1, e2⟩ := ahead_iff.1 ha.2
      have e3 := mem_tw ha.1
      refine ⟨(a.x, a.m, true), List.mem_filter.2 ⟨List.mem_append.2 (.inr (mem_wsL.2 ⟨a, ha.1, e1, rfl⟩)), ?_⟩, rfl⟩
      unfold agP
      simp [e2, hx, e3]
  · rintro ⟨g, hg, rfl⟩
    rw [List.mem_filter, List.mem_append] at hg
    obtain ⟨h1 | h1, h2⟩ := hg
    · obtain ⟨k, hk, e1, rfl⟩ := mem_hsL.1 h1
      unfold agP at h2
      simp at h2
      exact .inl (.inr ⟨k, List.mem_filter.2 ⟨hk, inWay_iff.2 ⟨e1, h2.1, h2.2⟩⟩, rfl⟩)
    · obtain ⟨k, hk, e1, rfl⟩ := mem_wsL.1 h1
      unfold agP at h2
      simp at h2
      exact .inr ⟨k, List.mem_filter.2 ⟨hk, ahead_iff.2 ⟨e1, h2.2⟩⟩, rfl⟩
end Go.Proofs.YthbbheegkhlniaaGreat

/-
  The program's locks: Blockers.
-/
namespace Go.Proofs.YthbbheegkhlniaaGreat
open Go.RowKit Go.Lib Go.Shelf Go.Maps

/-- where Blockers stands: the rows that it makes, the lock that it asks for -/
structure BkS (w wr : World) (AC : Option Addr) (cC n : Nat) (cs : List Hd) (L : Value) (m : Nat) (out : List Int) (q : Nat) (o : Hd) : Prop where
  low : Below w.heap.size w wr
  cat : wr.ownsRow w.heap.size 62 3 (.slice AC n cC) n (heldV cs)
  lst : wr.ownsRow w.heap.size 3 1 L m (intsV out)
  bq : Blk wr q 62 #[.int .i64 o.1, .int .i64 o.2.1, .bool o.2.2]
theorem BkS.below {w wr w' : World} {AC : Option Addr} {cC n m q : Nat} {cs : List Hd} {L : Value} {out : List Int} {o : Hd} (h : BkS w wr AC cC n cs L m out q o) (hb : Below wr.heap.size wr w') : BkS w w' AC cC n cs L m out q o :=
  ⟨h.low.trans (hb.mono h.low.size), own_chg h.cat (F := Non) (Chg.of_below hb) fun _ _ hf => hf, own_chg h.lst (F := Non) (Chg.of_below hb) fun _ _ hf => hf, h.bq.below hb h.bq.lt⟩
theorem BkS.push {w wr w' : World} {AC : Option Addr} {cC n m m' q : Nat} {cs : List Hd} {L L' : Value} {out out' : List Int} {o : Hd} (h : BkS w wr AC cC n cs L m out q o) (hR : RowTo w.heap.size 3 1 L wr L' m' (intsV out') w') : BkS w w' AC cC n cs L' m' out' q o :=
  ⟨h.low.trans (hR.chg.below (fun k hk => (h.lst.lt k hk).1) h.low.size), own_chg h.cat hR.chg fun k hk hl => own_dif2 h.lst h.cat (by decide) k hl hk, hR.own, h.bq.chg hR.chg (own_ne h.lst h.bq (by decide))⟩
theorem RowG.takeH {w : World} {B : Nat} {A : Option Addr} {l : List Hd} (h : RowG heldC 3 w B A l) (i : Nat) : RowG heldC 3 w B A (l.take i) := by
  refine ⟨fun h0 => h.lo (by simp at h0; omega), fun j hj k u hu => ?_⟩
  have hj' : j < l.length := by simp at hj; omega
  rw [List.getElem_take] at hu
  exact h.cell j hj' k u hu
theorem filter_take_succ {p : Hd → Bool} {l : List Hd} {k : Nat} (hk : k < l.length) : (l.take (k + 1)).filter p = (l.take k).filter p ++ (if p l[k] = true then [l[k]] else []) := by
  rw [List.take_succ_eq_append_getElem hk, List.filter_append]
  congr 1
  cases h : p l[k] <;> simp [h]
set_option maxRecDepth 100000 in
set_option maxHeartbeats 12800000 in
theorem lblockers_any {B tb : Nat} {D : Nat → Prop} {w : World} {l : Lk} (x : Int) (h : TI B D w tb l) (hz : szL l ≤ 1000) (hx : NumI x) :
    Calls Tryz.prog 19 #[ptrL tb, .int .i64 x] w fun r w' => ∃ v, r = .returned v ∧ IntsRet w (blockL l x) w' v ∧ Below w.heap.size w w' := by
  obtain ⟨hok, S, hm, hr⟩ := h
  have hlk := hm.look2 hx
  have c2 := hm.c2
  cases hwt : waitL l.W x with
  | none =>
    have e1 : S.wn x = none := by rw [hr.wn]; unfold wnL; rw [hwt]; rfl
    rw [e1] at hlk
    unfold waV at hlk
    simp only [Option.isSome_none] at hlk
    have HE := Lib.hid (show blockL l x = [] by unfold blockL; rw [hwt])
    clear hok hm hr hwt e1 hz
    go_enter Tryz.func19, Tryz.ntmps19
    go_wp2_with fail
    go_ret
    refine ⟨_, rfl, ?_, (Below.refl _ w).alloc (Nat.le_refl _) _⟩
    rw [HE.out]
    exact ⟨none, 0, 0, rfl, rfl, World.ownsRow_nil _ _ _ _⟩
  | some o =>
    have e1 : S.wn x = some (o.th, o.m) := by rw [hr.wn]; unfold wnL; rw [hwt]; rfl
    rw [e1] at hlk
    unfold waV at hlk
    simp only [Option.isSome_some] at hlk
    obtain ⟨ho, hox⟩ := mem_waitL hwt
    have hkey := (hr.kw o ho).1
    obtain ⟨i, hi, ⟨hil, hio⟩, hit⟩ := idxL_ws hwt rfl
    have hne : hsL l.H o.th ≠ [] := fun e => by
      have := hok.held e
      rw [this] at hil
      simp at hil
    obtain ⟨b, hls⟩ : ∃ b, S.ls o.th = some b := by
      cases hb : S.ls o.th with
      | some b => exact ⟨b, rfl⟩
      | none => exact absurd (hr.none_ hb) hne
    obtain ⟨w1, hw1⟩ : ∃ w1, w1 = w.alloc (.cells #[.int .i64 o.th.k, .string o.th.t, .string o.th.y, .int .i64 o.m] 34) := ⟨_, rfl⟩
    have hB1 : Below w.heap.size w w1 := by rw [hw1]; exact (Below.refl _ w).alloc (Nat.le_refl _) _
    have hK1 : Blk w1 w.heap.size 34 #[.int .i64 o.th.k, .string o.th.t, .string o.th.y, .int .i64 o.m] := by rw [hw1]; exact Blk.new _ _ _
    have hblk := block_bars hwt
    rw [hox] at hio hblk
    rw [← hit] at hblk
    obtain ⟨n, hn⟩ : ∃ n, n = (hsL l.H o.th).length := ⟨_, rfl⟩
    obtain ⟨n', hn'⟩ : ∃ n', n' = (wsL l.W o.th).length := ⟨_, rfl⟩
    have hz' := hz
    unfold szL at hz'
    have hhl := hsL_len l.H o.th
    have hwl := wsL_len l.W o.th
    have hn9 : n ≤ 1000 := by omega
    have hn9' : n' ≤ 1000 := by omega
    have hil' : i < n' := by omega
    have HS := Lib.hid (show ∀ w', Below w1.heap.size w1 w' → (w'.cell? ⟨tb, 0, none⟩ = some (.map (some S.m0)) ∧ w'.cell? ⟨w.heap.size, 0, none⟩ = some (.int .i64 o.th.k) ∧ w'.cell? ⟨w.heap.size, 1, none⟩ = some (.string o.th.t) ∧ w'.cell? ⟨w.heap.size, 2, none⟩ = some (.string o.th.y) ∧ (Instr.lookup 52 (.map (some S.m0)) (.agg #[.int .i64 o.th.k, .string o.th.t, .string o.th.y]) false).run Tryz.prog w' = .ok (pt b) w') ∧ ∃ A c A' c', LnR w' b 3 A c (hsL l.H o.th) ∧ LnR w' b 4 A' c' (wsL l.W o.th) ∧ S.hv o.th = .slice A (hsL l.H o.th).length c ∧ S.wv o.th = .slice A' (wsL l.W o.th).length c' ∧ (wsL l.W o.th).length ≤ c' ∧ c' ≤ maxLen from fun w' hb => by
      have h1 := (hm.below hB1).below hb
      have hk := hK1.below hb hK1.lt
      have hl := h1.look0n hkey
      rw [hls] at hl
      obtain ⟨A, c, hv, hL⟩ := h1.readH hls
      obtain ⟨A', c', hv', hL'⟩ := h1.readW hls
      rw [hr.h] at hL hv
      rw [hr.v] at hL' hv'
      have hcap := (h1.wr o.th).own
      rw [hr.v, hv'] at hcap
      obtain ⟨hc1, hc2⟩ := own_caps hcap
      exact ⟨⟨h1.c0, hk.cell 0, hk.cell 1, hk.cell 2, hl⟩, A, c, A', c', hL, hL', hv, hv', hc1, hc2⟩)
    obtain ⟨A, c, A', c', hLa, hLb, hva, hvb, hcap, hcm⟩ := (HS.out w1 (Below.refl _ _)).2
    obtain ⟨i0, hi0', hz0, hz1, hz2⟩ := info_parts Tryz.infoint2
    have hicz : (i : Int) ≤ (c' : Int) := by omega
    have hc0 : (c' : Int) ≤ 9223372036854775807 := by unfold maxLen at hcm; omega
    have H := Lib.hid (And.intro hB1 (And.intro hw1 (And.intro hblk (And.intro hn (And.intro hn' (And.intro hi (And.intro hio (And.intro hLa hLb))))))))
    have q0 := (HS.out w1 (Below.refl _ _)).1
    have hbd : Below w1.heap.size w1 w1.drew := (Below.refl _ w1).drew
    have q1 := (HS.out w1.drew hbd).1
    have HQ := Lib.hid (And.intro q0 q1)
    clear hok hm hr hwt e1 hz ho hkey hio hit hne hls hw1 hB1 hK1 hblk hn hn' hz' hhl hwl hi hLa hLb hva hvb q0 q1 HS hbd hcap hcm
    go_enter Tryz.func19, Tryz.ntmps19
    go_upto_region 4 with fail
    rw [← H.out.2.1]
    go_region_held3 (fun w' => w'.cell? ⟨tb, 0, none⟩ = some (.map (some S.m0)) ∧ w'.cell? ⟨w.heap.size, 0, none⟩ = some (.int .i64 o.th.k) ∧ w'.cell? ⟨w.heap.size, 1, none⟩ = some (.string o.th.t) ∧ w'.cell? ⟨w.heap.size, 2, none⟩ = some (.string o.th.y) ∧ (Instr.lookup 52 (.map (some S.m0)) (.agg #[.int .i64 o.th.k, .string o.th.t, .string o.th.y]) false).run Tryz.prog w' = .ok (pt b) w')
      (first
        | exact HQ.out.2
        | exact HQ.out.1)
      (fail)
    go_upto_region 5 with fail
    obtain ⟨w2, hw2⟩ : ∃ w2, w2 = w1.drew := ⟨_, rfl⟩
    rw [← hw2]
    have hb2 : Below w1.heap.size w1 w2 := by rw [hw2]; exact (Below.refl _ w1).drew
    have hLa2 := H.out.2.2.2.2.2.2.2.1.below hb2
    have hLb2 := H.out.2.2.2.2.2.2.2.2.below hb2
    have x0 := hLb2.cell
    have x1 := (hLb2.below (Below.refl _ w2).drew).cell
    rw [← H.out.2.2.2.2.1] at x0 x1
    have HL := Lib.hid (And.intro hLa2 (And.intro hLb2 (H.out.1.trans (hb2.mono H.out.1.size))))
    clear hLa2 hLb2 hb2 hw2
    have hix : idxI (some i) = (i : Int) := rfl
    go_region_held3 (fun w' => w'.cell? ⟨b, 4, none⟩ = some (.slice A' n' c'))
      (first
        | exact H4.out.1
        | exact H3.out.1
        | exact x1
        | exact x0)
      (first
        | (go_at_call 43; refine (of_at x _).mono ?_; rintro e w3 ⟨q, rfl, hq⟩; have hL3 := (HL.out.2.1.below (Below.refl _ w2).drew).below hq.low; have H3 := Lib.hid (And.intro (show w3.cell? ⟨b, 4, none⟩ = some (.slice A' n' c') by have := hL3.cell; rw [← H.out.2.2.2.2.1] at this; exact this) (And.intro hL3 hq)); clear hL3 hq)
        | (go_at_call 52; refine (idx_any (c := c') H3.out.2.1.row (Nat.le_refl _) H.out.2.2.2.2.1 (by rw [← H.out.2.2.2.2.1]; omega) eg_of (of_pred H3.out.2.2.lt H3.out.2.2.cell)).mono ?_; rw [H.out.2.2.2.2.2.1, hix]; rintro e w4 ⟨rfl, hb4⟩; have hL4 := H3.out.2.1.below hb4; have H4 := Lib.hid (And.intro (show w4.cell? ⟨b, 4, none⟩ = some (.slice A' n' c') by have := hL4.cell; rw [← H.out.2.2.2.2.1] at this; exact this) (And.intro hL4 ((show Below w2.heap.size w2 w2.drew from (Below.refl _ _).drew).trans (H3.out.2.2.low.trans (hb4.mono H3.out.2.2.low.size))))); clear hL4 hb4))
    go_upto_region 6 with fail
    obtain ⟨ad, hA', _, a0, a1, a2⟩ := hdI_at H4.out.2.1.row hil
    rw [H.out.2.2.2.2.2.2.1] at a0 a1 a2
    subst hA'
    have e4 := H4.out.1
    have hi0 : (0 : Int) ≤ (i : Int) := Int.natCast_nonneg _
    have hiz : (i : Int) < (n' : Int) := by omega
    have HW4 := Lib.hid (And.intro (HL.out.1.below H4.out.2.2) (And.intro H4.out.2.1 (HL.out.2.2.trans (H4.out.2.2.mono HL.out.2.2.size))))
    go_upto_region 8 with (go_at_call 53; refine (against_any (x, o.m, true) _).mono ?_; rintro e w5 ⟨rfl, hw5⟩; have H5 := Lib.hid hw5; clear hw5)
    obtain ⟨q2, hq2⟩ : ∃ q2, q2 = w4.heap.size := ⟨_, rfl⟩
    rw [← hq2]
    have hb5 : Below w4.heap.size w4 w5 := by rw [H5.out]; exact (Below.refl _ w4).alloc (Nat.le_refl _) _
    have hbq : Blk w5 q2 62 #[.int .i64 x, .int .i64 o.m, .bool true] := by rw [H5.out, hq2]; exact Blk.new _ _ _
    have hL5 := HW4.out.1.below hb5
    have hM5 := HW4.out.2.1.below hb5
    have y3 := hL5.cell
    have y4 := hM5.cell
    have u3 := (hL5.below (Below.refl _ w5).drew).cell
    have u4 := (hM5.below (Below.refl _ w5).drew).cell
    rw [← H.out.2.2.2.1] at y3 u3
    rw [← H.out.2.2.2.2.1] at y4 u4
    obtain ⟨w6, hw6⟩ : ∃ w6, w6 = (w5.alloc (.cells #[.slice A n c, .slice (some ad) i c'] 46)).drew := ⟨_, rfl⟩
    have hb6 : Below w5.heap.size w5 w6 := by rw [hw6]; exact ((Below.refl _ w5).alloc (Nat.le_refl _) _).drew
    have hL6 := hL5.below hb6
    have hM6 := hM5.below hb6
    have v3 := hL6.cell
    have v4 := hM6.cell
    rw [← H.out.2.2.2.1] at v3
    rw [← H.out.2.2.2.2.1] at v4
    have hbl : Blk w6 w5.heap.size 46 #[.slice A n c, .slice (some ad) i c'] := by rw [hw6]; exact (Blk.new w5 _ _).drew
    have hcon := concat_any hbl.lt (hbl.cell 0) (hbl.cell 1) hL6.row (hM6.row.takeH i) H.out.2.2.2.1 (n2 := i) (by simp; omega) (by rw [← H.out.2.2.2.1]; omega) (by simp; omega)
    have hblt := hM6.lt
    rw [hw6] at v3 v4 hcon hblt
    obtain ⟨cs, hcs⟩ : ∃ cs, cs = hsL l.H o.th ++ (wsL l.W o.th).take i := ⟨_, rfl⟩
    rw [← hcs] at hcon
    have hlw5 : Below w.heap.size w w5 := HW4.out.2.2.trans (hb5.mono HW4.out.2.2.size)
    have HC := Lib.hid (And.intro hcon (And.intro hbq (And.intro hcs (And.intro hw6 (And.intro hb6 hlw5)))))
    clear hcon hbq hcs hw6 hb6 hlw5 hbl hL6 hM6 hL5 hM5 hb5 hq2 x0 x1 a0 a1 a2 e4
    go_region_held3 (fun w' => w'.cell? ⟨b, 3, none⟩ = some (.slice A n c) ∧ w'.cell? ⟨b, 4, none⟩ = some (.slice (some ad) n' c'))
      (first
        | exact H7.out.1
        | exact ⟨v3, v4⟩
        | exact ⟨u3, u4⟩
        | exact ⟨y3, y4⟩)
      (first
        | (go_at_call 51; refine HC.out.1.mono ?_; rintro e w7 ⟨A7, n7, c7, rfl, hn7, ho7, hb7⟩; have H7 := Lib.hid (And.intro (And.intro ((hb7.cell (p := ⟨b, 3, none⟩) hblt).trans v3) ((hb7.cell (p := ⟨b, 4, none⟩) hblt).trans v4)) (And.intro hn7 (And.intro ho7 hb7))); clear hn7 ho7 hb7))
    have hlow : Below w.heap.size w w6 := HC.out.2.2.2.2.2.trans (HC.out.2.2.2.2.1.mono HC.out.2.2.2.2.2.size)
    have hb7 : Below w6.heap.size w6 w7 := by rw [HC.out.2.2.2.1]; exact H7.out.2.2.2
    have hS7 : BkS w w7 A7 c7 n7 cs nilS 0 [] q2 (x, o.m, true) := ⟨hlow.trans (hb7.mono hlow.size), own_to_lt H7.out.2.2.1 (by rw [← HC.out.2.2.2.1]; exact hlow.size), World.ownsRow_nil _ _ _ _, (HC.out.2.1.below HC.out.2.2.2.2.1 HC.out.2.1.lt).below hb7 (Nat.lt_of_lt_of_le HC.out.2.1.lt HC.out.2.2.2.2.1.size)⟩
    have hn7 : n7 = cs.length := H7.out.2.1
    have hn79 : n7 ≤ 3000 := by
      rw [hn7, HC.out.2.2.1, List.length_append, ← H.out.2.2.2.1]
      simp
      omega
    have hn70 : (0 : Int) ≤ (n7 : Int) := Int.natCast_nonneg _
    have HS7 := Lib.hid (And.intro hS7 hn7)
    clear hlow hb7 hS7 v3 v4 y3 y4 u3 u4 hn7
    go_wp2_with fail
    go_loopw [10, 12, 59] (fun lv _ iv wr => ∃ (k m : Nat) (AL : Option Addr) (cL : Nat), k ≤ n7 ∧ iv = .int .i64 k ∧ lv = .slice AL m cL ∧ m = (((cs.take k).filter (agP (x, o.m, true))).map fun h => h.1).length ∧ BkS w wr A7 c7 n7 cs (.slice AL m cL) m (((cs.take k).filter (agP (x, o.m, true))).map fun h => h.1) q2 (x, o.m, true)) (fun _ _ iv _ => n7 - (intOf iv).toNat)
    case atStart => exact ⟨0, 0, none, 0, by omega, rfl, rfl, rfl, HS7.out.1⟩
    case round =>
      obtain ⟨k, m, AL, cL, hk, rfl, rfl, hm, hS⟩ := hrel
      have hk0 : (0 : Int) ≤ (k : Int) := Int.natCast_nonneg _
      have hm9 : m ≤ 3000 := by
        have h1 := List.length_filter_le (agP (x, o.m, true)) (cs.take k)
        rw [List.length_map] at hm
        rw [List.length_take] at h1
        omega
      have HR := Lib.hid (And.intro hS hm)
      clear hS hm
      by_cases hlt : k < n7
      · have hltz : (k : Int) < (n7 : Int) := by omega
        have hkl : k < cs.length := by rw [← HS7.out.2]; exact hlt
        obtain ⟨ad7, hA7, _, a0, a1, a2⟩ := hdI_at (RowG.of_rows (fun _ => rfl) HR.out.1.cat HS7.out.2) hkl
        subst hA7
        obtain ⟨y, hy⟩ : ∃ y, y = cs[k] := ⟨_, rfl⟩
        rw [← hy] at a0 a1 a2
        have hfs := filter_take_succ (p := agP (x, o.m, true)) hkl
        rw [← hy] at hfs
        obtain ⟨wa, hwa⟩ : ∃ wa, wa = wr.alloc (.cells #[.int .i64 y.1, .int .i64 y.2.1, .bool y.2.2] 62) := ⟨_, rfl⟩
        have hba : Below wr.heap.size wr wa := by rw [hwa]; exact (Below.refl _ wr).alloc (Nat.le_refl _) _
        have hSa := HR.out.1.below hba
        have hat : HdAt wa q2 (x, o.m, true) := ⟨hSa.bq.cell 0, hSa.bq.cell 1, hSa.bq.cell 2⟩
        have hcall := ag_pred hSa.bq.lt hat wa y (Below.refl _ _)
        unfold encH heldC at hcall
        obtain ⟨qy, hqy⟩ : ∃ qy, qy = wr.heap.size := ⟨_, rfl⟩
        have hyt : HdAt wa qy y := by rw [hwa, hqy]; exact HdAt.new wr y
        have hylt : qy < wa.heap.size := by rw [hwa, hqy]; simp
        cases hq : agP (x, o.m, true) y with
        | false =>
          rw [hq] at hcall hfs
          have HC2 := Lib.hid (And.intro hcall (And.intro hSa (And.intro hwa hfs)))
          obtain ⟨e0, e1, e2⟩ := hyt
          clear hcall hSa hwa hfs hy hba hat hylt hq
          go_upto_region 11 with fail
          rw [← hqy, ← HC2.out.2.2.1]
          clear hqy
          go_wp2_with (go_at_call 75; refine HC2.out.1.mono ?_; rintro e w9 ⟨rfl, hb9⟩; have H9 := Lib.hid hb9; clear hb9)
          go_roundw
          case rel =>
            have e := HC2.out.2.2.2
            simp only [Bool.false_eq_true, if_false, List.append_nil] at e
            refine ⟨k + 1, m, AL, cL, by omega, by go_num, rfl, ?_, ?_⟩
            · rw [e]; exact HR.out.2
            · rw [e]; exact HC2.out.2.1.below H9.out
          case measure => simp [intOf]; omega
        | true =>
          rw [hq] at hcall hfs
          have HC2 := Lib.hid (And.intro hcall (And.intro hSa (And.intro hwa (And.intro hfs (And.intro hqy (And.intro hyt hylt))))))
          obtain ⟨e0, e1, e2⟩ := hyt
          clear hcall hSa hwa hfs hy hba hat hylt hq
          go_upto_region 11 with fail
          rw [← hqy, ← HC2.out.2.2.1]
          clear hqy
          go_upto_region 12 with (go_at_call 75; refine HC2.out.1.mono ?_; rintro e w9 ⟨rfl, hb9⟩; have H9 := Lib.hid hb9; have z9 := (HC2.out.2.2.2.2.2.1.below hb9 HC2.out.2.2.2.2.2.2).x; clear hb9)
          have HS9 := Lib.hid (HC2.out.2.1.below H9.out)
          go_wp2_with (at_builtin; refine wpList_append_row rfl _ _ 41 rfl w.heap.size 3 i0 (.int .i64 0) 1 8 Tryz.underlying41 hi0' hz0 hz1 hz2 rfl (by decide) _ m _ (HS9.out.lst.alloc _) (by rfl) (some ⟨w9.heap.size, 0, none⟩) 1 1 [.int .i64 y.1] (by rfl) rfl (fun h => by cases h) (fun ad' had => by cases had; exact World.news_of_block (Go.heap_alloc_new _ _)) (fun u hu => by simp at hu; subst hu; rfl) (by first | (simp [maxLen]; done) | (simp [maxLen]; omega)) (by omega) (by have := HS9.out.low.size; simp; omega) ?_; intro AX cX wX hRX; have HX := Lib.hid hRX; clear hRX)
          go_roundw
          case rel =>
            have e := HC2.out.2.2.2.1
            simp only [if_true] at e
            have hRX := HX.out
            rw [intsV_snoc] at hRX
            have h1 := (HS9.out.below ((Below.refl _ w9).alloc (Nat.le_refl _) _)).push hRX
            refine ⟨k + 1, m + 1, AX, cX, by omega, by go_num, rfl, ?_, ?_⟩
            · rw [e, List.map_append, List.length_append, ← HR.out.2]; rfl
            · rw [e, List.map_append]; exact h1
          case measure => simp [intOf]; omega
      · have hltz : ¬ (k : Int) < (n7 : Int) := by omega
        have hS := HR.out.1
        have hm := HR.out.2
        have e : cs.take k = cs := List.take_of_length_le (by have := HS7.out.2; omega)
        rw [e] at hS hm
        have hbars : (cs.filter (agP (x, o.m, true))).map (fun h => h.1) = bars (x, o.m, true) (hsL l.H o.th) ((wsL l.W o.th).take i) := by unfold bars; rw [HC.out.2.2.1]
        rw [hbars] at hS hm
        have HB := Lib.hid (And.intro hS hm)
        clear hS hm e hbars
        go_wp2_with (first
          | (go_at_call 54; refine (sortI_any HB.out.1.lst HB.out.2 (by rw [← HB.out.2]; omega)).mono ?_; rintro e w9 ⟨rfl, hR⟩; have H9 := Lib.hid (HB.out.1.push hR); clear hR)
          | (go_at_call 55; refine (compactI_any H9.out.lst (by rw [sortI_len]; exact HB.out.2) (by rw [sortI_len, ← HB.out.2]; omega)).mono ?_; rintro e w10 ⟨m10, rfl, hm10, hR⟩; have H10 := Lib.hid (And.intro (H9.out.push hR) hm10); clear hR hm10))
        go_ret
        refine ⟨_, rfl, ?_, H10.out.1.low⟩
        rw [H.out.2.2.1]
        exact ⟨AL, m10, cL, rfl, H10.out.2, H10.out.1.lst⟩
end Go.Proofs.YthbbheegkhlniaaGreat

/-
  A sweep on all locks and a sweep on a thing's line: they are one.
-/
namespace Go.Proofs.YthbbheegkhlniaaGreat
open Go.RowKit Go.Lib Go.Shelf Go.Maps

theorem giveH_nil (x m : Int) : giveH x m [] = [(x, m, false)] := rfl
theorem giveH_cons (x m : Int) (a : Hd) (r : List Hd) : giveH x m (a :: r) = if a.1 = x then (x, m, a.2.2) :: r else a :: giveH x m r := by
  unfold giveH
  rw [idxL]
  by_cases h : a.1 = x
  · rw [if_pos h, if_pos (by simp [ofP, h])]
    rfl
  · rw [if_neg h, if_neg (by simp [ofP, h])]
    cases idxL (ofP x) r with
    | none => rfl
    | some i => simp
theorem hsL_give (o : Od) : ∀ H : List Od, hsL (giveL o H) o.th = giveH o.x o.m (hsL H o.th)
  | [] => by simp [giveL, hsL, giveH_nil]
  | h :: r => by
    rw [giveL]
    by_cases hi : isOf o.th o.x h = true
    · obtain ⟨e1, e2⟩ := isOf_iff.1 hi
      rw [if_pos hi, hsL_cons, if_pos rfl, hsL_cons h r, if_pos e1, giveH_cons, if_pos e2]
    · rw [if_neg hi, hsL_cons, hsL_cons h r]
      by_cases e1 : h.th = o.th
      · have e2 : h.x ≠ o.x := fun e => hi (isOf_iff.2 ⟨e1, e⟩)
        rw [if_pos e1, if_pos e1, giveH_cons, if_neg e2, hsL_give o r]
      · rw [if_neg e1, if_neg e1, hsL_give o r]
theorem hsL_give_ne (o : Od) {t : Th} (ht : t ≠ o.th) : ∀ H : List Od, hsL (giveL o H) t = hsL H t
  | [] => by
    rw [giveL, hsL_cons, if_neg (fun e => ht e.symm)]
  | h :: r => by
    rw [giveL]
    by_cases hi : isOf o.th o.x h = true
    · obtain ⟨e1, e2⟩ := isOf_iff.1 hi
      rw [if_pos hi, hsL_cons, hsL_cons h r, if_neg (fun e => ht e.symm), if_neg (fun e => ht (e.symm.trans e1))]
    · rw [if_neg hi, hsL_cons, hsL_cons h r, hsL_give_ne o ht r]
theorem tgL_cons (o : Od) (r : List Od) (x : Int) : tgL (o :: r) x = if o.x = x then o.th :: tgL r x else tgL r x := by
  unfold tgL
  rw [List.filter_cons]
  by_cases h : o.x = x <;> simp [h]
theorem tgL_give (o : Od) : ∀ H : List Od, tgL (giveL o H) = if (hsL H o.th).any (ofP o.x) = true then tgL H else upd (tgL H) o.x (tgL H o.x ++ [o.th])
  | [] => by
    funext x
    rw [giveL, tgL_cons]
    by_cases e : x = o.x
    · rw [if_pos e.symm, if_neg (by simp [hsL]), e, upd_same]
      rfl
    · rw [if_neg (fun h => e h.symm), if_neg (by simp [hsL]), upd_other _ _ e]
  | h :: r => by
    rw [giveL]
    by_cases hi : isOf o.th o.x h = true
    · obtain ⟨e1, e2⟩ := isOf_iff.1 hi
      rw [if_pos hi, hsL_cons, if_pos e1, if_pos (by simp [ofP, e2])]
      funext x
      rw [tgL_cons, tgL_cons, e1, e2]
    · rw [if_neg hi]
      have ih := tgL_give o r
      have ha : (hsL (h :: r) o.th).any (ofP o.x) = (hsL r o.th).any (ofP o.x) := by
        rw [hsL_cons]
        by_cases e1 : h.th = o.th
        · have e2 : h.x ≠ o.x := fun e => hi (isOf_iff.2 ⟨e1, e⟩)
          rw [if_pos e1]
          simp [ofP, e2]
        · rw [if_neg e1]
      rw [ha]
      funext x
      rw [tgL_cons, ih]
      by_cases hany : (hsL r o.th).any (ofP o.x) = true
      · rw [if_pos hany, if_pos hany, tgL_cons]
      · rw [if_neg hany, if_neg hany]
        by_cases e : x = o.x
        · rw [e, upd_same, upd_same, tgL_cons]
          split <;> rfl
        · rw [upd_other _ _ e, upd_other _ _ e, tgL_cons]
theorem any_hsL (H : List Od) (t : Th) (p : Hd → Bool) : (hsL H t).any p = H.any fun o => decide (o.th = t) && p (o.x, o.m, false) := by
  induction H with
  | nil => rfl
  | cons o r ih =>
    rw [hsL_cons, List.any_cons]
    by_cases h : o.th = t
    · rw [if_pos h, List.any_cons, ih]; simp [h]
    · rw [if_neg h, ih]; simp [h]
theorem any_wsL (H : List Od) (t : Th) (p : Hd → Bool) : (wsL H t).any p = H.any fun o => decide (o.th = t) && p (o.x, o.m, true) := by
  induction H with
  | nil => rfl
  | cons o r ih =>
    rw [wsL_cons, List.any_cons]
    by_cases h : o.th = t
    · rw [if_pos h, List.any_cons, ih]; simp [h]
    · rw [if_neg h, ih]; simp [h]
theorem any_congr_mem {l : List Od} {p q : Od → Bool} (h : ∀ o ∈ l, p o = q o) : l.any p = l.any q := by
  induction l with
  | nil => rfl
  | cons a r ih => rw [List.any_cons, List.any_cons, h a List.mem_cons_self, ih fun o ho => h o (List.mem_cons_of_mem _ ho)]
theorem freeL_canL {H A : List Od} {o : Od} {b : Bool} (hA : ∀ a ∈ A, a.x ≠ o.x) : freeL (o.x, o.m, b) (hsL H o.th) (wsL A o.th) = canL H A o := by
  unfold freeL canL
  rw [any_hsL, any_wsL]
  congr 1
  · congr 1
    refine any_congr_mem fun h _ => ?_
    unfold agP inWay
    simp [Bool.and_assoc]
  · congr 1
    refine any_congr_mem fun a ha => ?_
    have := hA a ha
    unfold agP ahead
    simp [this]
theorem wsL_append (A B : List Od) (t : Th) : wsL (A ++ B) t = wsL A t ++ wsL B t := by simp [wsL]
theorem waitL_append (A B : List Od) (x : Int) : waitL (A ++ B) x = (waitL A x).or (waitL B x) := by
  unfold waitL
  rw [List.find?_append]
theorem waitL_cons (o : Od) (r : List Od) (x : Int) : waitL (o :: r) x = if o.x = x then some o else waitL r x := by
  unfold waitL
  rw [List.find?_cons]
  by_cases h : o.x = x <;> simp [h]
/-- what a sweep of a thing is on all locks, told by its line alone -/
structure SwpOf (t : Th) (done H pend : List Od) (q : List Od × List Od × List Int) (p : List Hd × List Hd × List Hd) : Prop where
  ht : hsL q.1 t = p.1
  ho : ∀ t', t' ≠ t → hsL q.1 t' = hsL H t'
  wt : wsL q.2.1 t = p.2.1
  wo : ∀ t', t' ≠ t → wsL q.2.1 t' = wsL (done ++ pend) t'
  out : q.2.2 = p.2.2.map fun h => h.1
  tg : tgL q.1 = tgS t (hsL H t) p.2.2 (tgL H)
  wn : ∀ x, waitL q.2.1 x = if p.2.2.any (ofP x) = true then none else waitL (done ++ pend) x
  mh : ∀ u ∈ q.1, u ∈ H ∨ u ∈ pend
  mw : ∀ u ∈ q.2.1, u ∈ done ++ pend
theorem mem_give {o u : Od} : ∀ {H : List Od}, u ∈ giveL o H → u = o ∨ u ∈ H
  | [], h => by simp [giveL] at h; exact .inl h
  | a :: r, h => by
    rw [giveL] at h
    split at h
    · rcases List.mem_cons.1 h with h1 | h1
      · exact .inl h1
      · exact .inr (List.mem_cons_of_mem _ h1)
    · rcases List.mem_cons.1 h with h1 | h1
      · exact .inr (by rw [h1]; exact List.mem_cons_self)
      · rcases mem_give h1 with h2 | h2
        · exact .inl h2
        · exact .inr (List.mem_cons_of_mem _ h2)
theorem swp_of (t : Th) : ∀ (pend done H : List Od), (done ++ pend).Pairwise (fun a b => a.x ≠ b.x) → SwpOf t done H pend (sweepGo t done H pend) (swp (hsL H t) (wsL done t) (wsL pend t))
  | [], done, H, _ => ⟨rfl, fun _ _ => rfl, rfl, fun _ _ => by simp [sweepGo], rfl, rfl, fun x => by simp [sweepGo, swp, wsL], fun u hu => .inl hu, fun u hu => by simpa [sweepGo] using hu⟩
  | o :: r, done, H, hu => by
    have hu2 : (done ++ [o] ++ r).Pairwise (fun a b => a.x ≠ b.x) := by rw [List.append_assoc]; exact hu
    by_cases ht : o.th = t
    · have hd : ∀ a ∈ done, a.x ≠ o.x := fun a ha => (List.pairwise_append.1 hu).2.2 a ha o List.mem_cons_self
      have hfree := freeL_canL (H := H) (b := true) hd
      rw [ht] at hfree
      rw [wsL_cons, if_pos ht, sweepGo, swp]
      by_cases hc : canL H done o = true
      · rw [if_pos ⟨ht, hc⟩, if_pos (by rw [hfree]; exact hc)]
        have hu3 : (done ++ r).Pairwise (fun a b => a.x ≠ b.x) := hu.sublist ((List.Sublist.refl done).append (List.sublist_cons_self o r))
        have ih := swp_of t r done (giveL o H) hu3
        have hg : hsL (giveL o H) t = giveH o.x o.m (hsL H t) := by rw [← ht]; exact hsL_give o H
        rw [hg] at ih
        refine ⟨ih.ht, fun t' ht' => ?_, ih.wt, fun t' ht' => ?_, ?_, ?_, fun x => ?_, fun u hu' => ?_, fun u hu' => ?_⟩
        · rw [ih.ho t' ht', hsL_give_ne o (by rw [ht]; exact ht')]
        · rw [ih.wo t' ht', wsL_append, wsL_append, wsL_cons, if_neg (by rw [ht]; exact fun e => ht' e.symm)]
        · show o.x :: _ = _
          rw [ih.out]
          rfl
        · rw [ih.tg, hg]
          show _ = tgS t (giveH o.x o.m (hsL H t)) _ (if (hsL H t).any (ofP o.x) = true then tgL H else upd (tgL H) o.x (tgL H o.x ++ [t]))
          have hgt := tgL_give o H
          rw [ht] at hgt
          rw [hgt]
        · have h1 := ih.wn x
          show waitL (sweepGo t done (giveL o H) r).2.1 x = _
          rw [h1]
          show _ = if ((o.x, o.m, true) :: (swp (giveH o.x o.m (hsL H t)) (wsL done t) (wsL r t)).2.2).any (ofP x) = true then none else _
          rw [List.any_cons]
          by_cases e : o.x = x
          · rw [show ofP x (o.x, o.m, true) = true by simp [ofP, e], Bool.true_or, if_pos rfl]
            have h2 : waitL (done ++ r) x = none := waitL_none.2 fun a ha hax => by
              rcases List.mem_append.1 ha with h3 | h3
              · exact hd a h3 (by rw [hax, e])
              · exact (List.pairwise_cons.1 (List.pairwise_append.1 hu).2.1).1 a h3 (by rw [hax, e])
            rw [h2]
            split <;> rfl
          · rw [show ofP x (o.x, o.m, true) = false by simp [ofP, e], Bool.false_or]
            split
            · rfl
            · rw [waitL_append, waitL_append, waitL_cons, if_neg e]
        · rcases ih.mh u hu' with h1 | h1
          · rcases mem_give h1 with h2 | h2
            · exact .inr (by rw [h2]; exact List.mem_cons_self)
            · exact .inl h2
          · exact .inr (List.mem_cons_of_mem _ h1)
        · rcases List.mem_append.1 (ih.mw u hu') with h1 | h1
          · exact List.mem_append.2 (.inl h1)
          · exact List.mem_append.2 (.inr (List.mem_cons_of_mem _ h1))
      · rw [if_neg (fun e => hc e.2), if_neg (by rw [hfree]; exact hc)]
        have ih := swp_of t r (done ++ [o]) H hu2
        have hw : wsL (done ++ [o]) t = wsL done t ++ [(o.x, o.m, true)] := by rw [wsL_append, wsL_cons, if_pos ht]; rfl
        rw [hw] at ih
        refine ⟨ih.ht, ih.ho, ih.wt, fun t' ht' => by rw [ih.wo t' ht', List.append_assoc]; rfl, ih.out, ih.tg, fun x => by rw [ih.wn x, List.append_assoc]; rfl, fun u hu' => (ih.mh u hu').imp id (List.mem_cons_of_mem _), fun u hu' => by have := ih.mw u hu'; rw [List.append_assoc] at this; exact this⟩
    · rw [wsL_cons, if_neg ht, sweepGo, if_neg (fun e => ht e.1)]
      have ih := swp_of t r (done ++ [o]) H hu2
      have hw : wsL (done ++ [o]) t = wsL done t := by rw [wsL_append, wsL_cons, if_neg ht]; simp [wsL]
      rw [hw] at ih
      refine ⟨ih.ht, ih.ho, ih.wt, fun t' ht' => by rw [ih.wo t' ht', List.append_assoc]; rfl, ih.out, ih.tg, fun x => by rw [ih.wn x, List.append_assoc]; rfl, fun u hu' => (ih.mh u hu').imp id (List.mem_cons_of_mem _), fun u hu' => by have := ih.mw u hu'; rw [List.append_assoc] at this; exact this⟩
theorem any_th (H : List Od) (t : Th) : (H.any fun o => decide (o.th = t)) = !(hsL H t).isEmpty := by
  induction H with
  | nil => rfl
  | cons o r ih =>
    rw [List.any_cons, hsL_cons]
    by_cases h : o.th = t
    · rw [if_pos h]; simp [h]
    · rw [if_neg h, ← ih]; simp [h]
end Go.Proofs.YthbbheegkhlniaaGreat
