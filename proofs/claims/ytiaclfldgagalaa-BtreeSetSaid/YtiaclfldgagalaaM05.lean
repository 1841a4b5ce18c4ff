/-
  Trees of pages: a change, from the root to a leaf and back: plain mathematics.
-/
import Derived.Test.YtiaclfldgagalaaM04
import Derived.Test.YtiaclfldgagalaaM03
import Derived.Deep.RegionLaw
namespace Go.Proofs.Ytiaclfldgagalaa
open Go.RowKit Go.Lib

def wayN (ks : List En) (e : En) : Nat := plN e ks + (if plB ks e then 1 else 0)
def leastT : {d : Nat} → Tr d → En
  | 0, ks => (keysT (d := 0) ks).headD e0
  | _ + 1, x => match x.2 with
    | t :: _ => leastT t
    | [] => e0
def putKid {d : Nat} (x : Nd d) (e : En) (i : Nat) (t : Tr d) : Nd d := (if plB x.1 e then x.1.set (plN e x.1) (leastT t) else x.1, x.2.take i ++ t :: x.2.drop (i + 1))
def chgT (ins : Bool) : {d : Nat} → Tr d → En → Bool × Tr d
  | 0, ks, e => if ins then (!plB (keysT (d := 0) ks) e, insL (keysT (d := 0) ks) e) else (plB (keysT (d := 0) ks) e, delL (keysT (d := 0) ks) e)
  | _ + 1, x, e => match x.2[wayN x.1 e]? with
    | some t => if (chgT ins t e).1 then (true, mendT (putKid x e (wayN x.1 e) (chgT ins t e).2) (wayN x.1 e)) else (false, x)
    | none => (false, x)

theorem least_flat : ∀ {d : Nat} (t : Tr d), Cnt t → 1 ≤ (keysT t).length → ∃ r, flat t = (leastT t, true) :: r
  | 0, (ks : List En), _, h => by
    match ks, h with
    | a :: l, _ => exact ⟨_, rfl⟩
  | d + 1, x, hc, _ => by
    obtain ⟨hl, hk⟩ := hc
    obtain ⟨ks, ts⟩ := x
    match ts, hl with
    | t :: ts, hl =>
      have hg := hk t (by simp)
      obtain ⟨r, hr⟩ := least_flat t hg.2.2 (by omega)
      match ks, ts, hl with
      | [], [], _ => exact ⟨r, by show weave ([] : List En) [flat t] = (leastT t, true) :: r; simp [weave]; exact hr⟩
      | k :: ks, ts, _ => exact ⟨r ++ (k, false) :: weave ks (ts.map flat), by show flat t ++ (k, false) :: weave ks (ts.map flat) = (leastT t, true) :: _; rw [hr]; rfl⟩
theorem plN_lt {e : En} : ∀ {l : List En} {q : Nat} (h : q < l.length), q < plN e l → ordE l[q] e < 0
  | a :: l, q, h, hq => by
    rw [plN] at hq
    split at hq
    · rename_i h0
      match q with
      | 0 => exact h0
      | q + 1 => exact plN_lt (l := l) (by simpa using h) (by omega)
    · omega
theorem plN_ge {e : En} : ∀ {l : List En} (h : plN e l < l.length), 0 ≤ ordE l[plN e l] e
  | a :: l, h => by
    by_cases h0 : ordE a e < 0
    · have e1 : plN e (a :: l) = plN e l + 1 := by rw [plN, if_pos h0]
      have h' : plN e l < l.length := by rw [e1] at h; simpa using h
      have := plN_ge h'
      simp only [e1, List.getElem_cons_succ]
      exact this
    · have e1 : plN e (a :: l) = 0 := by rw [plN, if_neg h0]
      simp only [e1, List.getElem_cons_zero]
      omega
theorem plB_at {l : List En} {e : En} (h : plB l e = true) : ∃ hl : plN e l < l.length, l[plN e l] = e := by
  have hl := plB_lt h
  refine ⟨hl, ?_⟩
  unfold plB at h
  rw [List.getElem?_eq_getElem hl] at h
  exact (good_ordE.zero _ _).1 (of_decide_eq_true h)
theorem plB_no {l : List En} {e : En} (h : plB l e = false) (hl : plN e l < l.length) : 0 < ordE l[plN e l] e := by
  have h1 := plN_ge hl
  unfold plB at h
  rw [List.getElem?_eq_getElem hl] at h
  have := of_decide_eq_false h
  omega
theorem seps_in : ∀ (ks : List En) (ts : List (List Mk)), ks.length ≤ ts.length → (ks.map fun k => ((k, false) : Mk)).Sublist (weave ks ts)
  | [], _, _ => List.nil_sublist _
  | k :: ks, t :: ts, h => by
    rw [weave, List.map_cons]
    exact ((seps_in ks ts (by simpa using h)).cons_cons (k, false)).trans (List.sublist_append_right _ _)
theorem keys_srt {d : Nat} {ks : List En} {ts : List (Tr d)} (hl : ts.length = ks.length + 1) (hp : (flatN (ks, ts)).Pairwise ltM) : Srt ks := by
  have h1 := hp.sublist (seps_in ks (ts.map flat) (by simp; omega))
  unfold Srt
  have h2 := (List.pairwise_map (f := fun k : En => ((k, false) : Mk)) (R := ltM)).1 h1
  exact h2.imp fun h => ltM_ss.1 h
theorem mem_insL {l : List En} {e x : En} (h : x ∈ insL l e) : x = e ∨ x ∈ l := by
  unfold insL at h
  split at h
  · exact .inr h
  · rcases List.mem_append.1 h with h | h
    · rcases List.mem_append.1 h with h | h
      · exact .inr (List.mem_of_mem_take h)
      · exact .inl (List.mem_singleton.1 h)
    · exact .inr (List.mem_of_mem_drop h)
theorem mem_delL {l : List En} {e x : En} (h : x ∈ delL l e) : x ∈ l := by
  unfold delL at h
  split at h
  · rcases List.mem_append.1 h with h | h
    · exact List.mem_of_mem_take h
    · exact List.mem_of_mem_drop h
  · exact h
/-- the key between pages is raised to the first one behind it -/
theorem sep_up {A F : List Mk} {k x : En} {r : List Mk} (hF : F = (x, true) :: r) (h : (A ++ (k, false) :: F).Pairwise ltM) : (A ++ (x, false) :: F).Pairwise ltM := by
  subst hF
  obtain ⟨hA, hk, hAk⟩ := List.pairwise_append.1 h
  obtain ⟨hk1, hk2⟩ := List.pairwise_cons.1 hk
  have hx := List.pairwise_cons.1 hk2
  have hkx := ltM_se.1 (hk1 (x, true) (by simp))
  refine List.pairwise_append.2 ⟨hA, List.pairwise_cons.2 ⟨fun y hy => ?_, hk2⟩, fun a ha y hy => ?_⟩
  · rcases List.mem_cons.1 hy with rfl | hy
    · exact .inr ⟨rfl, rfl, rfl⟩
    · exact ltM_trans (b := (x, true)) (.inr ⟨rfl, rfl, rfl⟩) (hx.1 y hy)
  · rcases List.mem_cons.1 hy with rfl | hy
    · have h1 : ltM a (k, false) := hAk a ha (k, false) (by simp)
      have h2 : ordE a.1 k < 0 := h1.elim id fun h => (by cases h.2.2)
      exact .inl (good_ordE.strict _ _ _ h2 hkx)
    · exact hAk a ha y (by simp at hy ⊢; exact .inr hy)
/-- the marks ahead of the way, and behind it -/
theorem way_sides {d : Nat} {ks : List En} {ts : List (Tr d)} (hl : ts.length = ks.length + 1) (hp : (flatN (ks, ts)).Pairwise ltM) (e : En) :
    wayN ks e < ts.length ∧ (∀ l ∈ wl (ks.take (wayN ks e)) ((ts.take (wayN ks e)).map flat), ltM l (e, true)) ∧ ∀ r ∈ wr (ks.drop (wayN ks e)) ((ts.drop (wayN ks e + 1)).map flat), ltM (e, true) r := by
  have hsrt := keys_srt hl hp
  have hple := plN_le e ks
  have hle : wayN ks e ≤ ks.length := by
    unfold wayN
    split
    · rename_i hb; have := plB_lt hb; omega
    · omega
  have hlow : ∀ q (h : q < ks.length), q < wayN ks e → ordE ks[q] e ≤ 0 := fun q h hq => by
    unfold wayN at hq
    split at hq
    · rename_i hb
      rcases Nat.lt_or_ge q (plN e ks) with h1 | h1
      · exact Int.le_of_lt (plN_lt h h1)
      · obtain rfl : q = plN e ks := by omega
        obtain ⟨_, h2⟩ := plB_at hb
        rw [h2]; exact Int.le_of_eq (ordE_self e)
    · exact Int.le_of_lt (plN_lt h (by omega))
  have hhigh : ∀ h : wayN ks e < ks.length, ordE e ks[wayN ks e] < 0 := fun h => by
    cases hb : plB ks e with
    | true =>
      have e1 : wayN ks e = plN e ks + 1 := by unfold wayN; rw [if_pos hb]
      obtain ⟨h1, h2⟩ := plB_at hb
      have h3 := List.pairwise_iff_getElem.1 hsrt (plN e ks) (plN e ks + 1) h1 (by omega) (by omega)
      rw [h2] at h3
      simp only [e1]; exact h3
    | false =>
      have e1 : wayN ks e = plN e ks := by unfold wayN; rw [hb]; rfl
      have h3 := plB_no hb (by omega)
      have h4 := good_ordE.anti e (ks[plN e ks]'(by omega))
      simp only [e1]; omega
  generalize wayN ks e = i at *
  have hi : i < ts.length := by omega
  refine ⟨hi, fun l hl' => ?_, fun r hr => ?_⟩
  · rcases Nat.eq_zero_or_pos i with h0 | h0
    · subst h0; simp [wl] at hl'
    · obtain ⟨j, rfl⟩ : ∃ j, i = j + 1 := ⟨i - 1, by omega⟩
      have hk : ks.take (j + 1) = ks.take j ++ [ks[j]] := by rw [List.take_succ_eq_append_getElem (by omega)]
      have ht : (ts.take (j + 1)).map flat = (ts.take j).map flat ++ [flat ts[j]] := by rw [List.take_succ_eq_append_getElem (by omega), List.map_append]; rfl
      have hf := flat_at (ts[j + 1]) hl hi
      rw [← ts_cut (List.getElem?_eq_getElem hi)] at hf
      rw [hf] at hp
      have hP := (List.pairwise_append.1 hp).1
      rw [hk, ht, wl_snoc _ _ _ _ (by simp; omega)] at hP hl'
      have hkj := hlow j (by omega) (by omega)
      rw [← List.append_assoc] at hP hl'
      rcases List.mem_append.1 hl' with h | h
      · exact ltM_trans ((List.pairwise_append.1 hP).2.2 l h (ks[j], false) (by simp)) (ltM_se.2 hkj)
      · rw [List.mem_singleton.1 h]; exact ltM_se.2 hkj
  · rcases Nat.lt_or_ge i ks.length with h0 | h0
    · have hk : ks.drop i = ks[i] :: ks.drop (i + 1) := List.drop_eq_getElem_cons h0
      have ht : (ts.drop (i + 1)).map flat = flat ts[i + 1] :: (ts.drop (i + 2)).map flat := by rw [List.drop_eq_getElem_cons (by omega)]; rfl
      have hf := flat_at (ts[i]) hl hi
      rw [← ts_cut (List.getElem?_eq_getElem hi)] at hf
      rw [hf] at hp
      have hR := (List.pairwise_append.1 (List.pairwise_append.1 hp).2.1).2.1
      rw [hk, ht, wr] at hR hr
      have hki := hhigh h0
      rcases List.mem_cons.1 hr with rfl | h
      · exact ltM_es.2 hki
      · exact ltM_trans (ltM_es.2 hki) ((List.pairwise_cons.1 hR).1 r h)
    · rw [List.drop_eq_nil_of_le h0] at hr
      simp [wr] at hr
end Go.Proofs.Ytiaclfldgagalaa

/-
  Trees of pages: what a change leaves: plain mathematics.
-/
namespace Go.Proofs.Ytiaclfldgagalaa
open Go.RowKit Go.Lib

/-- what a change leaves: the entries with one more, or one less; the order; the bounds; no text but the entry's that was not there -/
structure ChgOk (ins : Bool) {d : Nat} (t : Tr d) (e : En) (q : Bool) (t' : Tr d) : Prop where
  dd : q = (if ins then !plB (ents t) e else plB (ents t) e)
  ent : ents t' = if ins then insL (ents t) e else delL (ents t) e
  cnt : Cnt t'
  ord : (flat t').Pairwise ltM
  lo : (keysT t).length ≤ (keysT t').length + 1
  hi : (keysT t').length ≤ (keysT t).length + 1
  txt : ∀ y ∈ flat t', y.1 = e ∨ ∃ z ∈ flat t, y.1 = z.1
  same : q = false → t' = t
theorem ins_len {l : List En} {e : En} : l.length ≤ (insL l e).length ∧ (insL l e).length ≤ l.length + 1 := by
  unfold insL
  have := plN_le e l
  split <;> simp <;> omega
theorem del_len {l : List En} {e : En} : l.length ≤ (delL l e).length + 1 ∧ (delL l e).length ≤ l.length := by
  unfold delL
  have := plN_le e l
  split
  · rename_i hb
    have := plB_lt hb
    simp; omega
  · omega
theorem srt_map {ks : List En} (h : Srt ks) : (mk0 ks).Pairwise ltM := by
  unfold mk0
  rw [List.pairwise_map]
  exact h.imp fun h => ltM_ee.2 h
theorem map_srt {ks : List En} (h : (mk0 ks).Pairwise ltM) : Srt ks := by
  unfold mk0 at h
  rw [List.pairwise_map] at h
  exact h.imp fun h => ltM_ee.1 h
theorem srt_ins {l : List En} (h : Srt l) (e : En) : Srt (insL l e) := by
  unfold insL
  cases hb : plB l e with
  | true => rw [if_pos rfl]; exact h
  | false =>
    rw [if_neg (by simp)]
    have hple := plN_le e l
    have h1 := h
    rw [show l = l.take (plN e l) ++ l.drop (plN e l) from (List.take_append_drop _ _).symm] at h1
    obtain ⟨hA, hB, hAB⟩ := List.pairwise_append.1 h1
    have low : ∀ x ∈ l.take (plN e l), ordE x e < 0 := fun x hx => by
      obtain ⟨q, hq, rfl⟩ := List.mem_iff_getElem.1 hx
      rw [List.getElem_take]
      rw [List.length_take] at hq
      exact plN_lt (by omega) (by omega)
    have high : ∀ x ∈ l.drop (plN e l), ordE e x < 0 := fun x hx => by
      obtain ⟨q, hq, rfl⟩ := List.mem_iff_getElem.1 hx
      rw [List.length_drop] at hq
      have h0 := plB_no hb (by omega)
      have h2 := good_ordE.anti e (l[plN e l]'(by omega))
      rw [List.getElem_drop]
      rcases Nat.eq_zero_or_pos q with hq0 | hq0
      · simp only [hq0, Nat.add_zero]; omega
      · have h3 := List.pairwise_iff_getElem.1 h (plN e l) (plN e l + q) (by omega) (by omega) (by omega)
        exact good_ordE.strict _ _ _ (show ordE e (l[plN e l]'(by omega)) < 0 by omega) (Int.le_of_lt h3)
    rw [List.append_assoc]
    refine List.pairwise_append.2 ⟨hA, List.pairwise_cons.2 ⟨high, hB⟩, fun a ha b hb' => ?_⟩
    rcases List.mem_cons.1 hb' with rfl | hb'
    · exact low a ha
    · exact hAB a ha b hb'
theorem srt_del {l : List En} (h : Srt l) (e : En) : Srt (delL l e) := by
  unfold delL
  split
  · exact h.sublist ((List.take_sublist_take_left (l := l) (Nat.le_refl (plN e l))).append (List.drop_sublist_drop_left l (Nat.le_succ _)) |>.trans (by rw [List.take_append_drop]; exact List.Sublist.refl _))
  · exact h

theorem chg_ok (ins : Bool) : ∀ {d : Nat} (t : Tr d) (e : En), Cnt t → (0 < d → 1 ≤ (keysT t).length) → (flat t).Pairwise ltM → ChgOk ins t e (chgT ins t e).1 (chgT ins t e).2
  | 0, (ks : List En), e, _, _, hp => by
    have he : ∀ l : List En, ents (d := 0) l = l := fun l => entsF_map l
    have hs := map_srt hp
    cases ins with
    | true =>
      refine ⟨?_, ?_, trivial, srt_map (srt_ins hs e), ?_, ?_, ?_, ?_⟩
      · show (!plB ks e) = !plB (ents (d := 0) ks) e
        rw [he]
      · show ents (d := 0) (insL ks e) = insL (ents (d := 0) ks) e
        rw [he, he]
      · show ks.length ≤ (insL ks e).length + 1
        have := (ins_len (l := ks) (e := e)).1; omega
      · show (insL ks e).length ≤ ks.length + 1
        exact ins_len.2
      · intro y hy
        obtain ⟨x, hx, rfl⟩ := List.mem_map.1 (show y ∈ mk0 (insL ks e) from hy)
        rcases mem_insL hx with h | h
        · exact .inl h
        · exact .inr ⟨(x, true), List.mem_map.2 ⟨x, h, rfl⟩, rfl⟩
      · intro h
        have h1 : plB ks e = true := by
          have : (!plB ks e) = false := h
          simpa using this
        exact ins_no h1
    | false =>
      refine ⟨?_, ?_, trivial, srt_map (srt_del hs e), ?_, ?_, ?_, ?_⟩
      · show plB ks e = plB (ents (d := 0) ks) e
        rw [he]
      · show ents (d := 0) (delL ks e) = delL (ents (d := 0) ks) e
        rw [he, he]
      · show ks.length ≤ (delL ks e).length + 1
        exact del_len.1
      · show (delL ks e).length ≤ ks.length + 1
        have := (del_len (l := ks) (e := e)).2; omega
      · intro y hy
        obtain ⟨x, hx, rfl⟩ := List.mem_map.1 (show y ∈ mk0 (delL ks e) from hy)
        exact .inr ⟨(x, true), List.mem_map.2 ⟨x, mem_delL hx, rfl⟩, rfl⟩
      · intro h
        exact del_no h
  | d + 1, (ks, ts), e, hc, h1, hp => by
    obtain ⟨hl, hk⟩ := hc
    simp only at hl hk
    have h1 : 1 ≤ ks.length := h1 (by omega)
    change (flatN (ks, ts)).Pairwise ltM at hp
    obtain ⟨hi, hP, hS⟩ := way_sides hl hp e
    have hit : ts[wayN ks e]? = some ts[wayN ks e] := List.getElem?_eq_getElem hi
    have hgt := hk _ (List.getElem_mem hi)
    have hch : chgT ins (d := d + 1) (ks, ts) e = if (chgT ins ts[wayN ks e] e).1 then (true, mendT (putKid (ks, ts) e (wayN ks e) (chgT ins ts[wayN ks e] e).2) (wayN ks e)) else (false, (ks, ts)) := by
      show (match ts[wayN ks e]? with | some t => _ | none => _) = _
      rw [hit]; rfl
    have hf : flatN (ks, ts) = wl (ks.take (wayN ks e)) ((ts.take (wayN ks e)).map flat) ++ (flat ts[wayN ks e] ++ wr (ks.drop (wayN ks e)) ((ts.drop (wayN ks e + 1)).map flat)) := by
      rw [← flat_at _ hl hi, ← ts_cut hit]
    have ih := chg_ok ins ts[wayN ks e] e hgt.2.2 (by omega) (by
      rw [hf] at hp
      exact (List.pairwise_append.1 (List.pairwise_append.1 hp).2.1).1)
    have hE1 : ∀ x ∈ entsF (wl (ks.take (wayN ks e)) ((ts.take (wayN ks e)).map flat)), ordE x e < 0 := fun x hx => ltM_ee.1 (hP _ (mem_entsF.1 hx))
    have hE2 : ∀ x ∈ entsF (wr (ks.drop (wayN ks e)) ((ts.drop (wayN ks e + 1)).map flat)), 0 < ordE x e := fun x hx => by
      have h2 := ltM_ee.1 (hS _ (mem_entsF.1 hx))
      have h3 := good_ordE.anti e x
      omega
    have hent : ents (d := d + 1) (ks, ts) = entsF (wl (ks.take (wayN ks e)) ((ts.take (wayN ks e)).map flat)) ++ (ents ts[wayN ks e] ++ entsF (wr (ks.drop (wayN ks e)) ((ts.drop (wayN ks e + 1)).map flat))) := by
      show entsF (flatN (ks, ts)) = _
      rw [hf, entsF_append, entsF_append]; rfl
    have hpb : plB (ents (d := d + 1) (ks, ts)) e = plB (ents ts[wayN ks e]) e := by rw [hent, plB_mid hE1 hE2]
    rw [hch]
    cases hdid : (chgT ins ts[wayN ks e] e).1 with
    | false =>
      rw [if_neg (by simp)]
      have hd := ih.dd
      rw [hdid] at hd
      refine ⟨?_, ?_, ⟨hl, hk⟩, hp, by show ks.length ≤ ks.length + 1; omega, by show ks.length ≤ ks.length + 1; omega, fun y hy => .inr ⟨y, hy, rfl⟩, fun _ => rfl⟩
      · show false = _
        rw [hpb]; exact hd
      · cases ins with
        | true =>
          rw [if_pos rfl]
          have : plB (ents ts[wayN ks e]) e = true := by simpa using hd.symm
          exact (ins_no (by rw [hpb]; exact this)).symm
        | false =>
          rw [if_neg (by simp)]
          have : plB (ents ts[wayN ks e]) e = false := by simpa using hd.symm
          exact (del_no (by rw [hpb]; exact this)).symm
    | true =>
      rw [if_pos rfl]
      obtain ⟨t', ht'⟩ : ∃ t', t' = (chgT ins ts[wayN ks e] e).2 := ⟨_, rfl⟩
      rw [← ht'] at ih ⊢
      rw [hdid] at ih
      have hcnt' : 1 ≤ (keysT t').length := by have := ih.lo; omega
      have hends := ends_flat t' ih.cnt hcnt'
      have hents' : ∀ x, (x, true) ∈ flat t' → x = e ∨ (x, true) ∈ flat ts[wayN ks e] := fun x hx => by
        have h2 : x ∈ ents t' := mem_entsF.2 hx
        rw [ih.ent] at h2
        split at h2
        · rcases mem_insL h2 with h | h
          · exact .inl h
          · exact .inr (mem_entsF.1 h)
        · exact .inr (mem_entsF.1 (mem_delL h2))
      -- the page, with its page below put in place
      have hnode : ∃ F', flatN (putKid (ks, ts) e (wayN ks e) t') = F' ∧ F'.Pairwise ltM ∧ entsF F' = entsF (wl (ks.take (wayN ks e)) ((ts.take (wayN ks e)).map flat)) ++ (ents t' ++ entsF (wr (ks.drop (wayN ks e)) ((ts.drop (wayN ks e + 1)).map flat))) ∧
          (∀ y ∈ F', y.1 = e ∨ ∃ z ∈ flatN (ks, ts), y.1 = z.1) ∧ (putKid (ks, ts) e (wayN ks e) t').1.length = ks.length := by
        have hp1 : (wl (ks.take (wayN ks e)) ((ts.take (wayN ks e)).map flat) ++ (flat t' ++ wr (ks.drop (wayN ks e)) ((ts.drop (wayN ks e + 1)).map flat))).Pairwise ltM := by
          rw [hf] at hp
          refine ctx hp ih.ord hends fun x hx => ?_
          rcases hents' x hx with rfl | hx
          · exact ⟨hP, hS⟩
          · obtain ⟨_, hMR, hL⟩ := List.pairwise_append.1 hp
            exact ⟨fun l hl => hL l hl _ (by simp [hx]), fun r hr => (List.pairwise_append.1 hMR).2.2 _ hx r hr⟩
        have htx : ∀ y ∈ flat t', y.1 = e ∨ ∃ z ∈ flatN (ks, ts), y.1 = z.1 := fun y hy => by
          rcases ih.txt y hy with h | ⟨z, hz, h⟩
          · exact .inl h
          · exact .inr ⟨z, by rw [hf]; simp [hz], h⟩
        cases hb : plB ks e with
        | false =>
          refine ⟨_, rfl, ?_, ?_, ?_, ?_⟩
          · show (flatN (if plB ks e then _ else ks, ts.take (wayN ks e) ++ t' :: ts.drop (wayN ks e + 1))).Pairwise ltM
            rw [hb, if_neg (by simp), flat_at t' hl hi]; exact hp1
          · show entsF (flatN (if plB ks e then _ else ks, ts.take (wayN ks e) ++ t' :: ts.drop (wayN ks e + 1))) = _
            rw [hb, if_neg (by simp), flat_at t' hl hi, entsF_append, entsF_append]; rfl
          · intro y hy
            change y ∈ flatN (if plB ks e then _ else ks, ts.take (wayN ks e) ++ t' :: ts.drop (wayN ks e + 1)) at hy
            rw [hb, if_neg (by simp), flat_at t' hl hi] at hy
            rcases List.mem_append.1 hy with h | h
            · exact .inr ⟨y, by rw [hf]; exact List.mem_append_left _ h, rfl⟩
            · rcases List.mem_append.1 h with h | h
              · exact htx y h
              · exact .inr ⟨y, by rw [hf]; exact List.mem_append_right _ (List.mem_append_right _ h), rfl⟩
          · show (if plB ks e then _ else ks).length = ks.length
            rw [hb]; rfl
        | true =>
          obtain ⟨hlt, hek⟩ := plB_at hb
          have hw : wayN ks e = plN e ks + 1 := by unfold wayN; rw [if_pos hb]
          obtain ⟨r, hr⟩ := least_flat t' ih.cnt hcnt'
          have hks' : (ks.set (plN e ks) (leastT t')).length = ks.length := List.length_set
          have htk : (ks.set (plN e ks) (leastT t')).take (wayN ks e) = ks.take (plN e ks) ++ [leastT t'] := by
            rw [hw, List.take_succ_eq_append_getElem (by rw [hks']; omega), List.getElem_set_self, List.take_set_of_le (Nat.le_refl _)]
          have hdr : (ks.set (plN e ks) (leastT t')).drop (wayN ks e) = ks.drop (wayN ks e) := by rw [hw, List.drop_set_of_lt (by omega)]
          have hkt : ks.take (wayN ks e) = ks.take (plN e ks) ++ [e] := by rw [hw, List.take_succ_eq_append_getElem hlt, hek]
          have htt : (ts.take (wayN ks e)).map flat = (ts.take (plN e ks)).map flat ++ [flat (ts[plN e ks]'(by omega))] := by rw [hw, List.take_succ_eq_append_getElem (by omega), List.map_append]; rfl
          have hwl : ∀ k : En, wl (ks.take (plN e ks) ++ [k]) ((ts.take (wayN ks e)).map flat) = (wl (ks.take (plN e ks)) ((ts.take (plN e ks)).map flat) ++ flat (ts[plN e ks]'(by omega))) ++ [(k, false)] := fun k => by
            rw [htt, wl_snoc _ _ _ _ (by simp; omega)]; simp
          have hfl : flatN (putKid (ks, ts) e (wayN ks e) t') = (wl (ks.take (plN e ks)) ((ts.take (plN e ks)).map flat) ++ flat (ts[plN e ks]'(by omega))) ++ (leastT t', false) :: (flat t' ++ wr (ks.drop (wayN ks e)) ((ts.drop (wayN ks e + 1)).map flat)) := by
            show flatN (if plB ks e then ks.set (plN e ks) (leastT t') else ks, ts.take (wayN ks e) ++ t' :: ts.drop (wayN ks e + 1)) = _
            rw [hb, if_pos rfl, flat_at t' (by rw [hks']; exact hl) hi, htk, hdr, hwl]; simp
          rw [hkt, hwl] at hp1
          have hp2 := sep_up (A := wl (ks.take (plN e ks)) ((ts.take (plN e ks)).map flat) ++ flat (ts[plN e ks]'(by omega))) (k := e) (x := leastT t') (r := r ++ wr (ks.drop (wayN ks e)) ((ts.drop (wayN ks e + 1)).map flat)) (F := flat t' ++ wr (ks.drop (wayN ks e)) ((ts.drop (wayN ks e + 1)).map flat)) (by rw [hr]; rfl) (by simpa using hp1)
          refine ⟨_, hfl, hp2, ?_, ?_, ?_⟩
          · rw [hkt, hwl]
            simp only [entsF_append, entsF_sep, entsF_nil, List.append_nil]; rfl
          · intro y hy
            have hmem : ∀ z, z ∈ wl (ks.take (plN e ks)) ((ts.take (plN e ks)).map flat) ++ flat (ts[plN e ks]'(by omega)) → z ∈ flatN (ks, ts) := fun z hz => by
              rw [hf, hkt, hwl]
              exact List.mem_append_left _ (List.mem_append_left _ hz)
            rcases List.mem_append.1 hy with h | h
            · exact .inr ⟨y, hmem y h, rfl⟩
            · rcases List.mem_cons.1 h with rfl | h
              · have := htx (leastT t', true) (by rw [hr]; simp)
                simpa using this
              · rcases List.mem_append.1 h with h | h
                · exact htx y h
                · exact .inr ⟨y, by rw [hf]; exact List.mem_append_right _ (List.mem_append_right _ h), rfl⟩
          · show (if plB ks e then ks.set (plN e ks) (leastT t') else ks).length = ks.length
            rw [hb, if_pos rfl, hks']
      obtain ⟨F', hF, hpF, heF, htF, hlF⟩ := hnode
      obtain ⟨ks', hks'⟩ : ∃ ks', ks' = (putKid (ks, ts) e (wayN ks e) t').1 := ⟨_, rfl⟩
      have hpk : putKid (ks, ts) e (wayN ks e) t' = (ks', ts.take (wayN ks e) ++ t' :: ts.drop (wayN ks e + 1)) := by rw [hks']; rfl
      rw [hpk] at hF hlF ⊢
      have hlen : (ts.take (wayN ks e) ++ t' :: ts.drop (wayN ks e + 1)).length = ks'.length + 1 := by
        have : ks'.length = ks.length := hlF
        simp; omega
      have hjt : (ts.take (wayN ks e)).length = wayN ks e := by simp; omega
      have hkl : ks'.length = ks.length := hlF
      obtain ⟨hI, hl2, hg2, n1, n2⟩ := mend_spec (ks := ks') (ts := ts.take (wayN ks e) ++ t' :: ts.drop (wayN ks e + 1)) (i := wayN ks e) (t := t') (by rw [List.getElem?_append_right (by omega), hjt, Nat.sub_self]; rfl) hlen (by omega)
        (fun u hu => by
          rw [List.take_append_of_le_length (by omega), List.take_take, Nat.min_self] at hu
          exact hk u (List.mem_of_mem_take hu))
        (fun u hu => by
          rw [List.drop_append, List.drop_eq_nil_of_le (by omega), hjt, show wayN ks e + 1 - wayN ks e = 1 by omega] at hu
          simp at hu
          exact hk u (List.mem_of_mem_drop hu)) ih.cnt hcnt' (by have := ih.hi; omega) (by rw [hF]; exact hpF)
      rw [hF] at hI
      refine ⟨?_, ?_, ⟨hl2, hg2⟩, hI.ord, ?_, ?_, ?_, fun h => by cases h⟩
      · show true = _
        rw [hpb]; exact ih.dd
      · show entsF (flatN (mendT (ks', ts.take (wayN ks e) ++ t' :: ts.drop (wayN ks e + 1)) (wayN ks e))) = _
        rw [hI.ent, heF, ih.ent, hent]
        split
        · rw [insL_mid hE1 hE2]
        · rw [delL_mid hE1 hE2]
      · show ks.length ≤ (mendT (ks', ts.take (wayN ks e) ++ t' :: ts.drop (wayN ks e + 1)) (wayN ks e)).1.length + 1
        omega
      · show (mendT (ks', ts.take (wayN ks e) ++ t' :: ts.drop (wayN ks e + 1)) (wayN ks e)).1.length ≤ ks.length + 1
        omega
      · intro y hy
        obtain ⟨z, hz, h⟩ := hI.txt y hy
        rw [h]
        exact htF z hz
end Go.Proofs.Ytiaclfldgagalaa

/-
  A page in memory; leaf, find, way.
-/
namespace Go.Proofs.Ytiaclfldgagalaa
open Go.RowKit Go.Lib

def pcs (ps : List Nat) : List Value := ps.map fun p => .pointer (some ⟨p, 0, none⟩)
theorem pcs_len (ps : List Nat) : (pcs ps).length = ps.length := by simp [pcs]
theorem pcs_one (ps : List Nat) : ∀ u ∈ pcs ps, u.oneCell' = true := by
  intro u hu
  obtain ⟨p, _, rfl⟩ := List.mem_map.1 hu
  rfl
theorem pcs_at {ps : List Nat} {i : Nat} (h : i < ps.length) : (pcs ps)[i]? = some (.pointer (some ⟨ps[i], 0, none⟩)) := by simp [pcs, h]
theorem pcs_append (a b : List Nat) : pcs (a ++ b) = pcs a ++ pcs b := by simp [pcs]
/-- a page: its keys' row and its kids' row are of one's own -/
structure PgX (B : Nat) (w : World) (b : Nat) (t : TypeId) (KA : Option Addr) (Kc : Nat) (IA : Option Addr) (Ic : Nat) (ks : List En) (ps : List Nat) : Prop where
  blk : Blk w b t #[.slice KA ks.length Kc, .slice IA ps.length Ic]
  tt : t = 61 ∨ t = 63
  keys : w.ownsRow B 35 3 (.slice KA ks.length Kc) ks.length (ecs ks)
  kids : w.ownsRow B 70 1 (.slice IA ps.length Ic) ps.length (pcs ps)
/-- and all of it lies in the footprint D -/
structure PgD (B : Nat) (D : Nat → Prop) (w : World) (b : Nat) (t : TypeId) (KA : Option Addr) (Kc : Nat) (IA : Option Addr) (Ic : Nat) (ks : List En) (ps : List Nat) : Prop where
  x : PgX B w b t KA Kc IA Ic ks ps
  db : D b
  dk : ∀ k, (Value.slice KA ks.length Kc).ownBlock = some k → D k
  di : ∀ k, (Value.slice IA ps.length Ic).ownBlock = some k → D k
  foot : ∀ k, D k → B ≤ k ∧ k < w.heap.size
def PgV (B : Nat) (D : Nat → Prop) (w : World) (b : Nat) (ks : List En) (ps : List Nat) : Prop := ∃ t KA Kc IA Ic, PgD B D w b t KA Kc IA Ic ks ps
section
variable {B b Kc Ic : Nat} {D D' F : Nat → Prop} {w w' : World} {t : TypeId} {KA IA : Option Addr} {ks : List En} {ps : List Nat}
theorem PgD.cells (h : PgD B D w b t KA Kc IA Ic ks ps) : w.cell? ⟨b, 0, none⟩ = some (.slice KA ks.length Kc) ∧ w.cell? ⟨b, 1, none⟩ = some (.slice IA ps.length Ic) := by
  have c0 := h.x.blk.cell 0
  have c1 := h.x.blk.cell 1
  simp only [List.getElem?_toArray, List.getElem?_cons_zero, List.getElem?_cons_succ] at c0 c1
  exact ⟨c0, c1⟩
theorem PgD.chg (h : PgD B D w b t KA Kc IA Ic ks ps) (hc : Chg F w w') (hd : ∀ k, D k → ¬ F k) : PgD B D w' b t KA Kc IA Ic ks ps :=
  ⟨⟨h.x.blk.chg hc (hd _ h.db), h.x.tt, own_chg h.x.keys hc fun k hk => hd k (h.dk k hk), own_chg h.x.kids hc fun k hk => hd k (h.di k hk)⟩, h.db, h.dk, h.di, fun k hk => ⟨(h.foot k hk).1, Nat.lt_of_lt_of_le (h.foot k hk).2 hc.size⟩⟩
theorem PgD.below (h : PgD B D w b t KA Kc IA Ic ks ps) (hb : Below w.heap.size w w') : PgD B D w' b t KA Kc IA Ic ks ps := h.chg (F := Non) (Chg.of_below hb) fun _ _ hf => hf
theorem PgD.more (h : PgD B D w b t KA Kc IA Ic ks ps) (hD : ∀ k, D k → D' k) (hf : ∀ k, D' k → B ≤ k ∧ k < w.heap.size) : PgD B D' w b t KA Kc IA Ic ks ps :=
  ⟨h.x, hD _ h.db, fun k hk => hD k (h.dk k hk), fun k hk => hD k (h.di k hk), hf⟩
theorem PgV.chg (h : PgV B D w b ks ps) (hc : Chg F w w') (hd : ∀ k, D k → ¬ F k) : PgV B D w' b ks ps := by
  obtain ⟨t, KA, Kc, IA, Ic, h⟩ := h
  exact ⟨t, KA, Kc, IA, Ic, h.chg hc hd⟩
theorem PgV.below (h : PgV B D w b ks ps) (hb : Below w.heap.size w w') : PgV B D w' b ks ps := h.chg (F := Non) (Chg.of_below hb) fun _ _ hf => hf
theorem PgV.more (h : PgV B D w b ks ps) (hD : ∀ k, D k → D' k) (hf : ∀ k, D' k → B ≤ k ∧ k < w.heap.size) : PgV B D' w b ks ps := by
  obtain ⟨t, KA, Kc, IA, Ic, h⟩ := h
  exact ⟨t, KA, Kc, IA, Ic, h.more hD hf⟩
theorem PgV.foot (h : PgV B D w b ks ps) : ∀ k, D k → B ≤ k ∧ k < w.heap.size := by
  obtain ⟨t, KA, Kc, IA, Ic, h⟩ := h
  exact h.foot
theorem PgV.db (h : PgV B D w b ks ps) : D b := by
  obtain ⟨t, KA, Kc, IA, Ic, h⟩ := h
  exact h.db
/-- a kid's address, where it is read -/
theorem PgD.kid (h : PgD B D w b t KA Kc IA Ic ks ps) {i : Nat} (hi : i < ps.length) : ∃ g, IA = some ⟨g, 0, none⟩ ∧ w.cell? ⟨g, i, none⟩ = some (.pointer (some ⟨ps[i], 0, none⟩)) := by
  obtain ⟨g, rfl⟩ := own_form' h.x.kids (by omega)
  exact ⟨g, rfl, (h.x.kids.cellAt i (by omega)).trans (pcs_at hi)⟩
/-- a key, where it is read -/
theorem PgD.key (h : PgD B D w b t KA Kc IA Ic ks ps) {i : Nat} (hi : i < ks.length) : ∃ g, KA = some ⟨g, 0, none⟩ ∧ w.cell? ⟨g, i * 3, none⟩ = some (.string ks[i].s) ∧ w.cell? ⟨g, i * 3 + 1, none⟩ = some (.int .i64 ks[i].p) ∧ w.cell? ⟨g, i * 3 + 2, none⟩ = some (.int .i64 ks[i].k) := by
  obtain ⟨g, rfl⟩ := own_form' h.x.keys (by omega)
  obtain ⟨e1, e2, e3⟩ := ecs_at hi
  exact ⟨g, rfl, (h.x.keys.cellAt _ (by omega)).trans e1, (h.x.keys.cellAt _ (by omega)).trans e2, (h.x.keys.cellAt _ (by omega)).trans e3⟩
end

theorem leaf_yes {B b : Nat} {D : Nat → Prop} {w : World} {ks : List En} (h : PgV B D w b ks []) : Calls Try.prog 40 #[.pointer (some ⟨b, 0, none⟩)] w fun r w' => r = .returned (.bool true) ∧ w = w' := by
  obtain ⟨t, KA, Kc, IA, Ic, h⟩ := h
  have hc := h.cells.2
  simp only [List.length_nil] at hc
  clear h
  go_enter Try.func40, Try.ntmps40
  go_wp2
  go_ret
  exact ⟨rfl, rfl⟩
theorem leaf_no {B b : Nat} {D : Nat → Prop} {w : World} {ks : List En} {ps : List Nat} (h : PgV B D w b ks ps) (hp : 0 < ps.length) (hp1 : ps.length ≤ 1000000) : Calls Try.prog 40 #[.pointer (some ⟨b, 0, none⟩)] w fun r w' => r = .returned (.bool false) ∧ w = w' := by
  obtain ⟨t, KA, Kc, IA, Ic, h⟩ := h
  have hc := h.cells.2
  obtain ⟨n, hn⟩ : ∃ n, n = ps.length := ⟨_, rfl⟩
  rw [← hn] at hc hp hp1
  have hz : ((n : Int) == 0) = false := by rw [beq_eq_false_iff_ne]; omega
  clear h hn
  go_enter Try.func40, Try.ntmps40
  go_wp2
  go_ret
  exact ⟨rfl, rfl⟩
theorem leaf_any {B b : Nat} {D : Nat → Prop} {w : World} {ks : List En} {ps : List Nat} (h : PgV B D w b ks ps) (hp1 : ps.length ≤ 1000000) : Calls Try.prog 40 #[.pointer (some ⟨b, 0, none⟩)] w fun r w' => r = .returned (.bool ps.isEmpty) ∧ w = w' := by
  cases ps with
  | nil => exact leaf_yes h
  | cons p ps => exact leaf_no h (by simp) hp1
set_option maxRecDepth 100000 in
set_option maxHeartbeats 3200000 in
theorem find_any {B b : Nat} {D : Nat → Prop} {w : World} {ks : List En} {ps : List Nat} (h : PgV B D w b ks ps) (hs : Srt ks) (hk : ks.length ≤ 1000000) (e : En) :
    Calls Try.prog 43 #[.pointer (some ⟨b, 0, none⟩), e.val] w fun r w' => r = .returned (.tuple #[.int .i64 (plN e ks), .bool (plB ks e)]) ∧ Below w.heap.size w w' := by
  have hmx : Try.prog.follows .mixedOrders = true := by kernel_rfl
  obtain ⟨t, KA, Kc, IA, Ic, h⟩ := h
  obtain ⟨w1, hw1⟩ : ∃ w1, w1 = w.alloc (.cells #[.string e.s, .int .i64 e.p, .int .i64 e.k] 35) := ⟨_, rfl⟩
  have hb1 : Below w.heap.size w w1 := by rw [hw1]; exact (Below.refl _ w).alloc (Nat.le_refl _) _
  have k1 : Blk w1 w.heap.size 35 #[.string e.s, .int .i64 e.p, .int .i64 e.k] := by rw [hw1]; exact Blk.new _ _ _
  have h1 := h.below hb1
  have c0 := BelowBy.cell h1.cells.1
  have d0 := k1.cell 0
  have d1 := k1.cell 1
  have d2 := k1.cell 2
  simp only [List.getElem?_toArray, List.getElem?_cons_zero, List.getElem?_cons_succ] at d0 d1 d2
  have e0 := BelowBy.cell d0
  have e1 := BelowBy.cell d1
  have e2 := BelowBy.cell d2
  have HBS := Lib.hid (fun p : BelowBy w1 => bsearch_any (own_chg h1.x.keys (Chg.of_below (F := Non) p.h) fun _ _ h => h) rfl hs hk e)
  have HW1 := Lib.hid hw1
  have HB1 := Lib.hid hb1
  unfold En.val at HBS ⊢
  clear h hw1 hb1 k1 h1 d0 d1 d2 hs
  go_enter Try.func43, Try.ntmps43
  go_wp2_with fail
  rw [← HW1.out]
  refine wp_region_below hmx (by kernel_rfl) ?_
  repeat (quiet_step (first | (go_at_call 53; exact calls_below (HBS.out _))))
  refine wpQuiet_nil ?_
  intro _ hw'
  obtain ⟨pq, hw''⟩ := hw'
  subst hw''
  have HB3 := Lib.hid (HB1.out.trans (pq.h.mono HB1.out.size))
  go_wp2_with fail
  go_ret2
  exact ⟨rfl, HB3.out⟩
set_option maxRecDepth 100000 in
theorem way_any {B b : Nat} {D : Nat → Prop} {w : World} {ks : List En} {ps : List Nat} (h : PgV B D w b ks ps) (hs : Srt ks) (hk : ks.length ≤ 1000000) (e : En) :
    Calls Try.prog 42 #[.pointer (some ⟨b, 0, none⟩), e.val] w fun r w' => r = .returned (.int .i64 (wayN ks e)) ∧ Below w.heap.size w w' := by
  obtain ⟨w1, hw1⟩ : ∃ w1, w1 = w.alloc (.cells #[.string e.s, .int .i64 e.p, .int .i64 e.k] 35) := ⟨_, rfl⟩
  have hb1 : Below w.heap.size w w1 := by rw [hw1]; exact (Below.refl _ w).alloc (Nat.le_refl _) _
  have HF := Lib.hid (find_any (h.below hb1) hs hk e)
  have HW1 := Lib.hid hw1
  have HB1 := Lib.hid hb1
  have HPN := Lib.hid (plN_le e ks)
  unfold En.val at HF ⊢
  clear h hw1 hb1 hs
  go_enter Try.func42, Try.ntmps42
  go_wp2_with fail
  rw [← HW1.out]
  refine HF.out.mono ?_
  rintro r w2 ⟨rfl, hb2⟩
  have HB3 := Lib.hid (HB1.out.trans (hb2.mono HB1.out.size))
  clear hb2
  obtain ⟨n, hn⟩ : ∃ n, n = plN e ks := ⟨_, rfl⟩
  rw [← hn] at HPN ⊢
  have hn6 : (n : Int) ≤ 1000000 := by have := HPN.out; omega
  have hn0 : (0 : Int) ≤ (n : Int) := by omega
  cases hb : plB ks e with
  | true =>
    have HR := Lib.hid (show ((wayN ks e : Nat) : Int) = (n : Int) + 1 by unfold wayN; rw [hb, ← hn]; simp)
    clear hb hn
    go_wp2_with fail
    go_ret
    exact ⟨ret_int HR.out.symm, HB3.out⟩
  | false =>
    have HR := Lib.hid (show ((wayN ks e : Nat) : Int) = (n : Int) by unfold wayN; rw [hb, ← hn]; simp)
    clear hb hn
    go_wp2_with fail
    go_ret
    exact ⟨ret_int HR.out.symm, HB3.out⟩
end Go.Proofs.Ytiaclfldgagalaa

/-
  slices.Delete on a row of one's own.
-/
namespace Go.Proofs.Ytiaclfldgagalaa
open Go.RowKit Go.Lib

theorem Try.infoptr : (Try.prog.info? 70).map (fun i => (i.zero, i.size, i.bytes)) = some (some (.pointer none), 1, 8) := by kernel_rfl
theorem Try.zeroptr : ∀ v ∈ (Value.pointer none).cells, v.oneCell' = true := by
  intro v hv
  have h : v ∈ [Value.pointer none] := by simpa [Value.cells] using hv
  rcases h with _ | ⟨_, h⟩ <;> first | rfl | cases h

set_option maxRecDepth 100000 in
set_option maxHeartbeats 6400000 in
theorem pdel_any {w : World} {B n c : Nat} {A : Option Addr} {xs : List Value} (hown : w.ownsRow B 70 1 (.slice A n c) n xs) (hx1 : ∀ u ∈ xs, u.oneCell' = true) {i j : Nat} (hij : i < j) (hj : j ≤ n) (hn : n ≤ 1000000) :
    Calls Try.prog 68 #[.slice A n c, .int .i64 i, .int .i64 j] w fun r w' => r = .returned (.slice A (n - (j - i)) c) ∧ RowTo B 70 1 (.slice A n c) w (.slice A (n - (j - i)) c) (n - (j - i)) (xs.take (i * 1) ++ xs.drop (j * 1)) w' := by
  obtain ⟨i0, hi, hz0, hz1, hz2⟩ := info_parts Try.infoptr
  obtain ⟨g, rfl⟩ := own_form' hown (by omega)
  obtain ⟨hnc, hcm⟩ := own_caps hown
  have hcm' := hcm
  unfold maxLen at hcm'
  have hxl := hown.1
  have hf := own_first (w := w.drew) (i := i) hown (by omega)
  have hcells : ∀ q u, (xs.drop (j * 1))[q]? = some u → w.drew.cell? ((⟨g, j * 1, none⟩ : Addr).add q) = some u := by
    intro q u hu
    rw [List.getElem?_drop] at hu
    rw [Addr.add_lit]
    exact (hown.cellAt (j * 1 + q) (by have := (List.getElem?_eq_some_iff.1 hu).1; omega)).trans hu
  have hdl : (xs.drop (j * 1)).length = (n - j) * 1 := by rw [List.length_drop, hxl, Nat.sub_mul]
  have hd1 : ∀ u ∈ xs.drop (j * 1), u.oneCell' = true := fun u hu => hx1 u (List.mem_of_mem_drop hu)
  have htl : (xs.take (i * 1)).length = i * 1 := by rw [List.length_take, hxl]; omega
  have e1 : i + (n - j) = n - (j - i) := by omega
  obtain ⟨ys, hys⟩ : ∃ ys, ys = xs.take (i * 1) := ⟨_, rfl⟩
  obtain ⟨zs, hzs⟩ : ∃ zs, zs = xs.drop (j * 1) := ⟨_, rfl⟩
  rw [← hys] at hf htl ⊢
  rw [← hzs] at hcells hdl hd1 ⊢
  simp only [Nat.mul_one] at hf hcells hdl hd1 htl hys hzs ⊢
  have H := Lib.hid (And.intro hf (And.intro hcells (And.intro hdl (And.intro hd1 (And.intro htl e1)))))
  have H0 := Lib.hid (And.intro hown hx1)
  have a1 : (i : Int) ≤ (j : Int) := by omega
  have a2 : (j : Int) ≤ (n : Int) := by omega
  have a3 : (n : Int) ≤ (c : Int) := by omega
  have a4 : (0 : Int) ≤ (i : Int) := by omega
  have a5 : ((i : Int) == (j : Int)) = false := by rw [beq_eq_false_iff_ne]; omega
  have a6 : ¬ (c = i) := by omega
  have a7 : (i : Int) ≤ (c : Int) := by omega
  have a8 : (i : Int) ≤ (n : Int) := by omega
  clear hown hx1 hxl hf hcells hdl hd1 htl e1 hys hzs
  have HRES : Hid (∀ q, q = i + (n - j) → ∀ w5, w5.ownsRow B 70 1 (.slice (some ⟨g, 0, none⟩) q c) q (ys ++ zs) → w.drew.grownBy w5 (some g) →
      ∃ w6, (∀ ty, (Builtin.clear_ #[59] ty #[.slice (some ⟨g, q, none⟩) (n - q) (c - q)]).run Try.prog w5 = .ok (.tuple #[]) w6) ∧ RowTo B 70 1 (.slice (some ⟨g, 0, none⟩) n c) w (.slice (some ⟨g, 0, none⟩) (n - (j - i)) c) (n - (j - i)) (ys ++ zs) w6) := Lib.hid (by
    intro q hq w5 ho5 hg5
    obtain rfl : q = n - (j - i) := by omega
    obtain ⟨cur, hg, hB, hnc5, hcm5, hcl, htk, hxl⟩ := own_cur ho5
    have hm : n * 1 ≤ c * 1 := Nat.mul_le_mul_right _ hnc
    obtain ⟨cs, hcs, hr⟩ := run_clear_k (P := Try.prog) w5 59 70 70 i0 (.pointer none) 1 Try.underlying59 hi hz0 rfl Try.zeroptr g ((n - (j - i)) * 1) (n - (n - (j - i))) (c - (n - (j - i))) (by omega) cur hg (by rw [hcl]; omega)
    simp only [Nat.mul_one] at hr
    refine ⟨_, hr, own_of_cur (setRow_heap w5 g _ _ _ _ hg) hB hnc5 hcm5 (by rw [length_splice _ _ _ (by rw [hcl, hcs]; omega), hcl]) _ ?_, fun k hk => .inl hk, ?_⟩
    · rw [← htk]
      unfold splice
      rw [List.take_append_of_le_length (by rw [List.length_take, hcl]; omega), List.take_take]; simp
    · have h1 : Chg (fun k => some g = some k) w w5 := ⟨hg5.os, hg5.tape, hg5.output, hg5.size, fun k hk hn => hg5.block k hk fun e => hn e.symm⟩
      exact h1.setRow (fun _ => rfl) _)
  have a9 : ((i + (n - j) : Nat) : Int) ≤ (n : Int) := by omega
  have a10 : ((i + (n - j) : Nat) : Int) ≤ (c : Int) := by omega
  have a11 : ¬ (c = i + (n - j)) := by omega
  have b1 : (0 : Int) ≤ ((i + (n - j) : Nat) : Int) := by omega
  by_cases hcj : c = j
  · have HZ := Lib.hid (show zs = [] from List.eq_nil_of_length_eq_zero (by rw [H.out.2.2.1]; omega))
    obtain rfl : j = n := by omega
    obtain rfl : c = j := by omega
    clear a9 a10 a11 b1 a3 hcm
    go_enter Try.func68, Try.ntmps68
    go_wp2_with fail
    go_region_law (refine step_append_fits rfl _ _ 59 rfl B 70 i0 1 Try.underlying59 hi hz1 g i c ys H.out.1 (by rfl) ⟨g, 0, none⟩ 0 0 zs (by rfl) (by rw [HZ.out]; rfl) (by intro q u hu; rw [HZ.out] at hu; cases hu) H.out.2.2.2.1 (by omega) ?_; intro w5 ho5 hg5)
    all_goals
      obtain ⟨w6, hr6, hR⟩ := HRES.out i (by omega) w5 ho5 hg5
      have HR := Lib.hid hR
      clear ho5 hg5 hR
      go_wp2_with (at_builtin; refine wpList_clear2 _ rfl _ 59 rfl _ (by rfl) (hr6 _) ?_)
      go_ret
      have he : i = c - (c - i) := by omega
      exact ⟨by first | omega | (rw [← he]; rfl) | (simp; omega), HR.out⟩
  · go_enter Try.func68, Try.ntmps68
    go_wp2_with fail
    go_region_law (refine step_append_fits rfl _ _ 59 rfl B 70 i0 1 Try.underlying59 hi hz1 g i c ys H.out.1 (by rfl) ⟨g, j, none⟩ (n - j) (c - j) zs (by rfl) (by rw [H.out.2.2.1, Nat.mul_one]) H.out.2.1 H.out.2.2.2.1 (by omega) ?_; intro w5 ho5 hg5)
    all_goals
      obtain ⟨w6, hr6, hR⟩ := HRES.out _ rfl w5 ho5 hg5
      have HR := Lib.hid hR
      clear ho5 hg5 hR
      go_wp2_with (at_builtin; refine wpList_clear2 _ rfl _ 59 rfl _ (by rfl) (hr6 _) ?_)
      go_ret
      have he := H.out.2.2.2.2.2
      exact ⟨by first | omega | (rw [← he]; rfl) | (simp; omega), HR.out⟩
end Go.Proofs.Ytiaclfldgagalaa
