/-
  The program's locks: a sweep as mathematics; its state.
-/
import Derived.Test.YthbbheegkhlniaaGreatImP
namespace Go.Proofs.YthbbheegkhlniaaGreat
open Go.RowKit Go.Lib Go.Shelf Go.Maps

/-- a sweep: holders, those that go on waiting, those that have it -/
def swp (hs done : List Hd) : List Hd → List Hd × List Hd × List Hd
  | [] => (hs, done, [])
  | o :: r => if freeL o hs done = true then
      let q := swp (giveH o.1 o.2.1 hs) done r
      (q.1, q.2.1, o :: q.2.2)
    else swp hs (done ++ [o]) r
/-- what transactions hold behind that -/
def tgS (t : Th) : List Hd → List Hd → (Int → List Th) → (Int → List Th)
  | _, [], tg => tg
  | hs, o :: r, tg => tgS t (giveH o.1 o.2.1 hs) r (if hs.any (ofP o.1) = true then tg else upd tg o.1 (tg o.1 ++ [t]))
def wnS (given : List Hd) (wn : Int → Option (Th × Int)) : Int → Option (Th × Int) := fun x => if given.any (ofP x) = true then none else wn x
theorem giveH_len (x m : Int) (l : List Hd) : (giveH x m l).length ≤ l.length + 1 := by
  unfold giveH
  split <;> simp
theorem giveH_ne (x m : Int) (l : List Hd) : giveH x m l ≠ [] := by
  unfold giveH
  split
  · rename_i i hi
    obtain ⟨hil, _⟩ := idxL_some hi
    intro h
    have := congrArg List.length h
    simp at this
    subst this
    simp at hil
  · simp
theorem swp_ne : ∀ (r : List Hd) (hs done : List Hd), hs ≠ [] → (swp hs done r).1 ≠ []
  | [], _, _, h => h
  | o :: r, hs, done, h => by
    rw [swp]
    split
    · exact swp_ne r _ _ (giveH_ne _ _ _)
    · exact swp_ne r _ _ h
theorem swp_nil {r : List Hd} : ∀ {hs done : List Hd}, (swp hs done r).1 = [] → done = [] → (swp hs done r).2.1 = [] := by
  intro hs done h hd
  subst hd
  cases r with
  | nil => rfl
  | cons o r =>
    by_cases h0 : hs = []
    · subst h0
      rw [swp, if_pos (by rfl)] at h
      exact absurd h (swp_ne r _ _ (giveH_ne _ _ _))
    · exact absurd h (swp_ne _ _ _ h0)
/-- where a sweep stands in memory -/
structure Sw0 (B tb : Nat) (D D' : Nat → Prop) (w0 wr : World) (S : Sx) (R : Value) (nR : Nat) (xR : List Value) (L : Value) (nL : Nat) (xL : List Int) : Prop where
  mm : Mm B D' wr tb S
  sub : ∀ k, D' k → D k ∨ w0.heap.size ≤ k
  chg : Chg D w0 wr
  old : wr.ownsRow B 62 3 R nR xR
  oldN : ∀ k, R.ownBlock = some k → ¬ D' k
  lst : wr.ownsRow w0.heap.size 3 1 L nL (intsV xL)
  lstN : ∀ k, L.ownBlock = some k → ¬ D' k
  low : B ≤ w0.heap.size
section
variable {B tb nR nL nL' : Nat} {D D' : Nat → Prop} {w0 wr w' : World} {S S' : Sx} {R L L' : Value} {xR : List Value} {xL xL' : List Int}
theorem Sw0.bw (h : Sw0 B tb D D' w0 wr S R nR xR L nL xL) : B ≤ wr.heap.size := Nat.le_trans h.low h.chg.size
theorem Sw0.below (h : Sw0 B tb D D' w0 wr S R nR xR L nL xL) (hb : Below wr.heap.size wr w') : Sw0 B tb D D' w0 w' S R nR xR L nL xL :=
  ⟨h.mm.below hb, h.sub, h.chg.trans' (Chg.of_below (F := D) hb) fun _ _ hk => hk, own_chg h.old (F := Non) (Chg.of_below hb) fun _ _ hf => hf, h.oldN, own_chg h.lst (F := Non) (Chg.of_below hb) fun _ _ hf => hf, h.lstN, h.low⟩
theorem Sw0.chgD (h : Sw0 B tb D D' w0 wr S R nR xR L nL xL) (hc : Chg D' wr w') : Chg D w0 w' :=
  h.chg.trans' hc fun i hi hD => (h.sub i hD).elim id fun h1 => absurd h1 (by omega)
theorem Sw0.step (h : Sw0 B tb D D' w0 wr S R nR xR L nL xL) (hm : MTo B tb D' wr w' S') : Sw0 B tb D (Ext D' wr w') w0 w' S' R nR xR L nL xL := by
  have hs := h.chg.size
  refine ⟨hm.1, fun k hk => hk.elim (h.sub k) fun hk => .inr (by omega), h.chgD hm.2, own_chg h.old hm.2 h.oldN, fun k hk hd => hd.elim (h.oldN k hk) fun hd => ?_, own_chg h.lst hm.2 h.lstN, fun k hk hd => hd.elim (h.lstN k hk) fun hd => ?_, h.low⟩
  · have := (h.old.lt k hk).2; omega
  · have := (h.lst.lt k hk).2; omega
/-- the same footprint -/
theorem Sw0.same (h : Sw0 B tb D D' w0 wr S R nR xR L nL xL) (hm : Mm B D' w' tb S' ∧ Chg D' wr w') : Sw0 B tb D D' w0 w' S' R nR xR L nL xL :=
  ⟨hm.1, h.sub, h.chgD hm.2, own_chg h.old hm.2 h.oldN, h.oldN, own_chg h.lst hm.2 h.lstN, h.lstN, h.low⟩
theorem Sw0.push (h : Sw0 B tb D D' w0 wr S R nR xR L nL xL) (hR : RowTo w0.heap.size 3 1 L wr L' nL' (intsV xL') w') (hne : ∀ k, L.ownBlock = some k → R.ownBlock ≠ some k) : Sw0 B tb D D' w0 w' S R nR xR L' nL' xL' := by
  have hF : ∀ k, D' k → ¬ (L.ownBlock = some k) := fun k hk hl => h.lstN k hl hk
  refine ⟨h.mm.chg hR.chg hF, h.sub, h.chg.trans' hR.chg fun i hi hl => absurd (h.lst.lt i hl).1 (by omega), own_chg h.old hR.chg fun k hk hl => hne k hl hk, h.oldN, hR.own, fun k hk hd => ?_, h.low⟩
  rcases hR.blk k hk with h1 | h1
  · exact h.lstN k h1 hd
  · have := (h.mm.foot k hd).2; omega
end
/-- what a sweep's S is, given so many -/
structure Lg (N k : Nat) (S0 S : Sx) (t : Th) (hs done given : List Hd) : Prop where
  h : S.h = upd S0.h t hs
  v : S.v = upd S0.v t done
  ls : S.ls = S0.ls
  wn : S.wn = wnS given S0.wn
  tg : S.tg = tgS t (S0.h t) given S0.tg
  eq : swp (S0.h t) [] (S0.v t) = ((swp hs done ((S0.v t).drop k)).1, (swp hs done ((S0.v t).drop k)).2.1, given ++ (swp hs done ((S0.v t).drop k)).2.2)
  nxt : ∀ r tg, tgS t (S0.h t) (given ++ r) tg = tgS t hs r (tgS t (S0.h t) given tg)
  bd : Bnd (N + k) S
  hl : hs.length ≤ (S0.h t).length + k
  tl : ∀ x, (S.tg x).length ≤ (S0.tg x).length + k
  gl : given.length ≤ k
  dl : done.length ≤ k
section
variable {N k : Nat} {S0 S S' : Sx} {t : Th} {hs done given : List Hd}
theorem Lg.start (N : Nat) (hS : S.h = S0.h) (hv : S.v = upd S0.v t []) (hls : S.ls = S0.ls) (hwn : S.wn = S0.wn) (htg : S.tg = S0.tg) (hb : Bnd N S) : Lg N 0 S0 S t (S0.h t) [] [] := by
  refine ⟨by rw [hS]; funext y; unfold upd; split <;> simp_all, hv, hls, by rw [hwn]; funext y; simp [wnS], by rw [htg]; rfl, by simp, fun r tg => rfl, hb, by simp, fun x => by rw [htg]; omega, by simp, by simp⟩
theorem Lg.stay (h : Lg N k S0 S t hs done given) (hk : k < (S0.v t).length) (hf : freeL (S0.v t)[k] hs done = false) (hS : S'.h = S.h) (hv : S'.v = upd S.v t (done ++ [(S0.v t)[k]])) (hls : S'.ls = S.ls) (hwn : S'.wn = S.wn) (htg : S'.tg = S.tg) (hb : Bnd (N + k) S') : Lg N (k + 1) S0 S' t hs (done ++ [(S0.v t)[k]]) given := by
  have e : swp hs done ((S0.v t).drop k) = swp hs (done ++ [(S0.v t)[k]]) ((S0.v t).drop (k + 1)) := by
    rw [List.drop_eq_getElem_cons hk, swp, if_neg (by rw [hf]; decide)]
  refine ⟨hS.trans h.h, ?_, hls.trans h.ls, hwn.trans h.wn, htg.trans h.tg, by rw [← e]; exact h.eq, h.nxt, hb.mono (by omega), by have := h.hl; omega, fun x => by rw [htg]; have := h.tl x; omega, by have := h.gl; omega, by have := h.dl; simp; omega⟩
  rw [hv, h.v]
  funext y
  unfold upd
  split <;> rfl
theorem ofP_comm_any {x : Int} {g : List Hd} {o : Hd} : (g ++ [o]).any (ofP x) = (g.any (ofP x) || ofP x o) := by simp
theorem Lg.have_ (h : Lg N k S0 S t hs done given) (hk : k < (S0.v t).length) (hf : freeL (S0.v t)[k] hs done = true) (hS : S'.h = upd S.h t (giveH (S0.v t)[k].1 (S0.v t)[k].2.1 (S.h t))) (hv : S'.v = S.v) (hls : S'.ls = S.ls) (hwn : S'.wn = upd S.wn (S0.v t)[k].1 none) (htg : S'.tg = if (S.h t).any (ofP (S0.v t)[k].1) = true then S.tg else upd S.tg (S0.v t)[k].1 (S.tg (S0.v t)[k].1 ++ [t])) (hb : Bnd (N + k + 1) S') : Lg N (k + 1) S0 S' t (giveH (S0.v t)[k].1 (S0.v t)[k].2.1 hs) done (given ++ [(S0.v t)[k]]) := by
  obtain ⟨o, ho⟩ : ∃ o, o = (S0.v t)[k] := ⟨_, rfl⟩
  rw [← ho] at hf hS hwn htg ⊢
  have hht : S.h t = hs := by rw [h.h, upd_same]
  rw [hht] at hS htg
  have e : swp hs done ((S0.v t).drop k) = ((swp (giveH o.1 o.2.1 hs) done ((S0.v t).drop (k + 1))).1, (swp (giveH o.1 o.2.1 hs) done ((S0.v t).drop (k + 1))).2.1, o :: (swp (giveH o.1 o.2.1 hs) done ((S0.v t).drop (k + 1))).2.2) := by
    rw [List.drop_eq_getElem_cons hk, ← ho, swp, if_pos hf]
  refine ⟨?_, hv.trans h.v, hls.trans h.ls, ?_, ?_, ?_, ?_, hb, by have := h.hl; have := giveH_len o.1 o.2.1 hs; omega, ?_, by have := h.gl; simp; omega, by have := h.dl; omega⟩
  · rw [hS, h.h]
    funext y
    unfold upd
    split <;> rfl
  · rw [hwn, h.wn]
    funext y
    unfold upd wnS
    rw [ofP_comm_any]
    by_cases e : y = o.1
    · rw [if_pos e, if_pos]
      simp [ofP, e]
    · rw [if_neg e]
      have e2 : ofP y o = false := by simp [ofP]; exact fun h => e h.symm
      rw [e2, Bool.or_false]
  · rw [htg, h.nxt [o] S0.tg, h.tg]
    rfl
  · rw [h.eq, e]
    simp
  · intro r tg
    rw [List.append_assoc, h.nxt ([o] ++ r) tg, h.nxt [o] tg]
    rfl
  · intro x
    rw [htg]
    have h1 := h.tl x
    split
    · omega
    · by_cases e : x = o.1
      · rw [e] at h1 ⊢
        rw [upd_same]
        simp
        omega
      · rw [upd_other _ _ e]
        omega
end
end Go.Proofs.YthbbheegkhlniaaGreat
