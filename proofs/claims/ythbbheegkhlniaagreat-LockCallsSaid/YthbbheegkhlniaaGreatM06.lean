/-
  The program's locks in memory: three maps, lines, rows; whose each block is.
-/
import Derived.Test.YthbbheegkhlniaaGreatM05
import Derived.Laws.Bits64b
namespace Go.Proofs.YthbbheegkhlniaaGreat
open Go.RowKit Go.Lib Go.Maps

/-- whose a block is -/
inductive Lb
  | no
  | root
  | m (i : Nat)
  | ln (t : Th)
  | hr (t : Th)
  | wr (t : Th)
  | tr (x : Int)
abbrev Hd := Int × Int × Bool
structure Sx where
  m0 : Nat
  m1 : Nat
  m2 : Nat
  o : Nat → Lb
  ls : Th → Option Nat
  hv : Th → Value
  wv : Th → Value
  h : Th → List Hd
  v : Th → List Hd
  tf : Int → Option Value
  tg : Int → List Th
  wn : Int → Option (Th × Int)
abbrev nilS : Value := .slice none 0 0
abbrev pt (b : Nat) : Value := .pointer (some ⟨b, 0, none⟩)
abbrev iV (x : Int) : Value := .int .i64 x
def heldV (l : List Hd) : List Value := l.flatMap heldC
def f0 (ls : Th → Option Nat) : Th → Option Value := fun t => (ls t).map pt
def f2 (wn : Int → Option (Th × Int)) : Int → Option Value := fun x => (wn x).map fun q => wantV q.1 q.2
/-- a row of one's own, in a block that is its -/
structure RowL (B : Nat) (o : Nat → Lb) (w : World) (lb : Lb) (e : TypeId) (v : Value) (xs : List Value) (n : Nat) : Prop where
  own : w.ownsRow B e 3 v n xs
  form : ∃ A c, v = .slice A n c
  lbl : ∀ k, v.ownBlock = some k → o k = lb
structure Mm (B : Nat) (D : Nat → Prop) (w : World) (tb : Nat) (S : Sx) : Prop where
  root : Blk w tb 56 #[.map (some S.m0), .map (some S.m1), .map (some S.m2)]
  r0 : S.o tb = .root
  o0 : S.o S.m0 = .m 0
  o1 : S.o S.m1 = .m 1
  o2 : S.o S.m2 = .m 2
  k0 : MapM thV w 32 S.m0 (f0 S.ls)
  k1 : MapM iV w 3 S.m1 S.tf
  k2 : MapM iV w 3 S.m2 (f2 S.wn)
  ln : ∀ t b, S.ls t = some b → S.o b = .ln t ∧ Blk w b 64 #[.int .i64 t.k, .string t.t, .string t.y, S.hv t, S.wv t]
  hr : ∀ t, RowL B S.o w (.hr t) 62 (S.hv t) (heldV (S.h t)) (S.h t).length
  wr : ∀ t, RowL B S.o w (.wr t) 62 (S.wv t) (heldV (S.v t)) (S.v t).length
  tr : ∀ x, RowL B S.o w (.tr x) 32 ((S.tf x).getD nilS) (ths (S.tg x)) (S.tg x).length
  dom : ∀ k, S.o k ≠ .no → D k
  foot : ∀ k, D k → B ≤ k ∧ k < w.heap.size
  tn : ∀ x, (S.tf x).isSome = true → S.tg x ≠ []
/-- what is kept by a step that changes the blocks of the labels C alone -/
structure Kept (C : Lb → Prop) (B : Nat) (o' : Nat → Lb) (w' : World) (tb : Nat) (S : Sx) : Prop where
  root : ¬ C .root → Blk w' tb 56 #[.map (some S.m0), .map (some S.m1), .map (some S.m2)] ∧ o' tb = .root
  k0 : ¬ C (.m 0) → MapM thV w' 32 S.m0 (f0 S.ls) ∧ o' S.m0 = .m 0
  k1 : ¬ C (.m 1) → MapM iV w' 3 S.m1 S.tf ∧ o' S.m1 = .m 1
  k2 : ¬ C (.m 2) → MapM iV w' 3 S.m2 (f2 S.wn) ∧ o' S.m2 = .m 2
  ln : ∀ t b, S.ls t = some b → ¬ C (.ln t) → o' b = .ln t ∧ Blk w' b 64 #[.int .i64 t.k, .string t.t, .string t.y, S.hv t, S.wv t]
  hr : ∀ t, ¬ C (.hr t) → RowL B o' w' (.hr t) 62 (S.hv t) (heldV (S.h t)) (S.h t).length
  wr : ∀ t, ¬ C (.wr t) → RowL B o' w' (.wr t) 62 (S.wv t) (heldV (S.v t)) (S.v t).length
  tr : ∀ x, ¬ C (.tr x) → RowL B o' w' (.tr x) 32 ((S.tf x).getD nilS) (ths (S.tg x)) (S.tg x).length
section
variable {B tb : Nat} {D : Nat → Prop} {w w' : World} {S : Sx} {F : Nat → Prop} {o o' : Nat → Lb} {lb : Lb} {e : TypeId} {v : Value} {xs : List Value} {n : Nat}
theorem RowL.keep (h : RowL B o w lb e v xs n) (hc : Chg F w w') (hF : ∀ k, o k = lb → ¬ F k) (hO : ∀ k, o k = lb → o' k = lb) : RowL B o' w' lb e v xs n :=
  ⟨own_chg h.own hc fun k hk => hF k (h.lbl k hk), h.form, fun k hk => hO k (h.lbl k hk)⟩
theorem RowL.nil (w : World) (o : Nat → Lb) (lb : Lb) (e : TypeId) : RowL B o w lb e nilS [] 0 := ⟨World.ownsRow_nil _ _ _ _, ⟨none, 0, rfl⟩, fun k hk => by cases hk⟩
theorem Mm.kept (h : Mm B D w tb S) {C : Lb → Prop} (hc : Chg F w w') (hF : ∀ k, F k → C (S.o k)) (hO : ∀ k, S.o k ≠ .no → ¬ C (S.o k) → o' k = S.o k) : Kept C B o' w' tb S := by
  have e : ∀ {k g}, S.o k = g → ¬ C g → ¬ F k := fun {k g} hk hg hf => hg (hk ▸ hF k hf)
  have e2 : ∀ {k g}, S.o k = g → g ≠ .no → ¬ C g → o' k = g := fun {k g} hk hn hg => by
    have := hO k (by rw [hk]; exact hn) (by rw [hk]; exact hg)
    rw [this, hk]
  refine ⟨fun hn => ⟨h.root.chg hc (e h.r0 hn), e2 h.r0 (by intro h; cases h) hn⟩, fun hn => ⟨h.k0.chg hc (e h.o0 hn), e2 h.o0 (by intro h; cases h) hn⟩, fun hn => ⟨h.k1.chg hc (e h.o1 hn), e2 h.o1 (by intro h; cases h) hn⟩, fun hn => ⟨h.k2.chg hc (e h.o2 hn), e2 h.o2 (by intro h; cases h) hn⟩, fun t b hb hn => ?_, fun t hn => ?_, fun t hn => ?_, fun x hn => ?_⟩
  · obtain ⟨h1, h2⟩ := h.ln t b hb
    exact ⟨e2 h1 (by intro h; cases h) hn, h2.chg hc (e h1 hn)⟩
  · exact (h.hr t).keep hc (fun k hk => e hk hn) fun k hk => e2 hk (by intro h; cases h) hn
  · exact (h.wr t).keep hc (fun k hk => e hk hn) fun k hk => e2 hk (by intro h; cases h) hn
  · exact (h.tr x).keep hc (fun k hk => e hk hn) fun k hk => e2 hk (by intro h; cases h) hn
theorem Mm.chg (h : Mm B D w tb S) (hc : Chg F w w') (hd : ∀ k, D k → ¬ F k) : Mm B D w' tb S := by
  have hl : ∀ {k g}, S.o k = g → g ≠ .no → ¬ F k := fun {k g} hk hg => hd k (h.dom k (by rw [hk]; exact hg))
  refine ⟨h.root.chg hc (hl h.r0 (by intro h; cases h)), h.r0, h.o0, h.o1, h.o2, h.k0.chg hc (hl h.o0 (by intro h; cases h)), h.k1.chg hc (hl h.o1 (by intro h; cases h)), h.k2.chg hc (hl h.o2 (by intro h; cases h)), fun t b hb => ?_, fun t => ?_, fun t => ?_, fun x => ?_, h.dom, fun k hk => ⟨(h.foot k hk).1, Nat.lt_of_lt_of_le (h.foot k hk).2 hc.size⟩, h.tn⟩
  · obtain ⟨h1, h2⟩ := h.ln t b hb
    exact ⟨h1, h2.chg hc (hl h1 (by intro h; cases h))⟩
  · exact (h.hr t).keep hc (fun k hk => hl hk (by intro h; cases h)) fun k hk => hk
  · exact (h.wr t).keep hc (fun k hk => hl hk (by intro h; cases h)) fun k hk => hk
  · exact (h.tr x).keep hc (fun k hk => hl hk (by intro h; cases h)) fun k hk => hk
theorem Mm.below (h : Mm B D w tb S) (hb : Below w.heap.size w w') : Mm B D w' tb S := h.chg (F := Non) (Chg.of_below hb) fun _ _ hf => hf
theorem Mm.more {D' : Nat → Prop} (h : Mm B D w tb S) (hD : ∀ k, D k → D' k) (hf : ∀ k, D' k → B ≤ k ∧ k < w.heap.size) : Mm B D' w tb S :=
  ⟨h.root, h.r0, h.o0, h.o1, h.o2, h.k0, h.k1, h.k2, h.ln, h.hr, h.wr, h.tr, fun k hk => hD k (h.dom k hk), hf, h.tn⟩
theorem Mm.up (h : Mm B D w tb S) (hb : Below w.heap.size w w') (hB : B ≤ w.heap.size) : Mm B (Ext D w w') w' tb S :=
  (h.below hb).more (fun _ hk => .inl hk) fun k hk => hk.elim (fun hk => ⟨(h.foot k hk).1, Nat.lt_of_lt_of_le (h.foot k hk).2 hb.size⟩) fun hk => ⟨by omega, hk.2⟩
theorem Mm.old (h : Mm B D w tb S) {k : Nat} (hk : w.heap.size ≤ k) : S.o k = .no := by
  cases hh : S.o k with
  | no => rfl
  | _ => exact absurd (h.foot k (h.dom k (by rw [hh]; intro h; cases h))).2 (by omega)
theorem Mm.c0 (h : Mm B D w tb S) : w.cell? ⟨tb, 0, none⟩ = some (.map (some S.m0)) := h.root.cell 0
theorem Mm.c1 (h : Mm B D w tb S) : w.cell? ⟨tb, 1, none⟩ = some (.map (some S.m1)) := h.root.cell 1
theorem Mm.c2 (h : Mm B D w tb S) : w.cell? ⟨tb, 2, none⟩ = some (.map (some S.m2)) := h.root.cell 2
end
/-- a block more is lb's -/
def setO (o : Nat → Lb) (v : Value) (lb : Lb) : Nat → Lb := fun k => if v.ownBlock = some k then lb else o k
theorem setO_yes (o : Nat → Lb) {v : Value} (lb : Lb) {k : Nat} (h : v.ownBlock = some k) : setO o v lb k = lb := if_pos h
theorem setO_no (o : Nat → Lb) {v : Value} (lb : Lb) {k : Nat} (h : v.ownBlock ≠ some k) : setO o v lb k = o k := if_neg h
end Go.Proofs.YthbbheegkhlniaaGreat

/-
  The program's locks in memory: what each step leaves.
-/
namespace Go.Proofs.YthbbheegkhlniaaGreat
open Go.RowKit Go.Lib Go.Maps

section
variable {B tb : Nat} {D : Nat → Prop} {w w1 w2 : World} {S : Sx}
/-- the holders' row is another one -/
theorem Mm.setH (h : Mm B D w tb S) (hB : B ≤ w.heap.size) {t : Th} {b : Nat} (hls : S.ls t = some b) {v' : Value} {l' : List Hd} (hf : ∃ A c, v' = .slice A l'.length c) (hR : RowTo B 62 3 (S.hv t) w v' l'.length (heldV l') w1) :
    Mm B (Ext D w w1) (w1.setCell ⟨b, 3, none⟩ v') tb { S with o := setO S.o v' (.hr t), hv := upd S.hv t v', h := upd S.h t l' } ∧ Chg D w (w1.setCell ⟨b, 3, none⟩ v') := by
  obtain ⟨hb1, hb2⟩ := h.ln t b hls
  have hlt := hb2.lt
  have hne : (S.hv t).ownBlock ≠ some b := fun e => by have := (h.hr t).lbl b e; rw [hb1] at this; cases this
  have hc6 : Chg (fun q => q = b) w1 (w1.setCell ⟨b, 3, none⟩ v') := (Chg.refl (fun q => q = b) w1).setCell (p := ⟨b, 3, none⟩) (fun _ => rfl) _
  have hc : Chg (fun k => (S.hv t).ownBlock = some k ∨ k = b) w (w1.setCell ⟨b, 3, none⟩ v') := (hR.chg.mono fun k _ hk => .inl hk).trans' hc6 fun k _ hk => .inr hk
  have s6 := hR.chg.size
  have s7 : (w1.setCell ⟨b, 3, none⟩ v').heap.size = w1.heap.size := by simp
  have hnb : v'.ownBlock ≠ some b := fun e => (hR.blk b e).elim hne fun h1 => by omega
  have hK := h.kept (o' := setO S.o v' (.hr t)) (C := fun g => g = .hr t ∨ g = .ln t) hc (fun k hk => hk.elim (fun hk => .inl ((h.hr t).lbl k hk)) fun hk => .inr (by rw [hk]; exact hb1)) fun k hk hC => setO_no _ _ fun e => by
    rcases hR.blk k e with h1 | h1
    · exact hC (.inl ((h.hr t).lbl k h1))
    · exact hk (h.old h1)
  have hD : ∀ k, (S.hv t).ownBlock = some k → D k := fun k hk => h.dom k (by rw [(h.hr t).lbl k hk]; intro h; cases h)
  have hDb : D b := h.dom b (by rw [hb1]; intro h; cases h)
  refine ⟨⟨(hK.root (by simp)).1, (hK.root (by simp)).2, (hK.k0 (by simp)).2, (hK.k1 (by simp)).2, (hK.k2 (by simp)).2, (hK.k0 (by simp)).1, (hK.k1 (by simp)).1, (hK.k2 (by simp)).1, fun t' b' hb' => ?_, fun t' => ?_, fun t' => ?_, fun x => hK.tr x (by simp), fun k hk => ?_, fun k hk => ?_, h.tn⟩, hc.mono fun k _ hk => hk.elim (hD k) fun hk => by rw [hk]; exact hDb⟩
  · by_cases e : t' = t
    · subst e
      obtain rfl : b' = b := Option.some.inj (hb'.symm.trans hls)
      refine ⟨(setO_no _ _ hnb).trans hb1, ?_⟩
      have h9 := (hb2.chg hR.chg hne).put 3 v'
      simp only [upd_same]
      exact h9
    · have h9 := hK.ln t' b' hb' (by simp [e])
      simp only [upd_other _ _ e]
      exact h9
  · by_cases e : t' = t
    · subst e
      simp only [upd_same]
      exact ⟨own_chg hR.own hc6 fun k hk e => hnb (by rw [← e]; exact hk), by obtain ⟨A, c, e⟩ := hf; exact ⟨A, c, e⟩, fun k hk => setO_yes _ _ hk⟩
    · have h9 := hK.hr t' (by simp [e])
      simp only [upd_other _ _ e]
      exact h9
  · exact hK.wr t' (by simp)
  · by_cases e : v'.ownBlock = some k
    · rcases hR.blk k e with h1 | h1
      · exact .inl (hD k h1)
      · exact .inr ⟨h1, (hR.own.lt k e).2⟩
    · have hk : setO S.o v' (.hr t) k ≠ .no := hk
      rw [setO_no _ _ e] at hk
      exact .inl (h.dom k hk)
  · rw [s7]
    exact hk.elim (fun hk => ⟨(h.foot k hk).1, by have := (h.foot k hk).2; omega⟩) fun hk => ⟨by omega, hk.2⟩

/-- the waiters' row is another one -/
theorem Mm.setW (h : Mm B D w tb S) (hB : B ≤ w.heap.size) {t : Th} {b : Nat} (hls : S.ls t = some b) {v' : Value} {l' : List Hd} (hf : ∃ A c, v' = .slice A l'.length c) (hR : RowTo B 62 3 (S.wv t) w v' l'.length (heldV l') w1) :
    Mm B (Ext D w w1) (w1.setCell ⟨b, 4, none⟩ v') tb { S with o := setO S.o v' (.wr t), wv := upd S.wv t v', v := upd S.v t l' } ∧ Chg D w (w1.setCell ⟨b, 4, none⟩ v') := by
  obtain ⟨hb1, hb2⟩ := h.ln t b hls
  have hlt := hb2.lt
  have hne : (S.wv t).ownBlock ≠ some b := fun e => by have := (h.wr t).lbl b e; rw [hb1] at this; cases this
  have hc6 : Chg (fun q => q = b) w1 (w1.setCell ⟨b, 4, none⟩ v') := (Chg.refl (fun q => q = b) w1).setCell (p := ⟨b, 4, none⟩) (fun _ => rfl) _
  have hc : Chg (fun k => (S.wv t).ownBlock = some k ∨ k = b) w (w1.setCell ⟨b, 4, none⟩ v') := (hR.chg.mono fun k _ hk => .inl hk).trans' hc6 fun k _ hk => .inr hk
  have s6 := hR.chg.size
  have s7 : (w1.setCell ⟨b, 4, none⟩ v').heap.size = w1.heap.size := by simp
  have hnb : v'.ownBlock ≠ some b := fun e => (hR.blk b e).elim hne fun h1 => by omega
  have hK := h.kept (o' := setO S.o v' (.wr t)) (C := fun g => g = .wr t ∨ g = .ln t) hc (fun k hk => hk.elim (fun hk => .inl ((h.wr t).lbl k hk)) fun hk => .inr (by rw [hk]; exact hb1)) fun k hk hC => setO_no _ _ fun e => by
    rcases hR.blk k e with h1 | h1
    · exact hC (.inl ((h.wr t).lbl k h1))
    · exact hk (h.old h1)
  have hD : ∀ k, (S.wv t).ownBlock = some k → D k := fun k hk => h.dom k (by rw [(h.wr t).lbl k hk]; intro h; cases h)
  have hDb : D b := h.dom b (by rw [hb1]; intro h; cases h)
  refine ⟨⟨(hK.root (by simp)).1, (hK.root (by simp)).2, (hK.k0 (by simp)).2, (hK.k1 (by simp)).2, (hK.k2 (by simp)).2, (hK.k0 (by simp)).1, (hK.k1 (by simp)).1, (hK.k2 (by simp)).1, fun t' b' hb' => ?_, fun t' => ?_, fun t' => ?_, fun x => hK.tr x (by simp), fun k hk => ?_, fun k hk => ?_, h.tn⟩, hc.mono fun k _ hk => hk.elim (hD k) fun hk => by rw [hk]; exact hDb⟩
  · by_cases e : t' = t
    · subst e
      obtain rfl : b' = b := Option.some.inj (hb'.symm.trans hls)
      refine ⟨(setO_no _ _ hnb).trans hb1, ?_⟩
      have h9 := (hb2.chg hR.chg hne).put 4 v'
      simp only [upd_same]
      exact h9
    · have h9 := hK.ln t' b' hb' (by simp [e])
      simp only [upd_other _ _ e]
      exact h9
  · exact hK.hr t' (by simp)
  · by_cases e : t' = t
    · subst e
      simp only [upd_same]
      exact ⟨own_chg hR.own hc6 fun k hk e => hnb (by rw [← e]; exact hk), by obtain ⟨A, c, e⟩ := hf; exact ⟨A, c, e⟩, fun k hk => setO_yes _ _ hk⟩
    · have h9 := hK.wr t' (by simp [e])
      simp only [upd_other _ _ e]
      exact h9
  · by_cases e : v'.ownBlock = some k
    · rcases hR.blk k e with h1 | h1
      · exact .inl (hD k h1)
      · exact .inr ⟨h1, (hR.own.lt k e).2⟩
    · have hk : setO S.o v' (.wr t) k ≠ .no := hk
      rw [setO_no _ _ e] at hk
      exact .inl (h.dom k hk)
  · rw [s7]
    exact hk.elim (fun hk => ⟨(h.foot k hk).1, by have := (h.foot k hk).2; omega⟩) fun hk => ⟨by omega, hk.2⟩

/-- a holder's mode is another one -/
theorem Mm.setM (h : Mm B D w tb S) {t : Th} {l' : List Hd} (hl : l'.length = (S.h t).length) (hR : RowTo B 62 3 (S.hv t) w (S.hv t) l'.length (heldV l') w1) :
    Mm B (Ext D w w1) w1 tb { S with h := upd S.h t l' } ∧ Chg D w w1 := by
  have s6 := hR.chg.size
  have hK := h.kept (o' := S.o) (C := fun g => g = .hr t) hR.chg (fun k hk => (h.hr t).lbl k hk) fun k hk hC => rfl
  have hD : ∀ k, (S.hv t).ownBlock = some k → D k := fun k hk => h.dom k (by rw [(h.hr t).lbl k hk]; intro h; cases h)
  refine ⟨⟨(hK.root (by simp)).1, h.r0, h.o0, h.o1, h.o2, (hK.k0 (by simp)).1, (hK.k1 (by simp)).1, (hK.k2 (by simp)).1, fun t' b' hb' => hK.ln t' b' hb' (by simp), fun t' => ?_, fun t' => hK.wr t' (by simp), fun x => hK.tr x (by simp), fun k hk => .inl (h.dom k hk), fun k hk => ?_, h.tn⟩, hR.chg.mono fun k _ hk => hD k hk⟩
  · by_cases e : t' = t
    · subst e
      simp only [upd_same]
      exact ⟨hR.own, by rw [hl]; exact (h.hr t').form, (h.hr t').lbl⟩
    · have h9 := hK.hr t' (by simp [e])
      simp only [upd_other _ _ e]
      exact h9
  · exact hk.elim (fun hk => ⟨(h.foot k hk).1, by have := (h.foot k hk).2; omega⟩) fun hk => ⟨by have := (h.foot tb (h.dom tb (by rw [h.r0]; intro h; cases h))); omega, hk.2⟩
/-- no label on a row's block -/
def offO (o : Nat → Lb) (v : Value) : Nat → Lb := fun k => if v.ownBlock = some k then .no else o k
def offD (D : Nat → Prop) (v : Value) : Nat → Prop := fun k => D k ∧ v.ownBlock ≠ some k
theorem offO_no {o : Nat → Lb} {v : Value} {k : Nat} (h : v.ownBlock ≠ some k) : offO o v k = o k := if_neg h
/-- the waiters' row is let go of -/
theorem Mm.nilW (h : Mm B D w tb S) {t : Th} {b : Nat} (hls : S.ls t = some b) :
    Mm B (offD D (S.wv t)) (w.setCell ⟨b, 4, none⟩ nilS) tb { S with o := offO S.o (S.wv t), wv := upd S.wv t nilS, v := upd S.v t [] } ∧ Chg (offD D (S.wv t)) w (w.setCell ⟨b, 4, none⟩ nilS) := by
  obtain ⟨hb1, hb2⟩ := h.ln t b hls
  have hne : (S.wv t).ownBlock ≠ some b := fun e => by have := (h.wr t).lbl b e; rw [hb1] at this; cases this
  have hc : Chg (fun q => q = b) w (w.setCell ⟨b, 4, none⟩ nilS) := (Chg.refl (fun q => q = b) w).setCell (p := ⟨b, 4, none⟩) (fun _ => rfl) _
  have hK := h.kept (o' := offO S.o (S.wv t)) (C := fun g => g = .wr t ∨ g = .ln t) hc (fun k hk => .inr (by rw [hk]; exact hb1)) fun k hk hC => offO_no fun e => hC (.inl ((h.wr t).lbl k e))
  have hDb : offD D (S.wv t) b := ⟨h.dom b (by rw [hb1]; intro h; cases h), hne⟩
  refine ⟨⟨(hK.root (by simp)).1, (hK.root (by simp)).2, (hK.k0 (by simp)).2, (hK.k1 (by simp)).2, (hK.k2 (by simp)).2, (hK.k0 (by simp)).1, (hK.k1 (by simp)).1, (hK.k2 (by simp)).1, fun t' b' hb' => ?_, fun t' => hK.hr t' (by simp), fun t' => ?_, fun x => hK.tr x (by simp), fun k hk => ?_, fun k hk => ?_, h.tn⟩, hc.mono fun k _ hk => by rw [hk]; exact hDb⟩
  · by_cases e : t' = t
    · subst e
      obtain rfl : b' = b := Option.some.inj (hb'.symm.trans hls)
      refine ⟨(offO_no hne).trans hb1, ?_⟩
      have h9 := hb2.put 4 nilS
      simp only [upd_same]
      exact h9
    · have h9 := hK.ln t' b' hb' (by simp [e])
      simp only [upd_other _ _ e]
      exact h9
  · by_cases e : t' = t
    · subst e
      simp only [upd_same]
      exact RowL.nil _ _ _ _
    · have h9 := hK.wr t' (by simp [e])
      simp only [upd_other _ _ e]
      exact h9
  · have hk : offO S.o (S.wv t) k ≠ .no := hk
    by_cases e : (S.wv t).ownBlock = some k
    · exact absurd (if_pos e) hk
    · rw [offO_no e] at hk
      exact ⟨h.dom k hk, e⟩
  · rw [show (w.setCell ⟨b, 4, none⟩ nilS).heap.size = w.heap.size by simp]
    exact h.foot k hk.1
/-- a transaction's things' row is another one -/
theorem Mm.setT (h : Mm B D w tb S) (hB : B ≤ w.heap.size) {x : Int} {v' : Value} {l' : List Th} (hl0 : l' ≠ []) (hf : ∃ A c, v' = .slice A l'.length c) (hR : RowTo B 32 3 ((S.tf x).getD nilS) w v' l'.length (ths l') w1)
    (hM : MapM iV w2 3 S.m1 (upd S.tf x (some v'))) (hc2 : Chg (fun q => q = S.m1) w1 w2) :
    Mm B (Ext D w w2) w2 tb { S with o := setO S.o v' (.tr x), tf := upd S.tf x (some v'), tg := upd S.tg x l' } ∧ Chg D w w2 := by
  have hc : Chg (fun k => ((S.tf x).getD nilS).ownBlock = some k ∨ k = S.m1) w w2 := (hR.chg.mono fun k _ hk => .inl hk).trans' hc2 fun k _ hk => .inr hk
  have s6 := hR.chg.size
  have s7 := hc2.size
  have hm1 := h.k1.lt
  have hne : ((S.tf x).getD nilS).ownBlock ≠ some S.m1 := fun e => by have := (h.tr x).lbl _ e; rw [h.o1] at this; cases this
  have hnb : v'.ownBlock ≠ some S.m1 := fun e => (hR.blk _ e).elim hne fun h1 => by omega
  have hK := h.kept (o' := setO S.o v' (.tr x)) (C := fun g => g = .tr x ∨ g = .m 1) hc (fun k hk => hk.elim (fun hk => .inl ((h.tr x).lbl k hk)) fun hk => .inr (by rw [hk]; exact h.o1)) fun k hk hC => setO_no _ _ fun e => by
    rcases hR.blk k e with h1 | h1
    · exact hC (.inl ((h.tr x).lbl k h1))
    · exact hk (h.old h1)
  have hD : ∀ k, ((S.tf x).getD nilS).ownBlock = some k → D k := fun k hk => h.dom k (by rw [(h.tr x).lbl k hk]; intro h; cases h)
  have hDb : D S.m1 := h.dom _ (by rw [h.o1]; intro h; cases h)
  refine ⟨⟨(hK.root (by simp)).1, (hK.root (by simp)).2, (hK.k0 (by simp)).2, (setO_no _ _ hnb).trans h.o1, (hK.k2 (by simp)).2, (hK.k0 (by simp)).1, hM, (hK.k2 (by simp)).1, fun t' b' hb' => hK.ln t' b' hb' (by simp), fun t' => hK.hr t' (by simp), fun t' => hK.wr t' (by simp), fun y => ?_, fun k hk => ?_, fun k hk => ?_, fun y hy => ?_⟩, hc.mono fun k _ hk => hk.elim (hD k) fun hk => by rw [hk]; exact hDb⟩
  · by_cases e : y = x
    · subst e
      simp only [upd_same, Option.getD_some]
      exact ⟨own_chg hR.own hc2 fun k hk e => hnb (by rw [← e]; exact hk), by obtain ⟨A, c, e⟩ := hf; exact ⟨A, c, e⟩, fun k hk => setO_yes _ _ hk⟩
    · have h9 := hK.tr y (by simp [e])
      simp only [upd_other _ _ e]
      exact h9
  · by_cases e : v'.ownBlock = some k
    · rcases hR.blk k e with h1 | h1
      · exact .inl (hD k h1)
      · exact .inr ⟨h1, by have := (hR.own.lt k e).2; omega⟩
    · have hk : setO S.o v' (.tr x) k ≠ .no := hk
      rw [setO_no _ _ e] at hk
      exact .inl (h.dom k hk)
  · exact hk.elim (fun hk => ⟨(h.foot k hk).1, by have := (h.foot k hk).2; omega⟩) fun hk => ⟨by omega, hk.2⟩
  · by_cases e : y = x
    · subst e
      simp only [upd_same]
      exact hl0
    · simp only [upd_other _ _ e] at hy ⊢
      exact h.tn y hy
/-- a transaction's things are let go of -/
theorem Mm.delT (h : Mm B D w tb S) {x : Int} (hM : MapM iV w2 3 S.m1 (upd S.tf x none)) (hc2 : Chg (fun q => q = S.m1) w w2) :
    Mm B (offD D ((S.tf x).getD nilS)) w2 tb { S with o := offO S.o ((S.tf x).getD nilS), tf := upd S.tf x none, tg := upd S.tg x [] } ∧ Chg (offD D ((S.tf x).getD nilS)) w w2 := by
  have hne : ((S.tf x).getD nilS).ownBlock ≠ some S.m1 := fun e => by have := (h.tr x).lbl _ e; rw [h.o1] at this; cases this
  have hK := h.kept (o' := offO S.o ((S.tf x).getD nilS)) (C := fun g => g = .tr x ∨ g = .m 1) hc2 (fun k hk => .inr (by rw [hk]; exact h.o1)) fun k hk hC => offO_no fun e => hC (.inl ((h.tr x).lbl k e))
  have hDb : offD D ((S.tf x).getD nilS) S.m1 := ⟨h.dom _ (by rw [h.o1]; intro h; cases h), hne⟩
  refine ⟨⟨(hK.root (by simp)).1, (hK.root (by simp)).2, (hK.k0 (by simp)).2, (offO_no hne).trans h.o1, (hK.k2 (by simp)).2, (hK.k0 (by simp)).1, hM, (hK.k2 (by simp)).1, fun t' b' hb' => hK.ln t' b' hb' (by simp), fun t' => hK.hr t' (by simp), fun t' => hK.wr t' (by simp), fun y => ?_, fun k hk => ?_, fun k hk => ⟨(h.foot k hk.1).1, Nat.lt_of_lt_of_le (h.foot k hk.1).2 hc2.size⟩, fun y hy => ?_⟩, hc2.mono fun k _ hk => by rw [hk]; exact hDb⟩
  · by_cases e : y = x
    · subst e
      simp only [upd_same, Option.getD_none]
      exact RowL.nil _ _ _ _
    · have h9 := hK.tr y (by simp [e])
      simp only [upd_other _ _ e]
      exact h9
  · have hk : offO S.o ((S.tf x).getD nilS) k ≠ .no := hk
    by_cases e : ((S.tf x).getD nilS).ownBlock = some k
    · exact absurd (if_pos e) hk
    · rw [offO_no e] at hk
      exact ⟨h.dom k hk, e⟩
  · by_cases e : y = x
    · subst e
      simp only [upd_same] at hy
      cases hy
    · simp only [upd_other _ _ e] at hy ⊢
      exact h.tn y hy
theorem f2_upd (wn : Int → Option (Th × Int)) (x : Int) (q : Option (Th × Int)) : f2 (upd wn x q) = upd (f2 wn) x (q.map fun q => wantV q.1 q.2) := by
  funext y
  unfold f2 upd
  split <;> rfl
theorem f0_upd (ls : Th → Option Nat) (t : Th) (q : Option Nat) : f0 (upd ls t q) = upd (f0 ls) t (q.map pt) := by
  funext y
  unfold f0 upd
  split <;> rfl
/-- what a transaction waits for is another thing, or none -/
theorem Mm.setN (h : Mm B D w tb S) {x : Int} (q : Option (Th × Int)) (hM : MapM iV w2 3 S.m2 (upd (f2 S.wn) x (q.map fun q => wantV q.1 q.2))) (hc2 : Chg (fun q => q = S.m2) w w2) :
    Mm B D w2 tb { S with wn := upd S.wn x q } ∧ Chg D w w2 := by
  have hK := h.kept (o' := S.o) (C := fun g => g = .m 2) hc2 (fun k hk => by rw [hk]; exact h.o2) fun k hk hC => rfl
  have hDb : D S.m2 := h.dom _ (by rw [h.o2]; intro h; cases h)
  exact ⟨⟨(hK.root (by simp)).1, h.r0, h.o0, h.o1, h.o2, (hK.k0 (by simp)).1, (hK.k1 (by simp)).1, by show MapM iV w2 3 S.m2 (f2 (upd S.wn x q)); rw [f2_upd]; exact hM, fun t' b' hb' => hK.ln t' b' hb' (by simp), fun t' => hK.hr t' (by simp), fun t' => hK.wr t' (by simp), fun y => hK.tr y (by simp), h.dom, fun k hk => ⟨(h.foot k hk).1, Nat.lt_of_lt_of_le (h.foot k hk).2 hc2.size⟩, h.tn⟩, hc2.mono fun k _ hk => by rw [hk]; exact hDb⟩
/-- a thing's line that begins -/
theorem Mm.newL (h : Mm B D w tb S) (hB : B ≤ w.heap.size) {t : Th} {b : Nat} (hls : S.ls t = none) (hb : w.heap.size ≤ b) (h1 : Below w.heap.size w w1) (hb1 : Blk w1 b 64 #[.int .i64 t.k, .string t.t, .string t.y, nilS, nilS])
    (hM : MapM thV w2 32 S.m0 (upd (f0 S.ls) t (some (pt b)))) (hc2 : Chg (fun q => q = S.m0) w1 w2) :
    Mm B (Ext D w w2) w2 tb { S with o := fun k => if k = b then .ln t else S.o k, ls := upd S.ls t (some b), hv := upd S.hv t nilS, wv := upd S.wv t nilS, h := upd S.h t [], v := upd S.v t [] } ∧ Chg D w w2 := by
  have s1 := h1.size
  have s2 := hc2.size
  have hm0 := h.k0.lt
  have hlt := hb1.lt
  have hc : Chg (fun q => q = S.m0) w w2 := (Chg.of_below h1).trans' hc2 fun k _ hk => hk
  have hno : S.o b = .no := h.old hb
  have hK := h.kept (o' := fun k => if k = b then .ln t else S.o k) (C := fun g => g = .m 0) hc (fun k hk => by rw [hk]; exact h.o0) fun k hk hC => if_neg fun e => hk (by rw [e]; exact hno)
  have hDb : D S.m0 := h.dom _ (by rw [h.o0]; intro h; cases h)
  refine ⟨⟨(hK.root (by simp)).1, (hK.root (by simp)).2, (if_neg (show ¬ S.m0 = b by omega)).trans h.o0, (hK.k1 (by simp)).2, (hK.k2 (by simp)).2, by show MapM thV w2 32 S.m0 (f0 (upd S.ls t (some b))); rw [f0_upd]; exact hM, (hK.k1 (by simp)).1, (hK.k2 (by simp)).1, fun t' b' hb' => ?_, fun t' => ?_, fun t' => ?_, fun y => hK.tr y (by simp), fun k hk => ?_, fun k hk => ?_, h.tn⟩, hc.mono fun k _ hk => by rw [hk]; exact hDb⟩
  · by_cases e : t' = t
    · subst e
      simp only [upd_same] at hb' ⊢
      obtain rfl : b = b' := Option.some.inj hb'
      exact ⟨if_pos rfl, hb1.chg hc2 (by omega)⟩
    · simp only [upd_other _ _ e] at hb' ⊢
      exact hK.ln t' b' hb' (by simp)
  · by_cases e : t' = t
    · subst e
      simp only [upd_same]
      exact RowL.nil _ _ _ _
    · have h9 := hK.hr t' (by simp)
      simp only [upd_other _ _ e]
      exact h9
  · by_cases e : t' = t
    · subst e
      simp only [upd_same]
      exact RowL.nil _ _ _ _
    · have h9 := hK.wr t' (by simp)
      simp only [upd_other _ _ e]
      exact h9
  · by_cases e : k = b
    · exact .inr ⟨by omega, by omega⟩
    · have hk : (if k = b then Lb.ln t else S.o k) ≠ .no := hk
      rw [if_neg e] at hk
      exact .inl (h.dom k hk)
  · exact hk.elim (fun hk => ⟨(h.foot k hk).1, by have := (h.foot k hk).2; omega⟩) fun hk => ⟨by omega, hk.2⟩
/-- a thing's line goes -/
theorem Mm.delL (h : Mm B D w tb S) {t : Th} (hM : MapM thV w2 32 S.m0 (upd (f0 S.ls) t none)) (hc2 : Chg (fun q => q = S.m0) w w2) :
    Mm B D w2 tb { S with ls := upd S.ls t none, hv := upd S.hv t nilS, wv := upd S.wv t nilS, h := upd S.h t [], v := upd S.v t [] } ∧ Chg D w w2 := by
  have hK := h.kept (o' := S.o) (C := fun g => g = .m 0) hc2 (fun k hk => by rw [hk]; exact h.o0) fun k hk hC => rfl
  have hDb : D S.m0 := h.dom _ (by rw [h.o0]; intro h; cases h)
  refine ⟨⟨(hK.root (by simp)).1, h.r0, h.o0, h.o1, h.o2, by show MapM thV w2 32 S.m0 (f0 (upd S.ls t none)); rw [f0_upd]; exact hM, (hK.k1 (by simp)).1, (hK.k2 (by simp)).1, fun t' b' hb' => ?_, fun t' => ?_, fun t' => ?_, fun y => hK.tr y (by simp), h.dom, fun k hk => ⟨(h.foot k hk).1, Nat.lt_of_lt_of_le (h.foot k hk).2 hc2.size⟩, h.tn⟩, hc2.mono fun k _ hk => by rw [hk]; exact hDb⟩
  · by_cases e : t' = t
    · subst e
      simp only [upd_same] at hb'
      cases hb'
    · simp only [upd_other _ _ e] at hb' ⊢
      exact hK.ln t' b' hb' (by simp)
  · by_cases e : t' = t
    · subst e
      simp only [upd_same]
      exact RowL.nil _ _ _ _
    · have h9 := hK.hr t' (by simp)
      simp only [upd_other _ _ e]
      exact h9
  · by_cases e : t' = t
    · subst e
      simp only [upd_same]
      exact RowL.nil _ _ _ _
    · have h9 := hK.wr t' (by simp)
      simp only [upd_other _ _ e]
      exact h9
end
end Go.Proofs.YthbbheegkhlniaaGreat

/-
  The landed modes: Right, asBits.
-/
namespace Go.Proofs.YthbbheegkhlniaaGreat
open Go.RowKit Go.Lib

set_option maxRecDepth 100000 in
set_option maxHeartbeats 3200000 in
theorem right_any (m : Int) (w : World) : Says Tryz.prog 27 #[.int .i64 m] w (.bool (rgB m)) := by
  unfold rgB
  by_cases h1 : 1 ≤ m
  · have d1 : decide (1 ≤ m) = true := decide_eq_true h1
    by_cases h2 : m ≤ 8
    · have d2 : decide (m ≤ 8) = true := decide_eq_true h2
      go_enter Tryz.func27, Tryz.ntmps27
      go_wp2_with fail
      go_ret
      exact ⟨by first | rfl | (rw [d1, d2]; rfl), Below.refl _ _⟩
    · have d2 : decide (m ≤ 8) = false := decide_eq_false h2
      go_enter Tryz.func27, Tryz.ntmps27
      go_wp2_with fail
      go_ret
      exact ⟨by first | rfl | (rw [d1, d2]; rfl), Below.refl _ _⟩
  · have d1 : decide (1 ≤ m) = false := decide_eq_false h1
    go_enter Tryz.func27, Tryz.ntmps27
    go_wp2_with fail
    go_ret
    exact ⟨by first | rfl | (rw [d1]; rfl), Below.refl _ _⟩
/-- a mode more, as a bit -/
def bitN (s : Nat) (m : Int) : Nat := if rgB m then s ||| 2 ^ m.toNat else s
def bitsN (l : List Int) (s : Nat) : Nat := l.foldl bitN s
theorem bitN_lt {s : Nat} (h : s < 512) (m : Int) : bitN s m < 512 := by
  unfold bitN
  split
  · rename_i hr
    have : m.toNat < 9 := by
      unfold rgB at hr
      simp only [Bool.and_eq_true, decide_eq_true_eq] at hr
      omega
    exact Nat.or_lt_two_pow (n := 9) h (Nat.pow_lt_pow_right (by omega) this)
  · exact h
theorem or_bit {u k : Nat} (hu : u < 512) (hk : k ≤ 8) : bits .or .u64 (u : Int) (IntKind.u64.wrap (2 ^ k)) = ((u ||| 2 ^ k : Nat) : Int) := by
  have h1 : 2 ^ k ≤ 2 ^ 8 := Nat.pow_le_pow_right (by omega) hk
  have e : IntKind.u64.wrap (2 ^ k) = ((2 ^ k : Nat) : Int) := by
    have e1 : (2 : Int) ^ k = ((2 ^ k : Nat) : Int) := by rw [Int.natCast_pow]; rfl
    rw [e1, IntKind.wrap_u64]
    generalize 2 ^ k = q at h1
    omega
  rw [e, bits_or_u64_nat _ _ (by omega) (by generalize 2 ^ k = q at h1; omega)]
set_option maxRecDepth 100000 in
set_option maxHeartbeats 3200000 in
theorem asBits_any (l : List Int) (A : Option Addr) (n c : Nat) (w : World) (hn : n = l.length) (h8 : l.length ≤ 8) (hrd : Rd w w.heap.size A n (l.map fun x => .int .i64 x)) :
    Says Tryz.prog 79 #[.slice A n c] w (.int .u64 (bitsN l 0 : Nat)) := by
  have hri := fun (x : Int) (w : World) => right_any x w
  have HC := Lib.hid hri
  obtain ⟨r, hr⟩ : ∃ r, r = bitsN l 0 := ⟨_, rfl⟩
  rw [← hr]
  have H1 := Lib.hid (And.intro hn (And.intro hrd hr))
  have hn8 : n ≤ 8 := by omega
  have hn0 : (0 : Int) ≤ (n : Int) := Int.natCast_nonneg _
  clear hn hrd hri hr h8
  go_enter Tryz.func79, Tryz.ntmps79
  go_wp2_with fail
  go_loopw [3, 8] (fun s i wx => ∃ (k u : Nat), k ≤ n ∧ i = .int .i64 k ∧ s = .int .u64 u ∧ u < 512 ∧ bitsN (l.drop k) u = r ∧ Below w.heap.size w wx) (fun _ i _ => n - (intOf i).toNat)
  case atStart => exact ⟨0, 0, Nat.zero_le _, rfl, rfl, by decide, by rw [List.drop_zero]; exact H1.out.2.2.symm, Below.refl _ _⟩
  case round =>
    obtain ⟨k, u, hk, rfl, rfl, hu, hat, hb⟩ := hrel
    have hk0 : (0 : Int) ≤ (k : Int) := Int.natCast_nonneg _
    have HAT := Lib.hid hat
    have HB := Lib.hid hb
    clear hat hb
    by_cases hlt : k < n
    · have hlt1 : (k : Int) < (n : Int) := by omega
      have hkl : k < l.length := by rw [← H1.out.1]; exact hlt
      obtain ⟨ad, rfl, hlow, hc⟩ := H1.out.2.1.2 (by omega)
      have d0 := hc k (.int .i64 l[k]) (by rw [List.getElem?_map, List.getElem?_eq_getElem hkl]; rfl)
      obtain ⟨x, hx⟩ : ∃ x, x = l[k] := ⟨_, rfl⟩
      have hst : bitsN (l.drop (k + 1)) (bitN u x) = r := by rw [← HAT.out, List.drop_eq_getElem_cons hkl, ← hx]; rfl
      rw [← hx] at d0
      have d1 := (HB.out.cell (p := ad.add k) (by unfold Addr.add; split <;> exact hlow)).trans d0
      have hlt2 : bitN u x < 512 := bitN_lt hu x
      have HX := Lib.hid (And.intro hst hlt2)
      clear hx hc d0 hst hlt2
      cases hr : rgB x with
      | false =>
        have hbx : bitN u x = u := by unfold bitN; rw [hr]; rfl
        rw [hbx] at HX
        have HR := Lib.hid hr
        clear hr hbx
        go_wp2_with (go_at_call 27; refine (HC.out _ _).mono ?_; rw [HR.out]; rintro e w1 ⟨rfl, hb⟩; have hb2 := HB.out.trans (hb.mono HB.out.size); clear HB hb; have HB := Lib.hid hb2; clear hb2)
        go_roundw
        case rel => exact ⟨k + 1, u, by omega, by go_num, rfl, hu, HX.out.1, HB.out⟩
        case measure => simp [intOf]; omega
      | true =>
        have hbx : bitN u x = u ||| 2 ^ x.toNat := by unfold bitN; rw [hr]; rfl
        rw [hbx] at HX
        have HR := Lib.hid hr
        have hx1 : 1 ≤ x ∧ x ≤ 8 := by
          unfold rgB at hr
          simpa only [Bool.and_eq_true, decide_eq_true_eq] using hr
        clear hr hbx
        go_wp2_with (go_at_call 27; refine (HC.out _ _).mono ?_; rw [HR.out]; rintro e w1 ⟨rfl, hb⟩; have hb2 := HB.out.trans (hb.mono HB.out.size); clear HB hb; have HB := Lib.hid hb2; clear hb2)
        go_roundw
        case rel => exact ⟨k + 1, u ||| 2 ^ x.toNat, by omega, by go_num, by rw [or_bit (by omega) (by omega)], HX.out.2, HX.out.1, HB.out⟩
        case measure => simp [intOf]; omega
    · have hlt1 : ¬ (k : Int) < (n : Int) := by omega
      go_wp2_with fail
      go_ret
      refine ⟨?_, HB.out⟩
      rw [← HAT.out, List.drop_eq_nil_of_le (by rw [← H1.out.1]; omega)]
      rfl
end Go.Proofs.YthbbheegkhlniaaGreat

/-
  The landed modes: conflicts, Conflict, Covers, fewer.
-/
namespace Go.Proofs.YthbbheegkhlniaaGreat
open Go.RowKit Go.Lib

theorem rd_lit (w : World) (l : List Int) (cs : Array Value) (hcs : cs.toList = l.map fun x => .int .i64 x) : Rd (w.alloc (.cells cs 3)) (w.alloc (.cells cs 3)).heap.size (some ⟨w.heap.size, 0, none⟩) l.length (l.map fun x => .int .i64 x) :=
  ⟨by simp, fun _ => ⟨_, rfl, by simp, fun j u hu => by
    rw [← hcs] at hu
    have h := World.news_of_block (w := w.alloc (.cells cs 3)) (heap_alloc_new w _) j u hu
    exact h⟩⟩
/-- what a mode conflicts with, as bits -/
def cB (m : Int) : Nat := bitsN (rowM m) 0
set_option maxRecDepth 100000 in
set_option maxHeartbeats 12800000 in
theorem conflicts_any (m : Int) (w : World) : Says Tryz.prog 60 #[.int .i64 m] w (.int .u64 (cB m : Nat)) := by
  have HC := Lib.hid (show ∀ (l : List Int) (A : Option Addr) (n c : Nat) (w : World), n = l.length → l.length ≤ 8 → Rd w w.heap.size A n (l.map fun x => .int .i64 x) → Says Tryz.prog 79 #[.slice A n c] w (.int .u64 (bitsN l 0 : Nat)) from asBits_any)
  by_cases h1 : m = 1
  · subst h1
    go_enter Tryz.func60, Tryz.ntmps60
    go_wp2_with (go_at_call 79; refine (HC.out [6, 8] _ _ _ _ rfl (by decide) (rd_lit _ [6, 8] _ rfl)).mono ?_; rintro e w1 ⟨rfl, hb⟩; have HB := Lib.hid (((Below.refl _ w).alloc (Nat.le_refl _) _).trans (hb.mono (by simp))); clear hb)
    go_ret
    exact ⟨rfl, HB.out⟩
  by_cases h2 : m = 2
  · subst h2
    go_enter Tryz.func60, Tryz.ntmps60
    go_wp2_with (go_at_call 79; refine (HC.out [3, 5, 6, 8] _ _ _ _ rfl (by decide) (rd_lit _ [3, 5, 6, 8] _ rfl)).mono ?_; rintro e w1 ⟨rfl, hb⟩; have HB := Lib.hid (((Below.refl _ w).alloc (Nat.le_refl _) _).trans (hb.mono (by simp))); clear hb)
    go_ret
    exact ⟨rfl, HB.out⟩
  by_cases h3 : m = 3
  · subst h3
    go_enter Tryz.func60, Tryz.ntmps60
    go_wp2_with (go_at_call 79; refine (HC.out [2, 5, 6, 8] _ _ _ _ rfl (by decide) (rd_lit _ [2, 5, 6, 8] _ rfl)).mono ?_; rintro e w1 ⟨rfl, hb⟩; have HB := Lib.hid (((Below.refl _ w).alloc (Nat.le_refl _) _).trans (hb.mono (by simp))); clear hb)
    go_ret
    exact ⟨rfl, HB.out⟩
  by_cases h4 : m = 4
  · subst h4
    go_enter Tryz.func60, Tryz.ntmps60
    go_wp2_with (go_at_call 79; refine (HC.out [4, 6, 8] _ _ _ _ rfl (by decide) (rd_lit _ [4, 6, 8] _ rfl)).mono ?_; rintro e w1 ⟨rfl, hb⟩; have HB := Lib.hid (((Below.refl _ w).alloc (Nat.le_refl _) _).trans (hb.mono (by simp))); clear hb)
    go_ret
    exact ⟨rfl, HB.out⟩
  by_cases h5 : m = 5
  · subst h5
    go_enter Tryz.func60, Tryz.ntmps60
    go_wp2_with (go_at_call 79; refine (HC.out [2, 3, 5, 6, 8] _ _ _ _ rfl (by decide) (rd_lit _ [2, 3, 5, 6, 8] _ rfl)).mono ?_; rintro e w1 ⟨rfl, hb⟩; have HB := Lib.hid (((Below.refl _ w).alloc (Nat.le_refl _) _).trans (hb.mono (by simp))); clear hb)
    go_ret
    exact ⟨rfl, HB.out⟩
  by_cases h6 : m = 6
  · subst h6
    go_enter Tryz.func60, Tryz.ntmps60
    go_wp2_with (go_at_call 79; refine (HC.out [1, 2, 3, 4, 5, 6, 8] _ _ _ _ rfl (by decide) (rd_lit _ [1, 2, 3, 4, 5, 6, 8] _ rfl)).mono ?_; rintro e w1 ⟨rfl, hb⟩; have HB := Lib.hid (((Below.refl _ w).alloc (Nat.le_refl _) _).trans (hb.mono (by simp))); clear hb)
    go_ret
    exact ⟨rfl, HB.out⟩
  by_cases h7 : m = 7
  · subst h7
    go_enter Tryz.func60, Tryz.ntmps60
    go_wp2_with (go_at_call 79; refine (HC.out [8] _ _ _ _ rfl (by decide) (rd_lit _ [8] _ rfl)).mono ?_; rintro e w1 ⟨rfl, hb⟩; have HB := Lib.hid (((Below.refl _ w).alloc (Nat.le_refl _) _).trans (hb.mono (by simp))); clear hb)
    go_ret
    exact ⟨rfl, HB.out⟩
  by_cases h8 : m = 8
  · subst h8
    go_enter Tryz.func60, Tryz.ntmps60
    go_wp2_with (go_at_call 79; refine (HC.out [1, 2, 3, 4, 5, 6, 7, 8] _ _ _ _ rfl (by decide) (rd_lit _ [1, 2, 3, 4, 5, 6, 7, 8] _ rfl)).mono ?_; rintro e w1 ⟨rfl, hb⟩; have HB := Lib.hid (((Below.refl _ w).alloc (Nat.le_refl _) _).trans (hb.mono (by simp))); clear hb)
    go_ret
    exact ⟨rfl, HB.out⟩
  have hr : rowM m = [] := by
    unfold rowM
    rw [if_neg h1, if_neg h2, if_neg h3, if_neg h4, if_neg h5, if_neg h6, if_neg h7, if_neg h8]
  have HR := Lib.hid (show cB m = bitsN [] 0 by unfold cB; rw [hr])
  have q1 : (m == 1) = false := by simp [h1]
  have q2 : (m == 2) = false := by simp [h2]
  have q3 : (m == 3) = false := by simp [h3]
  have q4 : (m == 4) = false := by simp [h4]
  have q5 : (m == 5) = false := by simp [h5]
  have q6 : (m == 6) = false := by simp [h6]
  have q7 : (m == 7) = false := by simp [h7]
  have q8 : (m == 8) = false := by simp [h8]
  clear hr
  go_enter Tryz.func60, Tryz.ntmps60
  go_wp2_with (go_at_call 79; refine (HC.out [] _ _ _ _ rfl (by decide) Rd.empty).mono ?_; rintro e w1 ⟨rfl, hb⟩; have HB := Lib.hid hb; clear hb)
  go_ret
  exact ⟨by rw [HR.out]; rfl, HB.out⟩
theorem cB_out {m : Int} (h : rgB m = false) : cB m = 0 := by unfold cB; rw [row_out h]; rfl
theorem cB_one0 : ∀ b ∈ dom, bitsN [b] 0 = 2 ^ b.toNat := by decide +kernel
theorem bit_out {m : Int} (h : rgB m = false) : bitsN [m] 0 = 0 := by unfold bitsN; simp [bitN, h]
theorem conf_bits0 : ∀ a ∈ dom, ∀ b ∈ dom, (bits .and .u64 (cB a : Nat) (bitsN [b] 0 : Nat) != 0) = cfB a b := by decide +kernel
theorem and_0_0 : ∀ b ∈ dom, (bits .and .u64 ((0 : Nat) : Int) (bitsN [b] 0 : Nat) != 0) = false := by decide +kernel
theorem and_0_1 : ∀ a ∈ dom, (bits .and .u64 (cB a : Nat) ((0 : Nat) : Int) != 0) = false := by decide +kernel
theorem and_00 : (bits .and .u64 ((0 : Nat) : Int) ((0 : Nat) : Int) != 0) = false := by decide +kernel
theorem conf_bits (a b : Int) : (bits .and .u64 (cB a : Nat) (bitsN [b] 0 : Nat) != 0) = cfB a b := by
  cases ha : rgB a with
  | true =>
    cases hb : rgB b with
    | true => exact conf_bits0 a (rg_dom ha) b (rg_dom hb)
    | false =>
      rw [bit_out hb, and_0_1 a (rg_dom ha)]
      cases h : cfB a b with
      | false => rfl
      | true => rw [cf_r h] at hb; cases hb
  | false =>
    have h0 : cfB a b = false := by
      cases h : cfB a b with
      | false => rfl
      | true => rw [cf_l h] at ha; cases ha
    rw [cB_out ha, h0]
    cases hb : rgB b with
    | true => exact and_0_0 b (rg_dom hb)
    | false => rw [bit_out hb]; exact and_00
theorem cov_bits0 : ∀ a ∈ dom, ∀ b ∈ dom, (bits .andNot .u64 (cB b : Nat) (cB a : Nat) == 0) = cvN a b 8 := by decide +kernel
set_option maxRecDepth 100000 in
set_option maxHeartbeats 3200000 in
theorem conflict_any (a b : Int) (w : World) : Says Tryz.prog 76 #[.int .i64 a, .int .i64 b] w (.bool (cfB a b)) := by
  have HC := Lib.hid (And.intro conflicts_any (show ∀ (l : List Int) (A : Option Addr) (n c : Nat) (w : World), n = l.length → l.length ≤ 8 → Rd w w.heap.size A n (l.map fun x => .int .i64 x) → Says Tryz.prog 79 #[.slice A n c] w (.int .u64 (bitsN l 0 : Nat)) from asBits_any))
  obtain ⟨p, hp⟩ : ∃ p, p = cB a := ⟨_, rfl⟩
  obtain ⟨q, hq⟩ : ∃ q, q = bitsN [b] 0 := ⟨_, rfl⟩
  have hh := conf_bits a b
  rw [← hp, ← hq] at hh
  have H := Lib.hid (And.intro hp (And.intro hq hh))
  clear hp hq hh
  go_enter Tryz.func76, Tryz.ntmps76
  go_wp2_with (first
    | (go_at_call 60; refine (HC.out.1 _ _).mono ?_; rw [← H.out.1]; rintro e w1 ⟨rfl, hb⟩; have HB := Lib.hid hb; clear hb)
    | (go_at_call 79; refine (HC.out.2 [b] _ _ _ _ rfl (by simp) (rd_lit _ [b] _ rfl)).mono ?_; rw [← H.out.2.1]; rintro e w2 ⟨rfl, hb⟩; have HB2 := Lib.hid (HB.out.trans (((Below.refl _ w1).alloc (Nat.le_refl _) _ |>.trans (hb.mono (by simp))).mono HB.out.size)); clear hb))
  go_ret
  exact ⟨by rw [← H.out.2.2]; rfl, HB2.out⟩
end Go.Proofs.YthbbheegkhlniaaGreat
