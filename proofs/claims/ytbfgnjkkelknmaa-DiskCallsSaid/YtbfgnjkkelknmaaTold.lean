/-
  told: a call on both disks.
-/
import Derived.Test.YtbfgnjkkelknmaaRefCrash
import Derived.Test.YtbfgnjkkelknmaaSameD
namespace Go.Proofs.Ytbfgnjkkelknmaa
open Go.RowKit Go.Lib

theorem RefAt.same_ext {w : World} {g : Nat} {G : Nat → Prop} {s : DS} (h : RefAt w g G s) : RefAt w g (Ext G w w) s := by
  obtain ⟨L, W, lv, wv, h1, h2, h3, h4, h5, f1, f2, f3, f4, h6⟩ := h
  exact ⟨L, W, lv, wv, h1, h2, h3.mono fun _ hk => .inl hk, h4, h5.mono fun _ hk => .inl hk, .inl f1, fun k hk => .inl (f2 k hk), fun k hk => .inl (f3 k hk), fun k hk => hk.elim (f4 k) fun h => h.2, h6⟩
theorem refWrite_any {w : World} {g : Nat} {G : Nat → Prop} {s : DS} (h : RefAt w g G s) (k : Int) (A : Option Addr) (n c : Nat) (b : List Int) (hr : Rd w w.heap.size A n (cells b)) (few : s.wr.length < 1000000) :
    Calls Try.prog 26 #[.pointer (some ⟨g, 0, none⟩), .int .i64 k, .slice A n c] w (RefRet g G (s.tryWrite k b).2 (.int .i64 (s.tryWrite k b).1) w) := by
  have hn : b.length = n := by have := hr.len; rwa [cells_len] at this
  have hse : RefAt w g (Ext G w w) s := h.same_ext
  unfold DS.tryWrite
  by_cases h1 : 0 ≤ k ∧ k < s.last.length
  · rw [if_pos h1]
    obtain ⟨k', rfl⟩ : ∃ k' : Nat, k = k' := ⟨k.toNat, by omega⟩
    by_cases h2 : b.length = 64
    · rw [if_pos h2]
      obtain rfl : n = 64 := by omega
      exact refWrite_yes h k' (by omega) A c b hr few
    · rw [if_neg h2]
      exact (refWrite_len h k' (by omega) A n c (by omega)).mono fun e w' ⟨h1, h2⟩ => by subst h2; exact ⟨h1, hse, Chg.refl _ _⟩
  · rw [if_neg h1]
    exact (refWrite_no h k h1 A n c).mono fun e w' ⟨h1, h2⟩ => by subst h2; exact ⟨h1, hse, Chg.refl _ _⟩

/-- both disks, apart: the one is s, the document's is t -/
structure Two (w0 w : World) (g gr : Nat) (F G : Nat → Prop) (s t : DS) : Prop where
  d : DiskAt w g F s
  r : RefAt w gr G t
  dis : ∀ k, F k → ¬ G k
  lof : ∀ k, F k → w0.heap.size ≤ k
  lor : ∀ k, G k → w0.heap.size ≤ k
  b : Below w0.heap.size w0 w
section
variable {w0 w w' : World} {g gr : Nat} {F G : Nat → Prop} {s t s' : DS}
theorem Two.below (h : Two w0 w g gr F G s t) (hb : Below w.heap.size w w') : Two w0 w' g gr F G s t :=
  ⟨h.d.below hb, h.r.below hb, h.dis, h.lof, h.lor, h.b.trans (hb.mono h.b.size)⟩
theorem Two.drew (h : Two w0 w g gr F G s t) : Two w0 w.drew g gr F G s t := h.below ⟨rfl, rfl, rfl, Nat.le_refl _, fun _ _ => rfl⟩
theorem Two.stepD (h : Two w0 w g gr F G s t) (hd : DiskAt w' g (Ext F w w') s') (hc : Chg F w w') : Two w0 w' g gr (Ext F w w') G s' t :=
  ⟨hd, h.r.chg hc fun k hg hf => h.dis k hf hg, fun k hk hg => hk.elim (fun hf => h.dis k hf hg) fun hf => (by have := h.r.foot k hg; omega), fun k hk => hk.elim (h.lof k) fun hf => Nat.le_trans h.b.size hf.1, h.lor, h.b.trans (hc.below h.lof h.b.size)⟩
theorem Two.stepR (h : Two w0 w g gr F G s t) (hd : RefAt w' gr (Ext G w w') s') (hc : Chg G w w') : Two w0 w' g gr F (Ext G w w') s s' :=
  ⟨h.d.chg hc h.dis, hd, fun k hf hk => hk.elim (fun hg => h.dis k hf hg) fun hg => (by have := h.d.foot k hf; omega), h.lof, fun k hk => hk.elim (h.lor k) fun hf => Nat.le_trans h.b.size hf.1, h.b.trans (hc.below h.lor h.b.size)⟩
end
/-- what a call makes of a disk -/
def stepA (s : DS) (x : Cl) : DS :=
  if x.what = 1 then (s.tryWrite x.at' x.data).2 else if x.what = 2 then s.flush else if x.what = 3 then s.crash x.at' x.torn else s
def ToldRet (w0 : World) (g gr : Nat) (s : DS) (e : Ending) (w' : World) : Prop := e = .returned (.bool true) ∧ ∃ F G, Two w0 w' g gr F G s s
/-- the argument -/
def carg (x : Cl) : Value := .agg #[.int .i64 x.what, .int .i64 x.at', .int .i64 x.torn, .slice x.A x.n x.c]

/-- the argument's cells -/
def cargs (x : Cl) : Array Value := #[.int .i64 x.what, .int .i64 x.at', .int .i64 x.torn, .slice x.A x.n x.c]
/-- both disks, and block b has the argument -/
structure TwoC (w0 w : World) (g gr : Nat) (F G : Nat → Prop) (s t : DS) (b : Nat) (x : Cl) : Prop where
  two : Two w0 w g gr F G s t
  blk : Blk w b 35 (cargs x)
  nf : ¬ F b
  ng : ¬ G b
section
variable {w0 w w' : World} {g gr : Nat} {F G : Nat → Prop} {s t s' : DS} {b : Nat} {x : Cl}
theorem Two.made (h : Two w0 w g gr F G s t) (x : Cl) : TwoC w0 (w.alloc (.cells (cargs x) 35)) g gr F G s t w.heap.size x :=
  ⟨h.below ((Below.refl _ _).alloc (Nat.le_refl _) _), Blk.new _ _ _, fun hf => absurd (h.d.foot _ hf) (Nat.lt_irrefl _), fun hf => absurd (h.r.foot _ hf) (Nat.lt_irrefl _)⟩
theorem TwoC.below (h : TwoC w0 w g gr F G s t b x) (hb : Below w.heap.size w w') : TwoC w0 w' g gr F G s t b x := ⟨h.two.below hb, h.blk.below hb h.blk.lt, h.nf, h.ng⟩
theorem TwoC.drew (h : TwoC w0 w g gr F G s t b x) : TwoC w0 w.drew g gr F G s t b x := h.below ⟨rfl, rfl, rfl, Nat.le_refl _, fun _ _ => rfl⟩
theorem TwoC.stepD (h : TwoC w0 w g gr F G s t b x) (hd : DiskAt w' g (Ext F w w') s') (hc : Chg F w w') : TwoC w0 w' g gr (Ext F w w') G s' t b x :=
  ⟨h.two.stepD hd hc, h.blk.chg hc h.nf, fun hk => hk.elim h.nf fun hf => (by have := h.blk.lt; omega), h.ng⟩
theorem TwoC.stepR (h : TwoC w0 w g gr F G s t b x) (hd : RefAt w' gr (Ext G w w') s') (hc : Chg G w w') : TwoC w0 w' g gr F (Ext G w w') s s' b x :=
  ⟨h.two.stepR hd hc, h.blk.chg hc h.ng, h.nf, fun hk => hk.elim h.ng fun hf => (by have := h.blk.lt; omega)⟩
theorem TwoC.cells (h : TwoC w0 w g gr F G s t b x) : w.cell? ⟨b, 0, none⟩ = some (.int .i64 x.what) ∧ w.cell? ⟨b, 1, none⟩ = some (.int .i64 x.at') ∧ w.cell? ⟨b, 2, none⟩ = some (.int .i64 x.torn) ∧ w.cell? ⟨b, 3, none⟩ = some (.slice x.A x.n x.c) :=
  ⟨h.blk.cell 0, h.blk.cell 1, h.blk.cell 2, h.blk.cell 3⟩
end

theorem read_at {w : World} {g : Nat} {F : Nat → Prop} {s : DS} (h : DiskAt w g F s) (k : Int) (hk : 0 ≤ k ∧ k < s.last.length) : Calls Try.prog 20 #[.pointer (some ⟨g, 0, none⟩), .int .i64 k] w (ReadRet (s.read k.toNat) w) := by
  obtain ⟨n, rfl⟩ : ∃ n : Nat, k = n := ⟨k.toNat, by omega⟩
  exact read_any h n (by omega)
theorem refRead_at {w : World} {g : Nat} {G : Nat → Prop} {s : DS} (h : RefAt w g G s) (k : Int) (hk : 0 ≤ k ∧ k < s.last.length) : Calls Try.prog 25 #[.pointer (some ⟨g, 0, none⟩), .int .i64 k] w (SecRet (s.read k.toNat) w) := by
  obtain ⟨n, rfl⟩ : ∃ n : Nat, k = n := ⟨k.toNat, by omega⟩
  exact refRead_any h n (by omega)
/-- and a row of one's own, and the call's bytes -/
structure TwoW (w0 w : World) (g gr : Nat) (F G : Nat → Prop) (s t : DS) (b : Nat) (x : Cl) (v : Value) : Prop where
  c : TwoC w0 w g gr F G s t b x
  own : w.ownsRow 0 5 1 v x.data.length (cells x.data)
  far : ∀ q, v.ownBlock = some q → ¬ F q ∧ ¬ G q
  rd : Rd w w0.heap.size x.A x.n (cells x.data)
section
variable {w0 w w' : World} {g gr : Nat} {F G : Nat → Prop} {s t s' : DS} {b : Nat} {x : Cl} {v : Value}
theorem TwoW.drew (h : TwoW w0 w g gr F G s t b x v) : TwoW w0 w.drew g gr F G s t b x v := ⟨h.c.drew, h.own, h.far, h.rd⟩
theorem TwoW.stepD (h : TwoW w0 w g gr F G s t b x v) (hd : DiskAt w' g (Ext F w w') s') (hc : Chg F w w') : TwoW w0 w' g gr (Ext F w w') G s' t b x v :=
  ⟨h.c.stepD hd hc, own_chg h.own hc fun q hq => (h.far q hq).1, fun q hq => ⟨fun hk => hk.elim (h.far q hq).1 fun hf => (by have := (h.own.lt q hq).2; omega), (h.far q hq).2⟩, h.rd.chg hc h.c.two.b.size fun k hk hf => (by have := h.c.two.lof k hf; omega)⟩
theorem TwoW.stepR (h : TwoW w0 w g gr F G s t b x v) (hd : RefAt w' gr (Ext G w w') s') (hc : Chg G w w') : TwoW w0 w' g gr F (Ext G w w') s s' b x v :=
  ⟨h.c.stepR hd hc, own_chg h.own hc fun q hq => (h.far q hq).2, fun q hq => ⟨(h.far q hq).1, fun hk => hk.elim (h.far q hq).2 fun hf => (by have := (h.own.lt q hq).2; omega)⟩, h.rd.chg hc h.c.two.b.size fun k hk hf => (by have := h.c.two.lor k hf; omega)⟩
theorem TwoW.below (h : TwoW w0 w g gr F G s t b x v) (hb : Below w.heap.size w w') : Two w0 w' g gr F G s t := h.c.two.below hb
theorem TwoW.cells (h : TwoW w0 w g gr F G s t b x v) : w.cell? ⟨b, 1, none⟩ = some (.int .i64 x.at') ∧ w.cell? ⟨b, 3, none⟩ = some (.slice x.A x.n x.c) := ⟨h.c.cells.2.1, h.c.cells.2.2.2⟩
end

set_option maxRecDepth 100000 in
set_option maxHeartbeats 3200000 in
theorem told_read {w0 w : World} {g gr : Nat} {F G : Nat → Prop} {s : DS} (h : Two w0 w g gr F G s s) (x : Cl) (hw : x.what = 0) :
    Calls Try.prog 13 #[.pointer (some ⟨g, 0, none⟩), .pointer (some ⟨gr, 0, none⟩), carg x] w (ToldRet w0 g gr (stepA s x)) := by
  have hst : stepA s x = s := by unfold stepA; rw [if_neg (by omega), if_neg (by omega), if_neg (by omega)]
  rw [hst]
  obtain ⟨b, hb⟩ : ∃ b, b = w.heap.size := ⟨_, rfl⟩
  have HT := h.made x
  rw [← hb] at HT
  unfold cargs at HT
  rw [hw] at HT
  replace HT := Lib.hid HT
  have HB := Lib.hid hb
  clear h hb
  unfold carg
  rw [hw]
  by_cases hin : 0 ≤ x.at' ∧ x.at' < s.last.length
  · have hkl : x.at'.toNat < s.last.length := by omega
    have H64 := Lib.hid (HT.out.two.d.ok.read_len hkl)
    go_enter Try.func13, Try.ntmps13
    go_wp2_with fail
    rw [← HB.out]
    refine (read_at HT.out.two.d x.at' hin).mono ?_
    rintro e w1 ⟨g1, rfl, hb1, _, hl1⟩
    have H1 := Lib.hid (And.intro hb1 (HT.out.below hl1))
    obtain ⟨_, c1, _, _⟩ := H1.out.2.cells
    clear hb1 hl1
    go_wp2_with fail
    refine (refRead_at H1.out.2.two.r x.at' hin).mono ?_
    rintro e w2 ⟨v2, rfl, o2, hl2⟩
    obtain ⟨A2, c2, rfl, _, _⟩ := own_shape o2
    have H2 := Lib.hid (And.intro (H1.out.1.below hl2 H1.out.1.lt) (And.intro o2 (H1.out.2.below hl2)))
    clear o2 hl2
    go_wp2_with fail
    refine (sameBytes_below _ _ 64 _ _ (s.read x.at'.toNat) _ _ _ (H2.out.1.rd (by rw [cells_len]; exact H64.out)) (Rd.own H2.out.2.1) (by omega)).mono ?_
    rintro e w3 ⟨rfl, hl3⟩
    have H3 := Lib.hid (H2.out.2.2.below hl3)
    clear hl3
    go_wp2
    go_ret
    exact ⟨rfl, _, _, H3.out.two⟩
  · go_enter Try.func13, Try.ntmps13
    go_wp2_with fail
    rw [← HB.out]
    refine (read_no HT.out.two.d x.at' hin).mono ?_
    rintro e w1 ⟨rfl, rfl⟩
    obtain ⟨_, c1, _, _⟩ := HT.out.cells
    go_wp2_with fail
    refine (refRead_no HT.out.two.r x.at' hin).mono ?_
    rintro e w2 ⟨rfl, rfl⟩
    go_wp2_with fail
    refine (sameBytes_below none none 0 0 0 [] _ 0 0 Rd.empty Rd.empty (by omega)).mono ?_
    rintro e w3 ⟨rfl, hl3⟩
    have H3 := Lib.hid (HT.out.below hl3)
    clear hl3
    go_wp2
    go_ret
    exact ⟨rfl, _, _, H3.out.two⟩

set_option maxRecDepth 100000 in
set_option maxHeartbeats 3200000 in
theorem told_flush {w0 w : World} {g gr : Nat} {F G : Nat → Prop} {s : DS} (h : Two w0 w g gr F G s s) (x : Cl) (hw : x.what = 2) :
    Calls Try.prog 13 #[.pointer (some ⟨g, 0, none⟩), .pointer (some ⟨gr, 0, none⟩), carg x] w (ToldRet w0 g gr (stepA s x)) := by
  have hst : stepA s x = s.flush := by unfold stepA; rw [if_neg (by omega), if_pos hw]
  rw [hst]
  have HT := h.made x
  unfold cargs at HT
  rw [hw] at HT
  replace HT := Lib.hid HT
  clear h
  unfold carg
  rw [hw]
  go_enter Try.func13, Try.ntmps13
  go_wp2_with fail
  refine (flush_any HT.out.two.d).mono ?_
  rintro e w1 ⟨rfl, hd, hc⟩
  have H1 := Lib.hid (HT.out.two.stepD hd hc)
  clear hd hc
  go_wp2_with fail
  refine (refFlush_any H1.out.r).mono ?_
  rintro e w2 ⟨rfl, hd, hc⟩
  have H2 := Lib.hid (H1.out.stepR hd hc)
  clear hd hc
  go_wp2
  go_ret
  exact ⟨rfl, _, _, H2.out⟩

set_option maxRecDepth 100000 in
set_option maxHeartbeats 3200000 in
theorem told_crash {w0 w : World} {g gr : Nat} {F G : Nat → Prop} {s : DS} (h : Two w0 w g gr F G s s) (x : Cl) (hw : x.what = 3) :
    Calls Try.prog 13 #[.pointer (some ⟨g, 0, none⟩), .pointer (some ⟨gr, 0, none⟩), carg x] w (ToldRet w0 g gr (stepA s x)) := by
  have hst : stepA s x = s.crash x.at' x.torn := by unfold stepA; rw [if_neg (by omega), if_neg (by omega), if_pos hw]
  rw [hst]
  obtain ⟨b, hb⟩ : ∃ b, b = w.heap.size := ⟨_, rfl⟩
  have HT := h.made x
  rw [← hb] at HT
  unfold cargs at HT
  rw [hw] at HT
  replace HT := Lib.hid HT
  have HB := Lib.hid hb
  clear h hb
  unfold carg
  rw [hw]
  go_enter Try.func13, Try.ntmps13
  go_wp2_with fail
  rw [← HB.out]
  refine (crash_any HT.out.two.d _ _).mono ?_
  rintro e w1 ⟨rfl, hd, hc⟩
  have H1 := Lib.hid (HT.out.stepD hd hc)
  obtain ⟨_, c1, c2, _⟩ := H1.out.cells
  clear hd hc
  go_wp2_with fail
  refine (refCrash_any H1.out.two.r _ _).mono ?_
  rintro e w2 ⟨rfl, hd, hc⟩
  have H2 := Lib.hid (H1.out.two.stepR hd hc)
  clear hd hc
  go_wp2
  go_ret
  exact ⟨rfl, _, _, H2.out⟩

set_option maxRecDepth 100000 in
set_option maxHeartbeats 3200000 in
theorem told_other {w0 w : World} {g gr : Nat} {F G : Nat → Prop} {s : DS} (h : Two w0 w g gr F G s s) (x : Cl) (h0 : ¬ x.what = 0) (h1 : ¬ x.what = 1) (h2 : ¬ x.what = 2) (h3 : ¬ x.what = 3) :
    Calls Try.prog 13 #[.pointer (some ⟨g, 0, none⟩), .pointer (some ⟨gr, 0, none⟩), carg x] w (ToldRet w0 g gr (stepA s x)) := by
  have hst : stepA s x = s := by unfold stepA; rw [if_neg h1, if_neg h2, if_neg h3]
  rw [hst]
  have HT := Lib.hid (h.made x)
  clear h
  unfold carg
  go_enter Try.func13, Try.ntmps13
  go_wp2
  go_ret
  exact ⟨rfl, _, _, HT.out.two⟩

theorem write_q {w : World} {g : Nat} {F : Nat → Prop} {s s' : DS} {q : Int} {k : Int} {b : List Int} (hq : s.tryWrite k b = (q, s')) (h : DiskAt w g F s) (A : Option Addr) (n c : Nat) (hr : Rd w w.heap.size A n (cells b)) (few : s.wr.length < 1000000) :
    Calls Try.prog 19 #[.pointer (some ⟨g, 0, none⟩), .int .i64 k, .slice A n c] w fun e w' => e = .returned (.int .i64 q) ∧ DiskAt w' g (Ext F w w') s' ∧ Chg F w w' :=
  (write_any h k A n c b hr few).mono fun e w' h => by unfold TryRet at h; rw [hq] at h; exact h
theorem refWrite_q {w : World} {g : Nat} {G : Nat → Prop} {s s' : DS} {q : Int} {k : Int} {b : List Int} (hq : s.tryWrite k b = (q, s')) (h : RefAt w g G s) (A : Option Addr) (n c : Nat) (hr : Rd w w.heap.size A n (cells b)) (few : s.wr.length < 1000000) :
    Calls Try.prog 26 #[.pointer (some ⟨g, 0, none⟩), .int .i64 k, .slice A n c] w fun e w' => e = .returned (.int .i64 q) ∧ RefAt w' g (Ext G w w') s' ∧ Chg G w w' :=
  (refWrite_any h k A n c b hr few).mono fun e w' h => by unfold RefRet at h; rw [hq] at h; exact h
theorem TwoW.rdo {w0 w : World} {g gr : Nat} {F G : Nat → Prop} {s t : DS} {b : Nat} {x : Cl} {A : Option Addr} {c n : Nat} (h : TwoW w0 w g gr F G s t b x (.slice A n c)) (hn : x.data.length = n) : Rd w w.heap.size A n (Ytbfgnjkkelknmaa.cells x.data) := by
  have := h.own
  rw [hn] at this
  exact Rd.own this

set_option maxRecDepth 100000 in
set_option maxHeartbeats 6400000 in
theorem told_write {w0 w : World} {g gr : Nat} {F G : Nat → Prop} {s : DS} (h : Two w0 w g gr F G s s) (x : Cl) (hw : x.what = 1) (hr : Rd w w0.heap.size x.A x.n (cells x.data)) (hn : x.n ≤ 140000000000000) (few : s.wr.length < 1000000) :
    Calls Try.prog 13 #[.pointer (some ⟨g, 0, none⟩), .pointer (some ⟨gr, 0, none⟩), carg x] w (ToldRet w0 g gr (stepA s x)) := by
  obtain ⟨q, s', hq⟩ : ∃ q s', s.tryWrite x.at' x.data = (q, s') := ⟨_, _, rfl⟩
  have hst : stepA s x = s' := by unfold stepA; rw [if_pos hw, hq]
  rw [hst]
  have HQ := Lib.hid hq
  obtain ⟨b, hb⟩ : ∃ b, b = w.heap.size := ⟨_, rfl⟩
  have hlen : x.data.length = x.n := by have := hr.len; rwa [cells_len] at this
  have HL := Lib.hid hlen
  have HT := h.made x
  have hra : Rd (w.alloc (.cells (cargs x) 35)) w0.heap.size x.A x.n (cells x.data) := hr.below ((Below.refl _ _).alloc (Nat.le_refl _) _) h.b.size
  rw [← hb] at HT
  unfold cargs at HT hra
  rw [hw] at HT hra
  replace HT := Lib.hid (And.intro HT (And.intro hra few))
  have HB := Lib.hid hb
  clear h hb hr hra few hq
  unfold carg
  rw [hw]
  go_enter Try.func13, Try.ntmps13
  go_wp2_with fail
  rw [← HB.out]
  refine (copyBytes_any x.A x.n x.c x.data _ (HT.out.2.1.more HT.out.1.two.b.size) hn).mono ?_
  rintro e w1 ho
  obtain ⟨A1, k1, rfl, o1, hl1⟩ := ho.shaped
  have H1 := Lib.hid (show TwoW w0 w1 g gr F G s s b x (.slice A1 x.data.length k1) from ⟨HT.out.1.below hl1, own_base o1 (Nat.zero_le _), fun q hq => ⟨fun hf => (by have := HT.out.1.two.d.foot q hf; have := (o1.lt q hq).1; omega), fun hf => (by have := HT.out.1.two.r.foot q hf; have := (o1.lt q hq).1; omega)⟩, HT.out.2.1.below hl1 HT.out.1.two.b.size⟩)
  rw [hlen] at H1 ⊢
  obtain ⟨c1, c3⟩ := H1.out.cells
  clear ho o1 hl1 hlen
  go_wp2_with fail
  go_region_held3 (fun w' => w'.cell? ⟨b, 1, none⟩ = some (.int .i64 x.at') ∧ w'.cell? ⟨b, 3, none⟩ = some (.slice x.A x.n x.c))
    (first
      | exact ⟨(H3.out.c.below hl4).cells.2.1, (H3.out.c.below hl4).cells.2.2.2⟩
      | exact H3.out.cells
      | exact H2.out.cells
      | exact ⟨c1, c3⟩
      | (go_split_ands; exact ⟨‹_›, ‹_›⟩))
    (first
      | (go_at_call 19; refine (write_q HQ.out H1.out.drew.c.two.d A1 x.n k1 (H1.out.drew.rdo HL.out) HT.out.2.2).mono ?_; rintro e w2 ⟨rfl, hd2, hc2⟩; have H2 := Lib.hid (H1.out.drew.stepD hd2 hc2); clear hd2 hc2)
      | (go_at_call 26; refine (refWrite_q HQ.out H2.out.c.two.r x.A x.n x.c (H2.out.rd.more H2.out.c.two.b.size) HT.out.2.2).mono ?_; rintro e w3 ⟨rfl, hd3, hc3⟩; have H3 := Lib.hid (H2.out.stepR hd3 hc3); clear hd3 hc3)
      | (go_at_call 18; refine (sameBytes_below A1 x.A x.n k1 x.c x.data _ _ _ (H3.out.rdo HL.out) H3.out.rd hn).mono ?_; rintro e w4 ⟨rfl, hl4⟩))
  have H4 := Lib.hid (H3.out.below hl4)
  clear hl4
  go_wp2
  go_ret
  exact ⟨rfl, _, _, H4.out⟩

theorem told_any {w0 w : World} {g gr : Nat} {F G : Nat → Prop} {s : DS} (h : Two w0 w g gr F G s s) (x : Cl) (hr : Rd w w0.heap.size x.A x.n (cells x.data)) (hn : x.n ≤ 140000000000000) (few : s.wr.length < 1000000) :
    Calls Try.prog 13 #[.pointer (some ⟨g, 0, none⟩), .pointer (some ⟨gr, 0, none⟩), carg x] w (ToldRet w0 g gr (stepA s x)) := by
  by_cases h0 : x.what = 0
  · exact told_read h x h0
  · by_cases h1 : x.what = 1
    · exact told_write h x h1 hr hn few
    · by_cases h2 : x.what = 2
      · exact told_flush h x h2
      · by_cases h3 : x.what = 3
        · exact told_crash h x h3
        · exact told_other h x h0 h1 h2 h3

end Go.Proofs.Ytbfgnjkkelknmaa
