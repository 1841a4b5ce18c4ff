/-
  The document's own tree in memory: a list of entries; place, Has.
-/
import Derived.Test.YtiaclfldgagalaaM00
import Derived.Laws.OwnMore
namespace Go.Proofs.Ytiaclfldgagalaa
open Go.RowKit Go.Lib

/-- a world in which all that lay in w is as it was -/
structure BelowBy (w : World) where
  w' : World
  h : Below w.heap.size w w'
instance (w : World) : Inhabited (BelowBy w) := ⟨⟨w, Below.refl _ _⟩⟩
theorem wp_region_below {P : Program} {id : Nat} {Q : Exit → Act → World → Prop} {a : Act} {w : World} {l : List Oper} (hm : P.follows .mixedOrders = true) (hB : Region.lexB .any l.toArray = true)
    (h : wpQuiet P l.toArray (fun w' => ∃ p : BelowBy w, w' = p.w') (fun a' => ∀ w', (∃ p : BelowBy w, w' = p.w') → Q .normal a' w') l a) : (Code.region id l.toArray true).wp P Q a w :=
  wp_region_quiet (C := fun w' => ∃ p : BelowBy w, w' = p.w') hm hB ⟨⟨w.drew, (Below.refl _ _).drew⟩, rfl⟩ (by simpa using h)
theorem calls_below {P : Program} {f : FuncId} {args : Array Value} {w : World} {p : BelowBy w} {v : Value} (h : Calls P f args p.w' fun e w' => e = .returned v ∧ Below p.w'.heap.size p.w' w') :
    Calls P f args p.w' fun e w'' => e = .returned v ∧ ∃ q : BelowBy w, w'' = q.w' :=
  h.mono fun _ w' ⟨he, hb⟩ => ⟨he, ⟨w', p.h.trans (hb.mono p.h.size)⟩, rfl⟩
theorem BelowBy.cell {w : World} {a : Addr} {v : Value} (h : w.cell? a = some v) (p : BelowBy w) : p.w'.cell? a = some v := (p.h.cell (World.block_lt_of_cell? _ _ h)).trans h

/-! ### plain mathematics of a list of entries -/
def plN (e : En) : List En → Nat
  | [] => 0
  | a :: r => if ordE a e < 0 then plN e r + 1 else 0
def plB (l : List En) (e : En) : Bool := match l[plN e l]? with
  | some a => decide (ordE a e = 0)
  | none => false
theorem plN_le (e : En) (l : List En) : plN e l ≤ l.length := by
  induction l with
  | nil => exact Nat.le_refl _
  | cons a r ih => rw [plN]; split <;> simp <;> omega
theorem plN_is {e : En} {l : List En} {j : Nat} (hj : j ≤ l.length) (hlo : ∀ q (h : q < l.length), q < j → ordE l[q] e < 0) (hhi : ∀ h : j < l.length, ¬ ordE l[j] e < 0) : plN e l = j := by
  induction l generalizing j with
  | nil => simp at hj; rw [hj]; rfl
  | cons a r ih =>
    rw [plN]
    match j with
    | 0 =>
      have := hhi (by simp)
      simp only [List.getElem_cons_zero] at this
      rw [if_neg this]
    | j + 1 =>
      have h0 := hlo 0 (by simp) (by omega)
      simp only [List.getElem_cons_zero] at h0
      rw [if_pos h0, ih (j := j) (by simp at hj; omega) (fun q hq hqj => by
        have h1 := hlo (q + 1) (by simp; omega) (by omega)
        simpa using h1) (fun h => by
        have h1 := hhi (by simp; omega)
        simpa using h1)]
def insL (l : List En) (e : En) : List En := if plB l e then l else l.take (plN e l) ++ [e] ++ l.drop (plN e l)
def delL (l : List En) (e : En) : List En := if plB l e then l.take (plN e l) ++ l.drop (plN e l + 1) else l

/-! ### the tree in memory -/
/-- a list of entries of one's own, and the struct that holds it -/
structure RtX (B : Nat) (D : Nat → Prop) (w : World) (tb : Nat) (A : Option Addr) (n c : Nat) (l : List En) : Prop where
  blk : Blk w tb 30 #[.slice A n c]
  own : w.ownsRow B 35 3 (.slice A n c) n (ecs l)
  len : n = l.length
  domt : D tb
  domv : ∀ k, (Value.slice A n c).ownBlock = some k → D k
  foot : ∀ k, D k → B ≤ k ∧ k < w.heap.size
def RtV (B : Nat) (D : Nat → Prop) (w : World) (tb : Nat) (l : List En) : Prop := ∃ A n c, RtX B D w tb A n c l
section
variable {B tb : Nat} {D F D' : Nat → Prop} {w w' : World} {A : Option Addr} {n c : Nat} {l : List En}
theorem RtX.chg (h : RtX B D w tb A n c l) (hc : Chg F w w') (hd : ∀ k, D k → ¬ F k) : RtX B D w' tb A n c l :=
  ⟨h.blk.chg hc (hd _ h.domt), own_chg h.own hc fun k hk => hd k (h.domv k hk), h.len, h.domt, h.domv, fun k hk => ⟨(h.foot k hk).1, Nat.lt_of_lt_of_le (h.foot k hk).2 hc.size⟩⟩
theorem RtX.below (h : RtX B D w tb A n c l) (hb : Below w.heap.size w w') : RtX B D w' tb A n c l := h.chg (F := Non) (Chg.of_below hb) fun _ _ hf => hf
theorem RtV.below (h : RtV B D w tb l) (hb : Below w.heap.size w w') : RtV B D w' tb l := by
  obtain ⟨A, n, c, h⟩ := h
  exact ⟨A, n, c, h.below hb⟩
theorem RtV.chg (h : RtV B D w tb l) (hc : Chg F w w') (hd : ∀ k, D k → ¬ F k) : RtV B D w' tb l := by
  obtain ⟨A, n, c, h⟩ := h
  exact ⟨A, n, c, h.chg hc hd⟩
theorem RtV.foot (h : RtV B D w tb l) {k : Nat} (hk : D k) : B ≤ k ∧ k < w.heap.size := by
  obtain ⟨A, n, c, h⟩ := h
  exact h.foot k hk
theorem RtX.cell (h : RtX B D w tb A n c l) : w.cell? ⟨tb, 0, none⟩ = some (.slice A n c) := by
  have h1 := h.blk.cell 0
  simpa using h1
/-- an entry, where it is read -/
theorem RtX.at_ (h : RtX B D w tb A n c l) {j : Nat} (hj : j < l.length) : ∃ g, A = some ⟨g, 0, none⟩ ∧ w.cell? ⟨g, j * 3, none⟩ = some (.string l[j].s) ∧ w.cell? ⟨g, j * 3 + 1, none⟩ = some (.int .i64 l[j].p) ∧ w.cell? ⟨g, j * 3 + 2, none⟩ = some (.int .i64 l[j].k) := by
  have hn := h.len
  obtain ⟨g, cap, hv, _, _⟩ := h.own.form (by omega)
  injection hv with e1 _ _
  subst e1
  obtain ⟨a1, a2, a3⟩ := ecs_at hj
  exact ⟨g, rfl, by rw [h.own.cellAt _ (by omega)]; exact a1, by rw [h.own.cellAt _ (by omega)]; exact a2, by rw [h.own.cellAt _ (by omega)]; exact a3⟩
end
/-- the bounds that the laws keep -/
structure Small (l : List En) : Prop where
  few : l.length ≤ 1000000
  key : ∀ e ∈ l, e.s.size ≤ 30000000000000
def PlRel (l : List En) (e : En) (w1 : World) (i : Value) (wr : World) : Prop :=
  ∃ j : Nat, j ≤ l.length ∧ i = .int .i64 j ∧ Below w1.heap.size w1 wr ∧ ∀ q (h : q < l.length), q < j → ordE l[q] e < 0
set_option maxRecDepth 100000 in
set_option maxHeartbeats 6400000 in
theorem rplace_any {B tb : Nat} {D : Nat → Prop} {w : World} {l : List En} (h : RtV B D w tb l) (hs : Small l) (e : En) (he : e.s.size ≤ 30000000000000) :
    Calls Try.prog 45 #[.pointer (some ⟨tb, 0, none⟩), e.val] w fun r w' => r = .returned (.tuple #[.int .i64 (plN e l), .bool (plB l e)]) ∧ Below w.heap.size w w' := by
  have hmx : Try.prog.follows .mixedOrders = true := by kernel_rfl
  obtain ⟨A, n, c, hX⟩ := h
  obtain ⟨w1, hw1⟩ : ∃ w1, w1 = w.alloc (.cells #[.string e.s, .int .i64 e.p, .int .i64 e.k] 35) := ⟨_, rfl⟩
  have hb1 : Below w.heap.size w w1 := by rw [hw1]; exact (Below.refl _ w).alloc (Nat.le_refl _) _
  have s1 : w1.heap.size = w.heap.size + 1 := by rw [hw1]; simp
  have k1 : Blk w1 w.heap.size 35 #[.string e.s, .int .i64 e.p, .int .i64 e.k] := by rw [hw1]; exact Blk.new _ _ _
  have hX1 := hX.below hb1
  have hn := hX.len
  have hfew : n ≤ 1000000 := by rw [hn]; exact hs.few
  have H := Lib.hid (And.intro hX1 (And.intro k1 (And.intro hb1 (And.intro hs (And.intro he hn)))))
  have HW1 := Lib.hid hw1
  clear hX hb1 k1 hX1 hw1 hs he hn
  unfold En.val
  go_enter Try.func45, Try.ntmps45
  go_wp2_with fail
  rw [← HW1.out]
  go_loopw [6, 7] (fun i _ wr => PlRel l e w1 i wr) (fun i _ _ => n - (intOf i).toNat)
  case atStart => exact ⟨0, Nat.zero_le _, rfl, Below.refl _ _, fun q _ h => by omega⟩
  case round =>
    obtain ⟨j, hj, rfl, hb, hlo⟩ := hrel
    have hj0 : (0 : Int) ≤ (j : Int) := Int.natCast_nonneg _
    have hXr := H.out.1.below hb
    have hkr := H.out.2.1.below hb (by omega)
    have hc := hXr.cell
    have HB := Lib.hid (And.intro hb (And.intro hlo (H.out.2.2.1.trans (hb.mono H.out.2.2.1.size))))
    have HN := Lib.hid (show l.length = n from H.out.2.2.2.2.2.symm)
    by_cases hlt : j < n
    · have hlt1 : (j : Int) < (n : Int) := by omega
      have hjl : j < l.length := by rw [HN.out]; exact hlt
      obtain ⟨g, rfl, c0, c1, c2⟩ := hXr.at_ hjl
      have k0 := hkr.cell 0
      have k1 := hkr.cell 1
      have k2 := hkr.cell 2
      simp only [List.getElem?_toArray, List.getElem?_cons_zero, List.getElem?_cons_succ] at k0 k1 k2
      obtain ⟨x, hx⟩ : ∃ x, x = l[j] := ⟨_, rfl⟩
      have hxs := H.out.2.2.2.1.key x (by rw [hx]; exact List.getElem_mem hjl)
      rw [← hx] at c0 c1 c2
      have HX := Lib.hid (And.intro hx hxs)
      have b0 := BelowBy.cell c0
      have b1 := BelowBy.cell c1
      have b2 := BelowBy.cell c2
      have d0 := BelowBy.cell k0
      have d1 := BelowBy.cell k1
      have d2 := BelowBy.cell k2
      have bc := BelowBy.cell hc
      have HOR := Lib.hid (fun (w : World) => refOrderE_any x e w hxs H.out.2.2.2.2.1)
      unfold En.val at HOR
      clear hb hlo hXr hkr c0 c1 c2 k0 k1 k2 hx hxs
      go_wp2_with fail
      refine wp_region_below hmx (by kernel_rfl) ?_
      repeat (quiet_step (first | (go_at_call 23; exact calls_below (HOR.out _))))
      refine wpQuiet_nil ?_
      intro _ hw'
      obtain ⟨pq, hw''⟩ := hw'
      subst hw''
      have HB3 := Lib.hid (And.intro (HB.out.1.trans (pq.h.mono HB.out.1.size)) (HB.out.2.2.trans (pq.h.mono HB.out.2.2.size)))
      obtain ⟨w5, hw5⟩ : ∃ w5, w5 = pq.w' := ⟨_, rfl⟩
      rw [← hw5] at HB3 ⊢
      clear hw5 b0 b1 b2 d0 d1 d2 bc
      obtain ⟨o, ho⟩ : ∃ o, o = ordE x e := ⟨_, rfl⟩
      rw [← ho]
      have HO := Lib.hid ho
      clear ho
      by_cases g0 : 0 ≤ o
      · have hpl := plN_is (e := e) (l := l) (j := j) (by omega) HB.out.2.1 (fun h => by rw [← HX.out.1, ← HO.out]; omega)
        have hpb : plB l e = decide (o = 0) := by
          unfold plB
          rw [hpl, List.getElem?_eq_getElem hjl, HO.out, HX.out.1]
        have HP := Lib.hid (And.intro hpl hpb)
        clear hpl hpb
        by_cases z : o = 0
        · have hz : (o == 0) = true := by simp [z]
          go_wp2_with fail
          go_ret2
          exact ⟨by rw [HP.out.1, HP.out.2, decide_eq_true z]; rfl, HB3.out.2⟩
        · have hz : (o == 0) = false := by simp [z]
          go_wp2_with fail
          go_ret2
          exact ⟨by rw [HP.out.1, HP.out.2, decide_eq_false z]; rfl, HB3.out.2⟩
      · have HF := Lib.hid (show PlRel l e w1 (.int .i64 ((j : Int) + 1)) w5 from ⟨j + 1, by omega, by go_num, HB3.out.1, fun q hq hqj => by
          rcases Nat.lt_or_ge q j with h1 | h1
          · exact HB.out.2.1 q hq h1
          · obtain rfl : q = j := by omega
            rw [← HX.out.1, ← HO.out]; omega⟩)
        go_wp2_with fail
        go_roundw
        case rel => exact HF.out
        case measure => simp [intOf]; omega
    · have hlt1 : ¬ ((j : Int) < (n : Int)) := by omega
      have hpl := plN_is (e := e) (l := l) (j := n) (by rw [HN.out]; exact Nat.le_refl _) (fun q hq hqj => HB.out.2.1 q hq (by omega)) (fun h => by rw [HN.out] at h; omega)
      have hpb : plB l e = false := by
        unfold plB
        rw [hpl, List.getElem?_eq_none (by rw [HN.out]; exact Nat.le_refl _)]
      have HP := Lib.hid (And.intro hpl hpb)
      clear hb hlo hXr hkr hpl hpb
      go_wp2_with fail
      go_ret2
      exact ⟨by rw [HP.out.1, HP.out.2]; rfl, HB.out.2.2⟩

set_option maxRecDepth 100000 in
set_option maxHeartbeats 3200000 in
theorem rhas_any {B tb : Nat} {D : Nat → Prop} {w : World} {l : List En} (h : RtV B D w tb l) (hs : Small l) (e : En) (he : e.s.size ≤ 30000000000000) :
    Calls Try.prog 28 #[.pointer (some ⟨tb, 0, none⟩), e.val] w fun r w' => r = .returned (.bool (plB l e)) ∧ Below w.heap.size w w' := by
  obtain ⟨w1, hw1⟩ : ∃ w1, w1 = w.alloc (.cells #[.string e.s, .int .i64 e.p, .int .i64 e.k] 35) := ⟨_, rfl⟩
  have hb1 : Below w.heap.size w w1 := by rw [hw1]; exact (Below.refl _ w).alloc (Nat.le_refl _) _
  have HP := Lib.hid (rplace_any (h.below hb1) hs e he)
  have HB1 := Lib.hid hb1
  have HW1 := Lib.hid hw1
  clear h hb1 hw1
  unfold En.val at HP ⊢
  go_enter Try.func28, Try.ntmps28
  go_wp2_with fail
  rw [← HW1.out]
  refine HP.out.mono ?_
  rintro r w2 ⟨rfl, hb2⟩
  have HB2 := Lib.hid (HB1.out.trans (hb2.mono HB1.out.size))
  clear hb2
  go_wp2_with fail
  go_ret
  exact ⟨rfl, HB2.out⟩
end Go.Proofs.Ytiaclfldgagalaa

/-
  The document's own tree: Find, Range, Twice; Same.
-/
namespace Go.Proofs.Ytiaclfldgagalaa
open Go.RowKit Go.Lib

theorem info_parts {P : Program} {t : TypeId} {z : Value} {n b : Nat} (h : (P.info? t).map (fun i => (i.zero, i.size, i.bytes)) = some (some z, n, b)) : ∃ i, P.info? t = some i ∧ i.zero = some z ∧ i.size = n ∧ i.bytes = b := by
  cases hi : P.info? t with
  | none => rw [hi] at h; cases h
  | some i =>
    rw [hi] at h
    simp only [Option.map_some, Option.some.injEq, Prod.mk.injEq] at h
    exact ⟨i, rfl, h.1, h.2.1, h.2.2⟩
theorem Try.inforid : (Try.prog.info? 33).map (fun i => (i.zero, i.size, i.bytes)) = some (some (.agg #[.int .i64 0, .int .i64 0]), 2, 16) := by kernel_rfl
theorem Try.infoent : (Try.prog.info? 35).map (fun i => (i.zero, i.size, i.bytes)) = some (some (.agg #[.string ⟨#[]⟩, .int .i64 0, .int .i64 0]), 3, 32) := by kernel_rfl
theorem own_shapeN {w : World} {base s : Nat} {e : TypeId} {v : Value} {n : Nat} {xs : List Value} (h : w.ownsRow base e s v n xs) : ∃ A c, v = .slice A n c ∧ n ≤ c ∧ c ≤ maxLen := by
  rcases h.2 with ⟨rfl, rfl⟩ | ⟨g, cap, cur, rfl, _, _, hnc, hcm, _⟩
  · exact ⟨none, 0, rfl, Nat.le_refl _, by unfold maxLen; omega⟩
  · exact ⟨_, cap, rfl, hnc, hcm⟩
theorem own_baseN {w : World} {base base' : Nat} {e : TypeId} {s : Nat} {v : Value} {n : Nat} {xs : List Value} (h : w.ownsRow base e s v n xs) (hb : base' ≤ base) : w.ownsRow base' e s v n xs := by
  refine ⟨h.1, ?_⟩
  rcases h.2 with hn | ⟨g, cap, cur, rfl, hbg, hg, rest⟩
  · exact .inl hn
  · exact .inr ⟨g, cap, cur, rfl, Nat.le_trans hb hbg, hg, rest⟩
theorem str_beq (s t : ByteArray) : (s.toList == t.toList) = decide (s = t) := by
  rw [ByteArray.toList_eq, ByteArray.toList_eq]
  by_cases h : s = t
  · subst h; simp
  · rw [decide_eq_false h, Bool.eq_false_iff]
    intro hb
    apply h
    have h1 : s.data.toList = t.data.toList := by simpa using hb
    obtain ⟨⟨x⟩⟩ := s
    obtain ⟨⟨y⟩⟩ := t
    exact congrArg (fun l => (⟨⟨l⟩⟩ : ByteArray)) h1
theorem str_bne (s t : ByteArray) : (s.toList != t.toList) = !decide (s = t) := by rw [bne, str_beq]
def En.rid (a : En) : List Value := [.int .i64 a.p, .int .i64 a.k]
/-- the places' cells -/
def rcs (l : List En) : List Value := l.flatMap En.rid
theorem rcs_len (l : List En) : (rcs l).length = l.length * 2 := by
  induction l with
  | nil => rfl
  | cons a l ih => simp only [rcs, List.flatMap_cons, List.length_append, List.length_cons] at ih ⊢; rw [ih]; simp [En.rid]; omega
def fndL (s : ByteArray) (l : List En) : List En := l.filter fun a => decide (a.s = s)
theorem fnd_yes {s : ByteArray} {l : List En} {i : Nat} (h : i < l.length) (hb : l[i].s = s) : fndL s (l.take (i + 1)) = fndL s (l.take i) ++ [l[i]] := by
  rw [fndL, List.take_add_one, List.getElem?_eq_getElem h, List.filter_append, fndL]
  simp [hb]
theorem fnd_no {s : ByteArray} {l : List En} {i : Nat} (h : i < l.length) (hb : ¬ l[i].s = s) : fndL s (l.take (i + 1)) = fndL s (l.take i) := by
  rw [fndL, List.take_add_one, List.getElem?_eq_getElem h, List.filter_append, fndL]
  simp [hb]
/-- entries between two keys -/
def inR (f t : ByteArray) (a : En) : Bool := decide (0 ≤ cmpS a.s f) && decide (cmpS a.s t < 0)
def rngL (f t : ByteArray) (most : Int) (l : List En) : List En := (l.filter (inR f t)).take most.toNat
def frm (f t : ByteArray) (l : List En) (i : Nat) : List En := (l.take i).filter (inR f t)
theorem frm_yes {f t : ByteArray} {l : List En} {i : Nat} (h : i < l.length) (hb : inR f t l[i] = true) : frm f t l (i + 1) = frm f t l i ++ [l[i]] := by
  rw [frm, List.take_add_one, List.getElem?_eq_getElem h, List.filter_append, frm]
  simp [hb]
theorem frm_no {f t : ByteArray} {l : List En} {i : Nat} (h : i < l.length) (hb : inR f t l[i] = false) : frm f t l (i + 1) = frm f t l i := by
  rw [frm, List.take_add_one, List.getElem?_eq_getElem h, List.filter_append, frm]
  simp [hb]
theorem frm_end {f t : ByteArray} {most : Int} {l : List En} {i : Nat} (hl : (frm f t l i).length ≤ most.toNat) (h : l.length ≤ i ∨ most ≤ ((frm f t l i).length : Int)) : rngL f t most l = frm f t l i := by
  have hs : l.filter (inR f t) = frm f t l i ++ (l.drop i).filter (inR f t) := by
    rw [frm, ← List.filter_append, List.take_append_drop]
  unfold rngL
  rcases h with h | h
  · have e : frm f t l i = l.filter (inR f t) := by rw [frm, List.take_of_length_le h]
    rw [e] at hl ⊢
    exact List.take_of_length_le hl
  · rw [hs, show most.toNat = (frm f t l i).length by omega, List.take_left']
    rfl
/-- a row being built -/
def OutE (e : TypeId) (s : Nat) (f : List En → List Value) (base : Nat) (w0 : World) (l : List En) (o : Value) (wr : World) : Prop :=
  ∃ A c n, o = .slice A n c ∧ n = l.length ∧ wr.ownsRow base e s (.slice A n c) n (f l) ∧ Below base w0 wr ∧ base ≤ wr.heap.size
theorem OutE.nil (e : TypeId) (s : Nat) (f : List En → List Value) (hf : f [] = []) (w : World) : OutE e s f w.heap.size w [] (.slice (some ⟨w.heap.size, 0, none⟩) 0 0) (w.alloc (.cells #[] e)) := by
  have h9 := World.ownsRow_lit (base := w.heap.size) (size := s) (e := e) w #[] 0 (by simp) (by simp [maxLen]) (by simp)
  exact ⟨_, 0, 0, rfl, rfl, by rw [hf]; simpa using h9, (Below.refl _ w).alloc (Nat.le_refl _) _, by simp⟩
/-- a row that has grown by one -/
theorem OutE.more {e : TypeId} {s : Nat} {f : List En → List Value} {base n : Nat} {w0 wr w4 w5 : World} {l : List En} {x : En} {A : Option Addr} {c : Nat} {v5 : Value} (hn : n = l.length) (hown : wr.ownsRow base e s (.slice A n c) n (f l)) (hb : Below base w0 wr) (hs : base ≤ wr.heap.size)
    (hb4 : Below wr.heap.size wr w4) (hown5 : w5.ownsRow base e s v5 (n + 1) (f (l ++ [x]))) (hgr : w4.grownBy w5 (Value.slice A n c).ownBlock) : OutE e s f base w0 (l ++ [x]) v5 w5 := by
  obtain ⟨A5, c5, rfl, _, _⟩ := own_shapeN hown5
  have hc35 : Chg (fun q => (Value.slice A n c).ownBlock = some q) wr w5 := (Chg.of_below hb4).grown hgr (fun q hq _ => hq)
  have s5 := hc35.size
  exact ⟨A5, c5, n + 1, rfl, by rw [List.length_append, ← hn]; rfl, hown5, hb.trans (hc35.below (fun q hq => (hown.lt q hq).1) hs), by omega⟩
theorem rcs_more (l : List En) (x : En) : rcs l ++ [.int .i64 x.p, .int .i64 x.k] = rcs (l ++ [x]) := by simp [rcs, En.rid]
theorem ecs_more (l : List En) (x : En) : ecs l ++ [.string x.s, .int .i64 x.p, .int .i64 x.k] = ecs (l ++ [x]) := by simp [ecs, En.vs]
set_option maxRecDepth 100000 in
set_option maxHeartbeats 6400000 in
theorem rfind_any {B tb : Nat} {D : Nat → Prop} {w : World} {l : List En} (h : RtV B D w tb l) (hs : Small l) (s : ByteArray) :
    Calls Try.prog 30 #[.pointer (some ⟨tb, 0, none⟩), .string s] w fun r w' => ∃ A c n, r = .returned (.slice A n c) ∧ n = (fndL s l).length ∧ w'.ownsRow w.heap.size 33 2 (.slice A n c) n (rcs (fndL s l)) ∧ Below w.heap.size w w' := by
  obtain ⟨i0, hi, hz0, hz1, hz2⟩ := info_parts Try.inforid
  obtain ⟨A, n, c, hX⟩ := h
  have hn := hX.len
  have hfew : n ≤ 1000000 := by rw [hn]; exact hs.few
  have H0 := Lib.hid (OutE.nil 33 2 rcs rfl w)
  have H := Lib.hid (And.intro hX hn)
  clear hX hn hs
  go_enter Try.func30, Try.ntmps30
  go_wp2_with fail
  go_loopw [5, 6] (fun o i wr => ∃ j : Nat, j ≤ n ∧ i = .int .i64 j ∧ OutE 33 2 rcs w.heap.size w (fndL s (l.take j)) o wr) (fun _ i _ => n - (intOf i).toNat)
  case atStart => exact ⟨0, Nat.zero_le _, rfl, H0.out⟩
  case round =>
    obtain ⟨j, hj, rfl, A1, c1, n1, rfl, hn1, hown1, hb1, hs1⟩ := hrel
    have hj0 : (0 : Int) ≤ (j : Int) := Int.natCast_nonneg _
    have hXr := H.out.1.below hb1
    have hc := hXr.cell
    have HN := Lib.hid (show l.length = n from H.out.2.symm)
    have HK := Lib.hid (And.intro hn1 (And.intro hown1 (And.intro hb1 hs1)))
    have hn1k : n1 ≤ 1000000 := by
      rw [hn1]
      have h1 := List.length_filter_le (fun a : En => decide (a.s = s)) (l.take j)
      rw [List.length_take] at h1
      unfold fndL
      omega
    by_cases hlt : j < n
    · have hlt1 : (j : Int) < (n : Int) := by omega
      have hjl : j < l.length := by rw [HN.out]; exact hlt
      obtain ⟨g, rfl, d0, d1, d2⟩ := hXr.at_ hjl
      obtain ⟨x, hx⟩ : ∃ x, x = l[j] := ⟨_, rfl⟩
      rw [← hx] at d0 d1 d2
      have HX := Lib.hid (And.intro hx hjl)
      clear hn1 hown1 hb1 hs1 hXr
      by_cases hxs : x.s = s
      · have e1 : (x.s.toList == s.toList) = true := by rw [str_beq]; exact decide_eq_true hxs
        have e2 : decide (x.s = s) = true := decide_eq_true hxs
        have hst := fnd_yes (s := s) hjl (by rw [← hx]; exact hxs)
        rw [← hx] at hst
        have HS := Lib.hid (And.intro hst hxs)
        clear hst hx hxs
        go_wp2_with (at_builtin; refine wpList_append_own _ rfl (.tmp 27) (.tmp 36) 56 rfl w.heap.size 33 i0 (.agg #[.int .i64 0, .int .i64 0]) 2 16 Try.underlying56 hi hz0 hz1 hz2 rfl (by decide) _ n1 _ rfl (HK.out.2.1.alloc _) ⟨wr.heap.size, 0, none⟩ 1 1 [.int .i64 x.p, .int .i64 x.k] rfl rfl (World.news_of_block (heap_alloc_new wr _)) ?c2 ?c3 ?c4 ?c5 ?_)
        case c2 => first | (intro u hu; simp at hu; rcases hu with rfl | rfl <;> rfl) | (constructor <;> rfl)
        case c3 => first | (unfold maxLen; omega) | (simp [maxLen]; omega)
        case c4 => first | omega | (simp; omega)
        case c5 => have h2 := HK.out.2.2.2; simp; omega
        intro v5 w5 hown5 hgr5 _
        rw [rcs_more] at hown5
        have HF := Lib.hid (show OutE 33 2 rcs w.heap.size w (fndL s (l.take (j + 1))) v5 w5 from by
          rw [HS.out.1]
          exact OutE.more HK.out.1 HK.out.2.1 HK.out.2.2.1 HK.out.2.2.2 ((Below.refl _ wr).alloc (Nat.le_refl _) _) hown5 hgr5)
        clear hown5 hgr5
        go_wp2_with fail
        go_roundw
        case rel => exact ⟨j + 1, by omega, by go_num, HF.out⟩
        case measure => simp [intOf]; omega
      · have e1 : (x.s.toList == s.toList) = false := by rw [str_beq]; exact decide_eq_false hxs
        have e2 : decide (x.s = s) = false := decide_eq_false hxs
        have hst := fnd_no (s := s) hjl (by rw [← hx]; exact hxs)
        have HF := Lib.hid (show OutE 33 2 rcs w.heap.size w (fndL s (l.take (j + 1))) (.slice A1 n1 c1) wr from by
          rw [hst]
          exact ⟨A1, c1, n1, rfl, HK.out.1, HK.out.2.1, HK.out.2.2.1, HK.out.2.2.2⟩)
        clear hst hx
        go_wp2_with fail
        go_roundw
        case rel => exact ⟨j + 1, by omega, by go_num, HF.out⟩
        case measure => simp [intOf]; omega
    · have hlt1 : ¬ ((j : Int) < (n : Int)) := by omega
      have htk : l.take j = l := List.take_of_length_le (by rw [HN.out]; omega)
      have HE := Lib.hid (show n1 = (fndL s l).length ∧ wr.ownsRow w.heap.size 33 2 (.slice A1 n1 c1) n1 (rcs (fndL s l)) from by rw [htk] at hn1 hown1; exact ⟨hn1, hown1⟩)
      clear hn1 hown1 hXr htk
      go_wp2_with fail
      go_ret
      exact ⟨A1, c1, n1, rfl, HE.out.1, HE.out.2, HK.out.2.2.1⟩

set_option maxRecDepth 100000 in
set_option maxHeartbeats 12800000 in
theorem rrange_any {B tb : Nat} {D : Nat → Prop} {w : World} {l : List En} (h : RtV B D w tb l) (hs : Small l) (f t : ByteArray) (most : Int) (hf : f.size ≤ 30000000000000) (ht : t.size ≤ 30000000000000) :
    Calls Try.prog 31 #[.pointer (some ⟨tb, 0, none⟩), .string f, .string t, .int .i64 most] w fun r w' => ∃ A c n, r = .returned (.slice A n c) ∧ n = (rngL f t most l).length ∧ w'.ownsRow w.heap.size 35 3 (.slice A n c) n (ecs (rngL f t most l)) ∧ Below w.heap.size w w' := by
  obtain ⟨i0, hi, hz0, hz1, hz2⟩ := info_parts Try.infoent
  obtain ⟨A, n, c, hX⟩ := h
  have hn := hX.len
  have hfew : n ≤ 1000000 := by rw [hn]; exact hs.few
  have H0 := Lib.hid (OutE.nil 35 3 ecs rfl w)
  have H := Lib.hid (And.intro hX (And.intro hn (And.intro hs (And.intro hf ht))))
  clear hX hn hs hf ht
  go_enter Try.func31, Try.ntmps31
  go_wp2_with fail
  go_loopw [9, 10, 11] (fun o i _ wr => ∃ j : Nat, j ≤ n ∧ i = .int .i64 j ∧ OutE 35 3 ecs w.heap.size w (frm f t l j) o wr ∧ (frm f t l j).length ≤ most.toNat) (fun _ i _ _ => n - (intOf i).toNat)
  case atStart => exact ⟨0, Nat.zero_le _, rfl, H0.out, by simp [frm]⟩
  case round =>
    obtain ⟨j, hj, rfl, ⟨A1, c1, n1, rfl, hn1, hown1, hb1, hs1⟩, hm1⟩ := hrel
    have hj0 : (0 : Int) ≤ (j : Int) := Int.natCast_nonneg _
    have hn10 : (0 : Int) ≤ (n1 : Int) := Int.natCast_nonneg _
    have hXr := H.out.1.below hb1
    have hc := hXr.cell
    have HN := Lib.hid (show l.length = n from H.out.2.1.symm)
    have HK := Lib.hid (And.intro hn1 (And.intro hown1 (And.intro hb1 (And.intro hs1 hm1))))
    have hn1k : n1 ≤ 1000000 := by
      rw [hn1]
      have h1 := List.length_filter_le (inR f t) (l.take j)
      rw [List.length_take] at h1
      unfold frm
      omega
    have HFIN := Lib.hid (show (l.length ≤ j ∨ most ≤ (n1 : Int)) → rngL f t most l = frm f t l j from fun h => frm_end hm1 (by rw [← hn1]; exact h))
    by_cases hlt : j < n
    · have hlt1 : (j : Int) < (n : Int) := by omega
      have dlt : decide ((j : Int) < (n : Int)) = true := decide_eq_true hlt1
      by_cases hmn : (n1 : Int) < most
      · have dmn : decide ((n1 : Int) < most) = true := decide_eq_true hmn
        have hjl : j < l.length := by rw [HN.out]; exact hlt
        obtain ⟨g, rfl, d0, d1, d2⟩ := hXr.at_ hjl
        obtain ⟨x, hx⟩ : ∃ x, x = l[j] := ⟨_, rfl⟩
        have hxs := H.out.2.2.1.key x (by rw [hx]; exact List.getElem_mem hjl)
        rw [← hx] at d0 d1 d2
        have HX := Lib.hid (And.intro hx hjl)
        have HT1 := Lib.hid (refTexts_any x.s f wr hxs H.out.2.2.2.1)
        have HT2 := Lib.hid (fun (w : World) => refTexts_any x.s t w hxs H.out.2.2.2.2)
        have hin : inR f t l[j] = (decide (0 ≤ cmpS x.s f) && decide (cmpS x.s t < 0)) := by rw [← hx]; rfl
        obtain ⟨o1, ho1⟩ : ∃ o, o = cmpS x.s f := ⟨_, rfl⟩
        obtain ⟨o2, ho2⟩ : ∃ o, o = cmpS x.s t := ⟨_, rfl⟩
        rw [← ho1] at HT1 hin
        rw [← ho2] at HT2 hin
        have HIN := Lib.hid hin
        clear hn1 hown1 hb1 hs1 hm1 hx hxs ho1 ho2 hin
        go_wp2_with fail
        refine HT1.out.mono ?_
        rintro r w3 ⟨rfl, q3, hq3⟩
        have hb3 : Below wr.heap.size wr w3 := drewN_below hq3
        have HB3 := Lib.hid hb3
        by_cases g1 : 0 ≤ o1
        · have dg1 : decide (0 ≤ o1) = true := decide_eq_true g1
          clear hb3 hq3
          go_wp2_with fail
          refine (HT2.out _).mono ?_
          rintro r w4 ⟨rfl, q4, hq4⟩
          have hb4 : Below wr.heap.size wr w4 := HB3.out.trans ((drewN_below hq4).mono HB3.out.size)
          have hX4 := (H.out.1.below HK.out.2.2.1).below hb4
          have hown4 := own_chg HK.out.2.1 (F := Non) (Chg.of_below hb4) (fun _ _ hf => hf)
          have HB4 := Lib.hid (And.intro hb4 hown4)
          have hc4 := hX4.cell
          obtain ⟨g', hg', d40, d41, d42⟩ := hX4.at_ HX.out.2
          injection hg' with hg'
          injection hg' with hg'
          subst hg'
          rw [← HX.out.1] at d40 d41 d42
          clear hq4 hb4 hX4 hown4 d0 d1 d2 hXr hc
          by_cases g2 : o2 < 0
          · have dg2 : decide (o2 < 0) = true := decide_eq_true g2
            have hst := frm_yes (f := f) (t := t) HX.out.2 (by rw [HIN.out, dg1, dg2]; rfl)
            rw [← HX.out.1] at hst
            have HS := Lib.hid hst
            clear hst
            go_wp2_with (at_builtin; refine wpList_append_own _ rfl (.tmp 46) (.tmp 54) 28 rfl w.heap.size 35 i0 (.agg #[.string ⟨#[]⟩, .int .i64 0, .int .i64 0]) 3 32 Try.underlying28 hi hz0 hz1 hz2 rfl (by decide) _ n1 _ rfl (HB4.out.2.alloc _) ⟨w4.heap.size, 0, none⟩ 1 1 [.string x.s, .int .i64 x.p, .int .i64 x.k] rfl rfl (World.news_of_block (heap_alloc_new w4 _)) ?c2 ?c3 ?c4 ?c5 ?_)
            case c2 => first | (intro u hu; simp at hu; rcases hu with rfl | rfl | rfl <;> rfl) | (refine ⟨?_, ?_, ?_⟩ <;> rfl)
            case c3 => first | (unfold maxLen; omega) | (simp [maxLen]; omega)
            case c4 => first | omega | (simp; omega)
            case c5 => have h2 := HK.out.2.2.2.1; have h3 := HB4.out.1.size; simp; omega
            intro v5 w5 hown5 hgr5 _
            rw [ecs_more] at hown5
            have HF := Lib.hid (show OutE 35 3 ecs w.heap.size w (frm f t l (j + 1)) v5 w5 ∧ (frm f t l (j + 1)).length ≤ most.toNat from by
              rw [HS.out]
              exact ⟨OutE.more HK.out.1 HK.out.2.1 HK.out.2.2.1 HK.out.2.2.2.1 (HB4.out.1.alloc HB4.out.1.size _) hown5 hgr5, by rw [List.length_append, ← HK.out.1]; simp; omega⟩)
            clear hown5 hgr5
            go_wp2_with fail
            go_roundw
            case rel => exact ⟨j + 1, by omega, by go_num, HF.out⟩
            case measure => simp [intOf]; omega
          · have dg2 : decide (o2 < 0) = false := decide_eq_false g2
            have hst := frm_no (f := f) (t := t) HX.out.2 (by rw [HIN.out, dg1, dg2]; rfl)
            have HF := Lib.hid (show OutE 35 3 ecs w.heap.size w (frm f t l (j + 1)) (.slice A1 n1 c1) w4 ∧ (frm f t l (j + 1)).length ≤ most.toNat from by
              rw [hst]
              exact ⟨⟨A1, c1, n1, rfl, HK.out.1, HB4.out.2, HK.out.2.2.1.trans (HB4.out.1.mono HK.out.2.2.2.1), by have := HB4.out.1.size; have := HK.out.2.2.2.1; omega⟩, HK.out.2.2.2.2⟩)
            clear hst
            go_wp2_with fail
            go_roundw
            case rel => exact ⟨j + 1, by omega, by go_num, HF.out⟩
            case measure => simp [intOf]; omega
        · have dg1 : decide (0 ≤ o1) = false := decide_eq_false g1
          have hst := frm_no (f := f) (t := t) HX.out.2 (by rw [HIN.out, dg1]; rfl)
          have hown3 := own_chg HK.out.2.1 (F := Non) (Chg.of_below hb3) (fun _ _ hf => hf)
          have HF := Lib.hid (show OutE 35 3 ecs w.heap.size w (frm f t l (j + 1)) (.slice A1 n1 c1) w3 ∧ (frm f t l (j + 1)).length ≤ most.toNat from by
            rw [hst]
            exact ⟨⟨A1, c1, n1, rfl, HK.out.1, hown3, HK.out.2.2.1.trans (hb3.mono HK.out.2.2.2.1), by have := hb3.size; have := HK.out.2.2.2.1; omega⟩, HK.out.2.2.2.2⟩)
          clear hst hown3 hb3 hq3
          go_wp2_with fail
          go_roundw
          case rel => exact ⟨j + 1, by omega, by go_num, HF.out⟩
          case measure => simp [intOf]; omega
      · have dmn : decide ((n1 : Int) < most) = false := decide_eq_false hmn
        have HE := Lib.hid (HFIN.out (.inr (by omega)))
        clear hn1 hown1 hb1 hs1 hm1 hXr
        go_wp2_with fail
        go_ret
        exact ⟨A1, c1, n1, rfl, by rw [HE.out]; exact HK.out.1, by rw [HE.out]; exact HK.out.2.1, HK.out.2.2.1⟩
    · have hlt1 : ¬ ((j : Int) < (n : Int)) := by omega
      have dlt : decide ((j : Int) < (n : Int)) = false := decide_eq_false hlt1
      have HE := Lib.hid (HFIN.out (.inl (by rw [HN.out]; omega)))
      clear hn1 hown1 hb1 hs1 hm1 hXr
      go_wp2_with fail
      go_ret
      exact ⟨A1, c1, n1, rfl, by rw [HE.out]; exact HK.out.1, by rw [HE.out]; exact HK.out.2.1, HK.out.2.2.1⟩
end Go.Proofs.Ytiaclfldgagalaa

/-
  The document's own tree: Twice, Insert, Delete; Same.
-/
namespace Go.Proofs.Ytiaclfldgagalaa
open Go.RowKit Go.Lib

def twL : List En → Option ByteArray
  | a :: b :: r => if b.s = a.s then some b.s else twL (b :: r)
  | _ => none
theorem tw_step {l : List En} {j : Nat} (h1 : 1 ≤ j) (h : j < l.length) : twL (l.drop (j - 1)) = if l[j].s = (l[j - 1]'(by omega)).s then some l[j].s else twL (l.drop j) := by
  have e : l.drop (j - 1) = l[j - 1]'(by omega) :: l[j] :: l.drop (j + 1) := by
    rw [List.drop_eq_getElem_cons (show j - 1 < l.length by omega), show j - 1 + 1 = j by omega, List.drop_eq_getElem_cons h]
  rw [e, twL, List.drop_eq_getElem_cons h]
theorem tw_end {l : List En} {j : Nat} (h : l.length ≤ j) : twL (l.drop (j - 1)) = none := by
  have : (l.drop (j - 1)).length ≤ 1 := by rw [List.length_drop]; omega
  match l.drop (j - 1), this with
  | [], _ => rfl
  | [_], _ => rfl
def twRes : Option ByteArray → Value
  | some s => .tuple #[.string s, .bool true]
  | none => .tuple #[.string ⟨#[]⟩, .bool false]
set_option maxRecDepth 100000 in
set_option maxHeartbeats 6400000 in
theorem rtwice_any {B tb : Nat} {D : Nat → Prop} {w : World} {l : List En} (h : RtV B D w tb l) (hs : Small l) :
    Calls Try.prog 14 #[.pointer (some ⟨tb, 0, none⟩)] w fun r w' => r = .returned (twRes (twL l)) ∧ Below w.heap.size w w' := by
  obtain ⟨A, n, c, hX⟩ := h
  have hn := hX.len
  have hfew : n ≤ 1000000 := by rw [hn]; exact hs.few
  have H := Lib.hid (And.intro hX hn)
  clear hX hn hs
  go_enter Try.func14, Try.ntmps14
  go_wp2_with fail
  go_loopw [4] (fun i wr => ∃ j : Nat, 1 ≤ j ∧ j ≤ n + 1 ∧ i = .int .i64 j ∧ Below w.heap.size w wr ∧ twL l = twL (l.drop (j - 1))) (fun i _ => n + 1 - (intOf i).toNat)
  case atStart => exact ⟨1, Nat.le_refl _, by omega, rfl, Below.refl _ _, rfl⟩
  case round =>
    obtain ⟨j, hj1, hj, rfl, hb, htw⟩ := hrel
    have hj0 : (1 : Int) ≤ (j : Int) := by omega
    have hXr := H.out.1.below hb
    have hc := hXr.cell
    have HN := Lib.hid (show l.length = n from H.out.2.symm)
    have HB := Lib.hid (And.intro hb htw)
    by_cases hlt : j < n
    · have hlt1 : (j : Int) < (n : Int) := by omega
      have hjl : j < l.length := by rw [HN.out]; exact hlt
      have hst := tw_step hj1 hjl
      obtain ⟨g, rfl, d0, d1, d2⟩ := hXr.at_ hjl
      obtain ⟨g', hg', c0, c1, c2⟩ := hXr.at_ (j := j - 1) (by omega)
      injection hg' with hg'
      injection hg' with hg'
      subst hg'
      obtain ⟨k, rfl⟩ : ∃ k, j = k + 1 := ⟨j - 1, by omega⟩
      simp only [Nat.add_sub_cancel] at c0 c1 c2 hst htw
      obtain ⟨x, hx⟩ : ∃ x, x = l[k + 1] := ⟨_, rfl⟩
      obtain ⟨y, hy⟩ : ∃ y, y = l[k]'(by omega) := ⟨_, rfl⟩
      rw [← hx] at d0 d1 d2 hst
      rw [← hy] at c0 c1 c2 hst
      rw [← htw] at hst
      have HS := Lib.hid hst
      have hk1 : ((k + 1 : Nat) : Int) - 1 = (k : Int) := by omega
      have hkn : (k : Int) < (n : Int) := by omega
      have hk0 : (0 : Int) ≤ (k : Int) := Int.natCast_nonneg _
      have hkk : ((k + 1 : Nat) : Int) = (k : Int) + 1 := by omega
      clear hst hb htw hXr hx hy
      by_cases hxy : x.s = y.s
      · have e1 : (x.s.toList == y.s.toList) = true := by rw [str_beq]; exact decide_eq_true hxy
        have HT := Lib.hid (show twL l = some x.s by rw [HS.out, if_pos hxy])
        have HXY := Lib.hid hxy
        clear hxy
        have HBq := Lib.hid (fun d : Nat => below_dN HB.out.1 d)
        go_wp2_with fail
        go_quiet (fail)
        go_wp2_with fail
        go_ret2
        exact ⟨by rw [HT.out]; rfl, HBq.out _⟩
      · have e1 : (x.s.toList == y.s.toList) = false := by rw [str_beq]; exact decide_eq_false hxy
        have HF := Lib.hid (show ∀ d, ∃ j : Nat, 1 ≤ j ∧ j ≤ n + 1 ∧ Value.int .i64 ((k : Int) + 1 + 1) = .int .i64 j ∧ Below w.heap.size w (wr.drewN d) ∧ twL l = twL (l.drop (j - 1)) from fun d =>
          ⟨k + 2, by omega, by omega, by congr 1, below_dN HB.out.1 d, by rw [show k + 2 - 1 = k + 1 by omega]; rw [HS.out, if_neg hxy]⟩)
        have HXY := Lib.hid hxy
        clear hxy
        go_wp2_with fail
        go_quiet (fail)
        go_wp2_with fail
        go_roundw
        case rel => exact HF.out _
        case measure => simp [intOf]; omega
    · have hlt1 : ¬ ((j : Int) < (n : Int)) := by omega
      have HT := Lib.hid (show twL l = none by rw [htw]; exact tw_end (by rw [HN.out]; omega))
      clear hb htw hXr
      go_wp2_with fail
      go_ret2
      exact ⟨by rw [HT.out]; rfl, HB.out.1⟩

/-- append of a slice that reads as news, whatever its elements' size -/
theorem run_append_rs {P : Program} (w : World) (base : Nat) (t ty e : TypeId) (i : TypeInfo) (z : Value) (size bytes : Nat) (ht : P.underlying t = some (.slice e)) (hi : P.info? e = some i) (hz : i.zero = some z)
    (hsize : i.size = size) (hby : i.bytes = bytes) (hzs : z.cells.size = size) (hsz : 0 < size)
    (v : Value) (n : Nat) (xs : List Value) (hown : w.ownsRow base e size v n xs)
    (A : Option Addr) (m c : Nat) (news : List Value) (hl : news.length = m * size) (hA : A = none → m = 0) (hc : ∀ ad, A = some ad → ∀ j u, news[j]? = some u → w.cell? (ad.add j) = some u) (h1 : ∀ u ∈ news, u.oneCell' = true)
    (h63 : n + m ≤ maxLen) (hbytes : (n + m) * bytes ≤ 140737488355328) (hbase : base ≤ w.heap.size) :
    ∃ v' w', (Builtin.append_ #[t, t] ty #[v, .slice A m c]).run P w = .ok v' w' ∧ w'.ownsRow base e size v' (n + m) (xs ++ news) ∧ w.grownBy w' v.ownBlock := by
  rcases A with _ | ad
  · have hm := hA rfl
    subst hm
    have hn : news = [] := List.eq_nil_of_length_eq_zero (by rw [hl]; omega)
    subst hn
    exact ⟨v, w, run_append_nothing w base t ty e i size ht hi v n xs hown c, by simpa using hown, World.grownBy.refl w _⟩
  · obtain ⟨v', w', hrun, h2, h3, _⟩ := run_append_own (P := P) w base t ty e i z size bytes ht hi hz hsize hby hzs hsz v n xs hown ad m c news hl (hc ad rfl) h1 h63 hbytes hbase
    exact ⟨v', w', hrun, h2, h3⟩
theorem wpList_append_rs {P : Program} (w : World) {ops : Array Oper} {rest : List Oper} {o : Oper} {a : Act} {Q : Exit → Act → World → Prop} (hgd : o.guard = none) (s x : Operand) (t : TypeId)
    (ho : o.op = .call { callee := .builtin .append, args := #[s, x], argTypes := #[t, t] })
    (base : Nat) (e : TypeId) (i : TypeInfo) (z : Value) (size bytes : Nat) (ht : P.underlying t = some (.slice e)) (hi : P.info? e = some i) (hz : i.zero = some z)
    (hsize : i.size = size) (hby : i.bytes = bytes) (hzs : z.cells.size = size) (hsz : 0 < size)
    (v : Value) (n : Nat) (xs : List Value) (hs : a.eval s = v) (hown : w.ownsRow base e size v n xs)
    (A : Option Addr) (m c : Nat) (news : List Value) (hx : a.eval x = .slice A m c) (hl : news.length = m * size) (hA : A = none → m = 0) (hc : ∀ ad, A = some ad → ∀ j u, news[j]? = some u → w.cell? (ad.add j) = some u) (h1 : ∀ u ∈ news, u.oneCell' = true)
    (h63 : n + m ≤ maxLen) (hbytes : (n + m) * bytes ≤ 140737488355328) (hbase : base ≤ w.heap.size)
    (h : ∀ v' w', w'.ownsRow base e size v' (n + m) (xs ++ news) → w.grownBy w' v.ownBlock → wpList P ops Q rest (a.put o.dst v') w') : wpList P ops Q (o :: rest) a w := by
  refine wpList_plain hgd fun K hK => ?_
  obtain ⟨v', w', hrun, h2, h3⟩ := run_append_rs (P := P) w base t o.type e i z size bytes ht hi hz hsize hby hzs hsz v n xs hown A m c news hl hA hc h1 h63 hbytes hbase
  unfold Oper.wp execOp
  simp only [ho, resolve, invoke, builtin, Sem.run_bind, Sem.run_pure, Result.andThen_ok, List.map_toArray, List.map_cons, List.map_nil, hs, hx, hrun]
  exact hK _ _ (h v' w' h2 h3)
theorem below_ownN {w w' : World} {base s : Nat} {e : TypeId} {v : Value} {n : Nat} {xs : List Value} (h : w.ownsRow base e s v n xs) (hg : w.grownBy w' v.ownBlock) (hb : base ≤ w.heap.size) : Below base w w' :=
  (Below.refl _ w).grown hg hb fun k hk => (h.lt k hk).1
end Go.Proofs.Ytiaclfldgagalaa
