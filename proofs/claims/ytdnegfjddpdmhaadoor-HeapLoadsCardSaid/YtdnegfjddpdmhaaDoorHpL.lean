/-
  The contracts of After and All.
-/
import Derived.Test.YtdnegfjddpdmhaaDoorHpK
namespace Go.Proofs.YtdnegfjddpdmhaaDoor
open Go.RowKit Go.Lib Go.Shelf

/-- the cells of places -/
def ridC (l : List Pl) : List Value := l.flatMap fun x => [.int .i64 x.1, .int .i64 x.2]
theorem ridC_len (l : List Pl) : (ridC l).length = l.length * 2 := by
  induction l with
  | nil => rfl
  | cons x l ih => simp only [ridC, List.flatMap_cons, List.length_append, List.length_cons, List.length_nil] at ih ⊢; omega
theorem ridC_snoc (l : List Pl) (x : Pl) : ridC (l ++ [x]) = ridC l ++ [.int .i64 x.1, .int .i64 x.2] := by simp [ridC]
/-- places in memory of the call's own -/
def RidsRet (l : List Pl) (w : World) (e : Ending) (w' : World) : Prop :=
  ∃ v, e = .returned v ∧ w'.ownsRow w.heap.size 32 2 v l.length (ridC l) ∧ Below w.heap.size w w'
theorem own_shape2 {w : World} {base : Nat} {e : TypeId} {s : Nat} {v : Value} {n : Nat} {xs : List Value} (h : w.ownsRow base e s v n xs) : ∃ A c, v = .slice A n c ∧ n ≤ c ∧ c ≤ maxLen := by
  rcases h.2 with ⟨rfl, rfl⟩ | ⟨g, cap, cur, rfl, _, _, hn, hm, _⟩
  · exact ⟨none, 0, rfl, Nat.le_refl _, by simp [maxLen]⟩
  · exact ⟨_, cap, rfl, hn, hm⟩

theorem own_base2 {w : World} {base base' : Nat} {e : TypeId} {s : Nat} {v : Value} {n : Nat} {xs : List Value} (h : w.ownsRow base e s v n xs) (hb : base' ≤ base) : w.ownsRow base' e s v n xs := by
  refine ⟨h.1, ?_⟩
  rcases h.2 with hn | ⟨g, cap, cur, rfl, hbg, hg, rest⟩
  · exact .inl hn
  · exact .inr ⟨g, cap, cur, rfl, by omega, hg, rest⟩
def AfI (w : World) (p k most : Int) (pre : List Pl) (W : World) : Prop :=
  ∃ A n c, n = (pre.filter (behind p k)).length ∧ n ≤ c ∧ c ≤ maxLen ∧ Blk W (w.heap.size + 2) 41 #[.slice A n c] ∧ W.ownsRow (w.heap.size + 1) 32 2 (.slice A n c) n (ridC (pre.filter (behind p k))) ∧
    Blk W w.heap.size 32 #[.int .i64 p, .int .i64 k] ∧ Blk W (w.heap.size + 1) 3 #[.int .i64 most] ∧ Below w.heap.size w W ∧ (n : Int) ≤ max 0 most ∧ w.heap.size + 4 ≤ W.heap.size
theorem not_cells_ne {W : World} {row : Option Nat} (hr : ∀ r, row = some r → ∃ o : Obj, W.heap[r]? = some o ∧ o.isCells = false) {b : Nat} {t : TypeId} {cs : Array Value} (h : Blk W b t cs) : row ≠ some b := fun e => by
  obtain ⟨o, ho, hc⟩ := hr _ e
  unfold Blk at h
  rw [h] at ho
  cases ho
  simp [Obj.isCells] at hc
theorem own_notcells {W W' : World} {row : Option Nat} (hg : W.grownBy W' row) (hr : ∀ r, row = some r → ∃ o : Obj, W.heap[r]? = some o ∧ o.isCells = false) {base : Nat} {e : TypeId} {s : Nat} {v : Value} {n : Nat} {xs : List Value} (h : W.ownsRow base e s v n xs) : W'.ownsRow base e s v n xs :=
  own_keep h fun k hk => by
    obtain ⟨cur, hb⟩ := own_row h k hk
    exact hg.block k hb.lt (Ne.symm (not_cells_ne hr hb))
theorem afI_own {w : World} {p k most : Int} {B : Nat} (hB : w.heap.size ≤ B) : OwnFrom B (AfI w p k most) := by
  rintro pre W W' row ⟨A, n, c, h0, h1, h2, h3, h4, h5, h6, h7, h8, h9⟩ hg hr
  have hr' : ∀ r, row = some r → ∃ o : Obj, W.heap[r]? = some o ∧ o.isCells = false := fun r e => (hr r e).2
  exact ⟨A, n, c, h0, h1, h2, h3.grown hg (not_cells_ne hr' h3), own_notcells hg hr' h4, h5.grown hg (not_cells_ne hr' h5), h6.grown hg (not_cells_ne hr' h6), h7.grown hg h7.size (fun r e => by have := (hr r e).1; omega), h8, Nat.le_trans h9 hg.size⟩

/-- behind a break -/
def AfX (w : World) (p k most : Int) (c : Code) (pre : List Pl) (W : World) : Prop := c = .exit 0 ∧ ∃ pre0 x, pre = pre0 ++ [x] ∧ AfI w p k most pre0 W ∧ most ≤ ((pre0.filter (behind p k)).length : Int)
theorem afX_own {w : World} {p k most : Int} {B : Nat} (hB : w.heap.size ≤ B) (c : Code) : OwnFrom B (AfX w p k most c) := by
  rintro pre W W' row ⟨h1, pre0, x, h2, h3, h4⟩ hg hr
  exact ⟨h1, pre0, x, h2, afI_own hB pre0 W W' row h3 hg hr, h4⟩
theorem aft_done {ps : Pgs} {p k most : Int} (h : (((allH ps).filter (behind p k)).length : Int) ≤ max 0 most) : aftH ps p k most = (allH ps).filter (behind p k) := by
  unfold aftH
  exact List.take_of_length_le (by omega)
theorem aft_stop {ps : Pgs} {p k most : Int} {pre0 : List Pl} {x : Pl} (h1 : pre0 ++ [x] <+: allH ps) (h2 : most ≤ ((pre0.filter (behind p k)).length : Int)) (h3 : ((pre0.filter (behind p k)).length : Int) ≤ max 0 most) : aftH ps p k most = pre0.filter (behind p k) := by
  obtain ⟨r, hr⟩ := h1
  unfold aftH
  rw [← hr, List.append_assoc, List.filter_append]
  exact List.take_left' (by omega)
theorem upH_bound {ps : Pgs} (hg : ∀ s ∈ ps, GoodP s) : ∀ k, (upH ps k).length ≤ k * 255 := by
  intro k
  induction k with
  | zero => simp [upH]
  | succ k ih =>
    rw [upH_succ, List.length_append, List.length_map]
    have h1 := slotsN_le (pgAt ps k) (pgAt ps k).length
    have h2 := (pgAt_good hg k).pg.slots
    omega
def AfA (w : World) (hb : Nat) (p k most : Int) (x : Pl) (a' : Act) (W : World) : Prop :=
  ∃ Bx, w.heap.size + 4 ≤ Bx ∧ Blk W Bx 32 #[.int .i64 x.1, .int .i64 x.2] ∧ a' = { tmps := #[Value.pointer (some ⟨hb, 0, none⟩), Value.agg #[.int .i64 p, .int .i64 k], Value.int .i64 most, undef, Value.pointer (some ⟨w.heap.size, 0, none⟩), Value.pointer (some ⟨w.heap.size + 1, 0, none⟩), Value.slice none 0 0, Value.pointer (some ⟨w.heap.size + 1 + 1, 0, none⟩), Value.pointer (some ⟨Bx, 0, none⟩), Value.pointer (some ⟨hb, 0, none⟩), Value.func (.func 80) #[] #[.pointer (some ⟨w.heap.size + 1 + 1 + 1, 0, none⟩)], Value.agg #[.int .i64 x.1, .int .i64 x.2], undef, undef, undef, undef, undef, undef, undef, undef, undef, undef, undef, undef, undef, undef, undef, undef, undef, undef, undef, undef, undef, undef, undef, undef, undef, undef, undef, undef], defers := [] }
theorem Tryd.dkinfo32 : (Tryd.prog.info? 32).map (fun i => (i.zero, i.size, i.bytes)) = some (some (.agg #[.int .i64 0, .int .i64 0]), 2, 16) := by kernel_rfl

/-- a place more -/
theorem afI_step {w W w1 : World} {p k most : Int} {x : Pl} {pre : List Pl} {A A5 : Option Addr} {n c c5 : Nat} (j0 : n = (pre.filter (behind p k)).length) (j3 : Blk W (w.heap.size + 2) 41 #[.slice A n c])
    (j4 : W.ownsRow (w.heap.size + 1) 32 2 (.slice A n c) n (ridC (pre.filter (behind p k)))) (j5 : Blk W w.heap.size 32 #[.int .i64 p, .int .i64 k]) (j6 : Blk W (w.heap.size + 1) 3 #[.int .i64 most]) (j7 : Below w.heap.size w W) (j9 : w.heap.size + 4 ≤ W.heap.size)
    (cs : Array Value) (hgr : (W.alloc (.cells cs 32)).grownBy w1 (Value.slice A n c).ownBlock) (hown : w1.ownsRow (w.heap.size + 1) 32 2 (.slice A5 (n + 1) c5) (n + 1) (ridC (pre.filter (behind p k)) ++ [.int .i64 x.1, .int .i64 x.2])) (hb : behind p k x = true) (hlt : (n : Int) < most) :
    (w1.cell? ⟨w.heap.size + 2, 0, none⟩ = some (.slice A n c) ∧ w1.frozen? ⟨w.heap.size + 2, 0, none⟩ = false) ∧
    (KeepsFrom (w.heap.size + 4) W (w1.setCell ⟨w.heap.size + 2, 0, none⟩ (.slice A5 (n + 1) c5)) ∧ KpA w.heap.size W (w1.setCell ⟨w.heap.size + 2, 0, none⟩ (.slice A5 (n + 1) c5)) ∧ AfI w p k most (pre ++ [x]) (w1.setCell ⟨w.heap.size + 2, 0, none⟩ (.slice A5 (n + 1) c5))) := by
  have hal : ∀ {b : Nat} {t : TypeId} {cs' : Array Value}, Blk W b t cs' → (Value.slice A n c).ownBlock ≠ some b → Blk w1 b t cs' := fun hbk hn => (hbk.alloc _).grown hgr hn
  have hrow : ∀ j, (Value.slice A n c).ownBlock = some j → ∃ cur, Blk W j 32 cur := fun j hj => own_row j4 j hj
  have h3 := hal j3 (own_ne j4 j3 (by decide))
  have h5 := hal j5 (fun e => by have := (j4.lt _ e).1; omega)
  have h6 := hal j6 (own_ne j4 j6 (by decide))
  have sz : W.heap.size + 1 ≤ w1.heap.size := by have := hgr.size; simpa using this
  obtain ⟨_, _, e5, q1, q2⟩ := own_shape2 hown
  injection e5 with _ _ e6
  subst e6
  have hbw : Below w.heap.size W (w1.setCell ⟨w.heap.size + 2, 0, none⟩ (.slice A5 (n + 1) c5)) := by
    refine (((Below.refl _ W).alloc (by omega) (.cells cs 32)).grown hgr (by simp; omega) (fun j hj => by have := (j4.lt j hj).1; omega)).setCell (p := ⟨w.heap.size + 2, 0, none⟩) (by show w.heap.size ≤ w.heap.size + 2; omega) _
  have hst := h3.put 0 (.slice A5 (n + 1) c5)
  refine ⟨⟨by rw [h3.cell]; rfl, h3.frozen 0⟩, ?_, ⟨hbw, fun g cs' hbk => ?_⟩, A5, n + 1, c5, ?_, q1, q2, hst, ?_, ?_, ?_, j7.trans hbw, by omega, by simp [World.setCell]; omega⟩
  · refine ((KeepsOthers.alloc W _).trans ((KeepsOthers.of_grownBy hgr fun j o hj ho => ?_).trans (KeepsOthers.setCell _ _ _))).from _
    obtain ⟨cur, hc⟩ := hrow j hj
    have h1 := hc.alloc (.cells cs 32)
    unfold Blk at h1
    rw [h1] at ho
    cases ho
    rfl
  · refine Blk.far (hal hbk (own_ne j4 hbk (by decide))) (p := ⟨w.heap.size + 2, 0, none⟩) ?_ _
    exact fun e => Blk.ne hbk j3 (by decide) e
  · rw [List.filter_append, show [x].filter (behind p k) = [x] by simp [hb], List.length_append, ← j0]; rfl
  · rw [List.filter_append, show [x].filter (behind p k) = [x] by simp [hb], ridC_snoc]
    refine own_keep hown fun j hj => Below.heap_setCell _ _ _ _ (fun e => ?_)
    obtain ⟨cur, hc⟩ := own_row hown j hj
    exact Blk.ne hc h3 (by decide) e
  · exact h5.far (p := ⟨w.heap.size + 2, 0, none⟩) (by show w.heap.size ≠ w.heap.size + 2; omega) _
  · exact h6.far (p := ⟨w.heap.size + 2, 0, none⟩) (by show w.heap.size + 1 ≠ w.heap.size + 2; omega) _

attribute [local go_sem] Oper.semAt_some

set_option maxRecDepth 100000 in
set_option maxHeartbeats 3200000 in
theorem after_any {B hb : Nat} {D : Nat → Prop} {w : World} {ps : Pgs} (h : HpV B D w hb ps) (hfew : ps.length ≤ 256) (p k most : Int) :
    Calls Tryd.prog 30 #[.pointer (some ⟨hb, 0, none⟩), .agg #[.int .i64 p, .int .i64 k], .int .i64 most] w (RidsRet (aftH ps p k most) w) := by
  obtain ⟨v0, xs, hx, rfl⟩ := h
  obtain ⟨A0, c0, rfl, _, _, _⟩ := hx.pin
  have hP := hx.pin0
  have hgood : ∀ s ∈ pslots xs, GoodP s := fun s hs => by
    simp only [pslots, List.mem_map] at hs
    obtain ⟨y, hy, rfl⟩ := hs
    exact (hx.pg y hy).good
  have hbnd := upH_bound hgood (pslots xs).length
  rw [upH_all, pslots_len] at hbnd
  have H := Lib.hid (And.intro hx.blk hP)
  rw [pslots_len] at hfew
  clear hx hP hgood
  refine (callsIn_wide (n := 6)).1 ?_
  refine callsIn_of_wp_marks Tryd.func30 rfl trivial ?_ rfl
  simp only [Tryd.ntmps30, List.size_toArray, List.length_cons, List.length_nil, Nat.reduceAdd, Nat.reduceSub, Array.replicate_succ, Array.replicate_zero, List.push_toArray, List.append_toArray, List.nil_append, List.cons_append]
  gi_wp2_with fail
  refine ⟨trivial, callsIn_wide.2 ((places_any _ hb).mono ?_)⟩
  rintro e w' ⟨rfl, rfl⟩
  gi_wp2_with fail
  obtain ⟨W0, hW0⟩ : ∃ W0, W0 = (((w.alloc (.cells #[.int .i64 p, .int .i64 k] 32)).alloc (.cells #[.int .i64 most] 3)).alloc (.cells #[.slice none 0 0] 41)).alloc (.cells #[.pointer (some ⟨hb, 0, none⟩)] 25) := ⟨_, rfl⟩
  have b0 : Blk W0 w.heap.size 32 #[.int .i64 p, .int .i64 k] := by rw [hW0]; exact (((Blk.new _ _ _).alloc _).alloc _).alloc _
  have b1 : Blk W0 (w.heap.size + 1) 3 #[.int .i64 most] := by
    rw [hW0]
    have h1 := ((Blk.new (w.alloc (.cells #[.int .i64 p, .int .i64 k] 32)) 3 #[.int .i64 most]).alloc (.cells #[.slice none 0 0] 41)).alloc (.cells #[.pointer (some ⟨hb, 0, none⟩)] 25)
    simpa only [World.size_alloc] using h1
  have b2 : Blk W0 (w.heap.size + 2) 41 #[.slice none 0 0] := by
    rw [hW0]
    have h1 := (Blk.new ((w.alloc (.cells #[.int .i64 p, .int .i64 k] 32)).alloc (.cells #[.int .i64 most] 3)) 41 #[.slice none 0 0]).alloc (.cells #[.pointer (some ⟨hb, 0, none⟩)] 25)
    simpa only [World.size_alloc] using h1
  have b3 : Blk W0 (w.heap.size + 3) 25 #[.pointer (some ⟨hb, 0, none⟩)] := by
    rw [hW0]
    have h1 := Blk.new (((w.alloc (.cells #[.int .i64 p, .int .i64 k] 32)).alloc (.cells #[.int .i64 most] 3)).alloc (.cells #[.slice none 0 0] 41)) 25 #[.pointer (some ⟨hb, 0, none⟩)]
    simpa only [World.size_alloc] using h1
  have hl0 : Below w.heap.size w W0 := by rw [hW0]; exact ((((Below.refl _ w).alloc (Nat.le_refl _) _).alloc (by simp) _).alloc (by simp; omega) _).alloc (by simp; omega) _
  have hs0 : W0.heap.size = w.heap.size + 4 := by rw [hW0]; simp
  have hI0 : AfI w p k most [] W0 := ⟨none, 0, 0, rfl, Nat.le_refl _, by simp [maxLen], b2, World.ownsRow_nil _ _ _ _, b0, b1, hl0, by omega, by omega⟩
  rw [← hW0]
  have H0 := Lib.hid (And.intro b3 (And.intro hl0 (And.intro hs0 hI0)))
  clear hW0 b0 b1 b2 b3 hl0 hs0 hI0
  have hsz := H0.out.2.2.1
  refine wpIn_rangeFunc_ownH (α := Pl) (encs := ridE) (Kp := KpA w.heap.size) (S := fun ys => ys = allH (pslots xs)) (Sp := fun pre => pre <+: allH (pslots xs)) (N := (allH (pslots xs)).length) (w0 := W0) rfl (by omega) (gf := 80) (lb := #[.pointer (some ⟨w.heap.size + 1 + 1 + 1, 0, none⟩)]) rfl trivial (enters_of Tryd.func80 (by kernel_rfl) rfl)
    ?seq KpA.trans ?kb (Below.refl _ _) (fun _ => rfl)
    (AfI w p k most) (AfX w p k most) (afI_own (by omega)) (afX_own (by omega)) H0.out.2.2.2 (AfA w hb p k most) ?ax ?assign ?body ?done ?stop
  case seq =>
    intro lr J Jx W hW hJ _ hY h0
    have hb0 := H.out.1.below (H0.out.2.1.trans (hW.mono (by omega))) H.out.1.lt
    exact places1_in 5 (by omega) lr (w.heap.size + 3) hb w.heap.size A0 c0 xs (by omega) J Jx hY W (H0.out.1.below hW H0.out.1.lt) hb0 (H.out.2.below (H0.out.2.1.trans (hW.mono (by omega))) (Nat.le_refl _)) (by have := hW.size; omega) h0
      (fun pre a b' hj hb' => hJ pre a b' none hj ⟨hb'.os, hb'.tape, hb'.output, hb'.size, fun k hk _ => hb'.block k hk⟩ (fun r e => by cases e))
  case kb =>
    intro W lr o o' hlr ho hoc _
    refine ⟨⟨rfl, rfl, rfl, by simp [World.putObj], fun j hj => World.putObj_heap_other (by omega)⟩, fun g cs hbk => ?_⟩
    have hne : g ≠ lr := fun e => by
      subst e
      unfold Blk at hbk
      rw [hbk] at ho
      cases ho
      simp [Obj.isCells] at hoc
    exact (World.putObj_heap_other hne).trans hbk
  case ax =>
    rintro x a' _ X Y row ⟨Bx, h1, h2, h3⟩ hg hr
    exact ⟨Bx, h1, h2.grown hg (not_cells_ne (fun r e => (hr r e).2) h2), h3⟩
  case assign =>
    rintro lr pre x W K hI hK
    have HI := Lib.hid hI
    have hsW : w.heap.size + 4 ≤ W.heap.size := by obtain ⟨_, _, _, _, _, _, _, _, _, _, _, _, h9⟩ := hI; exact h9
    clear hI
    dsimp only [ridE]
    gi_wp2_with fail
    exact hK _ _ ((KeepsOthers.alloc _ _).from _) (KpA.of_below ((Below.refl _ W).alloc (Nat.le_refl _) _) (by omega)) ((afI_own (p := p) (k := k) (most := most) (B := W0.heap.size) (by omega)).alloc _ HI.out) ⟨W.heap.size, hsW, Blk.new _ _ _, rfl⟩
  case body =>
    rintro lr pre x a' W hlr hrec hI ⟨Bx, hBx, bX, rfl⟩ hlen
    have HI := Lib.hid hI
    obtain ⟨A, n, c, j0, j1, j2, j3, j4, j5, j6, j7, j8, j9⟩ := hI
    have hcn := j3.cell 0
    have hfn := j3.frozen 0
    have hc0' := j5.cell 0
    have hc1' := j5.cell 1
    have hcm := j6.cell 0
    have hx0 := bX.cell 0
    have hx1 := bX.cell 1
    simp only [List.getElem?_toArray, List.getElem?_cons_zero, List.getElem?_cons_succ] at hcn hc0' hc1' hcm hx0 hx1
    rw [show w.heap.size + 2 = w.heap.size + 1 + 1 from rfl] at hcn hfn
    have hn5 : n ≤ 65280 := by
      have h1 := List.length_filter_le (behind p k) pre
      omega
    have hn0 : (0 : Int) ≤ (n : Int) := Int.natCast_nonneg _
    have HJ := Lib.hid (And.intro j0 (And.intro j3 (And.intro j4 (And.intro j5 (And.intro j6 (And.intro j7 (And.intro j8 bX)))))))
    clear j0 j3 j4 j5 j6 j7 j8 bX hlen hrec hlr
    by_cases hst : most ≤ (n : Int)
    · gi_wp2_with fail
      exact ⟨(KeepsOthers.refl _).from _, rfl, pre, x, rfl, HI.out, by rw [← HJ.out.1]; exact hst⟩
    · have hbx : behind p k x = true ∨ behind p k x = false := by cases behind p k x <;> simp
      rcases hbx with hbx | hbx
      · have HBX := Lib.hid hbx
        obtain ⟨i0, hi, hz0, hz1, hz2⟩ := info_parts Tryd.dkinfo32
        by_cases hb1 : p < x.1
        · clear hbx
          gi_wp2_with (gi_at_builtin; refine wpListIn_append_own _ rfl (.tmp 35) (.tmp 37) 41 rfl (w.heap.size + 1) 32 i0 (.agg #[.int .i64 0, .int .i64 0]) 2 16 Tryd.underlying41 hi hz0 hz1 hz2 rfl (by decide) _ n _ rfl (HJ.out.2.2.1.alloc _) ⟨W.heap.size, 0, none⟩ 1 1 [.int .i64 x.1, .int .i64 x.2] rfl rfl (World.news_of_block (heap_alloc_new _ _)) (by intro u hu; simp at hu; rcases hu with rfl | rfl <;> rfl) (by unfold maxLen; omega) (by omega) (by simp; omega) ?_)
          intro v5 w5 hown5 hgr5 _
          obtain ⟨A5, c5, rfl, _, _⟩ := own_shape2 hown5
          obtain ⟨⟨e1, e2⟩, hfin⟩ := afI_step HJ.out.1 HJ.out.2.1 HJ.out.2.2.1 HJ.out.2.2.2.1 HJ.out.2.2.2.2.1 HJ.out.2.2.2.2.2.1 j9 _ hgr5 hown5 HBX.out (by omega)
          have HF := Lib.hid hfin
          rw [show w.heap.size + 2 = w.heap.size + 1 + 1 from rfl] at e1 e2
          clear hown5 hgr5 hfin
          gi_wp2_with fail
          exact HF.out
        · have hb2 : x.1 = p := by simp [behind, hb1] at hbx; exact hbx.1
          have hb3 : k < x.2 := by simp [behind, hb1] at hbx; exact hbx.2
          clear hbx
          gi_wp2_with (gi_at_builtin; refine wpListIn_append_own _ rfl (.tmp 35) (.tmp 37) 41 rfl (w.heap.size + 1) 32 i0 (.agg #[.int .i64 0, .int .i64 0]) 2 16 Tryd.underlying41 hi hz0 hz1 hz2 rfl (by decide) _ n _ rfl (HJ.out.2.2.1.alloc _) ⟨W.heap.size, 0, none⟩ 1 1 [.int .i64 p, .int .i64 x.2] rfl rfl (World.news_of_block (heap_alloc_new _ _)) (by intro u hu; simp at hu; rcases hu with rfl | rfl <;> rfl) (by unfold maxLen; omega) (by omega) (by simp; omega) ?_)
          intro v5 w5 hown5 hgr5 _
          rw [show ([Value.int .i64 p, .int .i64 x.2] : List Value) = [.int .i64 x.1, .int .i64 x.2] by rw [hb2]] at hown5
          obtain ⟨A5, c5, rfl, _, _⟩ := own_shape2 hown5
          obtain ⟨⟨e1, e2⟩, hfin⟩ := afI_step HJ.out.1 HJ.out.2.1 HJ.out.2.2.1 HJ.out.2.2.2.1 HJ.out.2.2.2.2.1 HJ.out.2.2.2.2.2.1 j9 _ hgr5 hown5 HBX.out (by omega)
          have HF := Lib.hid hfin
          rw [show w.heap.size + 2 = w.heap.size + 1 + 1 from rfl] at e1 e2
          clear hown5 hgr5 hfin
          gi_wp2_with fail
          exact HF.out
      · have HF := Lib.hid (show AfI w p k most (pre ++ [x]) W from by
          obtain ⟨A, n, c, h⟩ := HI.out
          refine ⟨A, n, c, ?_⟩
          rw [List.filter_append, show [x].filter (behind p k) = [] by simp [hbx], List.append_nil]
          exact h)
        have hb1 : ¬ p < x.1 := fun h => by simp [behind, h] at hbx
        by_cases hb2 : x.1 = p
        · have hb3 : ¬ k < x.2 := fun h => by simp [behind, hb2, h] at hbx
          clear hbx
          gi_wp2_with fail
          exact ⟨(KeepsOthers.refl _).from _, KpA.of_below (Below.refl _ _) (by omega), HF.out⟩
        · clear hbx
          gi_wp2_with fail
          exact ⟨(KeepsOthers.refl _).from _, KpA.of_below (Below.refl _ _) (by omega), HF.out⟩
  case done =>
    rintro Dd ys W hDd rfl hI hK
    obtain ⟨A, n, c, j0, j1, j2, j3, j4, j5, j6, j7, j8, j9⟩ := hI
    have hcn := j3.cell 0
    simp only [List.getElem?_toArray, List.getElem?_cons_zero] at hcn
    rw [show w.heap.size + 2 = w.heap.size + 1 + 1 from rfl] at hcn
    have HF := Lib.hid (show RidsRet (aftH (pslots xs) p k most) w (.returned (.slice A n c)) (W.putObj Dd (.deferred none)) from ⟨_, rfl, by
      rw [aft_done (by rw [← j0]; exact j8), ← j0]
      exact own_base2 (own_notcells (grownBy_putObj' W Dd (.deferred none)) (fun r e => by cases e; exact ⟨_, hK, rfl⟩) j4) (by omega), j7.grown (grownBy_putObj' W Dd (.deferred none)) j7.size (fun r e => by cases e; omega)⟩)
    clear j0 j3 j4 j5 j6 j7 j8 j9
    gi_wp2
    refine ⟨by simp, .inl ⟨_, _, rfl, run_takeDeferred hK, ?_⟩⟩
    refine ⟨_, results_tmp rfl _ _ _, ?_⟩
    exact HF.out
  case stop =>
    rintro Dd cc pre W hDd hpre ⟨rfl, pre0, x, rfl, hI, hge⟩ hK
    obtain ⟨A, n, c, j0, j1, j2, j3, j4, j5, j6, j7, j8, j9⟩ := hI
    have hcn := j3.cell 0
    simp only [List.getElem?_toArray, List.getElem?_cons_zero] at hcn
    rw [show w.heap.size + 2 = w.heap.size + 1 + 1 from rfl] at hcn
    have HF := Lib.hid (show RidsRet (aftH (pslots xs) p k most) w (.returned (.slice A n c)) (W.putObj Dd (.deferred none)) from ⟨_, rfl, by
      rw [aft_stop hpre hge (by rw [← j0]; exact j8), ← j0]
      exact own_base2 (own_notcells (grownBy_putObj' W Dd (.deferred none)) (fun r e => by cases e; exact ⟨_, hK, rfl⟩) j4) (by omega), j7.grown (grownBy_putObj' W Dd (.deferred none)) j7.size (fun r e => by cases e; omega)⟩)
    clear j0 j3 j4 j5 j6 j7 j8 j9 hpre hge
    gi_wp2
    refine ⟨by simp, .inl ⟨_, _, rfl, run_takeDeferred hK, ?_⟩⟩
    refine ⟨_, results_tmp rfl _ _ _, ?_⟩
    exact HF.out
end Go.Proofs.YtdnegfjddpdmhaaDoor
