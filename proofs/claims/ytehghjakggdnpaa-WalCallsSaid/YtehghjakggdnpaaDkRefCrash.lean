/-
  The contracts of the document's Crash and Flush.
-/
import Derived.Test.YtehghjakggdnpaaDkRefWrite
import Derived.Test.YtehghjakggdnpaaDkFlush
namespace Go.Proofs.Ytehghjakggdnpaa
open Go.RowKit Go.Lib

/-- what holds at the head of the loop: the first k writes lie -/
def RcRel (g : Nat) (L W : Value) (wv : List Value) (G : Nat → Prop) (s : DS) (kk : Nat) (w : World) (i : Value) (wr : World) : Prop :=
  ∃ (k : Nat) (lv : List Value), k ≤ kk ∧ i = .int .i64 k ∧ Blk wr g 58 #[L, W] ∧ wr.ownsRow 0 38 1 L s.last.length lv ∧ AllIn wr G lv (lay s.last (s.wr.take k)) ∧ wr.ownsRow 0 89 2 W s.wr.length (Rows' (wrow s.wr wv)) ∧ AllIn wr G wv (s.wr.map (·.2)) ∧ Chg G w wr ∧ wr.heap.size = w.heap.size
theorem DataIn.stay {w w' : World} {F G : Nat → Prop} {v : Value} {b : List Int} (h : DataIn w G v b) (hc : Chg F w w') (hF : ∀ q cur, F q → ¬ Blk w q 5 cur) : DataIn w' G v b :=
  ⟨own_chg h.1 hc fun q hq hf => by obtain ⟨cur, hb⟩ := own_blk h.1 q hq; exact hF q cur hf hb, h.2⟩
theorem AllIn.stay {w w' : World} {F G : Nat → Prop} {vs : List Value} {bs : List (List Int)} (h : AllIn w G vs bs) (hc : Chg F w w') (hF : ∀ q cur, F q → ¬ Blk w q 5 cur) : AllIn w' G vs bs :=
  ⟨h.1, fun i v b h1 h2 => (h.2 i v b h1 h2).stay hc hF⟩

theorem splice_take {cur cs : List Value} (h : cs.length ≤ 64) : (splice cur 0 cs).take 64 = cs ++ (cur.take 64).drop cs.length := by
  unfold splice
  rw [List.take_zero, List.nil_append, Nat.zero_add, List.take_append, List.take_of_length_le h, List.drop_take]
theorem refCrash_end {w w2 : World} {g gl cl : Nat} {G : Nat → Prop} {s t : DS} {W : Value} {lv : List Value} {Lst : List (List Int)} (q1 : Blk w2 g 58 #[.slice (some ⟨gl, 0, none⟩) s.last.length cl, W]) (q2 : w2.ownsRow 0 38 1 (.slice (some ⟨gl, 0, none⟩) s.last.length cl) s.last.length lv)
    (q3 : AllIn w2 (Ext G w w2) lv Lst) (qch : Chg G w w2) (hL64 : ∀ b ∈ Lst, b.length = 64) (hLn : Lst.length = s.last.length) (ht : t = ⟨Lst, []⟩) (f1 : G g) (f2 : G gl) (f4 : ∀ k, G k → k < w.heap.size) (ok : s.Ok) :
    RefRet g G t (.tuple #[]) w (.returned (.tuple #[])) (w2.setCell ⟨g, 1, none⟩ (.slice none 0 0)) := by
  have hsz : (w2.setCell ⟨g, 1, none⟩ (.slice none 0 0)).heap.size = w2.heap.size := by simp [World.setCell]
  have hc : Chg (fun q => q = g) w2 (w2.setCell ⟨g, 1, none⟩ (.slice none 0 0)) := (Chg.refl (fun q => q = g) w2).setCell (fun _ => rfl) _
  refine ⟨rfl, ?_, qch.trans' hc (fun q _ e => e ▸ f1)⟩
  rw [ht]
  refine ⟨_, .slice none 0 0, lv, [], by simpa using q1.put 1 (.slice none 0 0), ?_, ?_, World.ownsRow_nil _ _ _ _, AllIn.nil _ _, .inl f1, ?_, fun k hk => (by cases hk), ?_, ⟨by rw [hLn]; exact ok.pos, by rw [hLn]; exact ok.le, hL64, fun p hp => (by simp at hp), by simp⟩⟩
  · show World.ownsRow _ _ _ _ _ Lst.length _
    rw [hLn]
    refine own_chg q2 hc fun q hq e => ?_
    obtain ⟨cu, hb⟩ := own_blk q2 q hq
    exact hb.ne q1 (by decide) e
  · refine (q3.stay hc fun q cur e hb => hb.ne q1 (by decide) e).mono fun q hq => ?_
    rcases hq with h | h
    · exact .inl h
    · exact .inr ⟨h.1, by rw [hsz]; exact h.2⟩
  · intro q hq
    simp only [Value.ownBlock, Option.some.injEq] at hq
    subst hq
    exact .inl f2
  · intro q hq
    rcases hq with h | h
    · have := f4 q h; have := qch.size; omega
    · exact h.2

set_option maxRecDepth 100000 in
set_option maxHeartbeats 6400000 in
theorem refCrash_some {w : World} {g : Nat} {G : Nat → Prop} {s : DS} (h : RefAt w g G s) (keep torn : Int) (hn : 0 < s.wr.length) :
    Calls Try.prog 25 #[.pointer (some ⟨g, 0, none⟩), .int .i64 keep, .int .i64 torn] w (RefRet g G (s.crash keep torn) (.tuple #[]) w) := by
  have HD := Lib.hid h
  obtain ⟨L, W, lv, wv, d1, d2, d3, d4, d5, f1, f2, f3, f4, f6⟩ := h
  have hpos := f6.pos
  obtain ⟨gl, cl, rfl, _, hgl⟩ := d2.form (by omega)
  obtain ⟨gw, cw, rfl, _, hgw⟩ := d4.form hn
  have c1 := d1.cell 1
  simp only [List.getElem?_toArray, List.getElem?_cons_zero, List.getElem?_cons_succ] at c1
  have few := f6.wfew
  have hle := f6.le
  obtain ⟨kx, hkx⟩ : ∃ kx, kx = (if (0 : Int) > keep then 0 else keep) := ⟨_, rfl⟩
  obtain ⟨tx, htx⟩ : ∃ tx, tx = (if (0 : Int) > torn then 0 else torn) := ⟨_, rfl⟩
  obtain ⟨kk, hkk⟩ : ∃ kk, kk = clampN keep s.wr.length := ⟨_, rfl⟩
  obtain ⟨tt, htt⟩ : ∃ tt, tt = clampN torn 64 := ⟨_, rfl⟩
  have hk1 : (if (s.wr.length : Int) < kx then (s.wr.length : Int) else kx) = (kk : Int) := by rw [hkx, hkk]; exact clamp_lo keep s.wr.length
  have ht1 : (if (64 : Int) < tx then (64 : Int) else tx) = (tt : Int) := by rw [htx, htt]; exact clamp_lo torn 64
  have hkn : kk ≤ s.wr.length := by rw [hkk]; exact clamp_le _ _
  have htn : tt ≤ 64 := by rw [htt]; exact clamp_le _ _
  have ht2 : (0 : Int) ≤ (tt : Int) := Int.natCast_nonneg _
  have ht3 : (tt : Int) ≤ 64 := by omega
  have HK := Lib.hid (And.intro hkx.symm (And.intro hk1 (And.intro htx.symm (And.intro ht1 (And.intro hkk htt)))))
  have HX := Lib.hid (And.intro d1 (And.intro d2 (And.intro d3 (And.intro d4 d5))))
  clear hkx hk1 htx ht1 hkk htt d1 d2 d3 d4 d5
  go_enter Try.func25, Try.ntmps25
  go_wp2_with (first
    | refine wpList_max_int rfl (.tmp 9) (.const (.int .i64 0)) 3 3 rfl _ _ _ rfl rfl HK.out.1 ?_
    | refine wpList_min_int rfl (.tmp 10) (.tmp 15) 3 3 rfl _ _ _ rfl rfl HK.out.2.1 ?_
    | refine wpList_max_int rfl (.tmp 17) (.const (.int .i64 0)) 3 3 rfl _ _ _ rfl rfl HK.out.2.2.1 ?_
    | refine wpList_min_int rfl (.tmp 18) (.const (.int .i64 64)) 3 3 rfl _ _ _ rfl rfl HK.out.2.2.2.1 ?_)
  go_loopw [6] (fun i wr => RcRel g (.slice (some ⟨gl, 0, none⟩) s.last.length cl) (.slice (some ⟨gw, 0, none⟩) s.wr.length cw) wv G s kk w i wr) (fun i _ => kk - (intOf i).toNat)
  case atStart => exact ⟨0, lv, by omega, rfl, HX.out.1, HX.out.2.1, by simpa [lay] using HX.out.2.2.1, HX.out.2.2.2.1, HX.out.2.2.2.2, Chg.refl _ _, rfl⟩
  case round =>
    obtain ⟨k, lvk, hk, rfl, b1, b2, b3, b4, b5, hch, hsz⟩ := hrel
    clear c1
    have c0 := b1.cell 0
    have c1 := b1.cell 1
    simp only [List.getElem?_toArray, List.getElem?_cons_zero, List.getElem?_cons_succ] at c0 c1
    have hvl : wv.length = s.wr.length := by have := b5.1; simpa using this
    have hne1 : ¬ g = gl := by
      obtain ⟨cu, hb⟩ := own_blk b2 gl rfl
      exact b1.ne hb (by decide)
    have hne2 : ¬ gw = gl := by
      obtain ⟨cu, hb⟩ := own_blk b2 gl rfl
      obtain ⟨cu', hb'⟩ := own_blk b4 gw rfl
      exact hb'.ne hb (by decide)
    by_cases hlt : k < kk
    · have hkw : k < s.wr.length := by omega
      obtain ⟨v, hv, hd⟩ := b5.at_ (i := k) (by simpa using hkw)
      obtain ⟨p, hp⟩ : ∃ p, p = s.wr[k]'hkw := ⟨_, rfl⟩
      simp only [List.getElem_map, ← hp] at hd
      have hpw := f6.wlen p (by rw [hp]; exact List.getElem_mem _)
      have hrow : ∀ j u, ([.int .i64 p.1, v] : List Value)[j]? = some u → wr.cell? ⟨gw, k * 2 + j, none⟩ = some u := by
        have hwk := wrow_at hkw hv
        have hl : k < (wrow s.wr wv).length := by rw [wrow_len _ _ hvl]; exact hkw
        rw [List.getElem?_eq_getElem hl] at hwk
        have hr2 := own_range b4 (wrow_all _ _) (i := k) hl
        rw [Option.some.inj hwk, ← hp] at hr2
        exact hr2
      have r0 : wr.cell? ⟨gw, k * 2, none⟩ = some (.int .i64 p.1) := hrow 0 _ rfl
      have r1 : wr.cell? ⟨gw, k * 2 + 1, none⟩ = some v := hrow 1 _ rfl
      have hll : lvk.length = s.last.length := by have := b3.1; rw [lay_len] at this; exact this
      obtain ⟨v0, hv0⟩ : ∃ v0, lvk[p.1]? = some v0 := ⟨_, List.getElem?_eq_getElem (by rw [hll]; exact hpw.1)⟩
      have r2 : wr.cell? ⟨gl, p.1, none⟩ = some v0 := by rw [b2.cellAt p.1 (by omega), hv0]
      have r3 : wr.frozen? ⟨gl, p.1, none⟩ = false := b2.frozenAt p.1
      have hk0 : (0 : Int) ≤ (k : Int) := Int.natCast_nonneg _
      have hk1 : (k : Int) < (kk : Int) := by omega
      have hk2 : (k : Int) < (s.wr.length : Int) := by omega
      have hq0 : (0 : Int) ≤ (p.1 : Int) := Int.natCast_nonneg _
      have hq1 : (p.1 : Int) < (s.last.length : Int) := by omega
      obtain ⟨q', c', rfl, _⟩ := hd.form hpw.2
      have HY := Lib.hid (And.intro b1 (And.intro b2 (And.intro b3 (And.intro b4 (And.intro b5 (And.intro hch (And.intro hsz (And.intro hp (And.intro hd hpw)))))))))
      clear b1 b2 b3 b4 b5 hch hsz hp hd hpw hv hv0 hrow hvl hll
      go_wp2_with fail
      go_region_held3 (fun w' => w'.cell? ⟨g, 0, none⟩ = some (.slice (some ⟨gl, 0, none⟩) s.last.length cl) ∧ w'.cell? ⟨g, 1, none⟩ = some (.slice (some ⟨gw, 0, none⟩) s.wr.length cw) ∧ w'.cell? ⟨gw, k * 2, none⟩ = some (.int .i64 p.1) ∧ w'.cell? ⟨gw, k * 2 + 1, none⟩ = some (.slice (some ⟨q', 0, none⟩) 64 c'))
        (first
          | exact ⟨(World.cell?_setCell_other wr ⟨gl, p.1, none⟩ ⟨g, 0, none⟩ _ (fun e => hne1 (by injection e with e; exact e.symm))).trans c0,
              (World.cell?_setCell_other wr ⟨gl, p.1, none⟩ ⟨g, 1, none⟩ _ (fun e => hne1 (by injection e with e; exact e.symm))).trans c1,
              (World.cell?_setCell_other wr ⟨gl, p.1, none⟩ ⟨gw, k * 2, none⟩ _ (fun e => hne2 (by injection e with e; exact e.symm))).trans r0,
              (World.cell?_setCell_other wr ⟨gl, p.1, none⟩ ⟨gw, k * 2 + 1, none⟩ _ (fun e => hne2 (by injection e with e; exact e.symm))).trans r1⟩
          | go_keep)
        (fail)
      obtain ⟨w2, hw2⟩ : ∃ w2, w2 = (wr.setCell ⟨gl, p.1, none⟩ (.slice (some ⟨q', 0, none⟩) 64 c')).drew := ⟨_, rfl⟩
      rw [← hw2]
      have HF : Hid (RcRel g (.slice (some ⟨gl, 0, none⟩) s.last.length cl) (.slice (some ⟨gw, 0, none⟩) s.wr.length cw) wv G s kk w (.int .i64 ((k : Int) + 1)) w2) := by
        obtain ⟨b1, b2, b3, b4, b5, hch, hsz, hp, hd, hpw⟩ := HY.out
        have hc : Chg (fun q => q = gl) wr w2 := by rw [hw2]; exact ((Chg.refl (fun q => q = gl) wr).setCell (fun _ => rfl) _).drew
        have hno : ∀ q cur, q = gl → ¬ Blk wr q 5 cur := by
          intro q cur hq hb
          obtain ⟨cu, hb2⟩ := own_blk b2 gl rfl
          subst hq
          exact hb.ne hb2 (by decide) rfl
        refine Lib.hid ⟨k + 1, lvk.set p.1 (.slice (some ⟨q', 0, none⟩) 64 c'), by omega, by go_num, b1.chg hc hne1, ?_, ?_, ?_, b5.stay hc hno, hch.trans' hc (fun q _ e => e ▸ f2 gl rfl), ?_⟩
        · rw [hw2]
          have := b2.stored p.1 (.slice (some ⟨q', 0, none⟩) 64 c')
          exact this.1
        · rw [lay_next (by omega), ← hp]
          exact (b3.stay hc hno).set (hd.stay hc hno) p.1
        · exact own_chg b4 hc fun q hq e => hne2 (by simp only [Value.ownBlock, Option.some.injEq] at hq; omega)
        · rw [hw2]; simpa [World.setCell] using hsz
      clear hw2 HY
      go_wp2
      go_roundw
      case rel => exact HF.out
      case measure => simp [intOf]; omega
    · obtain rfl : k = kk := by omega
      by_cases hlast : k < s.wr.length
      · obtain ⟨v, hv, hd⟩ := b5.at_ (i := k) (by simpa using hlast)
        obtain ⟨p, hp⟩ : ∃ p, p = s.wr[k]'hlast := ⟨_, rfl⟩
        simp only [List.getElem_map, ← hp] at hd
        have hpw := f6.wlen p (by rw [hp]; exact List.getElem_mem _)
        have hrow : ∀ j u, ([.int .i64 p.1, v] : List Value)[j]? = some u → wr.cell? ⟨gw, k * 2 + j, none⟩ = some u := by
          have hwk := wrow_at hlast hv
          have hl : k < (wrow s.wr wv).length := by rw [wrow_len _ _ hvl]; exact hlast
          rw [List.getElem?_eq_getElem hl] at hwk
          have hr2 := own_range b4 (wrow_all _ _) (i := k) hl
          rw [Option.some.inj hwk, ← hp] at hr2
          exact hr2
        have r0 : wr.cell? ⟨gw, k * 2, none⟩ = some (.int .i64 p.1) := hrow 0 _ rfl
        have r1 : wr.cell? ⟨gw, k * 2 + 1, none⟩ = some v := hrow 1 _ rfl
        have hll : lvk.length = s.last.length := by have := b3.1; rw [lay_len] at this; exact this
        have hpl : p.1 < (lay s.last (s.wr.take k)).length := by rw [lay_len]; exact hpw.1
        obtain ⟨v0, hv0, hd0⟩ := b3.at_ hpl
        obtain ⟨old, hold⟩ : ∃ old, old = (lay s.last (s.wr.take k))[p.1]'hpl := ⟨_, rfl⟩
        rw [← hold] at hd0
        have hold64 : old.length = 64 := by rw [hold]; exact lay_ok f6 k _ (List.getElem_mem _)
        have r2 : wr.cell? ⟨gl, p.1, none⟩ = some v0 := by rw [b2.cellAt p.1 (by omega), hv0]
        obtain ⟨q', c', rfl, _, hq', hrd, _, hc1, hc2⟩ := hd.form hpw.2
        obtain ⟨q0, c00, rfl, _, hq0', hrd0, _⟩ := hd0.form hold64
        have hk0 : (0 : Int) ≤ (k : Int) := Int.natCast_nonneg _
        have hk2 : (k : Int) < (s.wr.length : Int) := by omega
        have hp0 : (0 : Int) ≤ (p.1 : Int) := Int.natCast_nonneg _
        have hp1 : (p.1 : Int) < (s.last.length : Int) := by omega
        have htc : (tt : Int) ≤ (c' : Int) := by omega
        have lgl := (b2.lt gl rfl).2
        have lgg := b1.lt
        have lgw := (b4.lt gw rfl).2
        have HY := Lib.hid (And.intro b1 (And.intro b2 (And.intro b3 (And.intro b4 (And.intro b5 (And.intro hch (And.intro hsz (And.intro hp (And.intro hd (And.intro hpw (And.intro hold (And.intro hold64 (And.intro hrd (And.intro hrd0 hpl))))))))))))))
        clear b1 b2 b3 b4 b5 hch hsz hp hd hpw hv hv0 hd0 hrow hvl hll hold hold64 hrd hrd0
        go_wp2_with fail
        have e0 : (wr.alloc (.cells #[.int .i64 p.1, .slice (some ⟨q', 0, none⟩) 64 c'] 89)).cell? ⟨g, 0, none⟩ = some (.slice (some ⟨gl, 0, none⟩) s.last.length cl) := (World.cell?_alloc_lt wr _ ⟨g, 0, none⟩ lgg).trans c0
        have e2 : (wr.alloc (.cells #[.int .i64 p.1, .slice (some ⟨q', 0, none⟩) 64 c'] 89)).cell? ⟨gl, p.1, none⟩ = some (.slice (some ⟨q0, 0, none⟩) 64 c00) := (World.cell?_alloc_lt wr _ ⟨gl, p.1, none⟩ lgl).trans r2
        have hblkB := Blk.new wr 89 #[.int .i64 (p.1 : Int), .slice (some ⟨q', 0, none⟩) 64 c']
        have e1 := hblkB.cell 0
        simp only [List.getElem?_toArray, List.getElem?_cons_zero] at e1
        have HBB := Lib.hid hblkB
        have hrd1 := Lib.hid (((HY.out.2.2.2.2.2.2.2.2.2.2.2.2.2.1).alloc (Nat.le_refl _) (.cells #[.int .i64 (p.1 : Int), .slice (some ⟨q', 0, none⟩) 64 c'] 89)).more (B' := (wr.alloc (.cells #[.int .i64 (p.1 : Int), .slice (some ⟨q', 0, none⟩) 64 c'] 89)).heap.size) (by simp))
        clear hblkB
        go_region_held3 (fun w' => w'.cell? ⟨g, 0, none⟩ = some (.slice (some ⟨gl, 0, none⟩) s.last.length cl) ∧ w'.cell? ⟨wr.heap.size, 0, none⟩ = some (.int .i64 p.1) ∧ w'.cell? ⟨gl, p.1, none⟩ = some (.slice (some ⟨q0, 0, none⟩) 64 c00))
          (first
            | exact ⟨e0, e1, e2⟩
            | exact ⟨(b2.cell (p := ⟨g, 0, none⟩) (World.block_lt_of_cell? _ _ e0)).trans e0, (b2.cell (p := ⟨wr.heap.size, 0, none⟩) (World.block_lt_of_cell? _ _ e1)).trans e1, (b2.cell (p := ⟨gl, p.1, none⟩) (World.block_lt_of_cell? _ _ e2)).trans e2⟩
            | go_keep)
          (first
            | (go_at_call 14; refine (copyBytes_64 (some ⟨q0, 0, none⟩) c00 old (wr.alloc (.cells #[.int .i64 p.1, .slice (some ⟨q', 0, none⟩) 64 c'] 89)).drew hrd1.out).mono ?_; rintro e w2 ⟨A2, c2, rfl, o2, b2⟩))
        have hbel : Below wr.heap.size wr w2 := ((Below.refl wr.heap.size wr).alloc (Nat.le_refl _) (.cells #[.int .i64 (p.1 : Int), .slice (some ⟨q', 0, none⟩) 64 c'] 89)).trans ((show Below (wr.alloc (.cells #[.int .i64 (p.1 : Int), .slice (some ⟨q', 0, none⟩) 64 c'] 89)).heap.size (wr.alloc (.cells #[.int .i64 (p.1 : Int), .slice (some ⟨q', 0, none⟩) 64 c'] 89)) w2 from ⟨b2.os, b2.tape, b2.output, b2.size, b2.block⟩).mono (by simp))
        have hB2 : Blk w2 wr.heap.size 89 #[.int .i64 (p.1 : Int), .slice (some ⟨q', 0, none⟩) 64 c'] := (b2.block wr.heap.size (by simp)).trans HBB.out
        have o2b : ∀ q, (Value.slice A2 64 c2).ownBlock = some q → wr.heap.size + 1 ≤ q := fun q hq => by have := (o2.lt q hq).1; simpa using this
        obtain ⟨q2, cap2, cur, hv2, hcur, hcs2, htk2⟩ : ∃ q2 cap2 cur, Value.slice A2 64 c2 = .slice (some ⟨q2, 0, none⟩) 64 cap2 ∧ Blk w2 q2 5 cur ∧ (64 ≤ cur.size ∧ 64 ≤ cap2 ∧ cap2 ≤ maxLen ∧ cur.size = cap2) ∧ cur.toList.take 64 = cells old := by
          rcases o2.2 with ⟨_, h0⟩ | ⟨g', cap', cur, hv, _, hg, hn, hm, hs, ht⟩
          · omega
          · exact ⟨g', cap', cur, hv, hg, ⟨by omega, hn, hm, by omega⟩, by simpa using ht⟩
        cases hv2
        have hq2 := o2b q2 rfl
        have d0 : w2.cell? ⟨g, 0, none⟩ = some (.slice (some ⟨gl, 0, none⟩) s.last.length cl) := (hbel.cell lgg).trans c0
        have d1 := hB2.cell 0
        have d2 := hB2.cell 1
        simp only [List.getElem?_toArray, List.getElem?_cons_zero, List.getElem?_cons_succ] at d1 d2
        have hp64 : (cells p.2).length = 64 := by rw [cells_len]; exact HY.out.2.2.2.2.2.2.2.2.2.1.2
        have htk : ((cells p.2).take tt).length = tt := by rw [List.length_take, hp64]; omega
        have HZ := Lib.hid (And.intro hbel (And.intro hB2 (And.intro hcur (And.intro hcs2 (And.intro htk2 (And.intro htk (HY.out.2.2.2.2.2.2.2.2.2.2.2.2.1.below hbel (Nat.le_refl _))))))))
        clear hbel hB2 o2 o2b b2 hcur hcs2 htk2 htk hp64 HBB hrd1 e0 e1 e2 c0 c1 r0 r1 r2
        go_wp2_with (refine wpList_copy_chg rfl (.tmp 69) (.tmp 73) 38 38 rfl 5 Try.underlying38 Try.size5 _ _ _ _ _ _ rfl rfl q2 0 cur.toList 5 ?m1 ((cells p.2).take tt) ?m2 ?m3 ?m4 ?m5 ?_)
        case m1 => have := HZ.out.2.2.1; simpa using this
        case m2 => rw [HZ.out.2.2.2.2.2.1]; exact (Nat.min_eq_left htn).symm
        case m3 =>
          intro _ j v hv
          rw [List.getElem?_take] at hv
          split at hv
          · obtain ⟨ad, e, _, hc⟩ := HZ.out.2.2.2.2.2.2.2 (by omega)
            cases e
            have := hc j v hv
            rwa [Addr.add_mid, Nat.zero_add] at this
          · cases hv
        case m4 => rw [HZ.out.2.2.2.2.2.1]; have := HZ.out.2.2.2.1.1; simp; omega
        case m5 => exact fun v hv => cells_one _ v (List.mem_of_mem_take hv)
        intro w3 hb3 hc3 hs3
        have d0' : w3.cell? ⟨g, 0, none⟩ = some (.slice (some ⟨gl, 0, none⟩) s.last.length cl) := (hc3.cell (World.block_lt_of_cell? _ _ d0) (fun e => by have e' : g = q2 := e; omega)).trans d0
        have d1' : w3.cell? ⟨wr.heap.size, 0, none⟩ = some (.int .i64 p.1) := (hc3.cell (World.block_lt_of_cell? _ _ d1) (fun e => by have e' : wr.heap.size = q2 := e; omega)).trans d1
        have hchg3 : Chg Non wr w3 := (Chg.of_below HZ.out.1).trans' hc3 (fun i hi e => by omega)
        have own3 : w3.ownsRow 0 5 1 (.slice (some ⟨q2, 0, none⟩) 64 c2) 64 (cells (tear old p.2 tt)) := by
          refine ⟨by rw [cells_len, tear_len HY.out.2.2.2.2.2.2.2.2.2.2.2.1 HY.out.2.2.2.2.2.2.2.2.2.1.2 htn], .inr ⟨q2, c2, _, rfl, Nat.zero_le _, hb3, HZ.out.2.2.2.1.2.1, HZ.out.2.2.2.1.2.2.1, ?_, ?_⟩⟩
          · have := HZ.out.2.2.2.1.2.2.2
            rw [Nat.mul_one, List.size_toArray, length_splice _ _ _ (by rw [HZ.out.2.2.2.2.2.1]; have := HZ.out.2.2.2.1.1; simp; omega)]
            simpa using this
          · rw [Nat.mul_one, splice_take (by rw [HZ.out.2.2.2.2.2.1]; exact htn), HZ.out.2.2.2.2.1, cells_tear HY.out.2.2.2.2.2.2.2.2.2.1.2 htn]
        have L3 := own_chg HY.out.2.1 hchg3 (fun _ _ h => h.elim)
        have d3' : w3.frozen? ⟨gl, p.1, none⟩ = false := L3.frozenAt p.1
        have d4' : ∃ u, w3.cell? ⟨gl, p.1, none⟩ = some u := by
          have hl3 : p.1 < lvk.length := by have := HY.out.2.2.1.1; rw [this]; exact hpl
          exact ⟨lvk[p.1], by rw [L3.cellAt p.1 (by omega), List.getElem?_eq_getElem hl3]⟩
        obtain ⟨u4, d4'⟩ := d4'
        have HW := Lib.hid (And.intro hchg3 (And.intro own3 (And.intro L3 hs3)))
        clear hb3 hc3 hs3 hchg3 own3 L3 d0 d1 d2
        go_wp2_with fail
        go_region_held3 (fun w' => w'.cell? ⟨g, 0, none⟩ = some (.slice (some ⟨gl, 0, none⟩) s.last.length cl) ∧ w'.cell? ⟨wr.heap.size, 0, none⟩ = some (.int .i64 p.1))
          (first
            | exact ⟨(World.cell?_setCell_other w3 ⟨gl, p.1, none⟩ ⟨g, 0, none⟩ _ (fun e => hne1 (by injection e with e; exact e.symm))).trans d0',
                (World.cell?_setCell_other w3 ⟨gl, p.1, none⟩ ⟨wr.heap.size, 0, none⟩ _ (fun e => by injection e with e; omega)).trans d1'⟩
            | exact ⟨d0', d1'⟩
            | go_keep)
          (fail)
        obtain ⟨w4, hw4⟩ : ∃ w4, w4 = (w3.setCell ⟨gl, p.1, none⟩ (.slice (some ⟨q2, 0, none⟩) 64 c2)).drew := ⟨_, rfl⟩
        rw [← hw4]
        obtain ⟨b1, b2, b3, b4, b5, hch, hsz, hp, hd, hpw, hold, hold64, _⟩ := HY.out
        have hc34 : Chg (fun q => q = gl) w3 w4 := by rw [hw4]; exact ((Chg.refl (fun q => q = gl) w3).setCell (fun _ => rfl) _).drew
        have hcr4 : Chg (fun q => q = gl) wr w4 := (HW.out.1.mono (G := fun q => q = gl) fun _ _ h => h.elim).trans' hc34 (fun _ _ h => h)
        have hno : ∀ q cur, q = gl → ¬ Blk wr q 5 cur := by
          intro q cur hq hb
          obtain ⟨cu, hb2⟩ := own_blk b2 gl rfl
          subst hq
          exact hb.ne hb2 (by decide) rfl
        have own4 : w4.ownsRow 0 5 1 (.slice (some ⟨q2, 0, none⟩) 64 c2) 64 (cells (tear old p.2 tt)) := own_chg HW.out.2.1 hc34 fun q hq e => by
          obtain ⟨cu, hb⟩ := own_blk HW.out.2.1 q hq
          obtain ⟨cu2, hb2⟩ := own_blk HW.out.2.2.1 gl rfl
          exact hb.ne hb2 (by decide) e
        have htl : (tear old p.2 tt).length = 64 := tear_len hold64 hpw.2 htn
        have hL4 : w4.ownsRow 0 38 1 (.slice (some ⟨gl, 0, none⟩) s.last.length cl) s.last.length (lvk.set p.1 (.slice (some ⟨q2, 0, none⟩) 64 c2)) := by
          rw [hw4]
          exact (HW.out.2.2.1.stored p.1 (.slice (some ⟨q2, 0, none⟩) 64 c2)).1
        have hq4 : q2 < w4.heap.size := (own4.lt q2 rfl).2
        have hd4 : DataIn w4 (Ext G w w4) (.slice (some ⟨q2, 0, none⟩) 64 c2) (tear old p.2 tt) := by
          refine ⟨by rw [htl]; exact own4, fun q hq => ?_⟩
          simp only [Value.ownBlock, Option.some.injEq] at hq
          subst hq
          exact .inr ⟨by omega, hq4⟩
        have q34 := ((b3.stay hcr4 hno).mono (G := Ext G w w4) fun q hq => .inl hq).set hd4 p.1
        have q14 := b1.chg hcr4 hne1
        have hch4 : Chg G w w4 := hch.trans' hcr4 (fun q _ e => e ▸ f2 gl rfl)
        have hcr : s.crash keep torn = ⟨(lay s.last (s.wr.take k)).set p.1 (tear old p.2 tt), []⟩ := by
          rw [crash_at HK.out.2.2.2.2.1 hlast, ← hp, getD_lt hpl, ← hold, HK.out.2.2.2.2.2]
        have hL64 : ∀ b ∈ (lay s.last (s.wr.take k)).set p.1 (tear old p.2 tt), b.length = 64 := by
          intro b hb
          rcases List.mem_or_eq_of_mem_set hb with h | h
          · exact lay_ok f6 k b h
          · rw [h]; exact htl
        have hLn : ((lay s.last (s.wr.take k)).set p.1 (tear old p.2 tt)).length = s.last.length := by rw [List.length_set, lay_len]
        have x1 := q14.cell 1
        simp only [List.getElem?_toArray, List.getElem?_cons_zero, List.getElem?_cons_succ] at x1
        have xf := q14.frozen 1
        have HE := Lib.hid (refCrash_end q14 hL4 q34 hch4 hL64 hLn hcr f1 (f2 gl rfl) f4 f6)
        clear b1 b2 b3 b4 b5 hch hsz hp hd hpw hold hold64 hc34 hcr4 hno own4 htl hL4 hq4 hd4 q34 q14 hch4 hcr hL64 hLn hw4 HW HY HZ d0' d1' d3' d4'
        go_wp2
        go_end0
        exact HE.out
      · have hL64 := lay_ok f6 k
        have hLn : (lay s.last (s.wr.take k)).length = s.last.length := lay_len _ _
        have hcr := crash_all (torn := torn) HK.out.2.2.2.2.1 hlast
        have xf := b1.frozen 1
        have hk1 : ¬ ((k : Int) < (s.wr.length : Int)) := by omega
        have HE := Lib.hid (refCrash_end b1 b2 (b3.mono fun q hq => .inl hq) hch hL64 hLn hcr f1 (f2 gl rfl) f4 f6)
        clear b2 b3 b4 b5 hch hL64 hLn hcr b1 hsz hvl
        go_wp2
        go_end0
        exact HE.out

theorem RefAt.form1 {w : World} {g : Nat} {G : Nat → Prop} {s : DS} (h : RefAt w g G s) : ∃ A c B c', w.cell? ⟨g, 0, none⟩ = some (.slice A s.last.length c) ∧ w.cell? ⟨g, 1, none⟩ = some (.slice B s.wr.length c') ∧ w.frozen? ⟨g, 1, none⟩ = false := by
  obtain ⟨L, W, lv, wv, d1, d2, d3, d4, d5, _⟩ := h
  obtain ⟨A, c, rfl, _⟩ := own_form d2
  obtain ⟨B, c', rfl, _⟩ := own_form d4
  exact ⟨A, c, B, c', by simpa using d1.cell 0, by simpa using d1.cell 1, d1.frozen 1⟩

set_option maxRecDepth 100000 in
set_option maxHeartbeats 3200000 in
theorem refCrash_nil {w : World} {g : Nat} {G : Nat → Prop} {s : DS} (h : RefAt w g G s) (keep torn : Int) (hn : s.wr.length = 0) :
    Calls Try.prog 25 #[.pointer (some ⟨g, 0, none⟩), .int .i64 keep, .int .i64 torn] w (RefRet g G (s.crash keep torn) (.tuple #[]) w) := by
  have hpos := h.ok.pos
  obtain ⟨L, W, lv, wv, d1, d2, d3, d4, d5, f1, f2, f3, f4, f6⟩ := h
  obtain ⟨gl, cl, rfl, _, hgl⟩ := d2.form (by omega)
  obtain ⟨A, c, rfl, hnc, hcm⟩ := own_form d4
  rw [hn] at d1 d4 hnc
  have c1 := d1.cell 1
  have xf := d1.frozen 1
  simp only [List.getElem?_toArray, List.getElem?_cons_zero, List.getElem?_cons_succ] at c1
  obtain ⟨kx, hkx⟩ : ∃ kx, kx = (if (0 : Int) > keep then 0 else keep) := ⟨_, rfl⟩
  obtain ⟨tx, htx⟩ : ∃ tx, tx = (if (0 : Int) > torn then 0 else torn) := ⟨_, rfl⟩
  obtain ⟨tt, htt⟩ : ∃ tt, tt = clampN torn 64 := ⟨_, rfl⟩
  have hk1 : (if (0 : Int) < kx then (0 : Int) else kx) = 0 := by
    have := clamp_lo keep 0
    rw [← hkx] at this
    rw [show (0 : Int) = ((0 : Nat) : Int) from rfl, this]
    unfold clampN; omega
  have ht1 : (if (64 : Int) < tx then (64 : Int) else tx) = (tt : Int) := by rw [htx, htt]; exact clamp_lo torn 64
  have HK := Lib.hid (And.intro hkx.symm (And.intro hk1 (And.intro htx.symm ht1)))
  have hcr : s.crash keep torn = ⟨s.last, []⟩ := by
    rw [crash_all (k := 0) (by unfold clampN; omega) (by omega)]; rfl
  have HE := Lib.hid (refCrash_end d1 d2 (d3.mono fun q hq => .inl hq) (Chg.refl G w) f6.len rfl hcr f1 (f2 gl rfl) f4 f6)
  clear hkx hk1 htx htt ht1 d1 d2 d3 d4 d5 hcr
  go_enter Try.func25, Try.ntmps25
  go_wp2_with (first
    | refine wpList_max_int rfl (.tmp 9) (.const (.int .i64 0)) 3 3 rfl _ _ _ rfl rfl HK.out.1 ?_
    | refine wpList_min_int rfl (.tmp 10) (.tmp 15) 3 3 rfl _ _ _ rfl rfl HK.out.2.1 ?_
    | refine wpList_max_int rfl (.tmp 17) (.const (.int .i64 0)) 3 3 rfl _ _ _ rfl rfl HK.out.2.2.1 ?_
    | refine wpList_min_int rfl (.tmp 18) (.const (.int .i64 64)) 3 3 rfl _ _ _ rfl rfl HK.out.2.2.2 ?_)
  go_loopw [6] (fun i wr => StillRel w i wr) (fun i _ => (1 - intOf i).toNat)
  case atStart => exact ⟨rfl, rfl⟩
  case round =>
    obtain ⟨rfl, rfl⟩ := hrel
    go_wp2
    go_end0
    exact HE.out

theorem refCrash_any {w : World} {g : Nat} {G : Nat → Prop} {s : DS} (h : RefAt w g G s) (keep torn : Int) :
    Calls Try.prog 25 #[.pointer (some ⟨g, 0, none⟩), .int .i64 keep, .int .i64 torn] w (RefRet g G (s.crash keep torn) (.tuple #[]) w) := by
  rcases Nat.eq_zero_or_pos s.wr.length with hn | hn
  · exact refCrash_nil h keep torn hn
  · exact refCrash_some h keep torn hn

set_option maxRecDepth 100000 in
theorem refFlush_any {w : World} {g : Nat} {G : Nat → Prop} {s : DS} (h : RefAt w g G s) :
    Calls Try.prog 19 #[.pointer (some ⟨g, 0, none⟩)] w (RefRet g G s.flush (.tuple #[]) w) := by
  have HD := Lib.hid h
  obtain ⟨A, c, B, c', c0, c1, _⟩ := h.form1
  clear h
  go_enter Try.func19, Try.ntmps19
  go_wp2_with (go_at_call 25; refine (refCrash_any HD.out _ _).mono ?_; rintro e w' ⟨rfl, h2, h3⟩)
  have HE := Lib.hid (And.intro h2 h3)
  rw [crash_flush] at HE
  go_end0
  exact ⟨rfl, HE.out⟩

end Go.Proofs.Ytehghjakggdnpaa
