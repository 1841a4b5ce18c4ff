/-
  A loop over an iterator that collects: the list in a box; slices.AppendSeq.
-/
import Derived.Test.YtiaclfldgagalaaM15
import Derived.Test.YtiaclfldgagalaaM03
namespace Go.Proofs.Ytiaclfldgagalaa
open Go.RowKit Go.Lib Go.Shelf
attribute [local go_sem] Oper.semAt_some

theorem wpListIn_append_row {F : Fence} {n' : Nat} {P : Program} {ops : Array Oper} {rest : List Oper} {o : Oper} {a : Act} {w : World} {Q : Exit → Act → World → Prop} (hgd : o.guard = none) (s' x : Operand) (t : TypeId)
    (ho : o.op = .call { callee := .builtin .append, args := #[s', x], argTypes := #[t, t] })
    (B : Nat) (e : TypeId) (i : TypeInfo) (z : Value) (s bytes : Nat) (ht : P.underlying t = some (.slice e)) (hi : P.info? e = some i) (hz : i.zero = some z)
    (hsize : i.size = s) (hby : i.bytes = bytes) (hzs : z.cells.size = s) (hsz : 0 < s)
    (v : Value) (n : Nat) (xs : List Value) (hown : w.ownsRow B e s v n xs) (hd : a.eval s' = v)
    (A : Option Addr) (m c : Nat) (news : List Value) (hx : a.eval x = .slice A m c) (hl : news.length = m * s) (hA : A = none → m = 0) (hc : ∀ ad, A = some ad → ∀ j u, news[j]? = some u → w.cell? (ad.add j) = some u) (h1 : ∀ u ∈ news, u.oneCell' = true)
    (h63 : n + m ≤ maxLen) (hbytes : (n + m) * bytes ≤ 140737488355328) (hB : B ≤ w.heap.size)
    (h : ∀ A' c' w', RowTo B e s v w (.slice A' (n + m) c') (n + m) (xs ++ news) w' → wpListIn F n' P ops Q rest (a.put o.dst (.slice A' (n + m) c')) w') : wpListIn F n' P ops Q (o :: rest) a w := by
  obtain ⟨A', c', w', hr, h2⟩ := run_append_row (P := P) w B t o.type e i z s bytes ht hi hz hsize hby hzs hsz v n xs hown A m c news hl hA hc h1 h63 hbytes hB
  refine wpListIn_plain hgd fun K hK' => ⟨by simp [Oper.about, ho, resolve, Target.leads, Sem.run_pure], ?_⟩
  rw [Oper.semAt_plain F _ _ (by rw [ho]; intro c hc'; cases hc')]
  simp [execOp, ho, resolve, invoke, builtin, hd, hx, hr, Result.andThen]
  exact hK' _ _ (h A' c' w' h2)
/-- what a list in box cb makes the rounds' own -/
def MineC (cb : Nat) (W : World) (k : Nat) : Prop := ∀ A n c, W.cell? ⟨cb, 0, none⟩ = some (.slice A n c) → k = cb ∨ (Value.slice A n c).ownBlock = some k
theorem MineC.ok (cb : Nat) : MineOk (MineC cb) := fun W W' row k hg hr hm A n c h => by
  refine hm A n c ?_
  obtain ⟨o, ho, hc⟩ := cells_of_cell h
  refine (World.cell?_of_block (hg.block cb (Array.getElem?_eq_some_iff.1 ho).1 fun e => ?_)).trans h
  obtain ⟨o', ho', hc'⟩ := hr cb e.symm
  rw [show W.heap[cb]? = some o from ho] at ho'
  cases ho'
  rw [hc] at hc'
  cases hc'
/-- the list so far, in its box; its row made since R -/
def Col (R : Nat) (cb : Nat) (T e : TypeId) (s : Nat) (cells : List En → List Value) (ys : List En) (W : World) : Prop :=
  ∃ A n c, Blk W cb T #[.slice A n c] ∧ n = ys.length ∧ W.ownsRow R e s (.slice A n c) n (cells ys)
theorem own_grown {R : Nat} {e : TypeId} {s n : Nat} {v : Value} {xs : List Value} {A C : World} {row : Option Nat} (h : A.ownsRow R e s v n xs) (hg : A.grownBy C row) (hr : ∀ r, row = some r → ∃ o : Obj, A.heap[r]? = some o ∧ o.isCells = false) : C.ownsRow R e s v n xs :=
  own_keep h fun k hk => by
    obtain ⟨cur, hb⟩ := own_row h k hk
    exact (blk_grown hb hg hr).trans hb.symm
theorem Col.grown {R cb s : Nat} {T e : TypeId} {cells : List En → List Value} {ys : List En} {A C : World} {row : Option Nat} (h : Col R cb T e s cells ys A) (hg : A.grownBy C row) (hr : ∀ r, row = some r → ∃ o : Obj, A.heap[r]? = some o ∧ o.isCells = false) : Col R cb T e s cells ys C := by
  obtain ⟨A1, n, c, h1, h2, h3⟩ := h
  exact ⟨A1, n, c, blk_grown h1 hg hr, h2, own_grown h3 hg hr⟩
theorem Col.mine {R cb s : Nat} {T e : TypeId} {cells : List En → List Value} {ys : List En} {W : World} (h : Col R cb T e s cells ys W) {k : Nat} (hk : MineC cb W k) : k < W.heap.size ∧ (k = cb ∨ R ≤ k) := by
  obtain ⟨A1, n, c, h1, h2, h3⟩ := h
  rcases hk A1 n c ((h1.cell 0).trans rfl) with rfl | hk
  · exact ⟨h1.lt, .inl rfl⟩
  · exact ⟨(h3.lt k hk).2, .inr (h3.lt k hk).1⟩
theorem bx_after {R cb s : Nat} {T e : TypeId} {xs ys : List Value} {W Wa W5 : World} {A1 A' : Option Addr} {n n' c c' : Nat} (hb : Blk W cb T #[.slice A1 n c]) (ho : W.ownsRow R e s (.slice A1 n c) n xs) (hTe : T ≠ e) (hWa : Below W.heap.size W Wa) (h5 : RowTo R e s (.slice A1 n c) Wa (.slice A' n' c') n' ys W5) : Blk W5 cb T #[.slice A1 n c] :=
  (hb.below hWa hb.lt).chg h5.chg fun h => hTe.symm (by
    obtain ⟨cur, hc⟩ := own_row ho cb h
    exact (hc.same hb).2)
/-- one more -/
theorem Col.more {R cb s : Nat} {T e : TypeId} {cells : List En → List Value} {ys : List En} {x : En} {W Wa W5 : World} {A1 A' : Option Addr} {n c c' : Nat} (hb : Blk W cb T #[.slice A1 n c]) (hn : n = ys.length) (ho : W.ownsRow R e s (.slice A1 n c) n (cells ys)) (hTe : T ≠ e) (hWa : Below W.heap.size W Wa) (_hR : R ≤ W.heap.size)
    (h5 : RowTo R e s (.slice A1 n c) Wa (.slice A' (n + 1) c') (n + 1) (cells (ys ++ [x])) W5) :
    Col R cb T e s cells (ys ++ [x]) (W5.setCell ⟨cb, 0, none⟩ (.slice A' (n + 1) c')) ∧ KeepM (MineC cb) W (W5.setCell ⟨cb, 0, none⟩ (.slice A' (n + 1) c')) := by
  have hba := hb.below hWa hb.lt
  have hoa := own_chg ho (Chg.of_below (F := Non) hWa) fun _ _ h => h
  have hne : (Value.slice A1 n c).ownBlock ≠ some cb := fun h => hTe.symm (by
    obtain ⟨cur, hc⟩ := own_row ho cb h
    exact (hc.same hb).2)
  have hb5 : Blk W5 cb T #[.slice A1 n c] := hba.chg h5.chg hne
  have hne5 : (Value.slice A' (n + 1) c').ownBlock ≠ some cb := fun h => hTe.symm (by
    obtain ⟨cur, hc⟩ := own_row h5.own cb h
    exact (hc.same hb5).2)
  have hset : Chg (fun k => k = cb) W5 (W5.setCell ⟨cb, 0, none⟩ (.slice A' (n + 1) c')) := (Chg.refl (fun k => k = cb) W5).setCell (fun _ => rfl) _
  have hbf := hb5.put 0 (.slice A' (n + 1) c')
  refine ⟨⟨A', n + 1, c', hbf, by simp [hn], own_chg h5.own hset fun k hk e => hne5 (by rw [← e]; exact hk)⟩, ⟨?_, fun k hk => ?_⟩⟩
  · refine (((Chg.of_below (F := MineC cb W) hWa).trans' h5.chg fun k _ hk => ?_).trans' hset fun k _ hk => ?_)
    · intro A2 n2 c2 h2
      have h3 := (hb.cell 0).symm.trans h2
      cases h3
      exact .inr hk
    · intro A2 n2 c2 h2
      exact .inl hk
  · rcases hk A' (n + 1) c' ((hbf.cell 0).trans rfl) with rfl | hk
    · exact .inl fun A2 n2 c2 h2 => .inl rfl
    · rcases h5.blk k hk with h | h
      · refine .inl fun A2 n2 c2 h2 => .inr ?_
        have h3 := (hb.cell 0).symm.trans h2
        cases h3
        exact h
      · exact .inr (Nat.le_trans hWa.size h)
end Go.Proofs.Ytiaclfldgagalaa

/-
  slices.AppendSeq, over an iterator of entries.
-/
namespace Go.Proofs.Ytiaclfldgagalaa
open Go.RowKit Go.Lib Go.Shelf
attribute [local go_sem] Oper.semAt_some

set_option maxRecDepth 100000 in
set_option maxHeartbeats 4000000 in
theorem appendseq_any {lb : Array Value} {xs : List En} {S : Nat → Prop} {w : World} (hseq : SeqO Fence.wide Try.prog 56 lb (fun x : En => #[x.val]) xs S w) (hSlt : ∀ k, S k → k < w.heap.size) (hx : xs.length ≤ 1000000) :
    Calls Try.prog 47 #[.slice none 0 0, .func (.func 56) #[] lb] w fun r w' => ∃ A c n, r = .returned (.slice A n c) ∧ n = xs.length ∧ w'.ownsRow w.heap.size 35 3 (.slice A n c) n (ecs xs) ∧ Below w.heap.size w w' := by
  obtain ⟨i0, hi, hz0, hz1, hz2⟩ := info_parts Try.infoent
  have hdd : ∀ k : Nat, (Fence.wide.depth.isSome = true → 1 ≤ k) := fun k h => by cases h
  obtain ⟨n0, _⟩ : ∃ n : Nat, True := ⟨0, trivial⟩
  refine (callsIn_wide (n := n0)).1 ?_
  refine callsIn_of_wp_marks Try.func47 rfl trivial ?_
  simp only [Try.ntmps47, List.size_toArray, List.length_cons, List.length_nil, Nat.reduceAdd, Nat.reduceSub, Array.replicate_succ, Array.replicate_zero, List.push_toArray, List.append_toArray, List.nil_append, List.cons_append]
  gi_wp2
  obtain ⟨wk, hwk⟩ : ∃ wk, wk = w.alloc (.cells #[.slice none 0 0] 28) := ⟨_, rfl⟩
  rw [← hwk]
  have hbk : Below w.heap.size w wk := by rw [hwk]; exact (Below.refl _ w).alloc (Nat.le_refl _) _
  have kc : Blk wk w.heap.size 28 #[.slice none 0 0] := by rw [hwk]; exact Blk.new _ _ _
  have sk : wk.heap.size = w.heap.size + 1 := by rw [hwk]; simp
  have hcw : Chg (fun k => ¬ S k) w wk := by rw [hwk]; exact (Chg.refl _ w).alloc _
  clear hwk
  refine range_own (w := wk) (w0 := w) rfl rfl (gf := 56) (lb := lb) rfl trivial ent_from hseq hcw hSlt (MineC w.heap.size) (MineC.ok _) (fun _ => rfl)
    (fun pre W' => Col (wk.heap.size + 2) w.heap.size 28 35 3 ecs pre W' ∧ Below w.heap.size w W' ∧ wk.heap.size + 2 ≤ W'.heap.size)
    (fun _ _ _ => False) ?_ ?_ ?_ ?_
    (fun pre z a' W' => (Col (wk.heap.size + 2) w.heap.size 28 35 3 ecs pre W' ∧ Below w.heap.size w W' ∧ wk.heap.size + 2 ≤ W'.heap.size) ∧ ∃ Bx, Blk W' Bx 35 #[.string z.s, .int .i64 z.p, .int .i64 z.k] ∧
      a' = { tmps := #[.slice none 0 0, .func (.func 56) #[] lb, .pointer (some ⟨w.heap.size, 0, none⟩), undef, .slice none 0 0, .pointer (some ⟨Bx, 0, none⟩), .func (.func 56) #[] lb, .agg #[.string z.s, .int .i64 z.p, .int .i64 z.k], undef, undef, undef, undef, undef], defers := [] })
    ?_ ?_ ?_ ?_ ?_
  · rintro pre A C row ⟨h1, h2, h3⟩ hg hr
    exact ⟨h1.grown hg fun r e => (hr r e).2, below_more h2 hg fun r e => by have := (hr r e).1; omega, Nat.le_trans h3 hg.size⟩
  · intro c pre A C row h
    exact h.elim
  · rintro pre W' ⟨h1, h2, h3⟩
    refine ⟨h3, fun h => ?_, fun h => ?_, fun k hk => (h1.mine hk).1⟩
    · have := (h1.mine h).2; omega
    · have := (h1.mine h).2; omega
  · intro o
    have hc0 : Col (wk.heap.size + 2) w.heap.size 28 35 3 ecs [] ((wk.alloc (.deferred (some []))).alloc (.loop o)) := ⟨none, 0, 0, (kc.alloc _).alloc _, rfl, World.ownsRow_nil _ _ _ _⟩
    refine ⟨⟨hc0, ((hbk.alloc hbk.size _).alloc (by simp; omega) _), by simp⟩, fun k hk h => ?_⟩
    have h1 := hSlt k hk
    have h2 := (hc0.mine h).2
    omega
  · rintro pre z a' _ A C row ⟨⟨h1, h2, h3⟩, Bx, h4, h5⟩ hg hr
    exact ⟨⟨h1.grown hg fun r e => (hr r e).2, below_more h2 hg fun r e => by have := (hr r e).1; omega, Nat.le_trans h3 hg.size⟩, Bx, blk_grown h4 hg fun r e => (hr r e).2, h5⟩
  · rintro m' l' pre z Wr ⟨h1, h2, h3⟩ _ K hK
    have HKK := Lib.hid (fun (o : Obj) (ho : o = .cells #[.string z.s, .int .i64 z.p, .int .i64 z.k] 35) => hK _ (Wr.alloc o) ((KeepM.refl _ Wr).grown (MineC.ok _) (World.grownBy_alloc Wr o none) (fun r e => by cases e))
      ⟨⟨h1.grown (World.grownBy_alloc Wr o none) (fun r e => by cases e), h2.alloc h2.size _, by simp; omega⟩, Wr.heap.size, by rw [ho]; exact Blk.new Wr _ _, rfl⟩)
    clear h1 h2 h3 hK hseq
    unfold En.val
    gi_wp2
    exact HKK.out _ rfl
  · rintro m' l' pre z a' Wb ⟨⟨h1, h2, h3⟩, Bx, h4, rfl⟩ ⟨post, hpost⟩
    obtain ⟨A1, n1, c1, hb, hn, ho⟩ := h1
    have hlen : pre.length + 1 ≤ 1000000 := by
      have := congrArg List.length hpost
      simp at this
      omega
    have hn1 : n1 + 1 ≤ 1000000 := by omega
    have l0 := hb.cell 0
    have f0 := hb.frozen 0
    have x0 := h4.cell 0
    have x1 := h4.cell 1
    have x2 := h4.cell 2
    simp only [List.getElem?_toArray, List.getElem?_cons_zero, List.getElem?_cons_succ] at l0 x0 x1 x2
    have hWa : Below Wb.heap.size Wb (Wb.alloc (.cells #[.string z.s, .int .i64 z.p, .int .i64 z.k] 35)) := (Below.refl _ Wb).alloc (Nat.le_refl _) _
    have hoa := own_chg ho (Chg.of_below (F := Non) hWa) fun _ _ h => h
    have hnew := Blk.new Wb 35 #[.string z.s, .int .i64 z.p, .int .i64 z.k]
    have HE := Lib.hid (And.intro hb (And.intro hn (And.intro ho (And.intro h2 (And.intro h3 hWa)))))
    have HO := Lib.hid (And.intro hoa hnew)
    clear hb hn ho h2 h3 h4 hWa hseq hpost hoa hnew
    gi_wp2_with (gi_at_builtin; refine wpListIn_append_row rfl _ _ 28 rfl (wk.heap.size + 2) 35 i0 (.agg #[.string ⟨#[]⟩, .int .i64 0, .int .i64 0]) 3 32 Try.underlying28 hi hz0 hz1 hz2 rfl (by decide) _ n1 _ HO.out.1 (by rfl) (some ⟨Wb.heap.size, 0, none⟩) 1 1 [.string z.s, .int .i64 z.p, .int .i64 z.k] (by rfl) rfl (fun h => by cases h) (fun ad ha j u hu => by cases ha; rw [Addr.add_lit, Nat.zero_add]; exact (HO.out.2.cell j).trans (by simpa using hu)) (by intro u hu; simp at hu; rcases hu with rfl | rfl | rfl <;> rfl) (by simp [maxLen]; omega) (by omega) (by have := HE.out.2.2.2.2.1; simp; omega) ?_; intro A' c' w5 hR5; rw [ecs_more] at hR5; have HC := Lib.hid (Col.more HE.out.1 HE.out.2.1 HE.out.2.2.1 (by decide) HE.out.2.2.2.2.2 HE.out.2.2.2.2.1 hR5); have HS5 := Lib.hid hR5; have f5 : w5.frozen? ⟨w.heap.size, 0, none⟩ = false := (bx_after HE.out.1 HE.out.2.2.1 (by decide) HE.out.2.2.2.2.2 hR5).frozen 0; have l5 := (bx_after HE.out.1 HE.out.2.2.1 (by decide) HE.out.2.2.2.2.2 hR5).cell 0; simp only [List.getElem?_toArray, List.getElem?_cons_zero] at l5; clear hR5)
    obtain ⟨hb, hn, ho, h2, h3, hWa⟩ := HE.out
    obtain ⟨hc1, hc2⟩ := HC.out
    refine ⟨hc2, hc1, ?_, Nat.le_trans h3 hc2.chg.size⟩
    refine (h2.trans (hc2.chg.below (fun k hk => ?_) h2.size))
    have := (Col.mine ⟨A1, n1, c1, hb, hn, ho⟩ hk).2
    omega
  · rintro o W' ⟨h1, h2, h3⟩ _ hD
    obtain ⟨A1, n1, c1, hb, hn, ho⟩ := h1
    have l0 := hb.cell 0
    simp only [List.getElem?_toArray, List.getElem?_cons_zero] at l0
    have HE := Lib.hid (And.intro hn (And.intro ho (And.intro h2 hD)))
    clear hb hn ho h2 h3 hD hseq
    gi_wp2
    refine ⟨by simp, .inl ⟨_, _, rfl, run_takeDeferred HE.out.2.2.2, ?_⟩⟩
    exact ⟨_, results_tmp rfl _ _ _, A1, c1, n1, rfl, HE.out.1, own_to_lt (own_grown HE.out.2.1 (grownBy_putObj' W' _ _) fun r e => by cases e; exact ⟨_, HE.out.2.2.2, rfl⟩) (by omega), below_more HE.out.2.2.1 (grownBy_putObj' W' _ _) fun r e => by cases e; omega⟩
  · rintro c pre W' _ h
    exact h.elim
end Go.Proofs.Ytiaclfldgagalaa

/-
  All.
-/
namespace Go.Proofs.Ytiaclfldgagalaa
open Go.RowKit Go.Lib

set_option maxRecDepth 100000 in
set_option maxHeartbeats 1600000 in
theorem collect_any {lb : Array Value} {xs : List En} {S : Nat → Prop} {w : World} (hseq : SeqO Fence.wide Try.prog 56 lb (fun x : En => #[x.val]) xs S w) (hSlt : ∀ k, S k → k < w.heap.size) (hx : xs.length ≤ 1000000) :
    Calls Try.prog 33 #[.func (.func 56) #[] lb] w fun r w' => ∃ A c n, r = .returned (.slice A n c) ∧ n = xs.length ∧ w'.ownsRow w.heap.size 35 3 (.slice A n c) n (ecs xs) ∧ Below w.heap.size w w' := by
  have HA := Lib.hid (appendseq_any hseq hSlt hx)
  clear hseq hSlt hx
  go_enter Try.func33, Try.ntmps33
  go_wp2_with (first
    | (go_at_call 47; refine HA.out.mono ?_; rintro r w5 ⟨A, c, n, rfl, hn, ho, hb⟩; have HE := Lib.hid (And.intro hn (And.intro ho hb)); clear hn ho hb))
  go_ret
  exact ⟨A, c, n, rfl, HE.out⟩
set_option maxRecDepth 100000 in
set_option maxHeartbeats 1600000 in
theorem all_any {K B : Nat} {D : Nat → Prop} {w : World} {tb : Nat} {l : List En} (h : TreeV K B D w tb l) (hl : l.length ≤ 1000000) (hlow : fromL (lowE ⟨#[]⟩) l = l) :
    Calls Try.prog 16 #[.pointer (some ⟨tb, 0, none⟩)] w fun r w' => ∃ A c n, r = .returned (.slice A n c) ∧ n = l.length ∧ w'.ownsRow w.heap.size 35 3 (.slice A n c) n (ecs l) ∧ Below w.heap.size w w' := by
  obtain ⟨d, t, hS, hR, hent⟩ := h
  have hAll : Calls Try.prog 32 #[.pointer (some ⟨tb, 0, none⟩), .string ⟨#[]⟩] w fun r wk => r = .returned (.func (.func 56) #[] #[.pointer (some ⟨w.heap.size, 0, none⟩), .pointer (some ⟨w.heap.size + 1, 0, none⟩)]) ∧
      Calls Try.prog 33 #[.func (.func 56) #[] #[.pointer (some ⟨w.heap.size, 0, none⟩), .pointer (some ⟨w.heap.size + 1, 0, none⟩)]] wk fun r w' => ∃ A c n, r = .returned (.slice A n c) ∧ n = l.length ∧ w'.ownsRow w.heap.size 35 3 (.slice A n c) n (ecs l) ∧ Below w.heap.size w w' := by
    refine (treefrom_any w tb ⟨#[]⟩).mono ?_
    rintro r wk ⟨rfl, hwk⟩
    obtain ⟨hsk, hbk, hSk, hseq⟩ := tree_seq hS hR (Below.refl _ w) hwk
    rw [hent, hlow] at hseq
    refine ⟨rfl, (collect_any hseq (fun k hk => (hSk k hk).1) hl).mono ?_⟩
    rintro r w' ⟨A, c, n, rfl, hn, ho, hb⟩
    exact ⟨A, c, n, rfl, hn, own_to_lt ho hbk.size, hbk.trans (hb.mono hbk.size)⟩
  have HA := Lib.hid hAll
  clear hAll hS hR hent hlow hl
  go_enter Try.func16, Try.ntmps16
  go_wp2_with (first
    | (go_at_call 32; refine HA.out.mono ?_; rintro r wk ⟨rfl, hc⟩; have HC := Lib.hid hc; clear hc)
    | (go_at_call 33; refine HC.out.mono ?_; rintro r w5 ⟨A, c, n, rfl, hn, ho, hb⟩; have HE := Lib.hid (And.intro hn (And.intro ho hb)); clear hn ho hb))
  go_ret
  exact ⟨A, c, n, rfl, HE.out⟩
end Go.Proofs.Ytiaclfldgagalaa

/-
  Find.
-/
namespace Go.Proofs.Ytiaclfldgagalaa
open Go.RowKit Go.Lib Go.Shelf
attribute [local go_sem] Oper.semAt_some

theorem tw_all {α : Type} {p : α → Bool} : ∀ {l : List α}, (∀ y ∈ l, p y = true) → l.takeWhile p = l
  | [], _ => rfl
  | a :: l, h => by rw [List.takeWhile_cons_of_pos (h a (by simp)), tw_all fun y hy => h y (by simp [hy])]
theorem tw_cut {α : Type} {p : α → Bool} {x : α} {q : List α} (hx : p x = false) : ∀ {l : List α}, (∀ y ∈ l, p y = true) → (l ++ ([x] ++ q)).takeWhile p = l
  | [], _ => by simp [hx]
  | a :: l, h => by rw [List.cons_append, List.takeWhile_cons_of_pos (h a (by simp)), tw_cut hx fun y hy => h y (by simp [hy])]
set_option maxRecDepth 100000 in
set_option maxHeartbeats 4000000 in
theorem find_tree {K B : Nat} {D : Nat → Prop} {w : World} {tb : Nat} {l : List En} (s : ByteArray) (h : TreeV K B D w tb l) (hl : l.length ≤ 1000000) (hlow : (fromL (lowE s) l).takeWhile (fun a => decide (a.s = s)) = fndL s l) :
    Calls Try.prog 25 #[.pointer (some ⟨tb, 0, none⟩), .string s] w fun r w' => ∃ A c n, r = .returned (.slice A n c) ∧ n = (fndL s l).length ∧ w'.ownsRow w.heap.size 33 2 (.slice A n c) n (rcs (fndL s l)) ∧ Below w.heap.size w w' := by
  obtain ⟨d, t, hS, hR, hent⟩ := h
  obtain ⟨i0, hi, hz0, hz1, hz2⟩ := info_parts Try.inforid
  have hdd : ∀ k : Nat, (Fence.wide.depth.isSome = true → 1 ≤ k) := fun k h => by cases h
  obtain ⟨n0, _⟩ : ∃ n : Nat, True := ⟨0, trivial⟩
  refine (callsIn_wide (n := n0)).1 ?_
  have HTF := Lib.hid (fun w1 => treefrom_any w1 tb s)
  refine callsIn_of_wp_marks Try.func25 rfl trivial ?_
  simp only [Try.ntmps25, List.size_toArray, List.length_cons, List.length_nil, Nat.reduceAdd, Nat.reduceSub, Array.replicate_succ, Array.replicate_zero, List.push_toArray, List.append_toArray, List.nil_append, List.cons_append]
  obtain ⟨w1, hw1⟩ : ∃ w1, w1 = (w.alloc (.cells #[.string s] 9)).alloc (.cells #[.slice none 0 0] 56) := ⟨_, rfl⟩
  have k0 := ((Blk.new w 9 #[.string s]).alloc (.cells #[.slice none 0 0] 56)).cell 0
  simp only [List.getElem?_toArray, List.getElem?_cons_zero] at k0
  gi_wp2_with (first
    | (refine ⟨trivial, hdd _, ?_⟩; gi_at_call 32; refine (callsIn_wide.2 (HTF.out _)).mono ?_; rintro r wk ⟨rfl, hwk⟩; have HWK := Lib.hid hwk; clear hwk))
  have hb1 : Below w.heap.size w w1 := by rw [hw1]; exact ((Below.refl _ w).alloc (Nat.le_refl _) _).alloc (by simp) _
  have hwk := HWK.out
  rw [← hw1] at hwk
  have s1 : w1.heap.size = w.heap.size + 1 + 1 := by rw [hw1]; simp
  have kk1 : Blk w1 w.heap.size 9 #[.string s] := by rw [hw1]; exact (Blk.new w 9 #[.string s]).alloc _
  have kc1 : Blk w1 (w.heap.size + 1) 56 #[.slice none 0 0] := by
    have h := Blk.new (w.alloc (.cells #[.string s] 9)) 56 #[.slice none 0 0]
    rw [← hw1, World.size_alloc] at h
    exact h
  obtain ⟨hsk, hbk, hSk, hseq⟩ := tree_seq hS hR hb1 hwk
  rw [hent] at hseq
  rw [s1] at hseq hSk hsk
  have hxl : (fromL (lowE s) l).length ≤ 1000000 := by unfold fromL; rw [List.length_drop]; omega
  obtain ⟨xs, hxs⟩ : ∃ xs, xs = fromL (lowE s) l := ⟨_, rfl⟩
  rw [← hxs] at hseq hxl hlow
  have kk := kk1.below hbk kk1.lt
  have kc := kc1.below hbk kc1.lt
  have hbw := hb1.trans (hbk.mono hb1.size)
  clear HTF HWK hw1 hwk kk1 kc1 hb1 hbk hxs k0
  refine range_own (w := wk) (w0 := wk) rfl rfl (gf := 56) (lb := #[.pointer (some ⟨w.heap.size + 1 + 1, 0, none⟩), .pointer (some ⟨w.heap.size + 1 + 1 + 1, 0, none⟩)]) rfl trivial ent_from hseq (Chg.refl _ _) (fun k hk => (hSk k hk).1) (MineC (w.heap.size + 1)) (MineC.ok _) (fun _ => rfl)
    (fun pre W' => (∀ y ∈ pre, y.s = s) ∧ Col (wk.heap.size + 2) (w.heap.size + 1) 56 33 2 rcs pre W' ∧ Blk W' w.heap.size 9 #[.string s] ∧ Below w.heap.size w W' ∧ wk.heap.size + 2 ≤ W'.heap.size)
    (fun c pre W' => c = .exit 0 ∧ ∃ ys x, pre = ys ++ [x] ∧ (∀ y ∈ ys, y.s = s) ∧ ¬ x.s = s ∧ Col (wk.heap.size + 2) (w.heap.size + 1) 56 33 2 rcs ys W' ∧ Below w.heap.size w W') ?_ ?_ ?_ ?_
    (fun pre z a' W' => ((∀ y ∈ pre, y.s = s) ∧ Col (wk.heap.size + 2) (w.heap.size + 1) 56 33 2 rcs pre W' ∧ Blk W' w.heap.size 9 #[.string s] ∧ Below w.heap.size w W' ∧ wk.heap.size + 2 ≤ W'.heap.size) ∧ ∃ Bx, Blk W' Bx 35 #[.string z.s, .int .i64 z.p, .int .i64 z.k] ∧
      a' = { tmps := #[.pointer (some ⟨tb, 0, none⟩), .string s, undef, .pointer (some ⟨w.heap.size, 0, none⟩), .slice none 0 0, .pointer (some ⟨w.heap.size + 1, 0, none⟩), .pointer (some ⟨Bx, 0, none⟩), .pointer (some ⟨tb, 0, none⟩), .string s, .func (.func 56) #[] #[.pointer (some ⟨w.heap.size + 1 + 1, 0, none⟩), .pointer (some ⟨w.heap.size + 1 + 1 + 1, 0, none⟩)], .agg #[.string z.s, .int .i64 z.p, .int .i64 z.k], undef, undef, undef, undef, undef, undef, undef, undef, undef, undef], defers := [] })
    ?_ ?_ ?_ ?_ ?_
  · rintro pre A C row ⟨h0, h1, hk, h2, h3⟩ hg hr
    exact ⟨h0, h1.grown hg fun r e => (hr r e).2, blk_grown hk hg fun r e => (hr r e).2, below_more h2 hg fun r e => by have := (hr r e).1; omega, Nat.le_trans h3 hg.size⟩
  · rintro c pre A C row ⟨hc, ys, x, e1, e2, e3, h1, h2⟩ hg hr
    exact ⟨hc, ys, x, e1, e2, e3, h1.grown hg fun r e => (hr r e).2, below_more h2 hg fun r e => by have := (hr r e).1; omega⟩
  · rintro pre W' ⟨h0, h1, hk, h2, h3⟩
    refine ⟨h3, fun h => ?_, fun h => ?_, fun k hk => (h1.mine hk).1⟩
    · have := (h1.mine h).2; omega
    · have := (h1.mine h).2; omega
  · intro o
    have hc0 : Col (wk.heap.size + 2) (w.heap.size + 1) 56 33 2 rcs [] ((wk.alloc (.deferred (some []))).alloc (.loop o)) := ⟨none, 0, 0, (kc.alloc _).alloc _, rfl, World.ownsRow_nil _ _ _ _⟩
    refine ⟨⟨fun y hy => (by cases hy), hc0, (kk.alloc _).alloc _, ((hbw.alloc hbw.size _).alloc (by simp; omega) _), by simp⟩, fun k hk h => ?_⟩
    have h1 := hSk k hk
    have hf := fun h => (hS.foot k h).2
    have h2 := (hc0.mine h).2
    rcases hk with hk | hk | hk
    · have := hf hk; omega
    · omega
    · omega
  · rintro pre z a' _ A C row ⟨⟨h0, h1, hk, h2, h3⟩, Bx, h4, h5⟩ hg hr
    exact ⟨⟨h0, h1.grown hg fun r e => (hr r e).2, blk_grown hk hg fun r e => (hr r e).2, below_more h2 hg fun r e => by have := (hr r e).1; omega, Nat.le_trans h3 hg.size⟩, Bx, blk_grown h4 hg fun r e => (hr r e).2, h5⟩
  · rintro m' l' pre z Wr ⟨h0, h1, hk, h2, h3⟩ _ K hK
    have HKK := Lib.hid (fun (o : Obj) (ho : o = .cells #[.string z.s, .int .i64 z.p, .int .i64 z.k] 35) => hK _ (Wr.alloc o) ((KeepM.refl _ Wr).grown (MineC.ok _) (World.grownBy_alloc Wr o none) (fun r e => by cases e))
      ⟨⟨h0, h1.grown (World.grownBy_alloc Wr o none) (fun r e => by cases e), hk.alloc _, h2.alloc h2.size _, by simp; omega⟩, Wr.heap.size, by rw [ho]; exact Blk.new Wr _ _, rfl⟩)
    clear h0 h1 hk h2 h3 hK hseq hSk
    unfold En.val
    gi_wp2
    exact HKK.out _ rfl
  · rintro m' l' pre z a' Wb ⟨⟨h0, h1, hk, h2, h3⟩, Bx, h4, rfl⟩ ⟨post, hpost⟩
    obtain ⟨A1, n1, c1, hb, hn, ho⟩ := h1
    have hlen : pre.length + 1 ≤ 1000000 := by
      have := congrArg List.length hpost
      simp at this
      omega
    have hn1 : n1 + 1 ≤ 1000000 := by omega
    have l0 := hb.cell 0
    have f0 := hb.frozen 0
    have q0 := hk.cell 0
    have x0 := h4.cell 0
    have x1 := h4.cell 1
    have x2 := h4.cell 2
    simp only [List.getElem?_toArray, List.getElem?_cons_zero, List.getElem?_cons_succ] at l0 q0 x0 x1 x2
    have hWa : Below Wb.heap.size Wb (Wb.alloc (.cells #[.int .i64 z.p, .int .i64 z.k] 33)) := (Below.refl _ Wb).alloc (Nat.le_refl _) _
    have hoa := own_chg ho (Chg.of_below (F := Non) hWa) fun _ _ h => h
    have hnew := Blk.new Wb 33 #[.int .i64 z.p, .int .i64 z.k]
    have HE := Lib.hid (And.intro hb (And.intro hn (And.intro ho (And.intro h2 (And.intro h3 hWa)))))
    have HO := Lib.hid (And.intro hoa hnew)
    have HK := Lib.hid (And.intro h0 hk)
    by_cases hzs : z.s = s
    · have e1 : (z.s.toList == s.toList) = true := by rw [str_beq]; exact decide_eq_true hzs
      have e2 : decide (z.s = s) = true := decide_eq_true hzs
      have HZ := Lib.hid hzs
      clear hb hn ho h0 hk h2 h3 h4 hWa hseq hpost hoa hnew hSk hzs
      gi_wp2_with (gi_at_builtin; refine wpListIn_append_row rfl _ _ 56 rfl (wk.heap.size + 2) 33 i0 (.agg #[.int .i64 0, .int .i64 0]) 2 16 Try.underlying56 hi hz0 hz1 hz2 rfl (by decide) _ n1 _ HO.out.1 (by rfl) (some ⟨Wb.heap.size, 0, none⟩) 1 1 [.int .i64 z.p, .int .i64 z.k] (by rfl) rfl (fun h => by cases h) (fun ad ha j u hu => by cases ha; rw [Addr.add_lit, Nat.zero_add]; exact (HO.out.2.cell j).trans (by simpa using hu)) (by intro u hu; simp at hu; rcases hu with rfl | rfl <;> rfl) (by simp [maxLen]; omega) (by omega) (by have := HE.out.2.2.2.2.1; simp; omega) ?_; intro A' c' w5 hR5; rw [rcs_more] at hR5; have HC := Lib.hid (Col.more HE.out.1 HE.out.2.1 HE.out.2.2.1 (by decide) HE.out.2.2.2.2.2 HE.out.2.2.2.2.1 hR5); have HS5 := Lib.hid hR5; have f5 : w5.frozen? ⟨w.heap.size + 1, 0, none⟩ = false := (bx_after HE.out.1 HE.out.2.2.1 (by decide) HE.out.2.2.2.2.2 hR5).frozen 0; have l5 := (bx_after HE.out.1 HE.out.2.2.1 (by decide) HE.out.2.2.2.2.2 hR5).cell 0; simp only [List.getElem?_toArray, List.getElem?_cons_zero] at l5; clear hR5)
      obtain ⟨hb, hn, ho, h2, h3, hWa⟩ := HE.out
      obtain ⟨hc1, hc2⟩ := HC.out
      have hks : ¬ MineC (w.heap.size + 1) Wb w.heap.size := fun h => by have := (Col.mine ⟨A1, n1, c1, hb, hn, ho⟩ h).2; omega
      refine ⟨hc2, fun y hy => ?_, hc1, HK.out.2.chg hc2.chg hks, ?_, Nat.le_trans h3 hc2.chg.size⟩
      · rcases List.mem_append.1 hy with hy | hy
        · exact HK.out.1 y hy
        · rw [List.mem_singleton.1 hy]; exact HZ.out
      · refine (h2.trans (hc2.chg.below (fun k hk => ?_) h2.size))
        have := (Col.mine ⟨A1, n1, c1, hb, hn, ho⟩ hk).2
        omega
    · have e1 : (z.s.toList == s.toList) = false := by rw [str_beq]; exact decide_eq_false hzs
      have e2 : decide (z.s = s) = false := decide_eq_false hzs
      have HZ := Lib.hid hzs
      clear hb hn ho h0 hk h2 h3 h4 hWa hseq hpost hoa hnew hSk hzs
      gi_wp2
      obtain ⟨hb, hn, ho, h2, h3, hWa⟩ := HE.out
      exact ⟨KeepM.refl _ _, rfl, pre, z, rfl, HK.out.1, HZ.out, ⟨A1, n1, c1, hb, hn, ho⟩, h2⟩
  · rintro o W' ⟨h0, h1, hk, h2, h3⟩ _ hD
    obtain ⟨A1, n1, c1, hb, hn, ho⟩ := h1
    have hfx : xs = fndL s l := by rw [← hlow]; exact (tw_all (p := fun a : En => decide (a.s = s)) fun y hy => decide_eq_true (h0 y hy)).symm
    rw [hfx] at hn ho
    have l0 := hb.cell 0
    simp only [List.getElem?_toArray, List.getElem?_cons_zero] at l0
    have HE := Lib.hid (And.intro hn (And.intro ho (And.intro h2 hD)))
    clear hb hn ho h0 hk h2 h3 hD hseq hSk
    gi_wp2
    refine ⟨by simp, .inl ⟨_, _, rfl, run_takeDeferred HE.out.2.2.2, ?_⟩⟩
    exact ⟨_, results_tmp rfl _ _ _, A1, c1, n1, rfl, HE.out.1, own_to_lt (own_grown HE.out.2.1 (grownBy_putObj' W' _ _) fun r e => by cases e; exact ⟨_, HE.out.2.2.2, rfl⟩) (by omega), below_more HE.out.2.2.1 (grownBy_putObj' W' _ _) fun r e => by cases e; omega⟩
  · rintro c pre W' hpre ⟨rfl, ys, x, rfl, h0, hx, h1, h2⟩ hD
    obtain ⟨A1, n1, c1, hb, hn, ho⟩ := h1
    have hfx : ys = fndL s l := by
      obtain ⟨q, hq⟩ := hpre
      rw [← hlow, ← hq, List.append_assoc]
      exact (tw_cut (p := fun a : En => decide (a.s = s)) (decide_eq_false hx) fun y hy => decide_eq_true (h0 y hy)).symm
    rw [hfx] at hn ho
    have l0 := hb.cell 0
    simp only [List.getElem?_toArray, List.getElem?_cons_zero] at l0
    have HE := Lib.hid (And.intro hn (And.intro ho (And.intro h2 hD)))
    clear hb hn ho h0 h2 hD hseq hSk
    gi_wp2
    refine ⟨by simp, .inl ⟨_, _, rfl, run_takeDeferred HE.out.2.2.2, ?_⟩⟩
    exact ⟨_, results_tmp rfl _ _ _, A1, c1, n1, rfl, HE.out.1, own_to_lt (own_grown HE.out.2.1 (grownBy_putObj' W' _ _) fun r e => by cases e; exact ⟨_, HE.out.2.2.2, rfl⟩) (by omega), below_more HE.out.2.2.1 (grownBy_putObj' W' _ _) fun r e => by cases e; omega⟩
end Go.Proofs.Ytiaclfldgagalaa
