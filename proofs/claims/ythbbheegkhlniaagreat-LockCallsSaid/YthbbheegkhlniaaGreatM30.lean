/-
  LockCalls: both locks beside one another. Written by genrkp.py.
-/
import Derived.Test.YthbbheegkhlniaaGreatM29
import Derived.Deep.CutBlock
import Derived.Deep.CutRange
namespace Go.Proofs.YthbbheegkhlniaaGreat
open Go.RowKit Go.Lib

def Great11s (cl : List Cl) (w : World) (e : Ending) (w' : World) : Prop := w' = w ∧ (e = .returned (.bool true) ∨ (e = .returned (.bool false) ∧ cl.length ≤ 120 ∧ ∀ x ∈ cl, Sm x.th))
set_option maxRecDepth 100000 in
set_option maxHeartbeats 6400000 in
theorem great11_sm (A : Option Addr) (c : Nat) (cl : List Cl) (w : World) (B : Nat) (h : RowG clC 6 w B A cl) :
    Calls Tryz.prog 5 #[.slice A cl.length c] w (Great11s cl w) := by
  have HC := Lib.hid h
  clear h
  by_cases h80 : 120 < cl.length
  · have h80i : (120 : Int) < (cl.length : Int) := by omega
    go_enter Tryz.func5, Tryz.ntmps5
    go_wp2_with fail
    go_ret
    exact ⟨rfl, .inl rfl⟩
  · have h80i : ¬ (120 : Int) < (cl.length : Int) := by omega
    obtain ⟨n, hn⟩ : ∃ n, n = cl.length := ⟨_, rfl⟩
    rw [← hn] at h80 h80i ⊢
    have HN := Lib.hid hn
    clear hn
    go_enter Tryz.func5, Tryz.ntmps5
    go_wp2_with fail
    go_loop [3] (fun i => ∃ k : Nat, k ≤ n ∧ i = .int .i64 k ∧ ∀ j (hj : j < cl.length), j < k → Sm cl[j].th) (fun i => n - (intOf i).toNat)
    case atStart => exact ⟨0, by omega, rfl, fun _ _ h => absurd h (by omega)⟩
    case round =>
      obtain ⟨k, hk, rfl, hsm⟩ := hrel
      have HSM := Lib.hid hsm
      clear hsm
      have hk0 : (0 : Int) ≤ (k : Int) := Int.natCast_nonneg _
      by_cases hlt : k < n
      · have hlt1 : (k : Int) < (n : Int) := by omega
        have hkl : k < cl.length := by rw [← HN.out]; exact hlt
        obtain ⟨ad, rfl, _, d0, d1, d2, d3, d4, d5⟩ := cl_at HC.out hkl
        obtain ⟨x, hx⟩ : ∃ x, x = cl[k] := ⟨_, rfl⟩
        rw [← hx] at d3 d4
        have HX := Lib.hid hx
        clear hx d0 d1 d2 d5
        by_cases g1 : 100 < x.th.t.size
        · have g1i : (100 : Int) < (x.th.t.size : Int) := by omega
          have g1d : decide ((100 : Int) < (x.th.t.size : Int)) = true := decide_eq_true g1i
          go_wp2_with fail
          go_ret
          exact ⟨rfl, .inl rfl⟩
        · have g1i : ¬ (100 : Int) < (x.th.t.size : Int) := by omega
          have g1d : decide ((100 : Int) < (x.th.t.size : Int)) = false := decide_eq_false g1i
          by_cases g2 : 100 < x.th.y.size
          · have g2i : (100 : Int) < (x.th.y.size : Int) := by omega
            have g2d : decide ((100 : Int) < (x.th.y.size : Int)) = true := decide_eq_true g2i
            go_wp2_with fail
            go_ret
            exact ⟨rfl, .inl rfl⟩
          · have g2i : ¬ (100 : Int) < (x.th.y.size : Int) := by omega
            have g2d : decide ((100 : Int) < (x.th.y.size : Int)) = false := decide_eq_false g2i
            go_wp2_with fail
            go_round
            case rel => exact ⟨k + 1, by omega, by go_num, fun j hj h => by
              rcases Nat.lt_or_ge j k with h1 | h1
              · exact HSM.out j hj h1
              · obtain rfl : j = k := by omega
                rw [← HX.out]
                exact ⟨by omega, by omega⟩⟩
            case measure => simp [intOf]; omega
      · have hlt1 : ¬ (k : Int) < (n : Int) := by omega
        have HF := Lib.hid (show cl.length ≤ 120 by rw [← HN.out]; omega)
        go_wp2_with fail
        go_ret
        exact ⟨rfl, .inr ⟨rfl, HF.out, fun y hy => by obtain ⟨j, hj, e⟩ := List.mem_iff_getElem.1 hy; rw [← e]; exact HSM.out j hj (by have := HN.out; omega)⟩⟩
/-! ### things that are not too long -/
def SmL (l : Lk) : Prop := (∀ o ∈ l.H, Sm o.th) ∧ ∀ o ∈ l.W, Sm o.th
theorem mem_giveL' {p o : Od} : ∀ {H : List Od}, o ∈ giveL p H → o = p ∨ o ∈ H
  | [], h => .inl (by simpa [giveL] using h)
  | a :: r, h => by
    rw [giveL] at h
    split at h
    · rcases List.mem_cons.1 h with h | h
      · exact .inl h
      · exact .inr (List.mem_cons_of_mem _ h)
    · rcases List.mem_cons.1 h with h | h
      · exact .inr (h ▸ List.mem_cons_self)
      · exact (mem_giveL' h).imp id (List.mem_cons_of_mem _)
theorem sweepGo_sm {t : Th} : ∀ {pd dn H : List Od}, (∀ o ∈ pd, Sm o.th) → (∀ o ∈ dn, Sm o.th) → (∀ o ∈ H, Sm o.th) → (∀ o ∈ (sweepGo t dn H pd).1, Sm o.th) ∧ ∀ o ∈ (sweepGo t dn H pd).2.1, Sm o.th
  | [], dn, H, _, h2, h3 => ⟨h3, h2⟩
  | y :: r, dn, H, h1, h2, h3 => by
    rw [sweepGo]
    split
    · exact sweepGo_sm (fun o ho => h1 o (List.mem_cons_of_mem _ ho)) h2 fun o ho => (mem_giveL' ho).elim (fun e => by rw [e]; exact h1 y List.mem_cons_self) (h3 o)
    · exact sweepGo_sm (fun o ho => h1 o (List.mem_cons_of_mem _ ho)) (fun o ho => by
        rcases List.mem_append.1 ho with ho | ho
        · exact h2 o ho
        · rw [List.mem_singleton.1 ho]; exact h1 y List.mem_cons_self) h3
theorem sweepL_sm {l : Lk} (h : SmL l) (t : Th) : SmL (sweepL l t).1 := by
  have := sweepGo_sm (t := t) h.2 (dn := []) (fun o ho => by cases ho) h.1
  exact this
theorem sweepAll_sm : ∀ {ts : List Th} {l : Lk}, SmL l → SmL (sweepAll ts l).1
  | [], _, h => h
  | t :: r, l, h => by
    have e : sweepAll (t :: r) l = ((sweepAll r (sweepL l t).1).1, (sweepL l t).2 ++ (sweepAll r (sweepL l t).1).2) := rfl
    rw [e]
    exact sweepAll_sm (sweepL_sm h t)
theorem cutW_sm {x : Int} {W : List Od} (h : ∀ o ∈ W, Sm o.th) : ∀ o ∈ cutW x W, Sm o.th := fun o ho => h o ((cutW_sub x W).subset ho)
theorem do_sm {l : Lk} {c : Cl} (h : SmL l) (hc : Sm c.th) : SmL (doL l c) := by
  unfold doL
  split
  · unfold askL
    split
    · exact h
    · split
      · exact h
      · simp only
        split
        · exact h
        · generalize (if modeL l.H c.x c.th = 0 then c.m else jnI (modeL l.H c.x c.th) c.m) = m'
          generalize (if modeL l.H c.x c.th = 0 then l.W.length else placeGo l.H c.th 0 0 l.W) = p
          split
          · exact ⟨fun o ho => (mem_giveL' ho).elim (fun e => by rw [e]; exact hc) (h.1 o), h.2⟩
          · refine ⟨h.1, fun o ho => ?_⟩
            unfold insL at ho
            rcases List.mem_append.1 ho with ho | ho
            · exact h.2 o (List.mem_of_mem_take ho)
            · rcases List.mem_cons.1 ho with rfl | ho
              · exact hc
              · exact h.2 o (List.mem_of_mem_drop ho)
  · split
    · unfold cancelL
      split
      · exact sweepL_sm (l := ⟨l.H, cutW c.x l.W⟩) ⟨h.1, cutW_sm h.2⟩ _
      · exact h
    · split
      · unfold releaseL
        exact sweepAll_sm (l := ⟨l.H.filter fun o => decide (o.x ≠ c.x), cutW c.x l.W⟩) ⟨fun o ho => h.1 o (List.mem_filter.1 ho).1, cutW_sm h.2⟩
      · exact h
theorem run_sm {cl : List Cl} (hc : ∀ c ∈ cl, Sm c.th) : ∀ k, k ≤ cl.length → SmL (runL cl k)
  | 0, _ => by rw [run_zero]; exact ⟨fun _ h => (by cases h), fun _ h => (by cases h)⟩
  | k + 1, h => by rw [run_succ (by omega)]; exact do_sm (run_sm hc k (by omega)) (hc _ (List.getElem_mem _))
/-! ### how long the answers are -/
theorem sweepAll_cnt : ∀ (ts : List Th) (l : Lk), (sweepAll ts l).2.length + (sweepAll ts l).1.W.length = l.W.length
  | [], _ => by simp [sweepAll]
  | t :: r, l => by
    have e : sweepAll (t :: r) l = ((sweepAll r (sweepL l t).1).1, (sweepL l t).2 ++ (sweepAll r (sweepL l t).1).2) := rfl
    rw [e]
    have h1 := sweepL_cnt l t
    have h2 := sweepAll_cnt r (sweepL l t).1
    simp only [List.length_append]
    omega
theorem cancel_len (l : Lk) (x : Int) : (cancelL l x).2.length ≤ szL l := by
  unfold cancelL
  split
  · rename_i o _
    have h1 := sweepL_cnt ⟨l.H, cutW x l.W⟩ o.th
    have h2 := (cutW_sub x l.W).length_le
    unfold szL
    simp only at h1 ⊢
    omega
  · exact Nat.zero_le _
theorem release_len (l : Lk) (x : Int) : (releaseL l x).2.length ≤ szL l := by
  unfold releaseL
  simp only
  have h2 := (cutW_sub x l.W).length_le
  have key : ∀ ts, (sweepAll ts ⟨l.H.filter fun o => decide (o.x ≠ x), cutW x l.W⟩).2.length ≤ szL l := fun ts => by
    have h1 := sweepAll_cnt ts ⟨l.H.filter fun o => decide (o.x ≠ x), cutW x l.W⟩
    unfold szL
    simp only at h1
    omega
  exact key _
theorem bkF_len (o : Od) : ∀ (L : List Od) (acc : List Int), (bkF o L acc).length ≤ acc.length + L.length
  | [], acc => by simp [bkF]
  | a :: r, acc => by
    unfold bkF
    rw [List.filter_cons]
    split
    · have h1 := bkF_len o r (putN acc a.x)
      have h2 := putN_len acc a.x
      unfold bkF at h1
      simp only [List.foldl_cons, List.length_cons]
      omega
    · have h1 := bkF_len o r acc
      unfold bkF at h1
      simp only [List.length_cons]
      omega
theorem akF_len (o : Od) (x : Int) : ∀ (L : List Od) (acc : List Int), (akF o x L acc).length ≤ acc.length + L.length
  | [], acc => by simp [akF]
  | a :: r, acc => by
    have h1 := akF_step (o := o) (x := x) (L := a :: r) (k := 0) (by simp) acc
    simp only [List.drop_zero, List.getElem_cons_zero, List.drop_succ_cons] at h1
    rw [h1]
    split
    · simp only [List.length_cons]; omega
    · split
      · have h2 := akF_len o x r (putN acc a.x)
        have h3 := putN_len acc a.x
        simp only [List.length_cons]
        omega
      · have h2 := akF_len o x r acc
        simp only [List.length_cons]
        omega
theorem block_len (l : Lk) (x : Int) : (blockL l x).length ≤ szL l := by
  cases h : waitL l.W x with
  | none => unfold blockL; rw [h]; exact Nat.zero_le _
  | some o =>
    rw [blockL_some h]
    have h1 := akF_len o x l.W (bkF o l.H [])
    have h2 := bkF_len o l.H []
    unfold szL
    simp only [List.length_nil] at h2
    omega
theorem state_len' (l : Lk) (t : Th) : (stateL l t).length ≤ szL l := by
  unfold szL stateL
  have h2 := List.length_filter_le (fun o : Od => decide (o.th = t)) l.H
  have h3 := List.length_filter_le (fun o : Od => decide (o.th = t)) l.W
  simp only [List.length_append, List.length_map]
  omega
/-! ### both locks -/
/-- the program's locks and the document's, apart -/
structure Tm (T : LkP) (w0 w : World) (ta : Nat) (la : Lk) (rb : Nat) (lb : Lk) (Da Db : Nat → Prop) : Prop where
  a : T w0.heap.size Da w ta la
  r : RkV w0.heap.size Db w rb lb
  ap : ∀ k, Da k → ¬ Db k
  low : Below w0.heap.size w0 w
section
variable {T : LkP} (I : ImplL T) {w0 w w' : World} {ta rb : Nat} {la lb l' : Lk} {Da Db : Nat → Prop}
include I
theorem Tm.below (h : Tm T w0 w ta la rb lb Da Db) (hb : Below w.heap.size w w') : Tm T w0 w' ta la rb lb Da Db := ⟨I.below h.a hb, h.r.below hb, h.ap, h.low.trans (hb.mono h.low.size)⟩
theorem Tm.stepA (h : Tm T w0 w ta la rb lb Da Db) (ht : T w0.heap.size (Ext Da w w') w' ta l') (hc : Chg Da w w') : Tm T w0 w' ta l' rb lb (Ext Da w w') Db := by
  refine ⟨ht, h.r.chg hc fun k hk hk' => h.ap k hk' hk, fun k hk hkb => ?_, h.low.trans (hc.below (fun _ hk => (I.foot h.a hk).1) h.low.size)⟩
  have hf := (h.r.foot hkb).2
  rcases hk with hk | hk
  · exact h.ap k hk hkb
  · omega
theorem Tm.stepB (h : Tm T w0 w ta la rb lb Da Db) (k : RkTo w0.heap.size rb Db w l' w') : Tm T w0 w' ta la rb l' Da (Ext Db w w') := by
  refine ⟨I.chg h.a k.2 fun q hq => h.ap q hq, k.1, fun q hq hqb => ?_, h.low.trans (k.2.below (fun _ hq => (h.r.foot hq).1) h.low.size)⟩
  have hf := (I.foot h.a hq).2
  rcases hqb with hq2 | hq2
  · exact h.ap q hq hq2
  · omega
end
/-- a row of numbers made since a world of size s -/
def NumsAt (s : Nat) (w : World) (xs : List Int) (A : Option Addr) (n _ : Nat) : Prop := n = xs.length ∧ RowG intV 1 w w.heap.size A xs ∧ ∀ ad, A = some ad → 0 < n → s ≤ ad.block
theorem IntsRet.at_ {w w' : World} {xs : List Int} {v : Value} (h : IntsRet w xs w' v) : ∃ A n c, v = .slice A n c ∧ NumsAt w.heap.size w' xs A n c := by
  obtain ⟨A, n, c, rfl, hn, ho⟩ := h
  refine ⟨A, n, c, rfl, hn, ?_, fun ad ha h0 => ?_⟩
  · obtain ⟨A2, n2, c2, e, hn2, hg⟩ := IntsRet.g ⟨A, n, c, rfl, hn, ho⟩
    injection e with e1 e2 e3
    subst e1
    exact hg
  · subst ha
    obtain ⟨g, hg⟩ := own_form' ho h0
    injection hg with hg
    subst hg
    exact (ho.lt g rfl).1
theorem NumsAt.keep {s : Nat} {w w' : World} {F : Nat → Prop} {xs : List Int} {A : Option Addr} {n c : Nat} (h : NumsAt s w xs A n c) (hc : Chg F w w') (hF : ∀ k, F k → k < s) : NumsAt s w' xs A n c :=
  ⟨h.1, h.2.1.keep hc fun ad ha h0 hf => by have := h.2.2 ad ha (by rw [h.1]; exact h0); have := hF _ hf; omega, h.2.2⟩
end Go.Proofs.YthbbheegkhlniaaGreat

/-
  What is waited for is the same.
-/
namespace Go.Proofs.YthbbheegkhlniaaGreat
open Go.RowKit Go.Lib

theorem eqTh_in (d : Nat) (x : Th) (w : World) : (Op.equalIn (d + 2) 32 (.agg #[.int .i64 x.k, .string x.t, .string x.y]) (.agg #[.int .i64 x.k, .string x.t, .string x.y])).run Tryz.prog w = .ok true w := by
  have u3 := Tryz.underlying3
  have a3 := Tryz.isAgg3
  have z3 := Tryz.sizeOf3
  have u9 := Tryz.underlying9
  have a9 := Tryz.isAgg9
  have z9 := Tryz.sizeOf9
  have hS : Tryz.prog.underlying 32 = some (.struct (Tryz.prog.fieldsOf 32)) := by kernel_rfl
  have hp : Tryz.prog.stoodInHeld 32 = false := by kernel_rfl
  rw [show d + 2 = (d + 1) + 1 from rfl, run_equalIn_agg w (d + 1) 32 _ _ hS hp]
  simp only [Program.fieldsOf, Tryz.underlying32]
  go_simp
theorem neWant (x : Th) (m : Int) (w : World) : (binOp .neq 34 (.agg #[.int .i64 x.k, .string x.t, .string x.y, .int .i64 m]) (.agg #[.int .i64 x.k, .string x.t, .string x.y, .int .i64 m])).run Tryz.prog w = .ok (.bool false) w := by
  have u3 := Tryz.underlying3
  have a3 := Tryz.isAgg3
  have z3 := Tryz.sizeOf3
  have uT := Tryz.underlying32
  have aT := Tryz.isAgg32
  have zT := Tryz.sizeOf32
  have hS : Tryz.prog.underlying 34 = some (.struct (Tryz.prog.fieldsOf 34)) := by kernel_rfl
  have hp : Tryz.prog.stoodInHeld 34 = false := by kernel_rfl
  have he := fun d (w : World) => eqTh_in d x w
  have he1 := he 9997
  rw [run_neq_struct, show (10000 : Nat) = 9999 + 1 from rfl, run_equalIn_agg w 9999 34 _ _ hS hp]
  simp only [Program.fieldsOf, Tryz.underlying34]
  go_simp
end Go.Proofs.YthbbheegkhlniaaGreat

/-
  LockCalls over the contract: both locks are told the same and answer the same. Written by genrkq.py.
-/
namespace Go.Proofs.YthbbheegkhlniaaGreat
open Go.RowKit Go.Lib

/-- both locks, and a call in its block -/
structure Tmb (T : LkP) (w0 w : World) (ta : Nat) (la : Lk) (rb : Nat) (lb : Lk) (Da Db : Nat → Prop) (b : Nat) (x : Cl) : Prop where
  t : Tm T w0 w ta la rb lb Da Db
  q : Blk w b 36 #[.int .i64 x.w, .int .i64 x.x, .int .i64 x.th.k, .string x.th.t, .string x.th.y, .int .i64 x.m]
  na : ¬ Da b
  nb : ¬ Db b
section
variable {T : LkP} (I : ImplL T) {w0 w w' : World} {ta rb b : Nat} {la lb l' : Lk} {Da Db : Nat → Prop} {x : Cl}
include I
theorem Tmb.below (h : Tmb T w0 w ta la rb lb Da Db b x) (hb : Below w.heap.size w w') : Tmb T w0 w' ta la rb lb Da Db b x := ⟨h.t.below I hb, h.q.below hb h.q.lt, h.na, h.nb⟩
theorem Tmb.stepA (h : Tmb T w0 w ta la rb lb Da Db b x) (ht : T w0.heap.size (Ext Da w w') w' ta l') (hc : Chg Da w w') : Tmb T w0 w' ta l' rb lb (Ext Da w w') Db b x :=
  ⟨h.t.stepA I ht hc, h.q.chg hc h.na, fun hd => hd.elim h.na fun hd => by have := h.q.lt; omega, h.nb⟩
theorem Tmb.stepB (h : Tmb T w0 w ta la rb lb Da Db b x) (k : RkTo w0.heap.size rb Db w l' w') : Tmb T w0 w' ta la rb l' Da (Ext Db w w') b x :=
  ⟨h.t.stepB I k, h.q.chg k.2 h.nb, h.na, fun hd => hd.elim h.nb fun hd => by have := h.q.lt; omega⟩
theorem Tm.own (h : Tm T w0 w ta la rb lb Da Db) (hb : Below w.heap.size w w') (hk : Blk w' b 36 #[.int .i64 x.w, .int .i64 x.x, .int .i64 x.th.k, .string x.th.t, .string x.th.y, .int .i64 x.m]) (hn : w.heap.size ≤ b) : Tmb T w0 w' ta la rb lb Da Db b x :=
  ⟨h.below I hb, hk, fun hd => by have := (I.foot h.a hd).2; omega, fun hd => by have := (h.r.foot hd).2; omega⟩
end
/-- rows that are read, with their lengths -/
structure HeldAt (w : World) (A : Option Addr) (n : Nat) (xs : List (Int × Int × Bool)) : Prop where
  n : n = xs.length
  g : RowG heldC 3 w w.heap.size A xs
structure IntsAt (w : World) (A : Option Addr) (n : Nat) (xs : List Int) : Prop where
  n : n = xs.length
  g : RowG intV 1 w w.heap.size A xs
theorem HeldAt.below {w w' : World} {A : Option Addr} {n : Nat} {xs : List (Int × Int × Bool)} (h : HeldAt w A n xs) (hb : Below w.heap.size w w') : HeldAt w' A n xs := ⟨h.n, (h.g.below hb (Nat.le_refl _)).more hb.size⟩
theorem IntsAt.below {w w' : World} {A : Option Addr} {n : Nat} {xs : List Int} (h : IntsAt w A n xs) (hb : Below w.heap.size w w') : IntsAt w' A n xs := ⟨h.n, (h.g.below hb (Nat.le_refl _)).more hb.size⟩
theorem s25_below {w w0 : World} {b b11 b13 : Nat} {x : Cl} {tt : Th} {mm : Int} (hb : Below w0.heap.size w0 w) (h : w0.cell? ⟨b, 1, none⟩ = some (.int .i64 x.x) ∧ w0.cell? ⟨b, 2, none⟩ = some (.int .i64 x.th.k) ∧ w0.cell? ⟨b, 3, none⟩ = some (.string x.th.t) ∧ w0.cell? ⟨b, 4, none⟩ = some (.string x.th.y) ∧ w0.cell? ⟨b11, 0, none⟩ = some (.int .i64 tt.k) ∧ w0.cell? ⟨b11, 1, none⟩ = some (.string tt.t) ∧ w0.cell? ⟨b11, 2, none⟩ = some (.string tt.y) ∧ w0.cell? ⟨b11, 3, none⟩ = some (.int .i64 mm) ∧ w0.cell? ⟨b13, 0, none⟩ = some (.int .i64 tt.k) ∧ w0.cell? ⟨b13, 1, none⟩ = some (.string tt.t) ∧ w0.cell? ⟨b13, 2, none⟩ = some (.string tt.y) ∧ w0.cell? ⟨b13, 3, none⟩ = some (.int .i64 mm)) : w.cell? ⟨b, 1, none⟩ = some (.int .i64 x.x) ∧ w.cell? ⟨b, 2, none⟩ = some (.int .i64 x.th.k) ∧ w.cell? ⟨b, 3, none⟩ = some (.string x.th.t) ∧ w.cell? ⟨b, 4, none⟩ = some (.string x.th.y) ∧ w.cell? ⟨b11, 0, none⟩ = some (.int .i64 tt.k) ∧ w.cell? ⟨b11, 1, none⟩ = some (.string tt.t) ∧ w.cell? ⟨b11, 2, none⟩ = some (.string tt.y) ∧ w.cell? ⟨b11, 3, none⟩ = some (.int .i64 mm) ∧ w.cell? ⟨b13, 0, none⟩ = some (.int .i64 tt.k) ∧ w.cell? ⟨b13, 1, none⟩ = some (.string tt.t) ∧ w.cell? ⟨b13, 2, none⟩ = some (.string tt.y) ∧ w.cell? ⟨b13, 3, none⟩ = some (.int .i64 mm) := by
  have hc : ∀ {a : Addr} {v : Value}, w0.cell? a = some v → w.cell? a = some v := fun h => (hb.cell (World.block_lt_of_cell? _ _ h)).trans h
  obtain ⟨h1, h2, h3, h4, h5, h6, h7, h8, h9, h10, h11, h12⟩ := h
  exact ⟨hc h1, hc h2, hc h3, hc h4, hc h5, hc h6, hc h7, hc h8, hc h9, hc h10, hc h11, hc h12⟩
theorem doL_ask {l : Lk} {x : Cl} (h : x.w = 0) : doL l x = (askL l x.x x.th x.m).1 := by unfold doL; rw [if_pos h]
theorem doL_cancel {l : Lk} {x : Cl} (h : x.w = 1) : doL l x = (cancelL l x.x).1 := by unfold doL; rw [if_neg (by omega), if_pos h]
theorem doL_release {l : Lk} {x : Cl} (h : x.w = 2) : doL l x = (releaseL l x.x).1 := by unfold doL; rw [if_neg (by omega), if_neg (by omega), if_pos h]
theorem doL_none {l : Lk} {x : Cl} (h0 : ¬ x.w = 0) (h1 : ¬ x.w = 1) (h2 : ¬ x.w = 2) : doL l x = l := by unfold doL; rw [if_neg h0, if_neg h1, if_neg h2]
set_option maxRecDepth 100000 in
set_option maxHeartbeats 12800000 in
theorem lcalls_walk {T : LkP} (I : ImplL T) (A : Option Addr) (c : Nat) (cl : List Cl) (w : World) (hc : RowG clC 6 w w.heap.size A cl) (hin : ∀ x ∈ cl, x.In) (hl : cl.length ≤ c) (hm : c ≤ maxLen) :
    Says Tryz.prog 3 #[.slice A cl.length c] w (.bool true) := by
  have hmix : Tryz.prog.follows .mixedOrders = true := by kernel_rfl
  have H := Lib.hid (And.intro hc (And.intro hin (Nat.le_trans hl hm)))
  have HAL := Lib.hid fun (w : World) => alive11_any I w
  clear hc hin hl hm
  go_enter Tryz.func3, Tryz.ntmps3
  go_wp2_with fail
  refine (HAL.out w).mono ?_
  rintro e w1 ⟨rfl, hb1⟩
  have H1 := Lib.hid hb1
  clear hb1
  go_wp2_with fail
  refine (great11_sm A c cl w1 w.heap.size (H.out.1.below H1.out (Nat.le_refl _))).mono ?_
  rintro e w1' ⟨rfl, rfl | ⟨rfl, hfew, hsm⟩⟩
  · go_wp2_with fail
    go_ret
    exact ⟨rfl, H1.out⟩
  go_wp2_with fail
  refine (I.new w1' w.heap.size H1.out.size).mono ?_
  rintro e w2 ⟨tb, D, rfl, ht2, _, hb2⟩
  have H2 := Lib.hid (And.intro ht2 (H1.out.trans (hb2.mono H1.out.size)))
  have HSM := Lib.hid hsm
  clear ht2 hb2 hsm
  obtain ⟨n, hn⟩ : ∃ n, n = cl.length := ⟨_, rfl⟩
  have hn120 : n ≤ 120 := by rw [hn]; exact hfew
  have hn0 : (0 : Int) ≤ (n : Int) := Int.natCast_nonneg _
  rw [← hn]
  have HN := Lib.hid hn
  clear hn hfew
  obtain ⟨w3, hw3⟩ : ∃ w3, w3 = w2.alloc (.cells #[.slice none 0 0, .slice none 0 0] 30) := ⟨_, rfl⟩
  obtain ⟨rb, hrb⟩ : ∃ rb, rb = w2.heap.size := ⟨_, rfl⟩
  have hT3 : Tm T w w3 tb ⟨[], []⟩ rb ⟨[], []⟩ D (fun k => k = rb) := by
    have hb3 : Below w2.heap.size w2 w3 := by rw [hw3]; exact (Below.refl _ w2).alloc (Nat.le_refl _) _
    have hs := H2.out.2.size
    refine ⟨I.below H2.out.1 hb3, ⟨none, 0, 0, none, 0, 0, by rw [hw3, hrb]; exact Blk.new _ _ _, rfl, rfl, World.ownsRow_nil _ _ _ _, World.ownsRow_nil _ _ _ _, fun k hk => (by cases hk), fun k hk => (by cases hk), fun k hk => (by cases hk), rfl, fun k hk => ⟨by omega, by rw [hk, hrb, hw3]; simp⟩⟩, fun k hk e => by have := (I.foot H2.out.1 hk).2; omega, H2.out.2.trans (hb3.mono hs)⟩
  have HW3 := Lib.hid (And.intro hw3 hrb)
  have HT3 := Lib.hid hT3
  clear hw3 hrb hT3
  go_upto_region 7 with fail
  rw [← HW3.out.1, ← HW3.out.2]
  go_wp2_with fail
  go_loopg [5] n (fun g iv wr => ∃ (k : Nat) (Da Db : Nat → Prop), k ≤ n ∧ g = n - k ∧ iv = .int .i64 k ∧ Tm T w wr tb (runL cl k) rb (runL cl k) Da Db)
  case atStart => exact ⟨0, D, _, by omega, by omega, rfl, by rw [run_zero]; exact HT3.out⟩
  case round =>
    obtain ⟨k, Da, Db, hk, hg, rfl, hT⟩ := hrel
    have HT := Lib.hid hT
    have hk0 : (0 : Int) ≤ (k : Int) := Int.natCast_nonneg _
    clear hT
    by_cases hlt : k < n
    · have hlt1 : (k : Int) < (n : Int) := by omega
      have hkl : k < cl.length := by rw [← HN.out]; exact hlt
      obtain ⟨ad, rfl, _, d0, d1, d2, d3, d4, d5⟩ := cl_at (H.out.1.below HT.out.low (Nat.le_refl _)) hkl
      have hxi := H.out.2.1 cl[k] (List.getElem_mem hkl)
      obtain ⟨x, hx⟩ : ∃ x, x = cl[k] := ⟨_, rfl⟩
      rw [← hx] at d0 d1 d2 d3 d4 d5 hxi
      have hsz := run_sz cl k (by rw [← HN.out]; exact hk)
      have hsz2 := run_sz cl (k + 1) (by rw [← HN.out]; omega)
      have hrun := run_succ hkl
      have hsmk := run_sm HSM.out k (by rw [← HN.out]; exact hk)
      have hsmk2 := run_sm HSM.out (k + 1) (by rw [← HN.out]; omega)
      rw [← hx] at hrun
      obtain ⟨l, hl⟩ : ∃ l, l = runL cl k := ⟨_, rfl⟩
      obtain ⟨l', hl'⟩ : ∃ l', l' = runL cl (k + 1) := ⟨_, rfl⟩
      rw [← hl', ← hl] at hrun
      rw [← hl] at hsz hsmk HT
      rw [← hl'] at hsz2 hsmk2
      have HX := Lib.hid (And.intro hxi (And.intro hrun (And.intro (show szL l ≤ 1000 by omega) (And.intro (show szL l' ≤ 1000 by omega) (And.intro hsmk (And.intro hsmk2 (And.intro hl' (show Sm x.th by rw [hx]; exact HSM.out _ (List.getElem_mem hkl)))))))))
      have HG := Lib.hid hg
      clear hx hxi hsz hsz2 hrun hsmk hsmk2 hl hl' hg
      go_upto_region 11 with fail
      obtain ⟨w4, hw4⟩ : ∃ w4, w4 = wr.alloc (.cells #[.int .i64 x.w, .int .i64 x.x, .int .i64 x.th.k, .string x.th.t, .string x.th.y, .int .i64 x.m] 36) := ⟨_, rfl⟩
      obtain ⟨b, hb⟩ : ∃ b, b = wr.heap.size := ⟨_, rfl⟩
      rw [← hw4, ← hb]
      have HB4 := Lib.hid (show Tmb T w w4 tb l rb l Da Db b x from HT.out.own I (by rw [hw4]; exact (Below.refl _ wr).alloc (Nat.le_refl _) _) (by rw [hw4, hb]; exact Blk.new _ _ _) (by rw [hb]; exact Nat.le_refl _))
      have HW4 := Lib.hid (And.intro hw4 hb)
      clear hw4 hb d0 d1 d2 d3 d4 d5
      have q0 : w4.cell? ⟨b, 0, none⟩ = some (.int .i64 x.w) := HB4.out.q.cell 0
      have q1 : w4.cell? ⟨b, 1, none⟩ = some (.int .i64 x.x) := HB4.out.q.cell 1
      have q2 : w4.cell? ⟨b, 2, none⟩ = some (.int .i64 x.th.k) := HB4.out.q.cell 2
      have q3 : w4.cell? ⟨b, 3, none⟩ = some (.string x.th.t) := HB4.out.q.cell 3
      have q4 : w4.cell? ⟨b, 4, none⟩ = some (.string x.th.y) := HB4.out.q.cell 4
      have q5 : w4.cell? ⟨b, 5, none⟩ = some (.int .i64 x.m) := HB4.out.q.cell 5
      have HR4 := Lib.hid (show Tmb T w w4.drew tb l rb l Da Db b x from HB4.out.below I ((Below.refl _ w4).drew))
      go_upto_block 2 with fail
      go_cut [7, 8, 9, 10] from 25 to 181 (fun _ _ _ _ wx => ∃ Da Db, Tmb T w wx tb l' rb l' Da Db b x)
      case first =>
        by_cases e0 : x.w = 0
        · have k0 : (x.w == 0) = true := by simp [e0]
          have HD := Lib.hid (show l' = (askL l x.x x.th x.m).1 by rw [HX.out.2.1, doL_ask e0])
          obtain ⟨ra, hra⟩ : ∃ ra, ra = (askL l x.x x.th x.m).2.1 := ⟨_, rfl⟩
          obtain ⟨re, hre⟩ : ∃ re, re = (askL l x.x x.th x.m).2.2 := ⟨_, rfl⟩
          have hrr : (ra != ra) = false := by simp
          have hree : (re != re) = false := by simp
          have HRA := Lib.hid (And.intro hra hre)
          clear e0 hra hre
          go_wp2_with (first
            | (go_at_call 7; refine (I.ask x.x x.th x.m HB4.out.t.a HX.out.2.2.1 HB4.out.t.low.size HX.out.1.2.1 HX.out.1.2.2.1 HX.out.1.2.2.2).mono ?_; rw [← HRA.out.1, ← HRA.out.2]; rintro e w5 ⟨rfl, ht, hc⟩; have HB5 := Lib.hid (HB4.out.stepA I ht hc); have q0 : w5.cell? ⟨b, 0, none⟩ = some (.int .i64 x.w) := HB5.out.q.cell 0; have q1 : w5.cell? ⟨b, 1, none⟩ = some (.int .i64 x.x) := HB5.out.q.cell 1; have q2 : w5.cell? ⟨b, 2, none⟩ = some (.int .i64 x.th.k) := HB5.out.q.cell 2; have q3 : w5.cell? ⟨b, 3, none⟩ = some (.string x.th.t) := HB5.out.q.cell 3; have q4 : w5.cell? ⟨b, 4, none⟩ = some (.string x.th.y) := HB5.out.q.cell 4; have q5 : w5.cell? ⟨b, 5, none⟩ = some (.int .i64 x.m) := HB5.out.q.cell 5; clear ht hc)
            | (go_at_call 8; refine (rask_any HB5.out.t.r (by have := HX.out.2.2.1; unfold szL at this; omega) (by have := HX.out.2.2.1; unfold szL at this; omega) HB5.out.t.low.size x.x x.th x.m).mono ?_; rw [← HRA.out.1, ← HRA.out.2]; rintro e w6 ⟨rfl, hto⟩; have HB6 := Lib.hid (HB5.out.stepB I hto); clear hto))
          go_meet
          exact ⟨_, _, by rw [HD.out]; exact HB6.out⟩
        · have k0 : (x.w == 0) = false := by simp [e0]
          by_cases e1 : x.w = 1
          · have k1 : (x.w == 1) = true := by simp [e1]
            have HD := Lib.hid (show l' = (cancelL l x.x).1 by rw [HX.out.2.1, doL_cancel e1])
            have HLEN := Lib.hid (show (cancelL l x.x).2.length ≤ 1000000 by have := cancel_len l x.x; have := HX.out.2.2.1; omega)
            clear e0 e1
            go_upto_region 18 with fail
            clear q0 q2 q3 q4 q5
            have HR := HR4
            have HKS := Lib.hid (show w4.drew.cell? ⟨b, 1, none⟩ = some (.int .i64 x.x) from q1)
            clear q1
            go_region_held3 (fun w' => w'.cell? ⟨b, 1, none⟩ = some (.int .i64 x.x))
             (first | exact HKS.out | go_keep)
             (first
              | (go_at_call 10; refine (I.cancel x.x HR.out.t.a HX.out.2.2.1 HR.out.t.low.size HX.out.1.2.1).mono ?_; rintro e w7 ⟨v7, rfl, hv7, ht7, hc7⟩; obtain ⟨A7, n7, c7, rfl, hr7⟩ := hv7.at_; (first | have HRB := Lib.hid (HRB.out.keep hc7 (fun k hk => (I.foot HB4.out.t.a hk).2)) | skip); have HRA := Lib.hid hr7; have HR := Lib.hid (HR.out.stepA I ht7 hc7); have HKS := Lib.hid (show w7.cell? ⟨b, 1, none⟩ = some (.int .i64 x.x) from HR.out.q.cell 1); clear hv7 ht7 hc7 hr7)
              | (go_at_call 11; refine (rcancel_any HR.out.t.r (by have := HX.out.2.2.1; omega) HR.out.t.low.size x.x).mono ?_; rintro e w8 ⟨v8, rfl, hv8, hto8⟩; obtain ⟨A8, n8, c8, rfl, hr8⟩ := hv8.at_; (first | have HRA := Lib.hid (HRA.out.keep hto8.2 (fun k hk => (HB4.out.t.r.foot hk).2)) | skip); have HRB := Lib.hid hr8; have HR := Lib.hid (HR.out.stepB I hto8); have HKS := Lib.hid (show w8.cell? ⟨b, 1, none⟩ = some (.int .i64 x.x) from HR.out.q.cell 1); clear hv8 hto8 hr8)
              | (go_at_call 9; refine (sameI_yes HRA.out.1 HRB.out.1 HRA.out.2.1 HRB.out.2.1 HLEN.out).mono ?_; rintro e w9 ⟨rfl, hb9⟩; have HR9 := Lib.hid (HR.out.below I hb9); have HKS := Lib.hid (show w9.cell? ⟨b, 1, none⟩ = some (.int .i64 x.x) from HR9.out.q.cell 1); clear hb9))
            all_goals (go_wp2_with fail; go_meet; exact ⟨_, _, by rw [HD.out]; exact HR9.out⟩)
          · have k1 : (x.w == 1) = false := by simp [e1]
            by_cases e2 : x.w = 2
            · have k2 : (x.w == 2) = true := by simp [e2]
              have HD := Lib.hid (show l' = (releaseL l x.x).1 by rw [HX.out.2.1, doL_release e2])
              have HLEN := Lib.hid (show (releaseL l x.x).2.length ≤ 1000000 by have := release_len l x.x; have := HX.out.2.2.1; omega)
              clear e0 e1 e2
              go_upto_region 21 with fail
              clear q0 q2 q3 q4 q5
              have HR := HR4
              have HKS := Lib.hid (show w4.drew.cell? ⟨b, 1, none⟩ = some (.int .i64 x.x) from q1)
              clear q1
              go_region_held3 (fun w' => w'.cell? ⟨b, 1, none⟩ = some (.int .i64 x.x))
               (first | exact HKS.out | go_keep)
               (first
                | (go_at_call 12; refine (I.release x.x HR.out.t.a HX.out.2.2.1 HR.out.t.low.size HX.out.1.2.1).mono ?_; rintro e w7 ⟨v7, rfl, hv7, ht7, hc7⟩; obtain ⟨A7, n7, c7, rfl, hr7⟩ := hv7.at_; (first | have HRB := Lib.hid (HRB.out.keep hc7 (fun k hk => (I.foot HB4.out.t.a hk).2)) | skip); have HRA := Lib.hid hr7; have HR := Lib.hid (HR.out.stepA I ht7 hc7); have HKS := Lib.hid (show w7.cell? ⟨b, 1, none⟩ = some (.int .i64 x.x) from HR.out.q.cell 1); clear hv7 ht7 hc7 hr7)
                | (go_at_call 13; refine (rrelease_any HR.out.t.r (by have := HX.out.2.2.1; omega) HR.out.t.low.size HX.out.2.2.2.2.1.1 HX.out.2.2.2.2.1.2 x.x).mono ?_; rintro e w8 ⟨v8, rfl, hv8, hto8⟩; obtain ⟨A8, n8, c8, rfl, hr8⟩ := hv8.at_; (first | have HRA := Lib.hid (HRA.out.keep hto8.2 (fun k hk => (HB4.out.t.r.foot hk).2)) | skip); have HRB := Lib.hid hr8; have HR := Lib.hid (HR.out.stepB I hto8); have HKS := Lib.hid (show w8.cell? ⟨b, 1, none⟩ = some (.int .i64 x.x) from HR.out.q.cell 1); clear hv8 hto8 hr8)
                | (go_at_call 9; refine (sameI_yes HRA.out.1 HRB.out.1 HRA.out.2.1 HRB.out.2.1 HLEN.out).mono ?_; rintro e w9 ⟨rfl, hb9⟩; have HR9 := Lib.hid (HR.out.below I hb9); have HKS := Lib.hid (show w9.cell? ⟨b, 1, none⟩ = some (.int .i64 x.x) from HR9.out.q.cell 1); clear hb9))
              all_goals (go_wp2_with fail; go_meet; exact ⟨_, _, by rw [HD.out]; exact HR9.out⟩)
            · have k2 : (x.w == 2) = false := by simp [e2]
              have HD := Lib.hid (show l' = l by rw [HX.out.2.1, doL_none e0 e1 e2])
              clear e0 e1 e2
              go_wp2_with fail
              go_meet
              exact ⟨_, _, by rw [HD.out]; exact HB4.out⟩
      case rest =>
        obtain ⟨Da', Db', hB⟩ := hcut
        have HC := Lib.hid hB
        clear hB q0 q1 q2 q3 q4 q5
        obtain ⟨tt, mm, ok, hwt⟩ : ∃ (tt : Th) (mm : Int) (ok : Bool), waitR l' x.x = .tuple #[.agg #[.int .i64 tt.k, .string tt.t, .string tt.y, .int .i64 mm], .bool ok] := by
          unfold waitR
          cases waitL l'.W x.x with
          | none => exact ⟨⟨0, ⟨#[]⟩, ⟨#[]⟩⟩, 0, false, rfl⟩
          | some o => exact ⟨o.th, o.m, true, rfl⟩
        have HWT := Lib.hid hwt
        clear hwt
        have hok : (ok != ok) = false := by simp
        have HSZ := Lib.hid (show l'.W.length ≤ 1000000 ∧ l'.H.length ≤ 900000 ∧ szL l' ≤ 900000 by have := HX.out.2.2.2.1; unfold szL at this ⊢; omega)
        have q0 : wc.cell? ⟨b, 0, none⟩ = some (.int .i64 x.w) := HC.out.q.cell 0
        have q1 : wc.cell? ⟨b, 1, none⟩ = some (.int .i64 x.x) := HC.out.q.cell 1
        have q2 : wc.cell? ⟨b, 2, none⟩ = some (.int .i64 x.th.k) := HC.out.q.cell 2
        have q3 : wc.cell? ⟨b, 3, none⟩ = some (.string x.th.t) := HC.out.q.cell 3
        have q4 : wc.cell? ⟨b, 4, none⟩ = some (.string x.th.y) := HC.out.q.cell 4
        have q5 : wc.cell? ⟨b, 5, none⟩ = some (.int .i64 x.m) := HC.out.q.cell 5
        go_upto_region 24 with (go_at_call 14; refine (I.waiting x.x HC.out.t.a HX.out.2.2.2.1 HX.out.1.2.1).mono ?_; rw [HWT.out]; rintro e w11 ⟨rfl, hb⟩; have H11 := Lib.hid hb; clear hb)
        obtain ⟨w12, hw12⟩ : ∃ w12, w12 = w11.alloc (.cells #[.int .i64 tt.k, .string tt.t, .string tt.y, .int .i64 mm] 34) := ⟨_, rfl⟩
        obtain ⟨b11, hb11⟩ : ∃ b11, b11 = w11.heap.size := ⟨_, rfl⟩
        rw [← hw12, ← hb11]
        have hba : Below w11.heap.size w11 w12 := by rw [hw12]; exact (Below.refl _ w11).alloc (Nat.le_refl _) _
        have HC2 := Lib.hid ((HC.out.below I H11.out).below I hba)
        have HK11 := Lib.hid (show Blk w12 b11 34 #[.int .i64 tt.k, .string tt.t, .string tt.y, .int .i64 mm] by rw [hw12, hb11]; exact Blk.new _ _ _)
        have HW12 := Lib.hid (And.intro hw12 hb11)
        clear hw12 hb11 hba q0 q1 q2 q3 q4 q5
        have q0 : w12.cell? ⟨b, 0, none⟩ = some (.int .i64 x.w) := HC2.out.q.cell 0
        have q1 : w12.cell? ⟨b, 1, none⟩ = some (.int .i64 x.x) := HC2.out.q.cell 1
        have q2 : w12.cell? ⟨b, 2, none⟩ = some (.int .i64 x.th.k) := HC2.out.q.cell 2
        have q3 : w12.cell? ⟨b, 3, none⟩ = some (.string x.th.t) := HC2.out.q.cell 3
        have q4 : w12.cell? ⟨b, 4, none⟩ = some (.string x.th.y) := HC2.out.q.cell 4
        have q5 : w12.cell? ⟨b, 5, none⟩ = some (.int .i64 x.m) := HC2.out.q.cell 5
        go_upto_region 25 with (go_at_call 15; refine (rwaiting_any HC2.out.t.r HSZ.out.1 x.x).mono ?_; rw [HWT.out]; rintro e w13 ⟨rfl, hb⟩; have H13 := Lib.hid hb; clear hb)
        obtain ⟨w14, hw14⟩ : ∃ w14, w14 = w13.alloc (.cells #[.int .i64 tt.k, .string tt.t, .string tt.y, .int .i64 mm] 34) := ⟨_, rfl⟩
        obtain ⟨b13, hb13⟩ : ∃ b13, b13 = w13.heap.size := ⟨_, rfl⟩
        rw [← hw14, ← hb13]
        have hba : Below w13.heap.size w13 w14 := by rw [hw14]; exact (Below.refl _ w13).alloc (Nat.le_refl _) _
        have HC4 := Lib.hid ((HC2.out.below I H13.out).below I hba)
        have HK14 := Lib.hid (And.intro ((HK11.out.below H13.out HK11.out.lt).below hba (Nat.lt_of_lt_of_le HK11.out.lt H13.out.size)) (show Blk w14 b13 34 #[.int .i64 tt.k, .string tt.t, .string tt.y, .int .i64 mm] by rw [hw14, hb13]; exact Blk.new _ _ _))
        have HW14 := Lib.hid (And.intro hw14 hb13)
        clear hw14 hb13 hba q0 q1 q2 q3 q4 q5
        go_cut [153] from 25 to 181 (fun v wx => v = .bool false ∧ Tmb T w wx tb l' rb l' Da' Db' b x)
        case first =>
          have q0 : w14.cell? ⟨b, 0, none⟩ = some (.int .i64 x.w) := HC4.out.q.cell 0
          have q1 : w14.cell? ⟨b, 1, none⟩ = some (.int .i64 x.x) := HC4.out.q.cell 1
          have q2 : w14.cell? ⟨b, 2, none⟩ = some (.int .i64 x.th.k) := HC4.out.q.cell 2
          have q3 : w14.cell? ⟨b, 3, none⟩ = some (.string x.th.t) := HC4.out.q.cell 3
          have q4 : w14.cell? ⟨b, 4, none⟩ = some (.string x.th.y) := HC4.out.q.cell 4
          have q5 : w14.cell? ⟨b, 5, none⟩ = some (.int .i64 x.m) := HC4.out.q.cell 5
          have t0 : w14.cell? ⟨b11, 0, none⟩ = some (.int .i64 tt.k) := HK14.out.1.cell 0
          have t1 : w14.cell? ⟨b11, 1, none⟩ = some (.string tt.t) := HK14.out.1.cell 1
          have t2 : w14.cell? ⟨b11, 2, none⟩ = some (.string tt.y) := HK14.out.1.cell 2
          have t3 : w14.cell? ⟨b11, 3, none⟩ = some (.int .i64 mm) := HK14.out.1.cell 3
          have s0 : w14.cell? ⟨b13, 0, none⟩ = some (.int .i64 tt.k) := HK14.out.2.cell 0
          have s1 : w14.cell? ⟨b13, 1, none⟩ = some (.string tt.t) := HK14.out.2.cell 1
          have s2 : w14.cell? ⟨b13, 2, none⟩ = some (.string tt.y) := HK14.out.2.cell 2
          have s3 : w14.cell? ⟨b13, 3, none⟩ = some (.int .i64 mm) := HK14.out.2.cell 3
          have hne := neWant tt mm
          obtain ⟨md, hmd⟩ : ∃ md, md = modeL l'.H x.x x.th := ⟨_, rfl⟩
          have hmm : (md != md) = false := by simp
          have HMD := Lib.hid hmd
          have HBK := Lib.hid (show (blockL l' x.x).length ≤ 1000000 ∧ (stateL l' x.th).length ≤ 1000000 by have := block_len l' x.x; have := state_len' l' x.th; have := HX.out.2.2.2.1; omega)
          clear hmd
          clear q0 q5
          have HR := Lib.hid (show Tmb T w w14.drew tb l' rb l' Da' Db' b x from HC4.out.below I ((Below.refl _ w14).drew))
          have HKS := Lib.hid (show w14.drew.cell? ⟨b, 1, none⟩ = some (.int .i64 x.x) ∧ w14.drew.cell? ⟨b, 2, none⟩ = some (.int .i64 x.th.k) ∧ w14.drew.cell? ⟨b, 3, none⟩ = some (.string x.th.t) ∧ w14.drew.cell? ⟨b, 4, none⟩ = some (.string x.th.y) ∧ w14.drew.cell? ⟨b11, 0, none⟩ = some (.int .i64 tt.k) ∧ w14.drew.cell? ⟨b11, 1, none⟩ = some (.string tt.t) ∧ w14.drew.cell? ⟨b11, 2, none⟩ = some (.string tt.y) ∧ w14.drew.cell? ⟨b11, 3, none⟩ = some (.int .i64 mm) ∧ w14.drew.cell? ⟨b13, 0, none⟩ = some (.int .i64 tt.k) ∧ w14.drew.cell? ⟨b13, 1, none⟩ = some (.string tt.t) ∧ w14.drew.cell? ⟨b13, 2, none⟩ = some (.string tt.y) ∧ w14.drew.cell? ⟨b13, 3, none⟩ = some (.int .i64 mm) from ⟨q1, q2, q3, q4, t0, t1, t2, t3, s0, s1, s2, s3⟩)
          clear q1 q2 q3 q4 t0 t1 t2 t3 s0 s1 s2 s3
          go_region_held3 (fun w' => w'.cell? ⟨b, 1, none⟩ = some (.int .i64 x.x) ∧ w'.cell? ⟨b, 2, none⟩ = some (.int .i64 x.th.k) ∧ w'.cell? ⟨b, 3, none⟩ = some (.string x.th.t) ∧ w'.cell? ⟨b, 4, none⟩ = some (.string x.th.y) ∧ w'.cell? ⟨b11, 0, none⟩ = some (.int .i64 tt.k) ∧ w'.cell? ⟨b11, 1, none⟩ = some (.string tt.t) ∧ w'.cell? ⟨b11, 2, none⟩ = some (.string tt.y) ∧ w'.cell? ⟨b11, 3, none⟩ = some (.int .i64 mm) ∧ w'.cell? ⟨b13, 0, none⟩ = some (.int .i64 tt.k) ∧ w'.cell? ⟨b13, 1, none⟩ = some (.string tt.t) ∧ w'.cell? ⟨b13, 2, none⟩ = some (.string tt.y) ∧ w'.cell? ⟨b13, 3, none⟩ = some (.int .i64 mm))
           (first | exact HKS.out | go_keep)
           (first
            | (go_at_call 17; refine (I.state x.th HR.out.t.a HX.out.2.2.2.1 HX.out.1.2.2.1).mono ?_; rintro e w21 ⟨A1, n1, c1, rfl, hn1, ho1, hb1⟩; (first | have HSB := Lib.hid (HSB.out.below hb1) | skip); have HSA := Lib.hid (HeldAt.mk hn1 (own_held ho1 hn1)); have HR := Lib.hid (HR.out.below I hb1); have HKS := Lib.hid (s25_below hb1 HKS.out); clear hn1 ho1 hb1)
            | (go_at_call 18; refine (rstate_any HR.out.t.r HSZ.out.2.2 x.th).mono ?_; rintro e w22 ⟨A2, n2, c2, rfl, hn2, ho2, hb2⟩; (first | have HSA := Lib.hid (HSA.out.below hb2) | skip); have HSB := Lib.hid (HeldAt.mk hn2 ho2); have HR := Lib.hid (HR.out.below I hb2); have HKS := Lib.hid (s25_below hb2 HKS.out); clear hn2 ho2 hb2)
            | (go_at_call 16; refine (sameH_yes HSA.out.n HSB.out.n HSA.out.g HSB.out.g HBK.out.2).mono ?_; rintro e w23 ⟨rfl, hb3⟩; have HR := Lib.hid (HR.out.below I hb3); have HKS := Lib.hid (s25_below hb3 HKS.out); clear hb3)
            | (go_at_call 19; refine (I.blockers x.x HR.out.t.a HX.out.2.2.2.1 HX.out.1.2.1).mono ?_; rintro e w24 ⟨v4, rfl, hv4, hb4⟩; obtain ⟨A4, n4, c4, rfl, hr4⟩ := hv4.at_; (first | have HNB := Lib.hid (HNB.out.below hb4) | skip); have HNA := Lib.hid (IntsAt.mk hr4.1 hr4.2.1); have HR := Lib.hid (HR.out.below I hb4); have HKS := Lib.hid (s25_below hb4 HKS.out); clear hv4 hr4 hb4)
            | (go_at_call 20; refine (rblockers_any HR.out.t.r HSZ.out.2.2 x.x).mono ?_; rintro e w25 ⟨v5, rfl, ⟨A5, n5, c5, rfl, hn5, hc5, hg5⟩, hb5⟩; (first | have HNA := Lib.hid (HNA.out.below hb5) | skip); have HNB := Lib.hid (IntsAt.mk hn5 hg5); have HR := Lib.hid (HR.out.below I hb5); have HKS := Lib.hid (s25_below hb5 HKS.out); clear hn5 hc5 hg5 hb5)
            | (go_at_call 9; refine (sameI_yes HNA.out.n HNB.out.n HNA.out.g HNB.out.g HBK.out.1).mono ?_; rintro e w26 ⟨rfl, hb6⟩; have HR := Lib.hid (HR.out.below I hb6); have HKS := Lib.hid (s25_below hb6 HKS.out); clear hb6)
            | (go_at_call 21; refine (I.mode x.x x.th HR.out.t.a HX.out.2.2.2.1 HX.out.1.2.1 HX.out.1.2.2.1).mono ?_; rw [← HMD.out]; rintro e w27 ⟨rfl, hb7⟩; have HR := Lib.hid (HR.out.below I hb7); have HKS := Lib.hid (s25_below hb7 HKS.out); clear hb7)
            | (go_at_call 22; refine (rmode_any HR.out.t.r (by have := HSZ.out.2.1; omega) x.x x.th).mono ?_; rw [← HMD.out]; rintro e w28 ⟨rfl, hb8⟩; have HR := Lib.hid (HR.out.below I hb8); have HKS := Lib.hid (s25_below hb8 HKS.out); clear hb8))
          all_goals (go_wp2_with fail; go_meet; exact ⟨rfl, HR.out⟩)
        case rest =>
          obtain ⟨rfl, hB⟩ := hcut
          have HC := Lib.hid hB
          clear hB
          have q1 : wc.cell? ⟨b, 1, none⟩ = some (.int .i64 x.x) := HC.out.q.cell 1
          obtain ⟨ts, hts⟩ : ∃ ts, ts = thingsL l'.H x.x := ⟨_, rfl⟩
          have htl : ts.length ≤ 1000 := by have h1 := things_len l'.H x.x; have h2 := HX.out.2.2.2.1; unfold szL at h2; rw [hts]; omega
          have HTS := Lib.hid hts
          clear hts
          go_upto_region 28 with (go_at_call 23; refine (I.things x.x HC.out.t.a HX.out.2.2.2.1 HX.out.1.2.1).mono ?_; rw [← HTS.out]; rintro e w31 ⟨A1, n1, c1, rfl, hn1, ho1, hb1⟩; have H31 := Lib.hid (And.intro (HC.out.below I hb1) (And.intro hn1 (show RowG thC 3 w31 w31.heap.size A1 ts from RowG.of_rows (fun _ => rfl) ho1 hn1))); clear hn1 ho1 hb1)
          clear q1
          have q1 : w31.cell? ⟨b, 1, none⟩ = some (.int .i64 x.x) := H31.out.1.q.cell 1
          go_upto_region 29 with (go_at_call 24; refine (rthings_any H31.out.1.t.r HSZ.out.2.1 HX.out.2.2.2.2.2.1.1 x.x).mono ?_; rw [← HTS.out]; rintro e w32 ⟨v2, rfl, ⟨A2, n2, c2, rfl, hn2, hc2, hg2⟩, hb2, hl2⟩; have H32 := Lib.hid (And.intro (H31.out.1.below I hb2) (And.intro ((H31.out.2.2.below hb2 (Nat.le_refl _)).more hb2.size) (And.intro hn2 hg2))); clear hn2 hc2 hg2 hb2 hl2)
          have hnn : n1 = n2 := by rw [H31.out.2.1, H32.out.2.2.1]
          obtain rfl := hnn
          have hn1k : n1 ≤ 1000 := by rw [H31.out.2.1]; exact htl
          have hn10 : (0 : Int) ≤ (n1 : Int) := Int.natCast_nonneg _
          have hneq : ((n1 : Int) != (n1 : Int)) = false := by simp
          clear q1
          go_wp2_with fail
          go_loopw [17] (fun jv wx => ∃ j : Nat, j ≤ n1 ∧ jv = .int .i64 j ∧ Tmb T w wx tb l' rb l' Da' Db' b x ∧ RowG thC 3 wx wx.heap.size A1 ts ∧ RowG thC 3 wx wx.heap.size A2 ts) (fun jv _ => n1 - (intOf jv).toNat)
          case atStart => exact ⟨0, by omega, rfl, H32.out.1, H32.out.2.1, H32.out.2.2.2⟩
          case round =>
            obtain ⟨j, hj, rfl, hTj, hgA, hgB⟩ := hrel
            have hj0 : (0 : Int) ≤ (j : Int) := Int.natCast_nonneg _
            have HTJ := Lib.hid (And.intro hTj (And.intro hgA hgB))
            clear hTj hgA hgB
            by_cases hjl : j < n1
            · have hjl1 : (j : Int) < (n1 : Int) := by omega
              have hjk : j < ts.length := by rw [← H31.out.2.1]; exact hjl
              obtain ⟨adA, rfl, -, a0, a1, a2⟩ := th_at HTJ.out.2.1 hjk
              obtain ⟨adB, rfl, -, b0, b1, b2⟩ := th_at HTJ.out.2.2 hjk
              obtain ⟨y, hy⟩ : ∃ y, y = ts[j] := ⟨_, rfl⟩
              rw [← hy] at a0 a1 a2 b0 b1 b2
              have A0 := BelowBy.cell a0
              have A1' := BelowBy.cell a1
              have A2' := BelowBy.cell a2
              have B0 := BelowBy.cell b0
              have B1 := BelowBy.cell b1
              have B2 := BelowBy.cell b2
              have he := neTh_run y y true (decide_eq_true rfl)
              clear hy a0 a1 a2 b0 b1 b2
              go_upto_region 34 with fail
              refine wp_region_below hmix (by kernel_rfl) ?_
              repeat (first | go_big_quiet_step (fail) | quiet_step (fail))
              refine wpQuiet_nil ?_
              intro wz hw'
              obtain ⟨pp, hw''⟩ := hw'
              obtain ⟨w33, hw33⟩ : ∃ w33, w33 = pp.w' := ⟨_, rfl⟩
              have hb3 : Below wr.heap.size wr w33 := by rw [hw33]; exact pp.h
              have H33 := Lib.hid (And.intro (HTJ.out.1.below I hb3) (And.intro ((HTJ.out.2.1.below hb3 (Nat.le_refl _)).more hb3.size) ((HTJ.out.2.2.below hb3 (Nat.le_refl _)).more hb3.size)))
              rw [← hw33] at hw''
              subst wz
              clear A0 A1' A2' B0 B1 B2 he hw33 hb3
              go_wp2_with fail
              go_roundw
              case rel => exact ⟨j + 1, by omega, by go_num, H33.out.1, H33.out.2.1, H33.out.2.2⟩
              case measure => simp [intOf]; omega
            · have hjl1 : ¬ (j : Int) < (n1 : Int) := by omega
              go_wp2_with fail
              go_roundg (n - (k + 1))
              case measure => have := HG.out; omega
              case rel => exact ⟨k + 1, Da', Db', by omega, rfl, by go_num, by rw [← HX.out.2.2.2.2.2.2.1]; exact HTJ.out.1.t⟩
    · have hlt1 : ¬ (k : Int) < (n : Int) := by omega
      go_wp2_with fail
      go_ret
      exact ⟨rfl, HT.out.low⟩
end Go.Proofs.YthbbheegkhlniaaGreat
