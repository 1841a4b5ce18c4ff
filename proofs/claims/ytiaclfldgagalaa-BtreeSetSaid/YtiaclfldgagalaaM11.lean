/-
  from: the entries of a page and of all below it, handed out one by one.
-/
import Derived.RangeFuncBound
import Derived.RangeFuncCalls
import Derived.Shelf.Abstract
import Derived.Shelf.RegionOpen
import Derived.WalkKit
import Derived.OwnWalkIn
import Derived.TacticsInMore
import Derived.LoopNIn
import Derived.LoopIn
import Derived.Test.YtiaclfldgagalaaM03
import Derived.Test.YtiaclfldgagalaaM10
import Derived.Test.YtiaclfldgagalaaM05
namespace Go.Proofs.Ytiaclfldgagalaa
open Go.RowKit Go.Lib Go.Shelf
attribute [local go_sem] Oper.semAt_some

def mark (d : Nat) : Deferred := { target := .collected d, args := #[] }
theorem leaves_marks {F : Fence} {n : Nat} {P : Program} {fn : Func} {tmps : Array Value} {B : Nat} {K : World → Prop} (hK : OwnFrom (β := Unit) B (fun _ W => K W)) (hr : fn.results = #[]) : ∀ (ds : List Nat) (w : World), (∀ d ∈ ds, B ≤ d ∧ w.heap[d]? = some (.deferred (some []))) → ds.Nodup → K w →
    LeavesInM F n P fn tmps (fun e W => (∃ v, e = .returned v) ∧ K W) (ds.map mark) .returning w
  | [], w, _, _, h => ⟨_, results_none hr _ _ _, ⟨_, rfl⟩, h⟩
  | d :: ds, w, hd, hn, h => by
    obtain ⟨h1, h2⟩ := hd d (by simp)
    obtain ⟨h3, h4⟩ := List.nodup_cons.1 hn
    refine ⟨by simp, .inl ⟨d, _, rfl, run_takeDeferred h2, leaves_marks hK hr ds _ (fun d' hd' => ?_) h4 (hK.putObj (s := ()) _ h h1 h2 rfl)⟩⟩
    obtain ⟨h5, h6⟩ := hd d' (by simp [hd'])
    exact ⟨h5, (World.putObj_heap_other fun e => h3 (by rw [← e]; exact hd')).trans h6⟩
/-- the entries at or above one -/
def fromL (e : En) (l : List En) : List En := l.drop (plN e l)
theorem ends_own {Mine : World → Nat → Prop} {J Jx : List En → World → Prop} {W : World} {xs : List En} (hM : MineOk Mine) (hJ : OwnFrom W.heap.size J) (hJx : OwnFrom W.heap.size Jx) : OwnFrom (β := Unit) W.heap.size (fun _ W' => (J xs W' ∧ KeepM Mine W W') ∨ ∃ pre, pre <+: xs ∧ Jx pre W') := fun _ A B row h hg hr => by
  rcases h with ⟨h1, h2⟩ | ⟨pre, h1, h2⟩
  · exact .inl ⟨hJ _ A B row h1 hg hr, h2.grown hM hg hr⟩
  · exact .inr ⟨pre, h1, hJx _ A B row h2 hg hr⟩
def FromOk (d : Nat) : Prop :=
  ∀ {B : Nat} {D : Nat → Prop} {w : World} {b : Nat} {t : Tr d} {e : En} {bp be : Nat}, Sub B D w b t → TrOk t → Blk w bp 70 #[.pointer (some ⟨b, 0, none⟩)] → Blk w be 35 #[.string e.s, .int .i64 e.p, .int .i64 e.k] → ¬ D bp → ¬ D be →
    SeqO Fence.wide Try.prog 56 #[.pointer (some ⟨bp, 0, none⟩), .pointer (some ⟨be, 0, none⟩)] (fun x : En => #[x.val]) (fromL e (ents t)) (fun k => D k ∨ k = bp ∨ k = be) w
set_option maxRecDepth 100000 in
set_option maxHeartbeats 4000000 in
theorem from_leaf : FromOk 0 := by
  intro B D w b t e bp be h hk hbp hbe hnp hne l J Jx Mine W hM hcW hSM hJ hJx hJM hY h0 n
  have hmx : Try.prog.follows .mixedOrders = true := by kernel_rfl
  obtain ⟨ks, hks⟩ : ∃ ks : List En, ks = t := ⟨_, rfl⟩
  subst hks
  have hdd : ∀ k : Nat, (Fence.wide.depth.isSome = true → 1 ≤ k) := fun k h => by cases h
  have hent : ents (d := 0) ks = ks := entsF_map ks
  rw [hent] at hY ⊢
  have hPW : PgV B D W b ks [] := PgV.chg h hcW fun k hk hn => hn (.inl hk)
  have hpW := hbp.chg hcW fun hn => hn (.inr (.inl rfl))
  have heW := hbe.chg hcW fun hn => hn (.inr (.inr rfl))
  obtain ⟨W1, hW1⟩ : ∃ W1, W1 = W.alloc (.cells #[.func (.yield l) #[] #[]] 43) := ⟨_, rfl⟩
  have hb1 : Below W.heap.size W W1 := by rw [hW1]; exact (Below.refl _ W).alloc (Nat.le_refl _) _
  have ky : Blk W1 W.heap.size 43 #[.func (.yield l) #[] #[]] := by rw [hW1]; exact Blk.new _ _ _
  obtain ⟨tt, KA, Kc, IA, Ic, hP⟩ := hPW
  have hP1 : PgV B D W1 b ks [] := ⟨tt, KA, Kc, IA, Ic, hP.below hb1⟩
  have hp1 := hpW.below hb1 hpW.lt
  have he1 := heW.below hb1 heW.lt
  have hlf := leaf_yes hP1
  have h10 : ks.length ≤ 10 := hk.few
  have hfn := find_any hP1 hk.srt (by show ks.length ≤ 1000000; omega) e
  have HLF := Lib.hid hlf
  have HFN := Lib.hid hfn
  unfold En.val at HFN
  have c0 := hp1.cell 0
  have d0 := he1.cell 0
  have d1 := he1.cell 1
  have d2 := he1.cell 2
  have y0 := ky.cell 0
  simp only [List.getElem?_toArray, List.getElem?_cons_zero, List.getElem?_cons_succ] at c0 d0 d1 d2 y0
  obtain ⟨q, hq⟩ : ∃ q, q = ks.length := ⟨_, rfl⟩
  obtain ⟨n2, hn2⟩ : ∃ n2, n2 = plN e ks := ⟨_, rfl⟩
  have hn2l : n2 ≤ q := by rw [hn2, hq]; exact plN_le e ks
  have hfl : fromL e ks = ks.drop n2 := by unfold fromL; rw [hn2]
  have hqc := (own_caps hP.x.keys).1
  rw [← hq] at hqc
  have a1 : (n2 : Int) ≤ (q : Int) := by omega
  have a2 : (0 : Int) ≤ (n2 : Int) := by omega
  have hform := own_form2 hP.x.keys
  rw [← hn2] at HFN
  rw [hfl] at hY ⊢
  have HQ := Lib.hid (And.intro hq hn2)
  have HW1 := Lib.hid hW1
  have H1 := Lib.hid (And.intro hb1 (And.intro ky (And.intro (hP.below hb1) (And.intro hp1 he1))))
  have HH := Lib.hid (And.intro hM (And.intro hSM (And.intro hJ (And.intro hJx (And.intro hJM hY)))))
  rw [hW1] at HLF HFN c0 d0 d1 d2 y0
  clear hlf hfn hW1 hb1 ky hP hP1 hp1 he1 h hk hcW hbp hbe hnp hne hpW heW hq hn2 hfl hM hSM hJ hJx hJM hY
  refine callsIn_of_wp_marks Try.func56 rfl trivial ?_
  simp only [Try.ntmps56, List.size_toArray, List.length_cons, List.length_nil, Nat.reduceAdd, Nat.reduceSub, Array.replicate_succ, Array.replicate_zero, List.push_toArray, List.append_toArray, List.nil_append, List.cons_append]
  have hk2 : ∀ w2, Below W1.heap.size W1 w2 → w2.cell? ⟨bp, 0, none⟩ = some (.pointer (some ⟨b, 0, none⟩)) ∧ w2.cell? ⟨b, 0, none⟩ = some (.slice KA q Kc) := fun w2 hb2 =>
    ⟨((H1.out.2.2.2.1.below hb2 H1.out.2.2.2.1.lt).cell 0).trans rfl, by rw [HQ.out.1]; exact (H1.out.2.2.1.below hb2).cells.1⟩
  have HK2 := Lib.hid hk2
  clear hk2
  rcases Nat.lt_or_ge n2 q with hlt | hge
  · have a3 : ¬ (Kc = n2) := by omega
    have a4 : n2 ≤ q := by omega
    obtain ⟨g, rfl⟩ : ∃ g, KA = some ⟨g, 0, none⟩ := by
      rcases hform with ⟨_, h, _⟩ | h
      · have := HQ.out.1; omega
      · exact h
    gi_wp2_with (first
      | (refine ⟨trivial, hdd _, ?_⟩; gi_at_call 40; refine (callsIn_wide.2 HLF.out).mono ?_; rintro r w' ⟨rfl, rfl⟩)
      | (refine ⟨trivial, hdd _, ?_⟩; gi_at_call 43; refine (callsIn_wide.2 HFN.out).mono ?_; rintro r w2 ⟨rfl, hb2⟩; rw [← HW1.out] at hb2; have HB2a := Lib.hid hb2; have HB2 := Lib.hid (H1.out.1.trans (hb2.mono H1.out.1.size)); obtain ⟨k0, k1⟩ := HK2.out w2 hb2; clear hb2))
    obtain ⟨m, hm⟩ : ∃ m, m = q - n2 := ⟨_, rfl⟩
    rw [← hm]
    have hs2 := grown_below HB2.out
    have hK2 : KeepM Mine W w2 := (KeepM.refl Mine W).grown HH.out.1 hs2 (fun r e => by cases e)
    have HJ2 := Lib.hid (show J ((ks.drop n2).take 0) w2 ∧ KeepM Mine W w2 from ⟨by rw [List.take_zero]; exact HH.out.2.2.1 [] W w2 none h0 hs2 (fun r e => by cases e), hK2⟩)
    have hnm : ∀ k, (D k ∨ k = bp ∨ k = be) ∨ k = W.heap.size → ¬ Mine w2 k := fun k hk hm => by
      have h1 := HH.out.1 W w2 none k hs2 (fun r e => by cases e) hm
      rcases hk with hk | hk
      · exact HH.out.2.1 k hk h1
      · have h2 := HH.out.2.2.2.2.1 [] W k h0 h1
        omega
    have HN := Lib.hid (And.intro hnm (And.intro (H1.out.2.2.1.below HB2a.out) (H1.out.2.1.below HB2a.out H1.out.2.1.lt)))
    have HM := Lib.hid hm
    clear hs2 hK2 k0 k1 c0 d0 d1 d2 y0 h0 hm hnm
    gi_loopw [26] (fun p wr => ∃ i : Nat, p = .int .i64 i ∧ i ≤ m ∧ J ((ks.drop n2).take i) wr ∧ KeepM Mine w2 wr) (fun p _ => m - (intOf p).toNat)
    case atStart => exact ⟨0, rfl, Nat.zero_le _, HJ2.out.1, KeepM.refl _ _⟩
    case round =>
      obtain ⟨i, rfl, him, hJi, hKi⟩ := hrel
      by_cases hi : i < m
      · have hql := HQ.out.1
        have hmm := HM.out
        have hPr := HN.out.2.1.chg hKi.chg fun k hk => HN.out.1 k (.inl (.inl hk))
        have hyr := HN.out.2.2.chg hKi.chg (HN.out.1 _ (.inr rfl))
        obtain ⟨g', hg', e0, e1, e2⟩ := hPr.key (i := n2 + i) (by omega)
        injection hg' with hg'
        injection hg' with hg'
        subst hg'
        obtain ⟨x, hx⟩ : ∃ x, x = ks[n2 + i]'(by omega) := ⟨_, rfl⟩
        rw [← hx, Nat.add_mul] at e0 e1 e2
        have y0 := hyr.cell 0
        simp only [List.getElem?_toArray, List.getElem?_cons_zero] at y0
        have hsp : ks.drop n2 = (ks.drop n2).take i ++ x :: (ks.drop n2).drop (i + 1) := by
          have h1 : i < (ks.drop n2).length := by rw [List.length_drop]; omega
          have h2 : (ks.drop n2)[i] = x := by rw [hx, List.getElem_drop]
          rw [← h2, ← List.drop_eq_getElem_cons h1, List.take_append_drop]
        have htk : (ks.drop n2).take (i + 1) = (ks.drop n2).take i ++ [x] := by
          have h1 : i < (ks.drop n2).length := by rw [List.length_drop]; omega
          have h2 : (ks.drop n2)[i] = x := by rw [hx, List.getElem_drop]
          rw [List.take_succ_eq_append_getElem h1, h2]
        obtain ⟨wa, hwa⟩ : ∃ wa, wa = wr.alloc (.cells #[.string x.s, .int .i64 x.p, .int .i64 x.k] 35) := ⟨_, rfl⟩
        have hga : wr.grownBy wa none := by rw [hwa]; exact World.grownBy_alloc wr _ none
        have sw2 := HB2.out.size
        obtain ⟨fn, tmps, assign, body, hy, hR⟩ := HH.out.2.2.2.2.2 (n - 1) ((ks.drop n2).take i) x wa (HH.out.2.2.1 _ wr wa none hJi hga (fun r e => by cases e)) ⟨_, hsp⟩
        have HX := Lib.hid (And.intro htk (And.intro (hKi.grown HH.out.1 hga (fun r e => by cases e)) hsp))
        have hx3 : x.val = .agg #[.string x.s, .int .i64 x.p, .int .i64 x.k] := rfl
        rw [hx3, hwa] at hy
        have y1 := Lib.cell?_alloc_some (.cells #[.string x.s, .int .i64 x.p, .int .i64 x.k] 35) y0
        have x0 := (Blk.new wr 35 #[.string x.s, .int .i64 x.p, .int .i64 x.k]).cell 0
        have x1 := (Blk.new wr 35 #[.string x.s, .int .i64 x.p, .int .i64 x.k]).cell 1
        have x2 := (Blk.new wr 35 #[.string x.s, .int .i64 x.p, .int .i64 x.k]).cell 2
        simp only [List.getElem?_toArray, List.getElem?_cons_zero, List.getElem?_cons_succ] at x0 x1 x2
        have HWA := Lib.hid hwa
        have b1 : (i : Int) < (m : Int) := by omega
        have b2 : (0 : Int) ≤ (i : Int) := by omega
        have b3 : (m : Int) ≤ 10 := by omega
        have HI := Lib.hid (And.intro hi him)
        clear hJi hKi hql hmm hPr hyr hx hsp htk hwa hga hx3 hi him sw2
        have b4 : IntKind.i64.wrap ((i : Int) + 1) = (i : Int) + 1 := by rw [IntKind.wrap_i64]; omega
        gi_wp2
        refine ⟨hdd _, ?_⟩
        rw [← HWA.out]
        refine hR.mono ?_
        rintro r W3 (⟨rfl, hJ3, hk3⟩ | ⟨rfl, hJx3, _⟩)
        · have HG := Lib.hid (show J ((ks.drop n2).take (i + 1)) W3 ∧ KeepM Mine w2 W3 from ⟨by rw [HX.out.1]; exact hJ3, HX.out.2.1.trans hk3⟩)
          clear hJ3 hk3 hR hy y0 y1 x0 x1 x2 e0 e1 e2
          gi_wp2
          go_roundw
          case rel => exact ⟨i + 1, rfl, HI.out.1, HG.out.1, HG.out.2⟩
          case measure => have := HI.out.1; simp only [intOf]; omega
        · have HG := Lib.hid hJx3
          clear hJx3 hR hy y0 y1 x0 x1 x2 e0 e1 e2
          gi_wp2
          exact leaves_marks (B := W.heap.size) (K := fun W' => (J (ks.drop n2) W' ∧ KeepM Mine W W') ∨ ∃ pre, pre <+: ks.drop n2 ∧ Jx pre W') (ends_own HH.out.1 HH.out.2.2.1 HH.out.2.2.2.1) rfl [] W3 (fun d hd => by cases hd) List.nodup_nil (.inr ⟨_, ⟨_, by rw [List.append_assoc]; exact HX.out.2.2.symm⟩, HG.out⟩)
      · have b1 : ¬ (i : Int) < (m : Int) := by omega
        have HF := Lib.hid (show J (ks.drop n2) wr ∧ KeepM Mine W wr from ⟨by rw [List.take_of_length_le (by rw [List.length_drop]; have := HQ.out.1; have := HM.out; omega)] at hJi; exact hJi, HJ2.out.2.trans hKi⟩)
        clear hJi hKi
        gi_wp2
        exact leaves_marks (B := W.heap.size) (K := fun W' => (J (ks.drop n2) W' ∧ KeepM Mine W W') ∨ ∃ pre, pre <+: ks.drop n2 ∧ Jx pre W') (ends_own HH.out.1 HH.out.2.2.1 HH.out.2.2.2.1) rfl [] wr (fun d hd => by cases hd) List.nodup_nil (.inl HF.out)
  · have hnn : n2 = q := by omega
    have hdr : ks.drop n2 = [] := List.drop_eq_nil_of_le (by rw [← HQ.out.1]; omega)
    have HE := Lib.hid (show ∀ w2, Below W.heap.size W w2 → ∀ tmps, LeavesInM Fence.wide n Try.prog Try.f56 tmps (fun e W' => (∃ v, e = .returned v) ∧ ((J (ks.drop n2) W' ∧ KeepM Mine W W') ∨ ∃ pre, pre <+: ks.drop n2 ∧ Jx pre W')) [] .returning w2 from fun w2 hb tmps =>
      leaves_marks (B := W.heap.size) (K := fun W' => (J (ks.drop n2) W' ∧ KeepM Mine W W') ∨ ∃ pre, pre <+: ks.drop n2 ∧ Jx pre W') (ends_own HH.out.1 HH.out.2.2.1 HH.out.2.2.2.1) rfl [] w2 (fun d hd => by cases hd) List.nodup_nil
        (.inl ⟨by rw [hdr]; exact HH.out.2.2.1 [] W w2 none h0 (grown_below hb) (fun r e => by cases e), (KeepM.refl Mine W).grown HH.out.1 (grown_below hb) (fun r e => by cases e)⟩))
    subst hnn
    clear hdr h0 hn2l a1 hge
    have a1 : (n2 : Int) ≤ (n2 : Int) := Int.le_refl _
    have a4 : n2 ≤ n2 := Nat.le_refl _
    have a5 : n2 - n2 = 0 := Nat.sub_self _
    rcases hform with ⟨rfl, hq0, hc0, hx0⟩ | ⟨g, rfl⟩
    · obtain rfl : n2 = 0 := by rw [HQ.out.1]; exact hq0
      subst hc0
      clear hq0 hx0
      gi_wp2_with (first
        | (refine ⟨trivial, hdd _, ?_⟩; gi_at_call 40; refine (callsIn_wide.2 HLF.out).mono ?_; rintro r w' ⟨rfl, rfl⟩)
        | (refine ⟨trivial, hdd _, ?_⟩; gi_at_call 43; refine (callsIn_wide.2 HFN.out).mono ?_; rintro r w2 ⟨rfl, hb2⟩; rw [← HW1.out] at hb2; have HB2 := Lib.hid (H1.out.1.trans (hb2.mono H1.out.1.size)); obtain ⟨k0, k1⟩ := HK2.out w2 hb2; clear hb2))
      have HR := Lib.hid (HE.out w2 HB2.out)
      clear c0 d0 d1 d2 y0 k0 k1
      gi_loopw [26] (fun p wr => p = .int .i64 0 ∧ wr = w2) (fun _ _ => 0)
      case atStart => exact ⟨rfl, rfl⟩
      case round =>
        obtain ⟨rfl, rfl⟩ := hrel
        gi_wp2
        exact HR.out _
    · by_cases hc : Kc = n2
      · subst hc
        gi_wp2_with (first
          | (refine ⟨trivial, hdd _, ?_⟩; gi_at_call 40; refine (callsIn_wide.2 HLF.out).mono ?_; rintro r w' ⟨rfl, rfl⟩)
          | (refine ⟨trivial, hdd _, ?_⟩; gi_at_call 43; refine (callsIn_wide.2 HFN.out).mono ?_; rintro r w2 ⟨rfl, hb2⟩; rw [← HW1.out] at hb2; have HB2 := Lib.hid (H1.out.1.trans (hb2.mono H1.out.1.size)); obtain ⟨k0, k1⟩ := HK2.out w2 hb2; clear hb2))
        have HR := Lib.hid (HE.out w2 HB2.out)
        clear c0 d0 d1 d2 y0 k0 k1
        gi_loopw [26] (fun p wr => p = .int .i64 0 ∧ wr = w2) (fun _ _ => 0)
        case atStart => exact ⟨rfl, rfl⟩
        case round =>
          obtain ⟨rfl, rfl⟩ := hrel
          gi_wp2
          exact HR.out _
      · gi_wp2_with (first
          | (refine ⟨trivial, hdd _, ?_⟩; gi_at_call 40; refine (callsIn_wide.2 HLF.out).mono ?_; rintro r w' ⟨rfl, rfl⟩)
          | (refine ⟨trivial, hdd _, ?_⟩; gi_at_call 43; refine (callsIn_wide.2 HFN.out).mono ?_; rintro r w2 ⟨rfl, hb2⟩; rw [← HW1.out] at hb2; have HB2 := Lib.hid (H1.out.1.trans (hb2.mono H1.out.1.size)); obtain ⟨k0, k1⟩ := HK2.out w2 hb2; clear hb2))
        have HR := Lib.hid (HE.out w2 HB2.out)
        clear c0 d0 d1 d2 y0 k0 k1
        gi_loopw [26] (fun p wr => p = .int .i64 0 ∧ wr = w2) (fun _ _ => 0)
        case atStart => exact ⟨rfl, rfl⟩
        case round =>
          obtain ⟨rfl, rfl⟩ := hrel
          gi_wp2
          exact HR.out _
end Go.Proofs.Ytiaclfldgagalaa

/-
  from: what a page below hands out, and all of them: plain mathematics; page.from.
-/
namespace Go.Proofs.Ytiaclfldgagalaa
open Go.RowKit Go.Lib

theorem plN_zero {e : En} {l : List En} (h : ∀ x ∈ l, 0 < ordE x e) : plN e l = 0 := by
  match l, h with
  | [], _ => rfl
  | a :: l, h =>
    have h1 := plN_mid (E1 := []) (X := []) (E2 := a :: l) (e := e) (fun x hx => by cases hx) h
    have h2 : plN e ([] : List En) = 0 := rfl
    simpa [h2] using h1
theorem wr_ents : ∀ (ks : List En) (ts : List (List Mk)), ks.length = ts.length → entsF (wr ks ts) = (ts.map entsF).flatten
  | [], [], _ => rfl
  | k :: ks, t :: ts, h => by
    rw [wr]
    show entsF ((k, false) :: (t ++ wr ks ts)) = _
    rw [entsF_sep, entsF_append, wr_ents ks ts (by simpa using h)]
    simp
theorem from_kids {d : Nat} {x : Tr (d + 1)} (h : TrOk x) (e : En) : fromL e (ents x) = ((x.2.drop (wayN x.1 e)).map fun u => fromL e (ents u)).flatten := by
  obtain ⟨ks, ts⟩ := x
  have hl : ts.length = ks.length + 1 := h.cnt.1
  obtain ⟨hi, hP, hS⟩ := way_sides hl h.ord e
  have hf : flatN (ks, ts) = wl (ks.take (wayN ks e)) ((ts.take (wayN ks e)).map flat) ++ (flat ts[wayN ks e] ++ wr (ks.drop (wayN ks e)) ((ts.drop (wayN ks e + 1)).map flat)) := by
    rw [← flat_at _ hl hi, ← ts_cut (List.getElem?_eq_getElem hi)]
  have hE1 : ∀ x ∈ entsF (wl (ks.take (wayN ks e)) ((ts.take (wayN ks e)).map flat)), ordE x e < 0 := fun x hx => ltM_ee.1 (hP _ (mem_entsF.1 hx))
  have hE2 : ∀ x ∈ entsF (wr (ks.drop (wayN ks e)) ((ts.drop (wayN ks e + 1)).map flat)), 0 < ordE x e := fun x hx => by
    have h2 := ltM_ee.1 (hS _ (mem_entsF.1 hx))
    have h3 := good_ordE.anti e x
    omega
  have hent : ents (d := d + 1) (ks, ts) = entsF (wl (ks.take (wayN ks e)) ((ts.take (wayN ks e)).map flat)) ++ (ents ts[wayN ks e] ++ entsF (wr (ks.drop (wayN ks e)) ((ts.drop (wayN ks e + 1)).map flat))) := by
    show entsF (flatN (ks, ts)) = _
    rw [hf, entsF_append, entsF_append]; rfl
  have hwr : entsF (wr (ks.drop (wayN ks e)) ((ts.drop (wayN ks e + 1)).map flat)) = ((ts.drop (wayN ks e + 1)).map ents).flatten := by
    rw [wr_ents _ _ (by simp; omega), List.map_map]; rfl
  rw [hwr] at hE2 hent
  unfold fromL
  rw [hent, plN_mid hE1 hE2]
  show _ = ((ts.drop (wayN ks e)).map fun u => List.drop (plN e (ents u)) (ents u)).flatten
  rw [List.drop_eq_getElem_cons hi, List.map_cons, List.flatten_cons, List.drop_append, List.drop_of_length_le (by omega), List.nil_append, Nat.add_sub_cancel_left]
  have hple := plN_le e (ents ts[wayN ks e])
  rw [List.drop_append_of_le_length hple]
  congr 1
  congr 1
  refine List.map_congr_left fun u hu => ?_
  rw [plN_zero (fun x hx => hE2 x (List.mem_flatten.2 ⟨ents u, List.mem_map.2 ⟨u, hu, rfl⟩, hx⟩)), List.drop_zero]
set_option maxRecDepth 100000 in
set_option maxHeartbeats 1600000 in
theorem pagefrom_any (w : World) (b : Nat) (e : En) : Calls Try.prog 46 #[.pointer (some ⟨b, 0, none⟩), e.val] w fun r w' => r = .returned (.func (.func 56) #[] #[.pointer (some ⟨w.heap.size, 0, none⟩), .pointer (some ⟨w.heap.size + 1, 0, none⟩)]) ∧
    w' = (w.alloc (.cells #[.pointer (some ⟨b, 0, none⟩)] 70)).alloc (.cells #[.string e.s, .int .i64 e.p, .int .i64 e.k] 35) := by
  go_enter Try.func46, Try.ntmps46
  unfold En.val
  go_wp2_with fail
  go_ret
  exact ⟨rfl, rfl⟩
end Go.Proofs.Ytiaclfldgagalaa

/-
  The tree's own page: it grows, it shrinks: plain mathematics.
-/
namespace Go.Proofs.Ytiaclfldgagalaa
open Go.RowKit Go.Lib

structure RT where
  d : Nat
  t : Tr d
structure Root (K : Nat) {d : Nat} (t : Tr d) : Prop where
  cnt : Cnt t
  one : 0 < d → 1 ≤ (keysT t).length
  few : (keysT t).length ≤ 4
  ord : (flat t).Pairwise ltM
  txt : ∀ y ∈ flat t, y.1.s.size ≤ K
def growT {d : Nat} (t : Tr d) : RT := if 4 < (keysT t).length then ⟨d + 1, splitAt (([] : List En), [t]) 0⟩ else ⟨d, t⟩
def shrinkT : RT → RT
  | ⟨0, t⟩ => ⟨0, t⟩
  | ⟨d + 1, x⟩ => match x.2 with
    | [u] => ⟨d, u⟩
    | _ => ⟨d + 1, x⟩
theorem shrink_none : ∀ {r : RT}, (∀ (d : Nat) (x : Tr (d + 1)), r = ⟨d + 1, x⟩ → x.2.length ≠ 1) → shrinkT r = r
  | ⟨0, t⟩, _ => rfl
  | ⟨d + 1, x⟩, h => by
    have h1 := h d x rfl
    unfold shrinkT
    match hx : x.2 with
    | [] => simp [hx]
    | [u] => rw [hx] at h1; simp at h1
    | u :: v :: l => simp [hx]
theorem shrink_one {d : Nat} {x : Tr (d + 1)} {u : Tr d} (h : x.2 = [u]) : shrinkT ⟨d + 1, x⟩ = ⟨d, u⟩ := by
  unfold shrinkT
  simp [h]
theorem shrink_ok {K : Nat} : ∀ {d : Nat} (t2 : Tr d), Cnt t2 → (keysT t2).length ≤ 4 → (flat t2).Pairwise ltM → (∀ y ∈ flat t2, y.1.s.size ≤ K) → Root K (shrinkT ⟨d, t2⟩).t ∧ ents (shrinkT ⟨d, t2⟩).t = ents t2
  | 0, t2, _, h4, ho, htx => ⟨⟨trivial, fun h => absurd (show 0 < 0 from h) (Nat.lt_irrefl _), h4, ho, htx⟩, rfl⟩
  | d + 1, x, hc, h4, ho, htx => by
    by_cases h1 : x.2.length = 1
    · obtain ⟨u, hu⟩ := List.length_eq_one_iff.1 h1
      rw [shrink_one hu]
      have hk : x.1 = [] := List.eq_nil_of_length_eq_zero (by have := hc.1; omega)
      have hf : flat x = flat u := by
        show weave x.1 (x.2.map flat) = _
        rw [hk, hu]; simp [weave]
      have hgu : GoodT u := hc.2 u (by rw [hu]; simp)
      refine ⟨⟨hgu.2.2, fun _ => by have := hgu.1; show 1 ≤ (keysT u).length; omega, hgu.2.1, by show (flat u).Pairwise ltM; rw [← hf]; exact ho, fun y hy => htx y (by rw [hf]; exact hy)⟩, ?_⟩
      show entsF (flat u) = entsF (flat x)
      rw [hf]
    · rw [shrink_none (fun d' x' hx' => by cases hx'; exact h1)]
      exact ⟨⟨hc, fun _ => by have := hc.1; show 1 ≤ x.1.length; omega, h4, ho, htx⟩, rfl⟩
theorem root_ok {K d : Nat} {t : Tr d} (h : Root K t) (ins : Bool) {e : En} (he : e.s.size ≤ K) :
    Root K (shrinkT (growT (chgT ins t e).2)).t ∧ ents (shrinkT (growT (chgT ins t e).2)).t = if ins then insL (ents t) e else delL (ents t) e := by
  have hok := chg_ok ins t e h.cnt h.one h.ord
  obtain ⟨t2, ht2⟩ : ∃ t2, t2 = (chgT ins t e).2 := ⟨_, rfl⟩
  rw [← ht2] at hok ⊢
  have hlo := hok.lo
  have hhi := hok.hi
  have hfew := h.few
  have htx : ∀ y ∈ flat t2, y.1.s.size ≤ K := fun y hy => by
    rcases hok.txt y hy with h1 | ⟨z, hz, h1⟩
    · rw [h1]; exact he
    · rw [h1]; exact h.txt z hz
  rw [← hok.ent]
  by_cases h4 : 4 < (keysT t2).length
  · have hg : growT t2 = ⟨d + 1, splitAt (([] : List En), [t2]) 0⟩ := by unfold growT; rw [if_pos h4]
    have hx : splitAt (([] : List En), [t2]) 0 = ([(splitT t2).2.1], [(splitT t2).1, (splitT t2).2.2]) := rfl
    rw [hg, shrink_none (fun d' x hx' => by
      cases hx'
      rw [hx]; simp)]
    have hsp := splitAt_spec (ks := []) (ts := [t2]) (i := 0) (t := t2) rfl rfl (by simp) (by simp) hok.cnt (by omega) (by omega) (by simpa [flatN, weave] using hok.ord)
    obtain ⟨hI, hl2, hg2, hn1⟩ := hsp
    have hf0 : flatN (([] : List En), [t2]) = flat t2 := by simp [flatN, weave]
    rw [hf0] at hI
    refine ⟨⟨⟨hl2, hg2⟩, fun _ => ?_, ?_, hI.ord, fun y hy => ?_⟩, hI.ent⟩
    · show 1 ≤ (splitAt (([] : List En), [t2]) 0).1.length
      omega
    · show (splitAt (([] : List En), [t2]) 0).1.length ≤ 4
      rw [hn1]; simp
    · obtain ⟨z, hz, h1⟩ := hI.txt y hy
      rw [h1]; exact htx z hz
  · have hg : growT t2 = ⟨d, t2⟩ := by unfold growT; rw [if_neg h4]
    rw [hg]
    exact shrink_ok t2 hok.cnt (by omega) hok.ord htx
end Go.Proofs.Ytiaclfldgagalaa

/-
  A tree's pages, gone over breadth first: plain mathematics.
-/
namespace Go.Proofs.Ytiaclfldgagalaa
open Go.RowKit Go.Lib

def kidsR : RT → List RT
  | ⟨0, _⟩ => []
  | ⟨d + 1, x⟩ => x.2.map fun t => (⟨d, t⟩ : RT)
def szT : {d : Nat} → Tr d → Nat
  | 0, _ => 1
  | _ + 1, x => 1 + (x.2.map szT).sum
def szR (r : RT) : Nat := szT r.t
theorem szR_kids : ∀ r : RT, szR r = 1 + ((kidsR r).map szR).sum
  | ⟨0, _⟩ => rfl
  | ⟨d + 1, x⟩ => by
    unfold kidsR
    rw [List.map_map]
    rfl
theorem szR_pos (r : RT) : 1 ≤ szR r := by rw [szR_kids]; omega
theorem mem_weave : ∀ (ks : List En) (ts : List (List Mk)), ks.length ≤ ts.length → ∀ T ∈ ts, ∀ y ∈ T, y ∈ weave ks ts
  | [], ts, _, T, hT, y, hy => by
    cases ts with
    | nil => cases hT
    | cons t ts => exact List.mem_flatten.2 ⟨T, hT, hy⟩
  | k :: ks, t :: ts, hl, T, hT, y, hy => by
    rw [weave]
    rcases List.mem_cons.1 hT with rfl | hT
    · exact List.mem_append_left _ hy
    · exact List.mem_append_right _ (List.mem_cons_of_mem _ (mem_weave ks ts (by simpa using hl) T hT y hy))
theorem ents_node {d : Nat} (x : Tr (d + 1)) (hl : x.2.length = x.1.length + 1) : ents x = (x.2.map ents).flatten := by
  obtain ⟨ks, ts⟩ := x
  change ts.length = ks.length + 1 at hl
  match ts, hl with
  | t :: ts, hl =>
    show entsF (weave ks ((t :: ts).map flat)) = _
    rw [List.map_cons, weave_wr _ _ _ (by simpa using hl.symm), entsF_append, wr_ents _ _ (by simpa using hl.symm), List.map_cons, List.flatten_cons, List.map_map]
    rfl

/-- the pages told so far, the pages known so far -/
structure Bfs (K : Nat) (ps : List Tp) (q : List RT) (r0 : RT) : Prop where
  head : q[0]? = some r0
  told : ∀ (i : Nat) (x : Tp), ps[i]? = some x → ∃ r : RT, q[i]? = some r ∧ x.leaf = (kidsR r).isEmpty ∧ x.keys = keysT r.t ∧ x.kids.length = (kidsR r).length ∧ ∀ (j : Nat) (h : j < x.kids.length), i < x.kids[j] ∧ q[x.kids[j]]? = (kidsR r)[j]?
  cnt : (ps.map fun x => x.kids.length).sum + 1 = q.length
  sz : ((q.drop ps.length).map szR).sum + ps.length = szR r0
  le : ps.length ≤ q.length
  ok : ∀ r ∈ q, Cnt r.t ∧ (keysT r.t).length ≤ 4 ∧ ∀ y ∈ flat r.t, y.1.s.size ≤ K
theorem Bfs.nil {K d : Nat} {t : Tr d} (h : Root K t) : Bfs K [] [⟨d, t⟩] ⟨d, t⟩ :=
  ⟨rfl, fun i x hx => by simp at hx, rfl, by simp, by simp, fun r hr => by rw [List.mem_singleton.1 hr]; exact ⟨h.cnt, h.few, h.txt⟩⟩
theorem kids_ok {K : Nat} : ∀ {r : RT}, (Cnt r.t ∧ (keysT r.t).length ≤ 4 ∧ ∀ y ∈ flat r.t, y.1.s.size ≤ K) → ∀ u ∈ kidsR r, Cnt u.t ∧ (keysT u.t).length ≤ 4 ∧ ∀ y ∈ flat u.t, y.1.s.size ≤ K
  | ⟨0, _⟩, _, u, hu => by cases hu
  | ⟨d + 1, x⟩, ⟨hc, _, ht⟩, u, hu => by
    obtain ⟨t, ht', rfl⟩ := List.mem_map.1 hu
    refine ⟨(hc.2 t ht').2.2, (hc.2 t ht').2.1, fun y hy => ht y ?_⟩
    have h1 : x.2.length = x.1.length + 1 := hc.1
    exact mem_weave x.1 (x.2.map flat) (by rw [List.length_map]; omega) (flat t) (List.mem_map.2 ⟨t, ht', rfl⟩) y hy
theorem Bfs.step {K : Nat} {ps : List Tp} {q : List RT} {r0 r : RT} (h : Bfs K ps q r0) (hr : q[ps.length]? = some r) {x : Tp} (h1 : x.leaf = (kidsR r).isEmpty) (h2 : x.keys = keysT r.t) (h3 : x.kids = List.range' q.length (kidsR r).length) : Bfs K (ps ++ [x]) (q ++ kidsR r) r0 := by
  have hlt := (List.getElem?_eq_some_iff.1 hr).1
  have hrm := List.mem_of_getElem? hr
  refine ⟨?_, fun i y hy => ?_, ?_, ?_, by simp; omega, fun u hu => ?_⟩
  · rw [List.getElem?_append_left (by omega)]; exact h.head
  · rcases Nat.lt_or_ge i ps.length with hi | hi
    · rw [List.getElem?_append_left hi] at hy
      obtain ⟨u, hu, a1, a2, a3, a4⟩ := h.told i y hy
      refine ⟨u, by rw [List.getElem?_append_left (by omega)]; exact hu, a1, a2, a3, fun j hj => ⟨(a4 j hj).1, ?_⟩⟩
      have h5 := (a4 j hj).2
      rw [← h5]
      have h6 : (kidsR u)[j]? = some (kidsR u)[j] := List.getElem?_eq_getElem (by omega)
      rw [h6] at h5
      exact List.getElem?_append_left (List.getElem?_eq_some_iff.1 h5).1
    · have hi2 : i = ps.length := by
        have := (List.getElem?_eq_some_iff.1 hy).1
        simp at this
        omega
      subst hi2
      rw [List.getElem?_append_right (Nat.le_refl _), Nat.sub_self] at hy
      obtain rfl : x = y := by simpa using hy
      refine ⟨r, by rw [List.getElem?_append_left hlt]; exact hr, h1, h2, by rw [h3]; simp, fun j hj => ?_⟩
      have hkj : x.kids[j] = q.length + j := by simp [h3]
      rw [hkj]
      exact ⟨by omega, by rw [List.getElem?_append_right (by omega), Nat.add_sub_cancel_left]⟩
  · have := h.cnt
    simp [h3]
    omega
  · have hs := h.sz
    have hd : q.drop ps.length = r :: q.drop (ps.length + 1) := by
      rw [List.drop_eq_getElem_cons hlt, (List.getElem?_eq_some_iff.1 hr).2]
    rw [hd, List.map_cons, List.sum_cons, szR_kids r] at hs
    rw [List.length_append, List.length_singleton, List.drop_append_of_le_length (by omega), List.map_append, List.sum_append]
    omega
  · rcases List.mem_append.1 hu with hu | hu
    · exact h.ok u hu
    · exact kids_ok (h.ok r hrm) u hu
theorem sum_pos (l : List RT) : l.length ≤ (l.map szR).sum := by
  induction l with
  | nil => simp
  | cons a l ih => have := szR_pos a; simp only [List.map_cons, List.sum_cons, List.length_cons]; omega
theorem Bfs.few {K : Nat} {ps : List Tp} {q : List RT} {r0 : RT} (h : Bfs K ps q r0) : q.length ≤ szR r0 := by
  have h1 := h.sz
  have h2 := sum_pos (q.drop ps.length)
  have h3 := h.le
  rw [List.length_drop] at h2
  omega

theorem bfs_shp {K : Nat} {ps : List Tp} {q : List RT} {r0 : RT} (h : Bfs K ps q r0) (hl : q.length ≤ ps.length) : ∀ {d : Nat} (t : Tr d) {root : Bool} {lo hi : Option En} {i : Nat}, q[i]? = some ⟨d, t⟩ → Cnt t → (keysT t).length ≤ 4 → (root = false → 2 ≤ (keysT t).length) → (0 < d → 1 ≤ (keysT t).length) →
    (flat t).Pairwise ltM → (∀ y ∈ flat t, ∀ e, lo = some e → ¬ ordE y.1 e < 0) → (∀ y ∈ flat t, ∀ e, hi = some e → ordE y.1 e < 0) → Shp ps d root lo hi i (ents t) (szT t)
  | 0, (t : List En), root, lo, hi, i, hq, _, h4, h2, _, ho, hlo, hhi => by
    have hi' := (List.getElem?_eq_some_iff.1 hq).1
    obtain ⟨r, hr, a1, a2, a3, _⟩ := h.told i ps[i] (List.getElem?_eq_getElem (by omega))
    rw [hq] at hr
    obtain rfl := Option.some.inj hr
    have he : ents (d := 0) t = t := entsF_map t
    refine ⟨_, List.getElem?_eq_getElem (by omega), a1, List.eq_nil_of_length_eq_zero a3, a2.trans he.symm, ?_, rfl⟩
    rw [he]
    have hm : ∀ k ∈ t, (k, true) ∈ flat (d := 0) t := fun k hk => List.mem_map.2 ⟨k, hk, rfl⟩
    exact ⟨h4, h2, fun e => (by cases e), map_srt ho, fun k hk => hlo _ (hm k hk), fun k hk => hhi _ (hm k hk)⟩
  | d + 1, (ks, ts), root, lo, hi, i, hq, hc, h4, h2, h1, ho, hlo, hhi => by
    have hi' := (List.getElem?_eq_some_iff.1 hq).1
    obtain ⟨r, hr, a1, a2, a3, a4⟩ := h.told i ps[i] (List.getElem?_eq_getElem (by omega))
    rw [hq] at hr
    obtain rfl := Option.some.inj hr
    have hlen : ts.length = ks.length + 1 := hc.1
    have hkl : (kidsR ⟨d + 1, (ks, ts)⟩).length = ts.length := by show (ts.map _).length = _; rw [List.length_map]
    have hm : ∀ k ∈ ks, (k, false) ∈ flat (d := d + 1) (ks, ts) := fun k hk => (seps_in ks (ts.map flat) (by simp; omega)).subset (List.mem_map.2 ⟨k, hk, rfl⟩)
    have hk1 : ps[i].keys = ks := a2
    rw [hkl] at a3
    refine ⟨ps[i], ts.map ents, ts.map szT, List.getElem?_eq_getElem (by omega), ?_, by rw [a3, hk1]; exact hlen, by rw [List.length_map, a3], by rw [List.length_map, a3], ?_, ents_node _ hlen, rfl, fun j b1 b2 b3 => ⟨(a4 j b1).1, ?_⟩⟩
    · rw [a1]
      have : 0 < (kidsR ⟨d + 1, (ks, ts)⟩).length := by omega
      cases hk : kidsR ⟨d + 1, (ks, ts)⟩ with
      | nil => rw [hk] at this; simp at this
      | cons a l => rfl
    · rw [hk1]
      exact ⟨h4, h2, fun _ => h1 (Nat.succ_pos _), keys_srt hlen ho, fun k hk => hlo _ (hm k hk), fun k hk => hhi _ (hm k hk)⟩
    · have hj : j < ts.length := by omega
      rw [List.getElem_map, List.getElem_map]
      have hg : GoodT ts[j] := hc.2 _ (List.getElem_mem hj)
      have hf : flat (d := d + 1) (ks, ts) = wl (ks.take j) ((ts.take j).map flat) ++ (flat ts[j] ++ wr (ks.drop j) ((ts.drop (j + 1)).map flat)) := by
        show flatN (ks, ts) = _
        rw [← flat_at _ hlen hj, ← ts_cut (List.getElem?_eq_getElem hj)]
      have hq2 : q[ps[i].kids[j]]? = some ⟨d, ts[j]⟩ := by
        rw [(a4 j b1).2]
        show (ts.map fun t => (⟨d, t⟩ : RT))[j]? = _
        rw [List.getElem?_map, List.getElem?_eq_getElem hj]
        rfl
      have ho2 := ho
      rw [hf] at ho2
      obtain ⟨_, p2, p3⟩ := List.pairwise_append.1 ho2
      obtain ⟨p4, _, p6⟩ := List.pairwise_append.1 p2
      have hin : ∀ y ∈ flat ts[j], y ∈ flat (d := d + 1) (ks, ts) := fun y hy => by rw [hf]; exact List.mem_append_right _ (List.mem_append_left _ hy)
      refine bfs_shp h hl ts[j] hq2 hg.2.2 hg.2.1 (fun _ => hg.1) (fun _ => by have := hg.1; omega) p4 (fun y hy e he => ?_) fun y hy e he => ?_
      · unfold loOf at he
        split at he
        · exact hlo y (hin y hy) e he
        · rename_i hj0
          obtain ⟨j', rfl⟩ : ∃ j', j = j' + 1 := ⟨j - 1, by omega⟩
          rw [hk1, Nat.add_sub_cancel] at he
          have hje := (List.getElem?_eq_some_iff.1 he).1
          have hjt : j' < ts.length := by omega
          have ht1 : ks.take (j' + 1) = ks.take j' ++ [e] := by rw [List.take_succ_eq_append_getElem hje, (List.getElem?_eq_some_iff.1 he).2]
          have ht2 : ts.take (j' + 1) = ts.take j' ++ [ts[j']] := List.take_succ_eq_append_getElem hjt
          have hmem : (e, false) ∈ wl (ks.take (j' + 1)) ((ts.take (j' + 1)).map flat) := by
            rw [ht1, ht2, List.map_append, List.map_cons, List.map_nil, wl_snoc _ _ _ _ (by simp; omega)]
            simp
          have hlt2 := p3 _ hmem y (List.mem_append_left _ hy)
          have h7 : ordE e y.1 ≤ 0 := by
            rcases hlt2 with h | ⟨h, _⟩
            · exact Int.le_of_lt h
            · simp only at h
              rw [h]
              exact Int.le_of_eq (ordE_self _)
          have := good_ordE.anti e y.1
          omega
      · unfold hiOf at he
        split at he
        · rename_i hj0
          rw [hk1] at he hj0
          have hd1 : ks.drop j = e :: ks.drop (j + 1) := by rw [List.drop_eq_getElem_cons hj0, (List.getElem?_eq_some_iff.1 he).2]
          have hjt : j + 1 < ts.length := by omega
          have hmem : (e, false) ∈ wr (ks.drop j) ((ts.drop (j + 1)).map flat) := by
            rw [hd1, List.drop_eq_getElem_cons hjt, List.map_cons, wr]
            simp
          have hlt2 := p6 y hy _ hmem
          obtain ⟨y1, y2⟩ := y
          cases y2
          · exact ltM_ss.1 hlt2
          · exact ltM_es.1 hlt2
        · exact hhi y (hin y hy) e he
theorem keys_mem : ∀ {d : Nat} {t : Tr d}, Cnt t → ∀ k ∈ keysT t, ∃ b, (k, b) ∈ flat t
  | 0, (t : List En), _, k, hk => ⟨true, List.mem_map.2 ⟨k, hk, rfl⟩⟩
  | d + 1, (ks, ts), hc, k, hk => ⟨false, (seps_in ks (ts.map flat) (by have : ts.length = ks.length + 1 := hc.1; simp; omega)).subset (List.mem_map.2 ⟨k, hk, rfl⟩)⟩
/-- all told -/
theorem Bfs.all {K : Nat} {ps : List Tp} {q : List RT} {d : Nat} {t : Tr d} (h : Bfs K ps q ⟨d, t⟩) (hR : Root K t) (hl : q.length ≤ ps.length) : PgsOk K ps (ents t) := by
  have hle := h.le
  have hs := h.sz
  rw [List.drop_eq_nil_of_le hl] at hs
  refine ⟨⟨d, ?_⟩, by have := h.cnt; omega, fun x hx e he => ?_⟩
  · have h1 := bfs_shp h hl t (root := true) (lo := none) (hi := none) (i := 0) h.head hR.cnt hR.few (fun e => by cases e) hR.one hR.ord (fun _ _ _ e => by cases e) fun _ _ _ e => by cases e
    have h2 : szT t = ps.length := by simpa [szR] using hs.symm
    rw [h2] at h1
    exact h1
  · obtain ⟨i, hi⟩ := List.getElem?_of_mem hx
    obtain ⟨r, hr, _, a2, _⟩ := h.told i x hi
    obtain ⟨hc, _, ht⟩ := h.ok r (List.mem_of_getElem? hr)
    rw [a2] at he
    obtain ⟨b, hb⟩ := keys_mem hc e he
    exact ht _ hb
/-- how many pages there are -/
theorem sz_low : ∀ {d : Nat} (t : Tr d), Cnt t → 2 ≤ (keysT t).length → szT t + 1 ≤ (ents t).length
  | 0, (t : List En), _, h2 => by
    have he : ents (d := 0) t = t := entsF_map t
    rw [he]
    exact h2
  | d + 1, (ks, ts), hc, h2 => by
    rw [ents_node _ hc.1]
    have hlen : ts.length = ks.length + 1 := hc.1
    have h2' : 2 ≤ ks.length := h2
    have h1 := sum_bd 1 (ts.map szT) (ts.map ents) (by simp) fun j b1 b2 => by
      rw [List.getElem_map, List.getElem_map]
      have hj : j < ts.length := by simpa using b1
      have hg := hc.2 _ (List.getElem_mem hj)
      exact sz_low _ hg.2.2 hg.1
    rw [List.length_map] at h1
    show 1 + (ts.map szT).sum + 1 ≤ (ts.map ents).flatten.length
    omega
theorem sz_root {K d : Nat} {t : Tr d} (h : Root K t) : szT t ≤ (ents t).length + 1 := by
  match d, t, h with
  | 0, t, _ => show 1 ≤ _; omega
  | d + 1, (ks, ts), h =>
    have hc := h.cnt
    rw [ents_node _ hc.1]
    have hlen : ts.length = ks.length + 1 := hc.1
    have h1 := sum_bd 1 (ts.map szT) (ts.map ents) (by simp) fun j b1 b2 => by
      rw [List.getElem_map, List.getElem_map]
      have hj : j < ts.length := by simpa using b1
      have hg := hc.2 _ (List.getElem_mem hj)
      exact sz_low _ hg.2.2 hg.1
    rw [List.length_map] at h1
    show 1 + (ts.map szT).sum ≤ (ts.map ents).flatten.length + 1
    omega
end Go.Proofs.Ytiaclfldgagalaa
