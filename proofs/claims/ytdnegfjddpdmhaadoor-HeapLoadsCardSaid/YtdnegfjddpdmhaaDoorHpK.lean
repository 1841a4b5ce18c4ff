/-
  The contracts of places and of the iterator that it hands back.
-/
import Derived.Test.YtdnegfjddpdmhaaDoorHpJ
import Derived.RangeFuncNested
import Derived.RangeFuncBound
import Derived.RangeFuncCalls
import Derived.RangeFuncLeaves
import Derived.Shelf.Abstract
import Derived.Shelf.RegionOpen
import Derived.WalkKit
import Derived.OwnWalkIn
import Derived.TacticsInMore
import Derived.LoopNIn
import Derived.LoopIn
import Derived.BigRegionIn
namespace Go.Proofs.YtdnegfjddpdmhaaDoor
open Go.RowKit Go.Lib Go.Shelf

abbrev Pl := Int × Int
def ridE (x : Pl) : Array Value := #[.agg #[.int .i64 x.1, .int .i64 x.2]]
/-- what a round keeps: what lay below, and rows of numbers -/
def KpA (n0 : Nat) (W W' : World) : Prop := Below n0 W W' ∧ ∀ g cs, Blk W g 3 cs → Blk W' g 3 cs
theorem KpA.trans {n0 : Nat} {A B C : World} (h : KpA n0 A B) (k : KpA n0 B C) : KpA n0 A C := ⟨h.1.trans k.1, fun g cs hb => k.2 g cs (h.2 g cs hb)⟩
theorem KpA.of_below {n0 : Nat} {A B : World} (h : Below A.heap.size A B) (hn : n0 ≤ A.heap.size) : KpA n0 A B := ⟨h.mono hn, fun _ _ hb => hb.below h hb.lt⟩
theorem KpA.own {n0 : Nat} {A B : World} (h : KpA n0 A B) {base : Nat} {v : Value} {n : Nat} {xs : List Value} (ho : A.ownsRow base 3 1 v n xs) : B.ownsRow base 3 1 v n xs :=
  own_keep ho fun k hk => by
    obtain ⟨cur, hb⟩ := own_row ho k hk
    have h1 := h.2 k cur hb
    unfold Blk at hb h1
    rw [hb, h1]
/-- pages that lie below a block -/
def PIn0 (B : Nat) (w : World) (A : Option Addr) (xs : List Pv) : Prop :=
  Rd w B A xs.length (pvals xs) ∧ ∀ x ∈ xs, Rd w B x.A 256 (cells (imgP x.s)) ∧ 256 ≤ x.c ∧ x.c ≤ maxLen ∧ (∃ g, x.A = some ⟨g, 0, none⟩) ∧ GoodP x.s
theorem PIn0.below {B C : Nat} {w w' : World} {A : Option Addr} {xs : List Pv} (h : PIn0 B w A xs) (hb : Below C w w') (hC : B ≤ C) : PIn0 B w' A xs :=
  ⟨h.1.below hb hC, fun x hx => ⟨(h.2 x hx).1.below hb hC, (h.2 x hx).2⟩⟩
theorem PIn0.at_ {B : Nat} {w : World} {A : Option Addr} {xs : List Pv} (h : PIn0 B w A xs) (hB : B ≤ w.heap.size) {k : Nat} (hk : k < xs.length) : ∃ ad, A = some ad ∧ w.cell? (ad.add k) = some xs[k].val ∧ PgOk w xs[k] := by
  obtain ⟨ad, u, e, _, hu, hc⟩ := h.1.at_ hk
  rw [pvals_at hk] at hu
  obtain ⟨h1, h2, h3, h4, h5⟩ := h.2 xs[k] (List.getElem_mem hk)
  exact ⟨ad, e, by rw [hc, ← Option.some.inj hu], ⟨h1.more hB, h5.pg.bytes, h2, h3, fun _ => h4⟩, h5⟩
theorem HpX.pin0 {B hb : Nat} {D : Nat → Prop} {w : World} {A : Option Addr} {c : Nat} {xs : List Pv} (h : HpX B D w hb (.slice A xs.length c) xs) : PIn0 w.heap.size w A xs :=
  ⟨Rd.of_own h.own, fun x hx => ⟨(h.pg x hx).sl.rd, (h.pg x hx).sl.cap, (h.pg x hx).sl.top, (h.pg x hx).sl.adr rfl, (h.pg x hx).good⟩⟩

/-- the places in the first k pages -/
def upH (ps : Pgs) (k : Nat) : List Pl := (List.range k).flatMap fun i => (slotsN (pgAt ps i) (pgAt ps i).length).map fun z => ((i : Int), z)
theorem upH_succ (ps : Pgs) (k : Nat) : upH ps (k + 1) = upH ps k ++ (slotsN (pgAt ps k) (pgAt ps k).length).map fun z => ((k : Int), z) := by
  simp [upH, List.range_succ]
theorem upH_all (ps : Pgs) : upH ps ps.length = allH ps := rfl
theorem upH_le (ps : Pgs) {k n : Nat} (h : k ≤ n) : ∃ r, upH ps n = upH ps k ++ r := by
  induction n with
  | zero => obtain rfl : k = 0 := by omega
            exact ⟨[], by simp⟩
  | succ n ih =>
    rcases Nat.lt_or_ge k (n + 1) with h1 | h1
    · obtain ⟨r, hr⟩ := ih (by omega)
      exact ⟨_, by rw [upH_succ, hr, List.append_assoc]⟩
    · obtain rfl : k = n + 1 := by omega
      exact ⟨[], by simp⟩
/-- what has come within page k, j slots of it -/
def atH (ps : Pgs) (k j : Nat) : List Pl := upH ps k ++ ((slotsN (pgAt ps k) (pgAt ps k).length).take j).map fun z => ((k : Int), z)
theorem atH_zero (ps : Pgs) (k : Nat) : atH ps k 0 = upH ps k := by simp [atH]
theorem atH_succ (ps : Pgs) (k j : Nat) (h : j < (slotsN (pgAt ps k) (pgAt ps k).length).length) : atH ps k (j + 1) = atH ps k j ++ [((k : Int), (slotsN (pgAt ps k) (pgAt ps k).length)[j])] := by
  unfold atH
  rw [List.take_succ_eq_append_getElem h, List.map_append, ← List.append_assoc]
  rfl
theorem atH_end (ps : Pgs) (k : Nat) : atH ps k (slotsN (pgAt ps k) (pgAt ps k).length).length = upH ps (k + 1) := by rw [upH_succ, atH, List.take_length]
theorem atH_front (ps : Pgs) (k j : Nat) (hk : k < ps.length) : ∃ r, allH ps = atH ps k j ++ r := by
  obtain ⟨r, hr⟩ := upH_le ps (k := k + 1) (n := ps.length) (by omega)
  refine ⟨((slotsN (pgAt ps k) (pgAt ps k).length).drop j).map (fun z => ((k : Int), z)) ++ r, ?_⟩
  rw [← upH_all, hr, upH_succ, atH, List.append_assoc, List.append_assoc]
  congr 1
  rw [← List.append_assoc, ← List.map_append, List.take_append_drop]

set_option maxRecDepth 100000 in
theorem places_any (w : World) (hb : Nat) : Calls Tryd.prog 58 #[.pointer (some ⟨hb, 0, none⟩)] w fun e w' => e = .returned (.func (.func 80) #[] #[.pointer (some ⟨w.heap.size, 0, none⟩)]) ∧ w' = w.alloc (.cells #[.pointer (some ⟨hb, 0, none⟩)] 25) := by
  go_enter Tryd.func58, Tryd.ntmps58
  go_wp2
  go_ret
  exact ⟨rfl, rfl⟩

attribute [local go_sem] Oper.semAt_some

set_option maxRecDepth 100000 in
set_option maxHeartbeats 3200000 in
theorem places1_in (m : Nat) (hm : 3 ≤ m) (l Bh hb n0 : Nat) (A : Option Addr) (c : Nat) (xs : List Pv) (hx1 : xs.length ≤ 1000000) (J Jx : List Pl → World → Prop)
    (hY : ∀ pre x W, J pre W → pre.length < (allH (pslots xs)).length → YieldAt Fence.wide (m - 1) Tryd.prog l (ridE x) W fun e W' =>
      (e = .returned (.bool true) ∧ J (pre ++ [x]) W' ∧ KpA n0 W W') ∨ (e = .returned (.bool false) ∧ Jx (pre ++ [x]) W'))
    (W : World) (hBh : Blk W Bh 25 #[.pointer (some ⟨hb, 0, none⟩)]) (hbk : Blk W hb 67 #[.slice A xs.length c]) (hP : PIn0 n0 W A xs) (hn0 : n0 ≤ W.heap.size) (hJ : J [] W) (hJb : ∀ pre a b, J pre a → Below a.heap.size a b → J pre b) :
    CallsIn Fence.wide m Tryd.prog 80 #[.func (.yield l) #[] #[], .pointer (some ⟨Bh, 0, none⟩)] W fun e W' => (∃ v, e = .returned v) ∧
      ((∃ ys, ys = allH (pslots xs) ∧ J ys W') ∨ (∃ pre, pre <+: allH (pslots xs) ∧ Jx pre W')) := by
  refine callsIn_of_wp Tryd.func80 rfl trivial ?_ rfl
  simp only [Tryd.ntmps80, List.size_toArray, List.length_cons, List.length_nil, Nat.reduceAdd, Nat.reduceSub, Array.replicate_succ, Array.replicate_zero, List.push_toArray, List.append_toArray, List.nil_append, List.cons_append]
  have hc1 := hBh.cell 0
  have hc2 := hbk.cell 0
  simp only [List.getElem?_toArray, List.getElem?_cons_zero] at hc1 hc2
  obtain ⟨N, hN⟩ : ∃ N, N = xs.length := ⟨_, rfl⟩
  have HN := Lib.hid hN
  have HY := Lib.hid hY
  have HP := Lib.hid (And.intro hP (And.intro hJ hJb))
  have hpl : (pslots xs).length = N := by rw [hN, pslots_len]
  have HPL := Lib.hid hpl
  rw [← hN] at hc2 hx1
  clear hY hP hJ hJb hBh hbk hN hpl
  gi_wp2
  gi_loopw [12] (fun i wr => ∃ k : Nat, k ≤ N ∧ i = .int .i64 (k : Int) ∧ J (upH (pslots xs) k) wr ∧ KpA n0 W wr) (fun i _ => N - (intOf i).toNat)
  case atStart => exact ⟨0, Nat.zero_le _, rfl, by simpa [upH] using HP.out.2.1, KpA.of_below (Below.refl _ _) hn0⟩
  case round =>
    obtain ⟨k, hk, rfl, hJs, hkp⟩ := hrel
    have hk0 : (0 : Int) ≤ (k : Int) := Int.natCast_nonneg _
    have HR := Lib.hid (And.intro hJs hkp)
    clear hJs hkp
    by_cases hlt : k < N
    · have hlt1 : (k : Int) < (N : Int) := by omega
      have hky : k < xs.length := by rw [← HN.out]; exact hlt
      have hs0 := HR.out.2.1.size
      obtain ⟨ad, rfl, hcx, hok⟩ := (HP.out.1.below HR.out.2.1 (Nat.le_refl _)).at_ (by omega) hky
      obtain ⟨x, hxe⟩ : ∃ x, x = xs[k] := ⟨_, rfl⟩
      have hps : pgAt (pslots xs) k = x.s := by rw [hxe]; exact pgAt_slots hky
      rw [← hxe] at hcx hok
      unfold Pv.val at hcx
      have HX := Lib.hid (And.intro hok hps)
      clear hok hps hxe
      gi_wp2_with fail
      refine ⟨trivial, fun _ => by omega, callsIn_wide.2 ((slots_pv wr x HX.out.1).mono ?_)⟩
      rintro e w1 ⟨A1, c1, rfl, hown, hb1⟩
      obtain ⟨L, hL⟩ : ∃ L, L = (slotsN x.s x.s.length).length := ⟨_, rfl⟩
      have HL := Lib.hid hL
      have hL5 : L ≤ 255 := by have h8 := slotsN_le x.s x.s.length; have h9 := HX.out.1.2.pg.slots; omega
      have hsN : slotsN (pgAt (pslots xs) k) (pgAt (pslots xs) k).length = slotsN x.s x.s.length := by rw [HX.out.2]
      have hst : ∃ j : Nat, j ≤ L ∧ (Value.int .i64 0) = .int .i64 (j : Int) ∧ J (atH (pslots xs) k j) w1 ∧ KpA n0 w1 w1 := ⟨0, Nat.zero_le _, rfl, by rw [atH_zero]; exact HP.out.2.2 _ _ _ HR.out.1 hb1, KpA.of_below (Below.refl _ _) (by have := hb1.size; omega)⟩
      have HST := Lib.hid hst
      have HO := Lib.hid (And.intro hown (And.intro hb1 hsN))
      rw [← hL]
      clear hown hb1 hst hL hsN
      gi_wp2_with fail
      gi_loopw [20] (fun i wr2 => ∃ j : Nat, j ≤ L ∧ i = .int .i64 (j : Int) ∧ J (atH (pslots xs) k j) wr2 ∧ KpA n0 w1 wr2) (fun i _ => L - (intOf i).toNat)
      case atStart => exact HST.out
      case round =>
        obtain ⟨j, hj, rfl, hJs, hkp⟩ := hrel
        have hj0 : (0 : Int) ≤ (j : Int) := Int.natCast_nonneg _
        have HS := Lib.hid (And.intro hJs hkp)
        clear hJs hkp
        by_cases hjl : j < L
        · have hjl1 : (j : Int) < (L : Int) := by omega
          have hown2 := HS.out.2.own HO.out.1
          rw [← HL.out] at hown2
          obtain ⟨g, cap, hv, hgb, hlt2⟩ := hown2.form (by omega)
          injection hv with e1 e2 e3
          subst e1
          subst e3
          have hjs : j < (slotsN x.s x.s.length).length := by rw [← HL.out]; exact hjl
          have hcj := hown2.cellAt j (by omega)
          rw [show (cells64 (slotsN x.s x.s.length))[j]? = some (.int .i64 (slotsN x.s x.s.length)[j]) by simp [cells64, hjs]] at hcj
          obtain ⟨z, hz⟩ : ∃ z, z = (slotsN x.s x.s.length)[j] := ⟨_, rfl⟩
          rw [← hz] at hcj
          have hnext : atH (pslots xs) k j ++ [((k : Int), z)] = atH (pslots xs) k (j + 1) := by
            rw [atH_succ _ _ _ (by rw [HO.out.2.2]; exact hjs), hz]
            congr 4
            simp only [HO.out.2.2]
          have hlen : (atH (pslots xs) k j).length < (allH (pslots xs)).length := by
            obtain ⟨r, hr⟩ := atH_front (pslots xs) k (j + 1) (by rw [HPL.out]; exact hlt)
            rw [hr, ← hnext]
            simp
          obtain ⟨fn, tmps, assign, body, hy, hRd⟩ := HY.out _ ((k : Int), z) wr HS.out.1 hlen
          dsimp only [ridE] at hy hRd
          have HNX := Lib.hid hnext
          clear hown2 hnext hlen hz hjs
          gi_wp2_with fail
          refine ⟨fun _ => by omega, hRd.mono ?_⟩
          rintro e W3 (⟨rfl, hJ3, hk3⟩ | ⟨rfl, hJx3⟩)
          · have HF := Lib.hid (show ∃ j' : Nat, j' ≤ L ∧ (Value.int .i64 ((j : Int) + 1)) = .int .i64 (j' : Int) ∧ J (atH (pslots xs) k j') W3 ∧ KpA n0 w1 W3 from
              ⟨j + 1, by omega, by go_num, by rw [← HNX.out]; exact hJ3, HS.out.2.trans hk3⟩)
            clear hJ3 hk3 hRd hy
            gi_wp2_with fail
            go_roundw
            case rel => exact HF.out
            case measure => simp [intOf]; omega
          · gi_wp2_with fail
            refine bodyPost_ret (results_none rfl _ _ _) rfl ?_
            exact ⟨⟨_, rfl⟩, .inr ⟨_, by rw [HNX.out]; obtain ⟨r, hr⟩ := atH_front (pslots xs) k (j + 1) (by rw [HPL.out]; exact hlt); exact ⟨r, hr.symm⟩, hJx3⟩⟩
        · have hjl1 : ¬ ((j : Int) < (L : Int)) := by omega
          obtain rfl : j = L := by omega
          have HF := Lib.hid (show J (upH (pslots xs) (k + 1)) wr from by
            have h9 := HS.out.1
            rw [HL.out, ← HO.out.2.2, atH_end] at h9
            exact h9)
          gi_wp2_with fail
          go_roundw
          case rel => exact ⟨k + 1, by omega, by go_num, HF.out, HR.out.2.trans ((KpA.of_below HO.out.2.1 (by omega)).trans HS.out.2)⟩
          case measure => simp [intOf]; omega
    · have hlt1 : ¬ ((k : Int) < (N : Int)) := by omega
      obtain rfl : k = N := by omega
      gi_wp2
      go_end0
      exact ⟨⟨_, rfl⟩, .inl (by rw [← upH_all, HPL.out]; exact HR.out.1)⟩
end Go.Proofs.YtdnegfjddpdmhaaDoor
