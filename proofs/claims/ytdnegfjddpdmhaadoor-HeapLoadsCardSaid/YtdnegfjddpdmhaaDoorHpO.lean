/-
  The helpers of layer 7's statements: SameLists, SameRids, Weigh; alive.
-/
import Derived.Test.YtdnegfjddpdmhaaDoorHpN
import Derived.Lib.SlBytesConst
namespace Go.Proofs.YtdnegfjddpdmhaaDoor
open Go.RowKit Go.Lib

/-- rows of bytes that are read -/
structure RIn0 (w : World) (A : Option Addr) (n : Nat) (xs : List Rb) : Prop where
  rd : Rd w w.heap.size A n (rvals xs)
  el : ∀ x ∈ xs, Rd w w.heap.size x.A x.n (cells x.l)
section
variable {w w' : World} {A : Option Addr} {n : Nat} {xs : List Rb}
theorem RIn0.len (h : RIn0 w A n xs) : xs.length = n := by have := h.rd.1; rwa [rvals_len] at this
theorem RIn0.below (h : RIn0 w A n xs) (hb : Below w.heap.size w w') : RIn0 w' A n xs := ⟨h.rd.le hb, fun x hx => (h.el x hx).le hb⟩
theorem RIn0.drewN (h : RIn0 w A n xs) (d : Nat) : RIn0 (w.drewN d) A n xs := ⟨h.rd, h.el⟩
theorem RIn0.at_ (h : RIn0 w A n xs) {k : Nat} (hk : k < n) : ∃ ad x, A = some ad ∧ xs[k]? = some x ∧ w.cell? (ad.add k) = some x.val ∧ Rd w w.heap.size x.A x.n (cells x.l) := by
  obtain ⟨ad, u, e, _, hu, hc⟩ := h.rd.at_ hk
  have hk' : k < xs.length := by rw [h.len]; exact hk
  rw [show (rvals xs)[k]? = some xs[k].val by simp [rvals, hk']] at hu
  exact ⟨ad, xs[k], e, List.getElem?_eq_getElem hk', by rw [hc, ← Option.some.inj hu], h.el _ (List.getElem_mem hk')⟩
end
def ofPv (x : Pv) : Rb := ⟨x.A, 256, x.c, imgP x.s⟩
theorem rvals_pv (xs : List Pv) : rvals (xs.map ofPv) = pvals xs := by simp [rvals, pvals, Rb.val, Pv.val, ofPv, Function.comp_def]
theorem rlists_pv (xs : List Pv) : rlists (xs.map ofPv) = (pslots xs).map imgP := by simp [rlists, pslots, ofPv, Function.comp_def]
theorem RIn0.of_pages {w : World} {base : Nat} {A : Option Addr} {c : Nat} {ys : List Pv} {D : Nat → Prop} (h : w.ownsRow base 33 1 (.slice A ys.length c) ys.length (pvals ys)) (hy : ∀ y ∈ ys, y.Ok D w) : RIn0 w A ys.length (ys.map ofPv) :=
  ⟨by rw [rvals_pv]; exact Rd.of_own h, fun x hx => by
    obtain ⟨y, hy', rfl⟩ := List.mem_map.1 hx
    exact (hy y hy').sl.rd⟩

set_option maxRecDepth 100000 in
set_option maxHeartbeats 1600000 in
theorem sameLists_yes (A A' : Option Addr) (n c c' : Nat) (xs ys : List Rb) (w : World) (h1 : RIn0 w A n xs) (h2 : RIn0 w A' n ys) (hl : rlists xs = rlists ys) (hb : ∀ x ∈ xs, x.n ≤ 140000000000000) (hn : n ≤ 140000000000000) :
    Calls Tryd.prog 13 #[.slice A n c, .slice A' n c'] w fun e w' => e = .returned (.bool true) ∧ ∃ d, w' = w.drewN d := by
  have H := Lib.hid (And.intro h1 (And.intro h2 (And.intro hl hb)))
  clear h1 h2 hl hb
  go_enter Tryd.func13, Tryd.ntmps13
  go_wp2_with fail
  go_loopw [5] (fun i wr => ∃ k d : Nat, k ≤ n ∧ i = .int .i64 k ∧ wr = w.drewN d) (fun i _ => n - (intOf i).toNat)
  case atStart => exact ⟨0, 0, by omega, rfl, rfl⟩
  case round =>
    obtain ⟨k, d, hk, rfl, hw⟩ := hrel
    have HW := Lib.hid hw
    have hk0 : (0 : Int) ≤ (k : Int) := Int.natCast_nonneg _
    by_cases hlt : k < n
    · have hk1 : (k : Int) < (n : Int) := by omega
      have g1 : RIn0 wr A n xs := by rw [hw]; exact H.out.1.drewN d
      have g2 : RIn0 wr A' n ys := by rw [hw]; exact H.out.2.1.drewN d
      obtain ⟨ad, x, rfl, hx, hc, hrx⟩ := g1.at_ hlt
      obtain ⟨ad', y, rfl, hy, hc', hry⟩ := g2.at_ hlt
      have hxy : x.l = y.l := by
        have e1 : (rlists xs)[k]? = (rlists ys)[k]? := by rw [H.out.2.2.1]
        simpa [rlists, List.getElem?_map, hx, hy] using e1
      have hxn := H.out.2.2.2 x (List.mem_of_getElem? hx)
      have hnn : y.n = x.n := by
        have e1 := hrx.len
        have e2 := hry.len
        rw [cells_len] at e1 e2
        rw [← e1, ← e2, hxy]
      unfold Rb.val at hc hc'
      rw [hnn] at hry hc'
      have HK := Lib.hid (show ∀ k0, Calls Tryd.prog 27 #[.slice x.A x.n x.c, .slice y.A x.n y.c] (wr.drewN k0) (fun e w' => e = .returned (.bool true) ∧ ∃ m, w' = wr.drewN m) from fun k0 => by
        refine (sameBytes_dec x.A y.A x.n x.n x.c y.c x.l y.l (wr.drewN k0) _ _ (hrx.drewN k0) (hry.drewN k0) hxn).mono ?_
        rintro e w' ⟨rfl, m, rfl⟩
        exact ⟨by rw [decide_eq_true hxy], _, World.drewN_drewN _ _ _⟩)
      clear hw g1 g2 hx hy hxy hxn hrx hry hnn
      go_wp2_with fail
      go_quiet (first | (go_at_call 27; exact HK.out _))
      go_wp2_with fail
      go_roundw
      case rel => exact ⟨k + 1, _, by omega, by go_num, by rw [HW.out]; exact World.drewN_drewN _ _ _⟩
      case measure => simp [intOf]; omega
    · have hkn : ¬ ((k : Int) < (n : Int)) := by omega
      clear hw
      go_wp2_with fail
      go_ret
      exact ⟨rfl, d, HW.out⟩

/-- places that are read -/
def RidIn (w : World) (A : Option Addr) (l : List Pl) : Prop := 0 < l.length → ∃ g, A = some ⟨g, 0, none⟩ ∧ g < w.heap.size ∧ ∀ j u, (ridC l)[j]? = some u → w.cell? ⟨g, j, none⟩ = some u
theorem RidIn.of_own {w : World} {base : Nat} {A : Option Addr} {c : Nat} {l : List Pl} (h : w.ownsRow base 32 2 (.slice A l.length c) l.length (ridC l)) : RidIn w A l := fun h0 => by
  obtain ⟨g, cap, hv, _, hlt⟩ := h.form h0
  injection hv with e _ _
  subst e
  refine ⟨g, rfl, hlt, fun j u hu => ?_⟩
  have h1 := h.cells (g := g) rfl j u hu
  rwa [Addr.add_lit, Nat.zero_add] at h1
theorem RidIn.below {w w' : World} {A : Option Addr} {l : List Pl} (h : RidIn w A l) (hb : Below w.heap.size w w') : RidIn w' A l := fun h0 => by
  obtain ⟨g, e, h1, h2⟩ := h h0
  exact ⟨g, e, Nat.lt_of_lt_of_le h1 hb.size, fun j u hu => (hb.cell (p := ⟨g, j, none⟩) h1).trans (h2 j u hu)⟩
theorem ridC_at {l : List Pl} {k : Nat} (hk : k < l.length) : (ridC l)[k * 2]? = some (.int .i64 l[k].1) ∧ (ridC l)[k * 2 + 1]? = some (.int .i64 l[k].2) := by
  induction l generalizing k with
  | nil => simp at hk
  | cons x l ih =>
    match k with
    | 0 => exact ⟨rfl, rfl⟩
    | k + 1 =>
      have h1 := ih (k := k) (by simpa using hk)
      have e : ridC (x :: l) = [.int .i64 x.1, .int .i64 x.2] ++ ridC l := by simp [ridC]
      rw [e, List.getElem?_append_right (by simp; omega), List.getElem?_append_right (by simp; omega)]
      simp only [List.length_cons, List.length_nil, List.getElem_cons_succ]
      rw [show (k + 1) * 2 - (0 + 1 + 1) = k * 2 by omega, show (k + 1) * 2 + 1 - (0 + 1 + 1) = k * 2 + 1 by omega]
      exact h1

set_option maxRecDepth 100000 in
set_option maxHeartbeats 1600000 in
theorem sameRids_yes (A A' : Option Addr) (c c' : Nat) (l : List Pl) (w : World) (h1 : RidIn w A l) (h2 : RidIn w A' l) (hn : l.length ≤ 140000000000000) :
    Calls Tryd.prog 16 #[.slice A l.length c, .slice A' l.length c'] w fun e w' => e = .returned (.bool true) ∧ ∃ d, w' = w.drewN d := by
  obtain ⟨n, hne⟩ : ∃ n, n = l.length := ⟨_, rfl⟩
  have HN := Lib.hid hne
  have H := Lib.hid (And.intro h1 h2)
  rw [← hne] at hn ⊢
  clear h1 h2 hne
  go_enter Tryd.func16, Tryd.ntmps16
  go_wp2_with fail
  go_loopw [5] (fun i wr => ∃ k d : Nat, k ≤ n ∧ i = .int .i64 k ∧ wr = w.drewN d) (fun i _ => n - (intOf i).toNat)
  case atStart => exact ⟨0, 0, by omega, rfl, rfl⟩
  case round =>
    obtain ⟨k, d, hk, rfl, hw⟩ := hrel
    have HW := Lib.hid hw
    have hk0 : (0 : Int) ≤ (k : Int) := Int.natCast_nonneg _
    by_cases hlt : k < n
    · have hk1 : (k : Int) < (n : Int) := by omega
      have hkl : k < l.length := by rw [← HN.out]; exact hlt
      obtain ⟨ad, rfl, _, g1⟩ := H.out.1 (by omega)
      obtain ⟨ad', rfl, _, g2⟩ := H.out.2 (by omega)
      obtain ⟨e1, e2⟩ := ridC_at hkl
      have c1 : wr.cell? ⟨ad, k * 2, none⟩ = some (.int .i64 l[k].1) := by rw [hw]; exact g1 _ _ e1
      have c2 : wr.cell? ⟨ad, k * 2 + 1, none⟩ = some (.int .i64 l[k].2) := by rw [hw]; exact g1 _ _ e2
      have c3 : wr.cell? ⟨ad', k * 2, none⟩ = some (.int .i64 l[k].1) := by rw [hw]; exact g2 _ _ e1
      have c4 : wr.cell? ⟨ad', k * 2 + 1, none⟩ = some (.int .i64 l[k].2) := by rw [hw]; exact g2 _ _ e2
      obtain ⟨x1, hx1⟩ : ∃ x, x = l[k].1 := ⟨_, rfl⟩
      obtain ⟨x2, hx2⟩ : ∃ x, x = l[k].2 := ⟨_, rfl⟩
      rw [← hx1] at c1 c3
      rw [← hx2] at c2 c4
      clear hw g1 g2 e1 e2 hx1 hx2
      go_wp2_with fail
      go_quiet (fail)
      go_wp2_with fail
      go_roundw
      case rel => exact ⟨k + 1, _, by omega, by go_num, by rw [HW.out]; exact World.drewN_drewN _ _ _⟩
      case measure => simp [intOf]; omega
    · have hkn : ¬ ((k : Int) < (n : Int)) := by omega
      clear hw
      go_wp2_with fail
      go_ret
      exact ⟨rfl, d, HW.out⟩

set_option maxRecDepth 100000 in
set_option maxHeartbeats 1600000 in
theorem weigh_any (A : Option Addr) (n c : Nat) (xs : List Rb) (most : Int) (w : World) (h1 : RIn0 w A n xs) (hb : ∀ x ∈ xs, x.n ≤ 140737488355328) (hn : n ≤ maxLen) (hm : 0 ≤ most ∧ most ≤ 1000000) :
    Calls Tryd.prog 19 #[.slice A n c, .int .i64 most] w fun e w' => (∃ r : Int, e = .returned (.int .i64 r) ∧ (r ≤ most → ∀ x ∈ xs, (x.n : Int) ≤ most)) ∧ w' = w := by
  have H := Lib.hid (And.intro h1 hb)
  unfold maxLen at hn
  clear h1 hb
  by_cases hbig : most < (n : Int)
  · go_enter Tryd.func19, Tryd.ntmps19
    go_wp2_with fail
    go_ret
    exact ⟨⟨most + 1, rfl, fun h => by omega⟩, rfl⟩
  · have hbig2 : (n : Int) ≤ most := by omega
    clear hbig
    go_enter Tryd.func19, Tryd.ntmps19
    go_wp2_with fail
    go_loop [5, 6] (fun s i => ∃ (k : Nat) (z : Int), k ≤ n ∧ i = .int .i64 k ∧ s = .int .i64 z ∧ 0 ≤ z ∧ z ≤ 140737490000000 ∧ (z ≤ most → ∀ j, j < k → ∀ x, xs[j]? = some x → (x.n : Int) ≤ most)) (fun _ i => n - (intOf i).toNat)
    case atStart => exact ⟨0, 0, by omega, rfl, rfl, by omega, by omega, fun _ j h => by omega⟩
    case round =>
      obtain ⟨k, z, hk, rfl, rfl, hz0, hz1, hall⟩ := hrel
      have hk0 : (0 : Int) ≤ (k : Int) := Int.natCast_nonneg _
      have HA := Lib.hid hall
      clear hall
      by_cases hlt : k < n
      · have hk1 : (k : Int) < (n : Int) := by omega
        by_cases hz : z ≤ most
        · obtain ⟨ad, x, rfl, hx, hc, _⟩ := H.out.1.at_ hlt
          have hxb := H.out.2 x (List.mem_of_getElem? hx)
          unfold Rb.val at hc
          obtain ⟨xn, hxn⟩ : ∃ xn, xn = x.n := ⟨_, rfl⟩
          rw [← hxn] at hc hxb
          have HX := Lib.hid (And.intro hx hxn)
          clear hx hxn
          have hx0 : (0 : Int) ≤ (xn : Int) := Int.natCast_nonneg _
          go_wp2_with fail
          go_round
          case rel => exact ⟨k + 1, z + (1 + (xn : Int)), by omega, by go_num, by go_num, by omega, by omega, fun hle j hj y hy => by
            rcases Nat.lt_or_ge j k with h | h
            · exact HA.out (by omega) j h y hy
            · obtain rfl : j = k := by omega
              rw [HX.out.1] at hy
              cases hy
              have := HX.out.2
              omega⟩
          case measure => simp [intOf]; omega
        · go_wp2_with fail
          go_ret
          exact ⟨⟨z, rfl, fun h => by omega⟩, rfl⟩
      · have hk1 : ¬ ((k : Int) < (n : Int)) := by omega
        go_wp2_with fail
        go_ret
        exact ⟨⟨z, rfl, fun h x hx => by
          obtain ⟨j, hj⟩ := List.mem_iff_getElem?.1 hx
          have h2 : j < xs.length := (List.getElem?_eq_some_iff.1 hj).1
          exact HA.out h j (by rw [H.out.1.len] at h2; omega) x hj⟩, rfl⟩
end Go.Proofs.YtdnegfjddpdmhaaDoor
