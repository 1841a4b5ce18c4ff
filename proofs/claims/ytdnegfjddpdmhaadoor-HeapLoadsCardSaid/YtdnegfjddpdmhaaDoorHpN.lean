/-
  The contracts of All and Load.
-/
import Derived.Test.YtdnegfjddpdmhaaDoorHpL
namespace Go.Proofs.YtdnegfjddpdmhaaDoor
open Go.RowKit Go.Lib

theorem ridC_bound {ps : Pgs} (hg : ∀ s ∈ ps, GoodP s) (hf : ps.length ≤ 256) : (allH ps).length ≤ 65280 := by
  have := upH_bound hg ps.length
  rw [upH_all] at this
  omega
theorem behind_all {ps : Pgs} : (allH ps).filter (behind (-1) 0) = allH ps := by
  rw [List.filter_eq_self]
  intro x hx
  simp only [allH, List.mem_flatMap, List.mem_map] at hx
  obtain ⟨i, _, z, _, rfl⟩ := hx
  simp [behind]
  omega
theorem aft_all {ps : Pgs} (h : (allH ps).length ≤ 65280) : aftH ps (-1) 0 9223372036854775807 = allH ps := by
  unfold aftH
  rw [behind_all]
  exact List.take_of_length_le (by omega)

set_option maxRecDepth 100000 in
set_option maxHeartbeats 800000 in
theorem all_any {B hb : Nat} {D : Nat → Prop} {w : World} {ps : Pgs} (h : HpV B D w hb ps) (hfew : ps.length ≤ 256) :
    Calls Tryd.prog 17 #[.pointer (some ⟨hb, 0, none⟩)] w (RidsRet (allH ps) w) := by
  have ha := after_any h hfew (-1) 0 9223372036854775807
  rw [aft_all (ridC_bound h.good hfew)] at ha
  have HA := Lib.hid ha
  clear h ha
  go_enter Tryd.func17, Tryd.ntmps17
  go_wp2_with fail
  refine HA.out.mono ?_
  rintro e w1 ⟨v, rfl, h1⟩
  have H1 := Lib.hid h1
  clear h1
  go_wp2_with fail
  go_ret
  exact ⟨v, rfl, H1.out⟩

/-! ### Load -/
/-- a row of rows of bytes, as it came in -/
structure Rb where
  A : Option Addr
  n : Nat
  c : Nat
  l : List Int
def Rb.val (x : Rb) : Value := .slice x.A x.n x.c
def rvals (xs : List Rb) : List Value := xs.map Rb.val
def rlists (xs : List Rb) : List (List Int) := xs.map (·.l)
theorem rvals_len (xs : List Rb) : (rvals xs).length = xs.length := by simp [rvals]
structure RIn (w : World) (A : Option Addr) (n c : Nat) (xs : List Rb) : Prop where
  rd : Rd w w.heap.size A n (rvals xs)
  sl : ∀ x ∈ xs, Sl w x.A x.n x.c x.l
section
variable {w w' : World} {A : Option Addr} {n c : Nat} {xs : List Rb}
theorem RIn.len (h : RIn w A n c xs) : xs.length = n := by have := h.rd.1; rwa [rvals_len] at this
theorem RIn.below (h : RIn w A n c xs) (hb : Below w.heap.size w w') : RIn w' A n c xs := ⟨h.rd.le hb, fun x hx => (h.sl x hx).below hb⟩
theorem RIn.at_ (h : RIn w A n c xs) {k : Nat} (hk : k < n) : ∃ ad x, A = some ad ∧ xs[k]? = some x ∧ w.cell? (ad.add k) = some x.val ∧ Sl w x.A x.n x.c x.l := by
  obtain ⟨ad, u, e, _, hu, hc⟩ := h.rd.at_ hk
  have hk' : k < xs.length := by rw [h.len]; exact hk
  rw [show (rvals xs)[k]? = some xs[k].val by simp [rvals, hk']] at hu
  exact ⟨ad, xs[k], e, List.getElem?_eq_getElem hk', by rw [hc, ← Option.some.inj hu], h.sl _ (List.getElem_mem hk')⟩
end

set_option maxRecDepth 100000 in
theorem wrong_any (w : World) (x : Rb) (h : Sl w x.A x.n x.c x.l) : Calls Tryd.prog 40 #[.slice x.A x.n x.c] w fun e w' => e = .returned (.bool (!(ofP x.l).isSome)) ∧ Below w.heap.size w w' := by
  have HR := Lib.hid (right_sl w x.A x.n x.c x.l h)
  clear h
  go_enter Tryd.func40, Tryd.ntmps40
  go_wp2_with fail
  refine HR.out.mono ?_
  rintro e w1 ⟨rfl, hb⟩
  have HB := Lib.hid hb
  clear hb
  obtain ⟨b, hb⟩ : ∃ b, b = (ofP x.l).isSome := ⟨_, rfl⟩
  rw [← hb]
  have HBB := Lib.hid hb
  clear hb
  cases b with
  | true =>
    go_wp2_with fail
    go_ret
    exact ⟨by rw [← HBB.out]; rfl, HB.out⟩
  | false =>
    go_wp2_with fail
    go_ret
    exact ⟨by rw [← HBB.out]; rfl, HB.out⟩

/-- a row that is no page -/
def BadR (xs : List Rb) : Prop := ∃ x ∈ xs, ofP x.l = none
def IxRet (xs : List Rb) (w : World) (e : Ending) (w' : World) : Prop := ∃ r : Int, e = .returned (.int .i64 r) ∧ -1 ≤ r ∧ (0 ≤ r ↔ BadR xs) ∧ Below w.heap.size w w'
set_option maxRecDepth 100000 in
set_option maxHeartbeats 1600000 in
theorem indexPages_any (w : World) (A : Option Addr) (n c : Nat) (xs : List Rb) (h : RIn w A n c xs) (hn : n ≤ 1000000) :
    Calls Tryd.prog 71 #[.slice A n c, .func (.func 40) #[] #[]] w (IxRet xs w) := by
  have hl := h.len
  have H := Lib.hid h
  have HLN := Lib.hid hl
  clear h hl
  go_enter Tryd.func71, Tryd.ntmps71
  go_wp2_with fail
  go_loopw [8] (fun i wr => ∃ k : Nat, k ≤ n ∧ i = .int .i64 k ∧ (∀ j, j < k → ∀ x, xs[j]? = some x → ofP x.l ≠ none) ∧ Below w.heap.size w wr) (fun i _ => n - (intOf i).toNat)
  case atStart => exact ⟨0, by omega, rfl, fun j h => by omega, Below.refl _ _⟩
  case round =>
    obtain ⟨k, hk, rfl, hz, hb⟩ := hrel
    have hk0 : (0 : Int) ≤ (k : Int) := Int.natCast_nonneg _
    have HZ := Lib.hid (And.intro hz hb)
    clear hz hb
    by_cases hlt : k < n
    · have hlt1 : (k : Int) < (n : Int) := by omega
      obtain ⟨ad, x, rfl, hx, hc, hsl⟩ := (H.out.below HZ.out.2).at_ hlt
      have HX := Lib.hid (And.intro hx hsl)
      clear hx hsl
      unfold Rb.val at hc
      have HW := Lib.hid (wrong_any wr x HX.out.2)
      cases ho : ofP x.l with
      | none =>
        rw [ho] at HW
        have HF := Lib.hid (show BadR xs from ⟨x, List.mem_of_getElem? HX.out.1, ho⟩)
        clear ho
        simp only [Option.isSome_none, Bool.not_false] at HW
        go_wp2_with fail
        refine HW.out.mono ?_
        rintro e w1 ⟨rfl, hb1⟩
        have HB := Lib.hid (below_le HZ.out.2 hb1)
        clear hb1
        go_wp2_with fail
        go_ret
        exact ⟨k, rfl, by omega, ⟨fun _ => HF.out, fun _ => hk0⟩, HB.out⟩
      | some s =>
        rw [ho] at HW
        have HF := Lib.hid (show ∀ j, j < k + 1 → ∀ y, xs[j]? = some y → ofP y.l ≠ none from fun j hj y hy => by
          rcases Nat.lt_or_ge j k with h1 | h1
          · exact HZ.out.1 j h1 y hy
          · obtain rfl : j = k := by omega
            rw [HX.out.1] at hy
            cases hy
            rw [ho]; simp)
        clear ho
        simp only [Option.isSome_some, Bool.not_true] at HW
        go_wp2_with fail
        refine HW.out.mono ?_
        rintro e w1 ⟨rfl, hb1⟩
        have HB := Lib.hid (below_le HZ.out.2 hb1)
        clear hb1
        go_wp2_with fail
        go_roundw
        case rel => exact ⟨k + 1, by omega, by go_num, HF.out, HB.out⟩
        case measure => simp [intOf]; omega
    · have hlt1 : ¬ ((k : Int) < (n : Int)) := by omega
      have HF := Lib.hid (show ¬ BadR xs from fun ⟨x, hx, h⟩ => by
        obtain ⟨j, hj⟩ := List.mem_iff_getElem?.1 hx
        have h2 : j < xs.length := (List.getElem?_eq_some_iff.1 hj).1
        exact HZ.out.1 j (by rw [HLN.out] at h2; omega) x hj h)
      go_wp2_with fail
      go_ret
      exact ⟨-1, rfl, by omega, ⟨fun h => absurd h (by omega), fun h => absurd h HF.out⟩, HZ.out.2⟩

set_option maxRecDepth 100000 in
set_option maxHeartbeats 800000 in
theorem containsPages_any (w : World) (A : Option Addr) (n c : Nat) (xs : List Rb) (h : RIn w A n c xs) (hn : n ≤ 1000000) :
    Calls Tryd.prog 42 #[.slice A n c, .func (.func 40) #[] #[]] w fun e w' => ∃ b : Bool, e = .returned (.bool b) ∧ (b = true ↔ BadR xs) ∧ Below w.heap.size w w' := by
  have HI := Lib.hid (indexPages_any w A n c xs h hn)
  clear h
  go_enter Tryd.func42, Tryd.ntmps42
  go_wp2_with fail
  refine HI.out.mono ?_
  rintro e w1 ⟨r, rfl, h1, h2, h3⟩
  have H1 := Lib.hid (And.intro h2 h3)
  clear h2 h3
  go_wp2_with fail
  go_ret
  exact ⟨decide (0 ≤ r), rfl, decide_eq_true_iff.trans H1.out.1, H1.out.2⟩

/-- pages that are a heap's -/
noncomputable def ldP (ls : List (List Int)) : Option Pgs := if (∀ l ∈ ls, (ofP l).isSome = true) then some (ls.map fun l => (ofP l).getD []) else none
noncomputable def loadH (ls : List (List Int)) : Option Pgs := match ldP ls with
  | none => none
  | some ps => if 256 < ps.length then none else if (trimH ps).length < ps.length then none else some ps
def LdRet (B : Nat) (r : Option Pgs) (w : World) (e : Ending) (w' : World) : Prop :=
  (r = none ∧ e = .returned (.tuple #[.pointer none, .int .i64 42]) ∧ Below w.heap.size w w') ∨
  (∃ ps hb, ∃ D : Nat → Prop, r = some ps ∧ e = .returned (.tuple #[.pointer (some ⟨hb, 0, none⟩), .int .i64 0]) ∧ HpV B D w' hb ps ∧ Below w.heap.size w w' ∧ ∀ k, D k → w.heap.size ≤ k)
theorem ldP_bad {xs : List Rb} (h : BadR xs) : ldP (rlists xs) = none := by
  obtain ⟨x, hx, h0⟩ := h
  unfold ldP
  rw [if_neg]
  intro hh
  have := hh x.l (List.mem_map_of_mem hx)
  rw [h0] at this
  cases this
theorem ldP_good {xs : List Rb} (h : ¬ BadR xs) : ldP (rlists xs) = some ((rlists xs).map fun l => (ofP l).getD []) := by
  unfold ldP
  rw [if_pos]
  intro l hl
  obtain ⟨x, hx, rfl⟩ := List.mem_map.1 hl
  cases ho : ofP x.l with
  | some s => rfl
  | none => exact absurd ⟨x, hx, ho⟩ h
/-- rows that are pages, as pages -/
noncomputable def asPg (x : Rb) : Pv := ⟨x.A, x.c, (ofP x.l).getD []⟩
theorem asPg_in {w : World} {A : Option Addr} {n c : Nat} {xs : List Rb} (h : RIn w A n c xs) (hg : ¬ BadR xs) : PIn w A n c (xs.map asPg) ∧ pslots (xs.map asPg) = (rlists xs).map fun l => (ofP l).getD [] := by
  have hone : ∀ x ∈ xs, x.n = 256 ∧ x.l = imgP (asPg x).s ∧ GoodP (asPg x).s := fun x hx => by
    cases ho : ofP x.l with
    | none => exact absurd ⟨x, hx, ho⟩ hg
    | some s =>
      have hp := ofP_some ho
      have h1 : (asPg x).s = s := by simp [asPg, ho]
      have h2 := (h.sl x hx).len
      rw [hp.len] at h2
      rw [h1]
      exact ⟨h2.symm, hp.img, ⟨hp.fit, hp.trim⟩⟩
  refine ⟨⟨?_, fun y hy => ?_⟩, ?_⟩
  · have : pvals (xs.map asPg) = rvals xs := by
      simp only [pvals, rvals, List.map_map]
      refine List.map_congr_left fun x hx => ?_
      obtain ⟨h1, _, _⟩ := hone x hx
      simp [Pv.val, Rb.val, asPg, h1]
    rw [this]; exact h.rd
  · obtain ⟨x, hx, rfl⟩ := List.mem_map.1 hy
    obtain ⟨h1, h2, h3⟩ := hone x hx
    have h4 := h.sl x hx
    rw [h1, h2] at h4
    exact ⟨h4, h3⟩
  · simp [pslots, rlists, asPg, Function.comp_def]

set_option maxRecDepth 100000 in
set_option maxHeartbeats 3200000 in
theorem load_any (w : World) (B : Nat) (hB : B ≤ w.heap.size) (A : Option Addr) (n c : Nat) (xs : List Rb) (h : RIn w A n c xs) (hn : n ≤ 100000) :
    Calls Tryd.prog 21 #[.slice A n c] w (LdRet B (loadH (rlists xs)) w) := by
  have hl := h.len
  have hll : (rlists xs).length = n := by simp [rlists, hl]
  have hn0 : (0 : Int) ≤ (n : Int) := Int.natCast_nonneg _
  by_cases hbig : 256 < n
  · have hbi : (256 : Int) < (n : Int) := by omega
    have HF := Lib.hid (show loadH (rlists xs) = none by
      unfold loadH
      cases hd : ldP (rlists xs) with
      | none => rfl
      | some ps =>
        have : ps.length = n := by
          unfold ldP at hd
          split at hd
          · cases hd; simp [hll]
          · cases hd
        simp only
        rw [if_pos (by omega)])
    clear h hl hll
    go_enter Tryd.func21, Tryd.ntmps21
    go_wp2_with fail
    go_ret2
    exact .inl ⟨HF.out, rfl, Below.refl _ _⟩
  · have hbi : ¬ ((256 : Int) < (n : Int)) := by omega
    have HC := Lib.hid (containsPages_any w A n c xs h (by omega))
    have H := Lib.hid (And.intro h hll)
    clear h hl hll
    go_enter Tryd.func21, Tryd.ntmps21
    go_wp2_with fail
    refine HC.out.mono ?_
    rintro e w1 ⟨b, rfl, hbad, hb1⟩
    cases b with
    | true =>
      have HF := Lib.hid (show loadH (rlists xs) = none by unfold loadH; rw [ldP_bad (hbad.1 rfl)])
      have HB := Lib.hid hb1
      clear hbad hb1
      go_wp2_with fail
      go_ret2
      exact .inl ⟨HF.out, rfl, HB.out⟩
    | false =>
      have hgood : ¬ BadR xs := fun hh => by have := hbad.2 hh; cases this
      obtain ⟨hpin, hps⟩ := asPg_in (H.out.1.below hb1) hgood
      have hld := ldP_good hgood
      rw [← hps] at hld
      obtain ⟨ys, hys⟩ : ∃ ys, ys = xs.map asPg := ⟨_, rfl⟩
      rw [← hys] at hpin hps hld
      have hyl := hpin.len
      have HFI := Lib.hid (filled_any w1 A n c ys hpin (by omega))
      have HLD := Lib.hid (And.intro hld (And.intro hpin (And.intro hyl hb1)))
      obtain ⟨m, hm⟩ : ∃ m, m = (trimH (pslots ys)).length := ⟨_, rfl⟩
      rw [← hm] at HFI
      have HM := Lib.hid hm
      clear hbad hb1 hgood hpin hps hld hys hyl hm
      go_wp2_with fail
      refine HFI.out.mono ?_
      rintro e w2 ⟨rfl, hb2⟩
      have hm0 : (0 : Int) ≤ (m : Int) := Int.natCast_nonneg _
      by_cases hmn : m < n
      · have hmi : (m : Int) < (n : Int) := by omega
        have HF := Lib.hid (show loadH (rlists xs) = none by
          unfold loadH
          rw [HLD.out.1]
          simp only
          rw [if_neg (by rw [pslots_len, HLD.out.2.2.1]; omega), if_pos (by rw [← HM.out, pslots_len, HLD.out.2.2.1]; exact hmn)])
        have HB := Lib.hid (below_le HLD.out.2.2.2 hb2)
        clear hb2
        go_wp2_with fail
        go_ret2
        exact .inl ⟨HF.out, rfl, HB.out⟩
      · have hmi : ¬ ((m : Int) < (n : Int)) := by omega
        have HF := Lib.hid (show loadH (rlists xs) = some (pslots ys) by
          unfold loadH
          rw [HLD.out.1]
          simp only
          rw [if_neg (by rw [pslots_len, HLD.out.2.2.1]; omega), if_neg (by rw [← HM.out, pslots_len, HLD.out.2.2.1]; exact hmn)])
        have HB := Lib.hid (below_le HLD.out.2.2.2 hb2)
        have HCP := Lib.hid (copies_any w2 A n c ys (HLD.out.2.1.below hb2) (by omega))
        clear hb2
        go_wp2_with fail
        refine HCP.out.mono ?_
        rintro e w3 ⟨v3, zs, rfl, h1, h2, h3, h4⟩
        obtain ⟨A3, c3, rfl, _, _⟩ := own_shape h1
        have s1 := HB.out.size
        have s2 := h4.size
        have hx : HpX B (fun k => w.heap.size ≤ k ∧ k < w3.heap.size + 1) (w3.alloc (.cells #[.slice A3 zs.length c3] 67)) w3.heap.size (.slice A3 zs.length c3) zs :=
          ⟨Blk.new w3 _ _, (own_base h1 (by omega)).alloc _, fun y hy => ((h3 y hy).keep (fun j hj => Below.heap_alloc _ _ _ hj.2)).mono (fun j hj => ⟨by omega, by omega⟩), ⟨by omega, by omega⟩, fun j hj => ⟨by have := (h1.lt j hj).1; omega, by have := (h1.lt j hj).2; omega⟩, fun j hj => ⟨by omega, by simp; omega⟩⟩
        have HE := Lib.hid (show LdRet B (loadH (rlists xs)) w (.returned (.tuple #[.pointer (some ⟨w3.heap.size, 0, none⟩), .int .i64 0])) (w3.alloc (.cells #[.slice A3 zs.length c3] 67)) from
          .inr ⟨_, _, _, HF.out, rfl, ⟨_, _, hx, h2⟩, (below_le HB.out h4).alloc (by omega) _, fun k hk => hk.1⟩)
        clear h1 h2 h3 h4 hx
        go_wp2_with fail
        go_ret2
        exact HE.out
end Go.Proofs.YtdnegfjddpdmhaaDoor
