/-
  The document's own page: with.
-/
import Derived.Test.YtdnegfjddpdmhaaDoorMP
import Derived.Test.YtdnegfjddpdmhaaDoorLow
import Derived.Laws.OwnMore
namespace Go.Proofs.YtdnegfjddpdmhaaDoor
open Go.RowKit Go.Lib

def frS : Sv := ⟨none, 0, 0, none⟩
theorem frS_ok (w : World) : frS.Ok w := ⟨rfl, rfl, rfl⟩
theorem frS_val : frS.val = .slice none 0 0 := rfl

/-- slots of the call's own are handed back -/
def RwRet (t : List Slot) (w : World) (e : Ending) (w' : World) : Prop :=
  ∃ A' c' zs, e = .returned (.agg #[.slice A' zs.length c']) ∧ PgR w' A' zs.length c' zs ∧ slotsOf zs = t ∧ Below w.heap.size w w'

def padS (xs : List Sv) (j : Nat) : List Sv := xs ++ List.replicate j frS
theorem padS_len (xs : List Sv) (j : Nat) : (padS xs j).length = xs.length + j := by simp [padS]
theorem padS_succ (xs : List Sv) (j : Nat) : vals (padS xs (j + 1)) = vals (padS xs j) ++ [.slice none 0 0] := by
  simp [padS, vals, List.replicate_succ', frS_val]
theorem padS_slots (xs : List Sv) (j k : Nat) (h : j = k + 1 - xs.length) : slotsOf (padS xs j) = padP (slotsOf xs) (k + 1) := by
  subst h
  simp [padS, slotsOf, padP, frS]
theorem padS_ok {w : World} {xs : List Sv} {j : Nat} (h : ∀ x ∈ xs, x.Ok w) : ∀ x ∈ padS xs j, x.Ok w := by
  intro x hx
  rcases List.mem_append.1 hx with hx | hx
  · exact h x hx
  · rw [List.eq_of_mem_replicate hx]; exact frS_ok w

/-- how far the loop is: the row in cell b grows by free slots -/
def WtRel (w w3 : World) (b1 b : Nat) (xs : List Sv) (k : Nat) (wr : World) : Prop :=
  ∃ (j : Nat) (A' : Option Addr) (c' : Nat), j ≤ k + 1 - xs.length ∧ Blk wr b1 70 #[.slice none 0 0] ∧ Blk wr b 70 #[.slice A' (xs.length + j) c'] ∧ wr.ownsRow w3.heap.size 33 1 (.slice A' (xs.length + j) c') (xs.length + j) (vals (padS xs j)) ∧ Below w.heap.size w wr ∧ w3.heap.size ≤ wr.heap.size

theorem results_cell1 {fn : Func} {p : Tmp} {ty : TypeId} (h : fn.results = #[.cell p ty]) (tmps : Array Value) (P : Program) (w : World) :
    (results fn tmps).run P w = ((asAddr (tmps.getD p undef)).run P w).andThen fun a w₁ => (loadVar ty a).run P w₁ := by
  simp only [results, h]
  simp [Sem.run_bind, Result.andThen]
theorem vals_set (L : List Sv) (k : Nat) (y : Sv) : (vals L).set k y.val = vals (L.set k y) := by simp [vals, List.map_set]
theorem slots_set (L : List Sv) (k : Nat) (y : Sv) : slotsOf (L.set k y) = (slotsOf L).set k y.o := by simp [slotsOf, List.map_set]
theorem trim_take (t : List Slot) : t.take (trimP t).length = trimP t := by
  obtain ⟨j, hj⟩ := trim_split t
  conv => lhs; rw [hj]
  rw [trim_eq (trim_trim t), List.take_left']
  rfl
theorem own_not {w : World} {base e size n b : Nat} {v : Value} {xs : List Value} (h : w.ownsRow base e size v n xs) (hb : b < base) : v.ownBlock ≠ some b := by
  intro hv
  have := h.lt b hv
  omega

set_option maxRecDepth 100000 in
set_option maxHeartbeats 6400000 in
theorem refWith_any (w : World) (A : Option Addr) (n c : Nat) (xs : List Sv) (h : PgR w A n c xs) (hn : n ≤ 300) (k : Nat) (hk : k ≤ 300) (y : Sv) (hy : y.Ok w) :
    Calls Tryd.prog 82 #[.agg #[.slice A n c], .int .i64 k, y.val] w (RwRet (trimP (setP (slotsOf xs) k y.o)) w) := by
  obtain ⟨i0, hi, hz0, hz1, hz2⟩ := info_parts Tryd.dkinfo22
  have HL := Lib.hid h.len
  have HY := Lib.hid hy
  obtain ⟨yA, yn, yc, yo⟩ := y
  have HYV := Lib.hid (show (Value.slice yA yn yc) = (Sv.mk yA yn yc yo).val from rfl)
  rw [← HYV.out]
  clear hy
  have H := Lib.hid h
  obtain ⟨w3, hw3⟩ : ∃ w3, w3 = ((w.alloc (.cells #[.slice A n c] 70)).alloc (.cells #[.slice none 0 0] 70)).alloc (.cells #[.slice none 0 0] 70) := ⟨_, rfl⟩
  have hb3 : Below w.heap.size w w3 := by rw [hw3]; exact (((Below.refl _ _).alloc (Nat.le_refl _) _).alloc (by simp) _).alloc (by simp; omega) _
  have hs3 : w3.heap.size = w.heap.size + 3 := by rw [hw3]; simp
  have hk3 : Blk w3 (w.heap.size + 1 + 1) 70 #[.slice none 0 0] := by
    have h1 := Blk.new ((w.alloc (.cells #[.slice A n c] 70)).alloc (.cells #[.slice none 0 0] 70)) 70 #[.slice none 0 0]
    rw [hw3]
    have e : ((w.alloc (.cells #[.slice A n c] 70)).alloc (.cells #[.slice none 0 0] 70)).heap.size = w.heap.size + 1 + 1 := by simp
    rw [e] at h1
    exact h1
  have hk2 : Blk w3 (w.heap.size + 1) 70 #[.slice none 0 0] := by
    have h1 := (Blk.new (w.alloc (.cells #[.slice A n c] 70)) 70 #[.slice none 0 0]).alloc (.cells #[.slice none 0 0] 70)
    rw [hw3]
    have e : (w.alloc (.cells #[.slice A n c] 70)).heap.size = w.heap.size + 1 := by simp
    rw [e] at h1
    exact h1
  have HW3 := Lib.hid hw3
  have H3 := Lib.hid (And.intro hb3 (And.intro hs3 (And.intro hk3 hk2)))
  have hrd := (h.below hb3).rd
  clear h hw3 hk3 hk2 hs3 hb3
  go_enter Tryd.func82, Tryd.ntmps82
  go_wp2_with (at_builtin; rw [← HW3.out]; refine wpList_append_rd _ rfl (.tmp 10) (.tmp 12) 38 rfl w3.heap.size 33 i0 (.slice none 0 0) 24 Tryd.underlying38 hi hz0 hz1 hz2 rfl _ 0 [] rfl (World.ownsRow_nil _ _ _ _) w3.heap.size A n c _ rfl hrd (vals_one _) ?c3 ?c4 ?c5 ?_)
  case c3 => simp [maxLen]; omega
  case c4 => simp; omega
  case c5 => exact Nat.le_refl _
  intro v4 w4 hown4 hgr4
  rw [← HL.out] at hown4
  obtain ⟨A4, c4, rfl, hc4, hct4⟩ := own_shape hown4
  have hb34 : Below w3.heap.size w3 w4 := (Below.refl _ _).grown hgr4 (Nat.le_refl _) (fun k hk => by cases hk)
  have hk4 := H3.out.2.2.1.below hb34 (by have := H3.out.2.1; omega)
  have hk42 := H3.out.2.2.2.below hb34 (by have := H3.out.2.1; omega)
  have hcell4 : w4.cell? ⟨w.heap.size + 1 + 1, 0, none⟩ = some (.slice none 0 0) := by rw [hk4.cell]; rfl
  have hfz4 := hk4.frozen 0
  have HO4 := Lib.hid (And.intro hown4 (And.intro hb34 (And.intro hk4 hk42)))
  have HR5 := Lib.hid (show WtRel w w3 (w.heap.size + 1) (w.heap.size + 1 + 1) xs k (w4.setCell ⟨w.heap.size + 1 + 1, 0, none⟩ (.slice A4 xs.length c4)) from
    ⟨0, A4, c4, by omega, hk42.far (p := ⟨w.heap.size + 1 + 1, 0, none⟩) (by show w.heap.size + 1 ≠ w.heap.size + 1 + 1; omega) _, by have h1 := hk4.put 0 (.slice A4 xs.length c4); exact h1, own_set (by simpa [padS] using hown4) (own_not hown4 (by show w.heap.size + 1 + 1 < w3.heap.size; have := H3.out.2.1; omega)) _, (H3.out.1.trans (hb34.mono H3.out.1.size)).setCell (p := ⟨w.heap.size + 1 + 1, 0, none⟩) (by show w.heap.size ≤ w.heap.size + 1 + 1; omega) _, by have := hb34.size; simp [World.setCell]; omega⟩)
  clear hown4 hgr4 hb34 hk4 hk42 hrd
  go_wp2_with fail
  clear hcell4 hfz4
  go_loopw [] (fun wr => WtRel w w3 (w.heap.size + 1) (w.heap.size + 1 + 1) xs k wr) (fun wr => match wr.cell? ⟨w.heap.size + 1 + 1, 0, none⟩ with | some (.slice _ m _) => k + 1 - m | _ => 0)
  case atStart => exact HR5.out
  case round =>
    obtain ⟨j, A', c', hj, hblk1, hblk, hown, hbel, hsz⟩ := hrel
    have HB1 := Lib.hid hblk1
    clear hblk1
    have hcl : wr.cell? ⟨w.heap.size + 1 + 1, 0, none⟩ = some (.slice A' (xs.length + j) c') := by rw [hblk.cell]; rfl
    have hfz := hblk.frozen 0
    have hn' : xs.length ≤ 300 := by rw [HL.out]; exact hn
    obtain ⟨m, hm⟩ : ∃ m, m = xs.length + j := ⟨_, rfl⟩
    rw [← hm] at hcl hblk hown
    have HM := Lib.hid hm
    have HJ := Lib.hid hj
    have HO := Lib.hid (And.intro hblk (And.intro hown hbel))
    have HSZ := Lib.hid hsz
    have hm0 : (0 : Int) ≤ (m : Int) := Int.natCast_nonneg _
    have hm300 : m ≤ 601 := by omega
    have hk0 : (0 : Int) ≤ (k : Int) := Int.natCast_nonneg _
    clear hblk hbel hj hm hsz
    by_cases hlt : m ≤ k
    · go_wp2_with (at_builtin; refine wpList_append_own _ rfl (.tmp 21) (.tmp 22) 38 rfl w3.heap.size 33 i0 (.slice none 0 0) 1 24 Tryd.underlying38 hi hz0 hz1 hz2 rfl (by decide) _ _ _ rfl (hown.alloc _) ⟨wr.heap.size, 0, none⟩ 1 1 [.slice none 0 0] rfl rfl (cell_one_new _ _ _) ?c2 ?c3 ?c4 ?c5 ?_)
      case c2 => intro u hu; simp at hu; subst hu; rfl
      case c3 => first | (unfold maxLen; omega) | (simp [maxLen]; omega)
      case c4 => first | omega | (simp; omega)
      case c5 => have h := HSZ.out; first | omega | (simp; omega)
      intro v' w5 hown5 hgr5 _
      obtain ⟨A5, c5, rfl, _, _⟩ := own_shape hown5
      have hba : Below wr.heap.size wr (wr.alloc (.cells #[.slice none 0 0] 33)) := (Below.refl _ _).alloc (Nat.le_refl _) _
      have hb5 : Below w3.heap.size wr w5 := ((Below.refl _ _).alloc HSZ.out _).trans (below_own (hown.alloc _) hgr5 (by have h := HSZ.out; first | omega | (simp; omega)))
      have hbk5 := HO.out.1.below hb5 (by have := H3.out.2.1; omega)
      have hcl5 : w5.cell? ⟨w.heap.size + 1 + 1, 0, none⟩ = some (.slice A' m c') := by rw [hbk5.cell]; rfl
      have hfz5 := hbk5.frozen 0
      have HF := Lib.hid (show WtRel w w3 (w.heap.size + 1) (w.heap.size + 1 + 1) xs k (w5.setCell ⟨w.heap.size + 1 + 1, 0, none⟩ (.slice A5 (m + 1) c5)) from
        ⟨j + 1, A5, c5, by have h1 := HM.out; have h2 := HJ.out; omega, (HB1.out.below hb5 (by have := H3.out.2.1; omega)).far (p := ⟨w.heap.size + 1 + 1, 0, none⟩) (by show w.heap.size + 1 ≠ w.heap.size + 1 + 1; omega) _, by rw [show xs.length + (j + 1) = m + 1 by have h1 := HM.out; omega]; have h1 := hbk5.put 0 (.slice A5 (m + 1) c5); exact h1,
          by rw [show xs.length + (j + 1) = m + 1 by have h1 := HM.out; omega, padS_succ]; exact own_set hown5 (own_not hown5 (by show w.heap.size + 1 + 1 < w3.heap.size; have := H3.out.2.1; omega)) _,
          (HO.out.2.2.trans (hb5.mono (by have := H3.out.2.1; omega))).setCell (p := ⟨w.heap.size + 1 + 1, 0, none⟩) (by show w.heap.size ≤ w.heap.size + 1 + 1; omega) _, by have h1 := hb5.size; have h2 := HSZ.out; simp [World.setCell]; omega⟩)
      have HMS := Lib.hid (show (w5.setCell ⟨w.heap.size + 1 + 1, 0, none⟩ (.slice A5 (m + 1) c5)).cell? ⟨w.heap.size + 1 + 1, 0, none⟩ = some (.slice A5 (m + 1) c5) from by
        rw [(hbk5.put 0 (.slice A5 (m + 1) c5)).cell]; rfl)
      have HMR := Lib.hid hcl
      clear hown5 hgr5 hb5 hbk5 hown hba
      go_wp2
      go_roundw
      case rel => exact HF.out
      case measure => first | (rw [HMS.out, HMR.out]; show k + 1 - (m + 1) < k + 1 - m; omega) | (simp [HMS.out]; omega)
    · obtain ⟨q, hq⟩ : ∃ q, m = q + 1 := ⟨m - 1, by omega⟩
      have hkm : k < m := by omega
      obtain ⟨g, cap, hv, hgb, hlt2⟩ := hown.form (by omega)
      injection hv with e1 e2 e3
      subst e1
      subst e3
      have hsl := hown.cellAt k (by omega)
      have hfs := hown.frozenAt k
      have hkl : k < (vals (padS xs j)).length := by rw [vals_len, padS_len]; have := HM.out; omega
      have hst := hown.stored k (.slice yA yn yc)
      rw [HYV.out, vals_set, ← HYV.out] at hst
      obtain ⟨ys, hys⟩ : ∃ ys, ys = (padS xs j).set k ⟨yA, yn, yc, yo⟩ := ⟨_, rfl⟩
      rw [← hys] at hst
      have hgne : g ≠ w.heap.size + 1 + 1 := by have := H3.out.2.1; omega
      have hb5 : Below w3.heap.size wr (wr.setCell ⟨g, k, none⟩ (.slice yA yn yc)) := (Below.refl _ _).setCell (p := ⟨g, k, none⟩) hgb _
      have hcl5 : (wr.setCell ⟨g, k, none⟩ (.slice yA yn yc)).cell? ⟨w.heap.size + 1 + 1, 0, none⟩ = some (.slice (some ⟨g, 0, none⟩) m c') := (hb5.cell (p := ⟨w.heap.size + 1 + 1, 0, none⟩) (by show w.heap.size + 1 + 1 < w3.heap.size; have := H3.out.2.1; omega)).trans hcl
      have HSLOT := Lib.hid (show slotsOf ys = setP (slotsOf xs) k yo by
        rw [hys, slots_set, padS_slots xs j k (by have h1 := HM.out; have h2 := HJ.out; omega)]
        rfl)
      have HYL := Lib.hid (show ys.length = m by rw [hys, List.length_set, padS_len]; exact HM.out.symm)
      have HYM := Lib.hid (show ∀ x ∈ ys, x ∈ padS xs j ∨ x = ⟨yA, yn, yc, yo⟩ from fun x hx => by rw [hys] at hx; exact List.mem_or_eq_of_mem_set hx)
      have hbw : Below w.heap.size w (wr.setCell ⟨g, k, none⟩ (.slice yA yn yc)) := HO.out.2.2.trans (hb5.mono (by have := H3.out.2.1; omega))
      have hok : ∀ x ∈ ys, x.Ok (wr.setCell ⟨g, k, none⟩ (.slice yA yn yc)) := fun x hx => by
        rcases HYM.out x hx with h | rfl
        · exact padS_ok (fun x hx => (H.out.ok x hx).below hbw) x h
        · exact HY.out.below hbw
      have hcap := own_shape hst.1
      have hcc : m ≤ c' ∧ c' ≤ maxLen := by
        obtain ⟨_, _, e9, h1, h2⟩ := hcap
        injection e9 with _ _ e10
        rw [e10]; exact ⟨h1, h2⟩
      have hpg : PgR (wr.setCell ⟨g, k, none⟩ (.slice yA yn yc)) (some ⟨g, 0, none⟩) m c' ys := ⟨Rd.of_own hst.1, hok, hcc.1, hcc.2⟩
      have hcl1 : Blk (wr.setCell ⟨g, k, none⟩ (.slice yA yn yc)) (w.heap.size + 1) 70 #[.slice none 0 0] := HB1.out.below hb5 (by have := H3.out.2.1; omega)
      have hcl2 : Blk (wr.setCell ⟨g, k, none⟩ (.slice yA yn yc)) (w.heap.size + 1 + 1) 70 #[.slice (some ⟨g, 0, none⟩) m c'] := HO.out.1.below hb5 (by have := H3.out.2.1; omega)
      obtain ⟨wq, hwq⟩ : ∃ wq, wq = wr.setCell ⟨g, k, none⟩ (.slice yA yn yc) := ⟨_, rfl⟩
      have HWQ := Lib.hid hwq
      have hown6 := hst.1
      rw [← hwq] at hbw hcl5 hpg hcl1 hcl2 hown6
      have HOWN := Lib.hid hown6
      clear hown6
      have HPQ := Lib.hid (And.intro hpg (And.intro hbw (And.intro hcl1 hcl2)))
      obtain ⟨r, hr⟩ : ∃ r, r = (trimP (slotsOf ys)).length := ⟨_, rfl⟩
      have HR := Lib.hid hr
      have hrm : r ≤ m := by
        have h1 := List.length_take_le' r (slotsOf ys)
        have h2 : (slotsOf ys).length = m := by rw [slotsOf_len]; exact HYL.out
        obtain ⟨z, hz⟩ := trim_split (slotsOf ys)
        have h3 := congrArg List.length hz
        rw [List.length_append] at h3
        omega
      have ht := trim_any wq (some ⟨g, 0, none⟩) m c' ys hpg
      rw [← hr] at ht
      have HTR := Lib.hid ht
      have hc2 : wq.cell? ⟨w.heap.size + 1 + 1, 0, none⟩ = some (.slice (some ⟨g, 0, none⟩) m c') := hcl5
      have hf2 := hcl2.frozen 0
      clear hst hok hpg hbw hcl1 hcl2 hb5 hwq hr ht hys hcap
      have hmlt : (k : Int) < (m : Int) := by omega
      have hmle : ¬ ((m : Int) ≤ (k : Int)) := by omega
      clear hcl5 hq
      go_wp2_with fail
      rw [← HWQ.out]
      go_wp2_with fail
      refine HTR.out.mono ?_
      rintro e w' ⟨rfl, rfl⟩
      have h6a := HPQ.out.2.2.1.far (p := ⟨w.heap.size + 1 + 1, 0, none⟩) (by show w.heap.size + 1 ≠ w.heap.size + 1 + 1; omega) (.slice (some ⟨g, 0, none⟩) r c')
      have h6c : (w'.setCell ⟨w.heap.size + 1 + 1, 0, none⟩ (.slice (some ⟨g, 0, none⟩) r c')).cell? ⟨w.heap.size + 1, 0, none⟩ = some (.slice none 0 0) := by rw [h6a.cell]; rfl
      have h6f := h6a.frozen 0
      have hbf : Below w.heap.size w ((w'.setCell ⟨w.heap.size + 1 + 1, 0, none⟩ (.slice (some ⟨g, 0, none⟩) r c')).setCell ⟨w.heap.size + 1, 0, none⟩ (.slice (some ⟨g, 0, none⟩) r c')) :=
        (HPQ.out.2.1.setCell (p := ⟨w.heap.size + 1 + 1, 0, none⟩) (by show w.heap.size ≤ w.heap.size + 1 + 1; omega) _).setCell (p := ⟨w.heap.size + 1, 0, none⟩) (by show w.heap.size ≤ w.heap.size + 1; omega) _
      have hownf := own_set (p := ⟨w.heap.size + 1, 0, none⟩) (own_set (p := ⟨w.heap.size + 1 + 1, 0, none⟩) HOWN.out (own_not HOWN.out (by show w.heap.size + 1 + 1 < w3.heap.size; have := H3.out.2.1; omega)) (.slice (some ⟨g, 0, none⟩) r c'))
        (own_not HOWN.out (by show w.heap.size + 1 < w3.heap.size; have := H3.out.2.1; omega)) (.slice (some ⟨g, 0, none⟩) r c')
      have h7 := (h6a.put 0 (.slice (some ⟨g, 0, none⟩) r c')).cell 0
      have HF := Lib.hid (show RwRet (trimP (setP (slotsOf xs) k yo)) w (.returned (.agg #[.slice (some ⟨g, 0, none⟩) r c'])) ((w'.setCell ⟨w.heap.size + 1 + 1, 0, none⟩ (.slice (some ⟨g, 0, none⟩) r c')).setCell ⟨w.heap.size + 1, 0, none⟩ (.slice (some ⟨g, 0, none⟩) r c')) from by
        have hl : (ys.take r).length = r := by rw [List.length_take, HYL.out]; omega
        refine ⟨some ⟨g, 0, none⟩, c', ys.take r, by rw [hl], ⟨?_, fun x hx => ?_, by rw [hl]; omega, hcc.2⟩, ?_, hbf⟩
        · have h8 := (Rd.of_own hownf).cuth (k := r) hrm
          rw [hl]
          rwa [show (vals ys).take r = vals (ys.take r) by simp [vals, List.map_take]] at h8
        · rcases HYM.out x (List.mem_of_mem_take hx) with h | rfl
          · exact padS_ok (fun x hx => (H.out.ok x hx).below hbf) x h
          · exact HY.out.below hbf
        · rw [← HSLOT.out, show slotsOf (ys.take r) = (slotsOf ys).take r by simp [slotsOf, List.map_take], HR.out]
          exact trim_take _)
      rw [show (#[Value.slice none 0 0].setIfInBounds 0 (.slice (some ⟨g, 0, none⟩) r c'))[0]? = some (.slice (some ⟨g, 0, none⟩) r c') from rfl] at h7
      have H7 := Lib.hid h7
      clear h6a hbf hownf h7
      go_wp2_with fail
      obtain ⟨wf, hwf⟩ : ∃ wf, wf = (w'.setCell ⟨w.heap.size + 1 + 1, 0, none⟩ (.slice (some ⟨g, 0, none⟩) r c')).setCell ⟨w.heap.size + 1, 0, none⟩ (.slice (some ⟨g, 0, none⟩) r c') := ⟨_, rfl⟩
      have h7 := H7.out
      rw [← hwf] at HF h7 ⊢
      clear hwf H7
      refine bodyPost_ret (by rw [results_cell1 rfl]; go_simp; exact rfl) rfl ?_
      exact HF.out
end Go.Proofs.YtdnegfjddpdmhaaDoor
