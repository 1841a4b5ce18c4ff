/-
  What WalSwitch puts together of two images, byte by byte.
-/
import Derived.Test.YtehghjakggdnpaaWSwT
namespace Go.Proofs.Ytehghjakggdnpaa
open Go.RowKit Go.Lib

theorem oS_head {R : List (List Int)} (h : totalM R ≤ 199) : (oS R).last.getD 0 [] = zeros ∧ (oS R).last.getD 1 [] = headB 1 0 1 := by
  have l0 := sects_len 0 R
  have hf4 := fmtS_len 400
  have g0 := lay_ws (L := (fmtS 400).last) (k := 2) (sectsM 0 R) (by omega)
  have e0 : ∀ j, (oS R).last.getD j [] = if 2 ≤ j ∧ j < 2 + (sectsM 0 R).length then (sectsM 0 R).getD (j - 2) [] else (fmtS 400).last.getD j [] := g0
  exact ⟨by rw [e0, if_neg (by omega)]; exact fmt4.1, by rw [e0, if_neg (by omega)]; exact fmt4.2⟩

/-- byte t of the new head is laid over what stands there -/
structure Fam (R N : List (List Int)) (D : List Int) (q : Bool) (f : Nat → List Int) : Prop where
  len : ∀ t, (f t).length = 25600
  dlen : D.length = 25600
  set : ∀ t x, t < 64 → D[t]? = some x → (f t).set t x = f (t + 1)
  far : ∀ t j, 64 ≤ j → (f t)[j]? = D[j]?
  mix : ∀ t, ∃ a X, f t = X.flatten ∧ SwC a X R N ∧ (∀ c ∈ X, c.length = 64) ∧ (headInM X 0 = some (2, 1, ((totalM R : Nat) : Int) + 1) ∨ (q = true ∧ headInM X 0 = none))

theorem sS_sw {R N : List (List Int)} (hR : ∀ r ∈ R, IsBytes r ∧ r.length ≤ 4096) (hN : ∀ r ∈ N, IsBytes r ∧ r.length ≤ 4096) (h1 : totalM R ≤ 199) (h2 : totalM N ≤ 199) :
    SwC (headB 2 1 (((totalM R : Nat) : Int) + 1)) (sS R N).last R N := (sC_sw hR hN h1 h2).set (headB_is (by omega) (by omega) (by omega))
section
variable {R N : List (List Int)} (hR : ∀ r ∈ R, IsBytes r ∧ r.length ≤ 4096) (hN : ∀ r ∈ N, IsBytes r ∧ r.length ≤ 4096) (h1 : totalM R ≤ 199) (h2 : totalM N ≤ 199) (h64 : ∀ b ∈ (sS R N).last, b.length = 64)
include hR hN h1 h2 h64
theorem fam_done : Fam R N (sS R N).last.flatten false (fun _ => (sS R N).last.flatten) := by
  have hl : (sS R N).last.flatten.length = 25600 := by rw [flat_len h64, sS_len]
  have hs := sS_sw hR hN h1 h2
  refine ⟨fun _ => hl, hl, fun t x ht hx => ?_, fun _ _ _ => rfl, fun t => ⟨_, _, rfl, hs, h64, .inl (headInM_two ⟨by omega, by omega⟩ hs.h0)⟩⟩
  obtain ⟨h3, rfl⟩ := List.getElem?_eq_some_iff.1 hx
  exact List.set_getElem_self h3
theorem fam_mix (h64' : ∀ b ∈ (oS R).last, b.length = 64) : ∃ f, Fam R N (sS R N).last.flatten true f ∧ f 0 = (oS R).last.flatten.take 128 ++ (sS R N).last.flatten.drop 128 := by
  have hl : (sS R N).last.flatten.length = 25600 := by rw [flat_len h64, sS_len]
  have hs := sC_sw hR hN h1 h2
  obtain ⟨b0, hb0⟩ : ∃ b0, b0 = headB 2 1 (((totalM R : Nat) : Int) + 1) := ⟨_, rfl⟩
  have hbl : b0.length = 64 := by rw [hb0]; exact headB_len 2 1 _
  have hbb : IsBytes b0 := by rw [hb0]; exact headB_is (by omega) (by omega) (by omega)
  have hoh := oS_head h1
  have hol := oS_len R
  have hlast : (sS R N).last = (sC R N).set 0 b0 := by rw [hb0]; rfl
  obtain ⟨c0, c1, K, hC⟩ : ∃ c0 c1 K, sC R N = c0 :: c1 :: K := by
    match hh : sC R N with
    | [] => have := hs.len; rw [hh] at this; cases this
    | [_] => have := hs.len; rw [hh] at this; cases this
    | c0 :: c1 :: K => exact ⟨c0, c1, K, rfl⟩
  obtain ⟨a0, a1, L, hO⟩ : ∃ a0 a1 L, (oS R).last = a0 :: a1 :: L := by
    match hh : (oS R).last with
    | [] => rw [hh] at hol; cases hol
    | [_] => rw [hh] at hol; cases hol
    | a0 :: a1 :: L => exact ⟨a0, a1, L, rfl⟩
  have hc1 : c1 = headB 1 0 1 := by have := hs.h1; rw [hC] at this; exact this
  have ha0 : a0 = zeros := by have := hoh.1; rw [hO] at this; exact this
  have ha1 : a1 = headB 1 0 1 := by have := hoh.2; rw [hO] at this; exact this
  have hD : (sS R N).last = b0 :: c1 :: K := by rw [hlast, hC]; rfl
  have hc1l : c1.length = 64 := h64 c1 (by rw [hD]; simp)
  have ha0l : a0.length = 64 := h64' a0 (by rw [hO]; simp)
  have ha1l : a1.length = 64 := h64' a1 (by rw [hO]; simp)
  have hz : zeros.length = 64 := by simp [zeros]
  have hzb : IsBytes zeros := fun x hx => by
    simp only [zeros] at hx
    have := List.eq_of_mem_replicate hx
    omega
  have hDf : (sS R N).last.flatten = b0 ++ (c1 :: K).flatten := by rw [hD]; rfl
  have hfl : ∀ t, mixM b0 (c1 :: K).flatten t = ((sC R N).set 0 (tear zeros b0 t)).flatten := fun t => by rw [hC]; rfl
  refine ⟨fun t => mixM b0 (c1 :: K).flatten t, ⟨fun t => ?_, hl, fun t x ht hx => ?_, fun t j hj => ?_, fun t => ?_⟩, ?_⟩
  · rw [mix_len hbl]
    have := congrArg List.length hDf
    rw [List.length_append, hl, hbl] at this
    omega
  · exact mix_set hbl ht (by rw [← hDf]; exact hx)
  · rw [mix_far hbl hj, hDf]
  · have ht : IsBytes (tear zeros b0 t) := by unfold tear; exact (hbb.take t).append (hzb.drop t)
    have hsx := hs.set ht
    refine ⟨_, _, hfl t, hsx, fun c hc => ?_, ?_⟩
    · rw [hC] at hc
      rcases List.mem_cons.1 hc with rfl | hc
      · exact tear_six hbl t
      · exact h64 c (by rw [hD]; exact List.mem_cons_of_mem _ hc)
    · rcases head_torn (C := (sC R N).set 0 (tear zeros b0 t)) (x := ((totalM R : Nat) : Int) + 1) (t := t) ⟨by omega, by omega⟩ (by rw [← hb0]; exact hsx.h0) with h | h
      · exact .inl h
      · exact .inr ⟨rfl, h⟩
  · rw [hO, hD, mix_two ha0l ha1l hbl hc1l, ha0, ha1, ← hc1]
    show mixM b0 (c1 :: K).flatten 0 = zeros ++ (c1 :: K).flatten
    unfold mixM tear
    simp
end

/-- bytes of the call's own that are put together, the image beside them -/
def MxSt (w wr : World) (gm cap gd : Nat) (D L : List Int) : Prop :=
  wr.ownsRow w.heap.size 5 1 (.slice (some ⟨gm, 0, none⟩) 25600 cap) 25600 (cells L) ∧ Below w.heap.size w wr ∧ Blk wr gd 5 (cells D).toArray ∧ gd ≠ gm
section
variable {w wr : World} {gm cap gd : Nat} {R N : List (List Int)} {D L : List Int} {q : Bool} {f : Nat → List Int}
theorem MxSt.low (h : MxSt w wr gm cap gd D L) : w.heap.size ≤ gm := (h.1.lt gm rfl).1
theorem MxSt.put (h : MxSt w wr gm cap gd D L) (j : Nat) (x : Int) : MxSt w (wr.setCell ⟨gm, j, none⟩ (.int .u8 x)) gm cap gd D (L.set j x) := by
  refine ⟨?_, h.2.1.setCell (p := ⟨gm, j, none⟩) h.low _, h.2.2.1.far (p := ⟨gm, j, none⟩) h.2.2.2 _, h.2.2.2⟩
  have h1 := (h.1.stored j (.int .u8 x)).1
  rwa [show (cells L).set j (.int .u8 x) = cells (L.set j x) by simp [cells, List.map_set]] at h1
theorem MxSt.at_ (h : MxSt w wr gm cap gd D L) (hf : Fam R N D q f) {j : Nat} (hj : j < 25600) : ∃ x, D[j]? = some x ∧ wr.cell? ⟨gd, j, none⟩ = some (.int .u8 x) ∧ (∃ v, wr.cell? ⟨gm, j, none⟩ = some v) ∧ wr.frozen? ⟨gm, j, none⟩ = false := by
  have hl : j < D.length := by rw [hf.dlen]; exact hj
  refine ⟨D[j], List.getElem?_eq_getElem hl, ?_, ?_, h.1.frozenAt j⟩
  · rw [h.2.2.1.cell]
    simp [cells, hl]
  · have := h.1.cellAt j (by omega)
    have h2 := h.1.1
    rw [cells_len] at h2
    rw [this]
    exact ⟨_, List.getElem?_eq_getElem (by rw [cells_len]; omega)⟩
theorem set_far_id (hf : Fam R N D q f) {t j : Nat} (hj : 64 ≤ j) {x : Int} (hx : D[j]? = some x) : (f t).set j x = f t := by
  rw [← hf.far t j hj] at hx
  obtain ⟨h3, rfl⟩ := List.getElem?_eq_some_iff.1 hx
  exact List.set_getElem_self h3
theorem MxSt.mixed {t : Nat} (h : MxSt w wr gm cap gd D (f t)) (hf : Fam R N D q f) (h1 : totalM R ≤ 199) (h2 : totalM N ≤ 199) : ∃ b, (b = true ∨ q = true) ∧ Mixed w wr R N b gm cap := by
  obtain ⟨a, X, e, hs, h64, hh⟩ := hf.mix t
  have hr := Rd.of_own h.1
  rw [e] at hr
  obtain ⟨_, _, e9, hc1, hc2⟩ := own_shape h.1
  injection e9 with _ _ e10
  subst e10
  rcases hh with hh | ⟨hq, hh⟩
  · exact ⟨true, .inl rfl, a, X, h.2.1, hr, hc1, hc2, hs, h64, h1, h2, .inl ⟨rfl, hh⟩⟩
  · exact ⟨false, .inr hq, a, X, h.2.1, hr, hc1, hc2, hs, h64, h1, h2, .inr ⟨rfl, hh⟩⟩
end
end Go.Proofs.Ytehghjakggdnpaa
