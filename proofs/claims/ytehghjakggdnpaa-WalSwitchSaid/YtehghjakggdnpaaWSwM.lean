/-
  What a switch leaves, and what a crash within it leaves, as plain data.
-/
import Derived.Test.YtehghjakggdnpaaWAgainM
namespace Go.Proofs.Ytehghjakggdnpaa
open Go.RowKit Go.Lib

/-- records that stand from sector k on are read, one behind the other -/
theorem pre_sects {C : List (List Int)} (R : List (List Int)) : ∀ (u k room : Nat), (∀ i, i < totalM R → C.getD (k + i) [] = (sectsM u R).getD i []) → (∀ r ∈ R, r.length ≤ 4096) → totalM R ≤ room → u + totalM R + 1 ≤ 2147483648 →
    PreM C R k room ((u : Int) + 1) (k + totalM R) (room - totalM R) (((u + totalM R : Nat) : Int) + 1) := by
  induction R with
  | nil => intro u k room _ _ _ _; exact ⟨rfl, rfl, rfl⟩
  | cons r R ih =>
    intro u k room h hr hroom hu
    have hs1 : 1 ≤ secsOf r.length := by unfold secsOf; omega
    have htot : totalM (r :: R) = secsOf r.length + totalM R := rfl
    rw [htot] at h hroom hu ⊢
    have hHas : Has C k r ((u : Int) + 1) (secsOf r.length) := fun i hi => by
      rw [h i (by omega), List.getD_eq_getElem?_getD]
      show (recS u r ++ _)[i]?.getD [] = _
      rw [List.getElem?_append_left (by rw [recS_len]; exact hi)]
      unfold recS
      rw [List.getElem?_map, List.getElem?_range hi]
      rfl
    have hn := has_next (C := C) (k := k) (room := room) (least := (u : Int) + 1) (hr r (by simp)) (by omega) (by omega) (Int.le_refl _) (by omega) hHas
    refine ⟨(u : Int) + 1, by omega, has_len hs1 hHas, hn, ?_⟩
    have h2 := ih (u + secsOf r.length) (k + secsOf r.length) (room - secsOf r.length) (fun i hi => by
      have := h (secsOf r.length + i) (by omega)
      rw [show k + secsOf r.length + i = k + (secsOf r.length + i) by omega, this, List.getD_eq_getElem?_getD]
      show (recS u r ++ _)[secsOf r.length + i]?.getD [] = _
      rw [List.getElem?_append_right (by rw [recS_len]; omega), recS_len, Nat.add_sub_cancel_left, List.getD_eq_getElem?_getD]) (fun q hq => hr q (by simp [hq])) (by omega) (by omega)
    rw [show k + (secsOf r.length + totalM R) = k + secsOf r.length + totalM R by omega, show room - (secsOf r.length + totalM R) = room - secsOf r.length - totalM R by omega, show u + (secsOf r.length + totalM R) = u + secsOf r.length + totalM R by omega, show (u : Int) + 1 + ((secsOf r.length : Nat) : Int) = ((u + secsOf r.length : Nat) : Int) + 1 by omega]
    exact h2
theorem next_zero {C : List (List Int)} {k room : Nat} {least : Int} (h : C.getD k [] = zeros) (hl : 1 ≤ least) : nextRec C k room least = none := by
  have h0 : num4 zeros 0 = 0 := by decide +kernel
  unfold nextRec
  rw [if_pos]
  left
  rw [h, h0]
  omega
/-- records that stand from sector k on, a sector of zeros behind them -/
theorem recs_at {C : List (List Int)} {R : List (List Int)} {u k room fuel : Nat} (h : ∀ i, i < totalM R → C.getD (k + i) [] = (sectsM u R).getD i []) (hr : ∀ r ∈ R, r.length ≤ 4096) (hroom : totalM R ≤ room) (hu : u + totalM R + 1 ≤ 2147483648)
    (hz : totalM R < room → C.getD (k + totalM R) [] = zeros) (hf : room < fuel) : recsM C fuel k room ((u : Int) + 1) = (R, totalM R) := by
  refine recs_pre (pre_sects R u k room h hr hroom hu) ?_ hf
  by_cases e : room - totalM R = 0
  · exact .inl e
  · exact .inr (next_zero (hz (by omega)) (by omega))

/-- a disk of 400 sectors with the records R, which last -/
def oS (R : List (List Int)) : DS := ⟨lay (fmtS 400).last (wsAt 2 (sectsM 0 R)), []⟩
/-- the same ahead of Flush -/
def oW (R : List (List Int)) : DS := ⟨(fmtS 400).last, wsAt 2 (sectsM 0 R)⟩
/-- some of the new records are written -/
def sW (old fresh : List (List Int)) : DS := ⟨(oS old).last, wsAt 201 (sectsM (totalM old) fresh)⟩
def sC (old fresh : List (List Int)) : List (List Int) := lay (oS old).last (wsAt 201 (sectsM (totalM old) fresh))
/-- behind a switch -/
def sS (old fresh : List (List Int)) : DS := ⟨(sC old fresh).set 0 (headB 2 1 ((totalM old : Nat) + 1)), []⟩
theorem oS_len (R : List (List Int)) : (oS R).last.length = 400 := by unfold oS; rw [lay_len]; exact fmtS_len 400
theorem oW_len (R : List (List Int)) : (oW R).last.length = 400 := fmtS_len 400
theorem oW_half (R : List (List Int)) : (oW R).half = 199 := by unfold DS.half; rw [oW_len]
theorem oW_nil : oW [] = fmtS 400 := rfl
theorem oW_wr (R : List (List Int)) : (oW R).wr.length = totalM R := by unfold oW; rw [wsAt_len, sects_len]
theorem oW_app (R : List (List Int)) (r : List Int) : appS (oW R) 0 (totalM R) ((totalM R : Nat) + 1) r = oW (R ++ [r]) := by
  unfold appS
  rw [putWs_rec]
  unfold oW
  rw [sects_append, sects_one, wsAt_append, sects_len, Nat.zero_add]
  simp
theorem oW_flush (R : List (List Int)) : (oW R).flush = oS R := rfl
theorem sW_len (old fresh : List (List Int)) : (sW old fresh).last.length = 400 := oS_len old
theorem sW_wr (old fresh : List (List Int)) : (sW old fresh).wr.length = totalM fresh := by unfold sW; rw [wsAt_len, sects_len]
theorem sW_nil (old : List (List Int)) : sW old [] = oS old := rfl
theorem sW_app (old fresh : List (List Int)) (r : List Int) : (⟨(sW old fresh).last, (sW old fresh).wr ++ putWs (recBody r) (201 + totalM fresh) ((totalM old + totalM fresh : Nat) + 1) (List.range (secsOf r.length))⟩ : DS) = sW old (fresh ++ [r]) := by
  rw [putWs_rec]
  unfold sW
  rw [sects_append, sects_one, wsAt_append, sects_len]
theorem sW_flush (old fresh : List (List Int)) : (sW old fresh).flush = ⟨sC old fresh, []⟩ := rfl
theorem sS_is (old fresh : List (List Int)) : ((⟨sC old fresh, []⟩ : DS).write 0 (headB 2 1 ((totalM old : Nat) + 1))).flush = sS old fresh := rfl

theorem fmt4 : (fmtS 400).last.getD 0 [] = zeros ∧ (fmtS 400).last.getD 1 [] = headB 1 0 1 := by decide +kernel
theorem fmt4_at {j : Nat} (h : 2 ≤ j) (h3 : j < 400) : (fmtS 400).last.getD j [] = zeros := by
  have e : (fmtS 400).last = (secs [] 400).set 1 (headB 1 0 1) := rfl
  rw [e, getD_set_ne (by omega), secs_nil, List.getD_eq_getElem?_getD, List.getElem?_replicate, if_pos h3]
  rfl
theorem fmt4_is : AllBytes (fmtS 400).last := by
  have e : (fmtS 400).last = lay (newS 400).cur [(1, headB 1 0 1)] := rfl
  rw [e]
  refine lay_is (newS_bytes 400) ?_
  intro p hp
  simp at hp
  rw [hp]
  exact headB_is (by omega) (by omega) (by omega)
theorem sects_is {u : Nat} {R : List (List Int)} (hb : ∀ r ∈ R, IsBytes r ∧ r.length ≤ 4096) {k : Nat} : ∀ p ∈ wsAt k (sectsM u R), IsBytes p.2 := by
  intro p hp
  obtain ⟨r, hr, i, x, _, _, e⟩ := sects_mem (wsAt_mem hp)
  rw [e]
  exact secB_is (chunkOf_is (recBody_is (hb r hr).1 (hb r hr).2) i) _

/-- what stands there behind a switch; a is sector 0 -/
structure SwC (a : List Int) (C : List (List Int)) (old fresh : List (List Int)) : Prop where
  len : C.length = 400
  is : AllBytes C
  h0 : C.getD 0 [] = a
  h1 : C.getD 1 [] = headB 1 0 1
  a0 : ∀ i, i < totalM old → C.getD (2 + i) [] = (sectsM 0 old).getD i []
  z0 : totalM old < 199 → C.getD (2 + totalM old) [] = zeros
  a1 : ∀ i, i < totalM fresh → C.getD (201 + i) [] = (sectsM (totalM old) fresh).getD i []
  z1 : totalM fresh < 199 → C.getD (201 + totalM fresh) [] = zeros
section
variable {a : List Int} {C old fresh : List (List Int)}
theorem SwC.set (h : SwC a C old fresh) {b : List Int} (hb : IsBytes b) : SwC b (C.set 0 b) old fresh := by
  have hl := h.len
  have hne : ∀ j, 1 ≤ j → (C.set 0 b).getD j [] = C.getD j [] := fun j hj => getD_set_ne (by omega)
  refine ⟨by rw [List.length_set]; exact hl, ?_, getD_set_self (by omega), by rw [hne 1 (by omega)]; exact h.h1, fun i hi => by rw [hne _ (by omega)]; exact h.a0 i hi, fun hz => by rw [hne _ (by omega)]; exact h.z0 hz, fun i hi => by rw [hne _ (by omega)]; exact h.a1 i hi, fun hz => by rw [hne _ (by omega)]; exact h.z1 hz⟩
  intro y hy
  rcases List.mem_or_eq_of_mem_set hy with hy | rfl
  · exact h.is y hy
  · exact hb
theorem sC_sw (ho : ∀ r ∈ old, IsBytes r ∧ r.length ≤ 4096) (hf : ∀ r ∈ fresh, IsBytes r ∧ r.length ≤ 4096) (h1 : totalM old ≤ 199) (h2 : totalM fresh ≤ 199) : SwC zeros (sC old fresh) old fresh := by
  have l0 := sects_len 0 old
  have l1 := sects_len (totalM old) fresh
  have hf4 := fmtS_len 400
  have hoL := oS_len old
  have g0 := lay_ws (L := (fmtS 400).last) (k := 2) (sectsM 0 old) (by omega)
  have g1 := lay_ws (L := (oS old).last) (k := 201) (sectsM (totalM old) fresh) (by omega)
  rw [l0] at g0
  rw [l1] at g1
  have e0 : ∀ j, (oS old).last.getD j [] = if 2 ≤ j ∧ j < 2 + totalM old then (sectsM 0 old).getD (j - 2) [] else (fmtS 400).last.getD j [] := g0
  have e1 : ∀ j, (sC old fresh).getD j [] = if 201 ≤ j ∧ j < 201 + totalM fresh then (sectsM (totalM old) fresh).getD (j - 201) [] else (oS old).last.getD j [] := g1
  refine ⟨?_, ?_, ?_, ?_, ?_, ?_, ?_, ?_⟩
  · unfold sC; rw [lay_len]; exact hoL
  · exact lay_is (lay_is fmt4_is (sects_is ho)) (sects_is hf)
  · rw [e1, if_neg (by omega), e0, if_neg (by omega)]; exact fmt4.1
  · rw [e1, if_neg (by omega), e0, if_neg (by omega)]; exact fmt4.2
  · intro i hi
    rw [e1, if_neg (by omega), e0, if_pos (by omega), Nat.add_sub_cancel_left]
  · intro hz
    rw [e1, if_neg (by omega), e0, if_neg (by omega)]; exact fmt4_at (by omega) (by omega)
  · intro i hi
    rw [e1, if_pos (by omega), Nat.add_sub_cancel_left]
  · intro hz
    rw [e1, if_neg (by omega), e0, if_neg (by omega)]; exact fmt4_at (by omega) (by omega)

/-- the second head -/
theorem headInM_two {x : Int} (hx : 1 ≤ x ∧ x < 4294967296) (h : C.getD 0 [] = headB 2 1 x) : headInM C 0 = some (2, 1, x) := by
  have hl : ((stampL zeros 2).set 4 1).length = 64 := by rw [List.length_set, stampL_len]; simp [zeros]
  have n0 : num4 (headB 2 1 x) 0 = 2 := by
    unfold headB
    rw [num4_put4_far (by omega)]
    decide +kernel
  have n4 : (headB 2 1 x).getD 4 0 = 1 := by
    unfold headB
    rw [List.getD_eq_getElem?_getD, put4_far (by omega)]
    decide +kernel
  have n5 : num4 (headB 2 1 x) 5 = x := by
    unfold headB
    exact num4_put4 (by omega) (by omega)
  unfold headInM
  simp only [h, n0, n4, n5]
  rw [if_neg (by simp), if_neg (by simp; omega)]
theorem headB_60 {g a f : Int} (hg : 0 ≤ g ∧ g < 4294967296) : num4 (headB g a f) 60 = g := by
  have hz : zeros.length = 64 := by simp [zeros]
  unfold headB
  rw [num4_put4_far (by omega)]
  have e : num4 ((stampL zeros g).set 4 a) 60 = num4 (stampL zeros g) 60 := num4_congr fun k hk => by rw [List.getElem?_set_ne (by omega)]
  rw [e]
  unfold stampL
  exact num4_put4 (by rw [put4_len]; omega) hg
theorem headB_tail {x : Int} {j : Nat} (hj : 61 ≤ j ∧ j < 64) : (headB 2 1 x)[j]? = some 0 := by
  unfold headB
  rw [put4_far (by omega)]
  obtain rfl | rfl | rfl : j = 61 ∨ j = 62 ∨ j = 63 := by omega
  · decide +kernel
  · decide +kernel
  · decide +kernel
/-- a head that is torn: it is whole, or none -/
theorem head_torn {x : Int} {t : Nat} (hx : 1 ≤ x ∧ x < 4294967296) (h : C.getD 0 [] = tear zeros (headB 2 1 x) t) : headInM C 0 = some (2, 1, x) ∨ headInM C 0 = none := by
  have hl := headB_len 2 1 x
  have hz : zeros.length = 64 := by simp [zeros]
  by_cases ht : 61 ≤ t
  · refine .inl (headInM_two hx ?_)
    rw [h]
    unfold tear
    apply List.ext_getElem?
    intro j
    by_cases h1 : j < t
    · by_cases h2 : j < 64
      · rw [List.getElem?_append_left (by rw [List.length_take]; omega), List.getElem?_take, if_pos h1]
      · rw [List.getElem?_eq_none (by simp; omega), List.getElem?_eq_none (by omega)]
    · rw [List.getElem?_append_right (by rw [List.length_take]; omega), List.length_take, List.getElem?_drop]
      by_cases h2 : j < 64
      · rw [headB_tail ⟨by omega, h2⟩, zeros_at (by omega)]
      · rw [List.getElem?_eq_none (by omega), List.getElem?_eq_none (by omega)]
  · refine .inr ?_
    have h60 : num4 (C.getD 0 []) 60 = 0 := by
      rw [h]
      have e : num4 (tear zeros (headB 2 1 x) t) 60 = num4 zeros 60 := num4_congr fun k hk => by
        unfold tear
        rw [List.getElem?_append_right (by rw [List.length_take]; omega), List.length_take, List.getElem?_drop]
        congr 1
        omega
      rw [e]
      decide +kernel
    unfold headInM
    simp only
    split
    · rfl
    · rename_i h1
      rw [if_pos]
      right; right
      intro e
      have h2 := headB_60 (g := num4 (C.getD 0 []) 0) (a := (C.getD 0 []).getD 4 0) (f := num4 (C.getD 0 []) 5) (by omega)
      rw [← e, h60] at h2
      omega
theorem SwC.new (h : SwC a C old fresh) (hf : ∀ r ∈ fresh, r.length ≤ 4096) (h1 : totalM old ≤ 199) (h2 : totalM fresh ≤ 199) (hh : headInM C 0 = some (2, 1, ((totalM old : Nat) : Int) + 1)) :
    headOfM C = some (2, 1, ((totalM old : Nat) : Int) + 1) ∧ recsM C 200 201 199 (((totalM old : Nat) : Int) + 1) = (fresh, totalM fresh) := by
  refine ⟨?_, recs_at h.a1 hf h2 (by omega) h.z1 (by omega)⟩
  unfold headOfM
  rw [hh, headInM_one h.h1]
  rfl
theorem SwC.same (h : SwC a C old fresh) (hf : ∀ r ∈ old, r.length ≤ 4096) (h1 : totalM old ≤ 199) (hh : headInM C 0 = none) :
    headOfM C = some (1, 0, 1) ∧ recsM C 200 2 199 1 = (old, totalM old) := by
  refine ⟨?_, recs_at (u := 0) h.a0 hf h1 (by omega) h.z0 (by omega)⟩
  unfold headOfM
  rw [hh, headInM_one h.h1]
  rfl
end
/-- an image's sectors are those that it was made of -/
theorem secs_flat (L : List (List Int)) : (∀ b ∈ L, b.length = 64) → secs L.flatten L.length = L := by
  induction L with
  | nil => intro _; rfl
  | cons b L ih =>
    intro h
    have hb := h b (by simp)
    have hi := ih fun c hc => h c (by simp [hc])
    have e0 : pad ((b :: L).flatten.drop (64 * 0)) = b := by
      unfold pad
      rw [Nat.mul_zero, List.drop_zero, List.flatten_cons, List.take_left' hb, List.length_append, hb, show 64 - (64 + L.flatten.length) = 0 by omega]
      simp
    unfold secs at hi ⊢
    rw [List.length_cons, List.range_succ_eq_map, List.map_cons, e0, List.map_map]
    congr 1
    refine Eq.trans (List.map_congr_left fun i _ => ?_) hi
    show pad ((b :: L).flatten.drop (64 * (i + 1))) = _
    rw [List.flatten_cons, show 64 * (i + 1) = b.length + 64 * i by omega, List.drop_append, List.drop_eq_nil_of_le (by omega), Nat.add_sub_cancel_left, List.nil_append]
/-- the first bytes of a sector are the new ones already -/
def mixM (b0 rest : List Int) (t : Nat) : List Int := tear zeros b0 t ++ rest
theorem tear_six {b0 : List Int} (h : b0.length = 64) (t : Nat) : (tear zeros b0 t).length = 64 := by
  unfold tear zeros; simp; omega
theorem mix_len {b0 : List Int} (h : b0.length = 64) (rest : List Int) (t : Nat) : (mixM b0 rest t).length = 64 + rest.length := by
  unfold mixM; rw [List.length_append, tear_six h]
theorem mix_set {b0 rest : List Int} {t : Nat} (h : b0.length = 64) (ht : t < 64) {x : Int} (hx : (b0 ++ rest)[t]? = some x) : (mixM b0 rest t).set t x = mixM b0 rest (t + 1) := by
  have hz : zeros.length = 64 := by simp [zeros]
  have hl := tear_six h t
  rw [List.getElem?_append_left (by omega)] at hx
  unfold mixM
  rw [List.set_append_left _ _ (by omega)]
  congr 1
  unfold tear
  apply List.ext_getElem?
  intro j
  by_cases h1 : j = t
  · subst h1
    rw [List.getElem?_set_self (by unfold tear at hl; omega), List.getElem?_append_left (by rw [List.length_take]; omega), List.getElem?_take, if_pos (by omega), hx]
  · rw [List.getElem?_set_ne (by omega)]
    by_cases h2 : j < t
    · rw [List.getElem?_append_left (by rw [List.length_take]; omega), List.getElem?_append_left (by rw [List.length_take]; omega), List.getElem?_take, List.getElem?_take, if_pos h2, if_pos (by omega)]
    · rw [List.getElem?_append_right (by rw [List.length_take]; omega), List.getElem?_append_right (by rw [List.length_take]; omega), List.length_take, List.length_take, List.getElem?_drop, List.getElem?_drop]
      congr 1
      omega
theorem mix_far {b0 rest : List Int} {t j : Nat} (h : b0.length = 64) (hj : 64 ≤ j) : (mixM b0 rest t)[j]? = (b0 ++ rest)[j]? := by
  have hl := tear_six h t
  unfold mixM
  rw [List.getElem?_append_right (by omega), List.getElem?_append_right (by omega), hl, h]
/-- two sectors of the one image, the others of the other one -/
theorem mix_two {a0 a1 b0 b1 : List Int} {L K : List (List Int)} (h0 : a0.length = 64) (h1 : a1.length = 64) (k0 : b0.length = 64) (k1 : b1.length = 64) : (a0 :: a1 :: L).flatten.take 128 ++ (b0 :: b1 :: K).flatten.drop 128 = (a0 :: a1 :: K).flatten := by
  simp only [List.flatten_cons]
  rw [← List.append_assoc a0, List.take_left' (by rw [List.length_append]; omega), ← List.append_assoc b0, List.drop_left' (by rw [List.length_append]; omega), List.append_assoc]
end Go.Proofs.Ytehghjakggdnpaa
