/-
  The state of the disk behind appends, a flush, appends, a crash; what is opened then.
-/
import Derived.Test.YtehghjakggdnpaaWKeepD
import Derived.Test.YtehghjakggdnpaaWOpen
import Derived.Test.YtehghjakggdnpaaWApp
namespace Go.Proofs.Ytehghjakggdnpaa
open Go.RowKit Go.Lib

theorem chunkOf_is {b : List Int} (h : IsBytes b) (k : Nat) : IsBytes (chunkOf b k) := fun x hx => h x (List.mem_of_mem_drop (List.mem_of_mem_take hx))
theorem recBody_is {r : List Int} (h : IsBytes r) (hn : r.length ≤ 4096) : IsBytes (recBody r) := by
  intro x hx
  rcases List.mem_append.1 hx with hx | hx
  · simp at hx; rcases hx with rfl | rfl <;> omega
  · exact h x hx
theorem secB_is {p : List Int} (h : IsBytes p) (x : Int) : IsBytes (secB p x) := by
  refine stampL_is ?_ x
  intro y hy
  rcases List.mem_append.1 hy with hy | hy
  · rcases List.mem_append.1 hy with hy | hy
    · exact zeros_is y (List.mem_of_mem_take hy)
    · exact h y hy
  · exact zeros_is y (List.mem_of_mem_drop hy)
theorem lay_is {L : List (List Int)} {wr : List (Nat × List Int)} (hL : AllBytes L) (hw : ∀ p ∈ wr, IsBytes p.2) : AllBytes (lay L wr) := by
  revert hw
  refine snoc_ind (P := fun wr => (∀ p ∈ wr, IsBytes p.2) → AllBytes (lay L wr)) (fun _ => hL) ?_ wr
  intro wr p ih hw
  rw [lay_snoc]
  intro b hb
  rcases List.mem_or_eq_of_mem_set hb with h | h
  · exact ih (fun q hq => hw q (by simp [hq])) b h
  · rw [h]; exact hw p (by simp)
theorem tear_is {a b : List Int} (ha : IsBytes a) (hb : IsBytes b) (t : Nat) : IsBytes (tear a b t) := fun x hx => (List.mem_append.1 hx).elim (fun h => hb x (List.mem_of_mem_take h)) fun h => ha x (List.mem_of_mem_drop h)
/-- the stamp's last three bytes are nought -/
theorem secB_tail {p : List Int} {x : Int} (h : p.length ≤ 56) (hx : 0 ≤ x ∧ x < 256) {j : Nat} (hj : 61 ≤ j ∧ j < 64) : (secB p x)[j]? = some 0 := by
  have hl := padB_len h
  obtain ⟨_, h1, h2, h3⟩ := put4_at (b := put4 (padB p) 0 x) (i := 60) (n := x) (by rw [put4_len]; omega)
  have e : secB p x = put4 (put4 (padB p) 0 x) 60 x := rfl
  rw [e]
  have h61 : x / 256 % 256 = 0 := by omega
  have h62 : x / 65536 % 256 = 0 := by omega
  have h63 : x / 16777216 % 256 = 0 := by omega
  rw [h61] at h1; rw [h62] at h2; rw [h63] at h3
  rcases (show j = 61 ∨ j = 62 ∨ j = 63 by omega) with rfl | rfl | rfl
  · exact h1
  · exact h2
  · exact h3
theorem zeros_at {j : Nat} (h : j < 64) : zeros[j]? = some 0 := by unfold zeros; rw [List.getElem?_replicate, if_pos h]
theorem tear_whole {p : List Int} {x : Int} (h : p.length ≤ 56) (hx : 0 ≤ x ∧ x < 256) {t : Nat} (ht : 61 ≤ t) : tear zeros (secB p x) t = secB p x := by
  have hl := secB_len (x := x) h
  apply List.ext_getElem?
  intro j
  unfold tear
  by_cases h1 : j < t
  · by_cases h2 : j < 64
    · rw [List.getElem?_append_left (by simp; omega), List.getElem?_take, if_pos h1]
    · rw [List.getElem?_eq_none (by simp [zeros]; omega), List.getElem?_eq_none (by omega)]
  · by_cases h2 : j < 64
    · rw [List.getElem?_append_right (by simp; omega), List.getElem?_drop, secB_tail h hx ⟨by omega, h2⟩, List.length_take, zeros_at (by omega)]
    · rw [List.getElem?_eq_none (by simp [zeros]; omega), List.getElem?_eq_none (by omega)]
theorem tear_short {p : List Int} {x : Int} (h : p.length ≤ 56) {t : Nat} (ht : t ≤ 60) : num4 (tear zeros (secB p x) t) 60 = 0 := by
  have hl := secB_len (x := x) h
  have e : num4 (tear zeros (secB p x) t) 60 = num4 zeros 60 := num4_congr fun k hk => by
    unfold tear
    rw [List.getElem?_append_right (by simp; omega), List.getElem?_drop, List.length_take, zeros_at (by omega), zeros_at (by omega)]
  rw [e]
  rfl

/-- the first n1 sectors of the records last, the others are written -/
def kS (n1 : Nat) (R : List (List Int)) : DS := ⟨lay (fmtS 300).last (wsAt 2 ((sectsM 0 R).take n1)), wsAt (2 + n1) ((sectsM 0 R).drop n1)⟩
theorem kS_len (n1 : Nat) (R : List (List Int)) : (kS n1 R).last.length = 300 := by
  unfold kS; rw [lay_len]; exact fmtS_len 300
theorem kS_half (n1 : Nat) (R : List (List Int)) : (kS n1 R).half = 149 := by unfold DS.half; rw [kS_len]
theorem kS_nil : kS 0 [] = fmtS 300 := rfl
theorem kS_wr (n1 : Nat) (R : List (List Int)) : (kS n1 R).wr.length = totalM R - n1 := by
  unfold kS; rw [wsAt_len, List.length_drop, sects_len]
theorem kS_app {n1 : Nat} {R : List (List Int)} (h : n1 ≤ totalM R) (r : List Int) : appS (kS n1 R) 0 (totalM R) ((totalM R : Nat) + 1) r = kS n1 (R ++ [r]) := by
  unfold appS
  rw [putWs_rec]
  unfold kS
  have hl := sects_len 0 R
  rw [sects_append, sects_one, List.take_append_of_le_length (by omega), List.drop_append_of_le_length (by omega), wsAt_append, List.length_drop, hl, Nat.zero_add]
  congr 3
  simp; omega
theorem kS_flush {n1 : Nat} {R : List (List Int)} (h : n1 ≤ totalM R) : (kS n1 R).flush = kS (totalM R) R := by
  have hl := sects_len 0 R
  unfold DS.flush kS
  rw [← lay_app, List.take_of_length_le (l := sectsM 0 R) (i := totalM R) (by omega), List.drop_of_length_le (l := sectsM 0 R) (i := totalM R) (by omega)]
  have e : wsAt 2 ((sectsM 0 R).take n1) ++ wsAt (2 + n1) ((sectsM 0 R).drop n1) = wsAt 2 (sectsM 0 R) := by
    rw [show 2 + n1 = 2 + ((sectsM 0 R).take n1).length by rw [List.length_take]; omega, ← wsAt_append, List.take_append_drop]
  show DS.mk (lay _ (_ ++ _)) [] = _
  rw [e]
  rfl
theorem fmt0 : (fmtS 300).last.getD 0 [] = zeros ∧ (fmtS 300).last.getD 1 [] = headB 1 0 1 := by decide +kernel
theorem fmt_at {j : Nat} (h : 2 ≤ j) (h3 : j < 300) : (fmtS 300).last.getD j [] = zeros := by
  have e : (fmtS 300).last = (secs [] 300).set 1 (headB 1 0 1) := rfl
  rw [e, getD_set_ne (by omega), secs_nil, List.getD_eq_getElem?_getD, List.getElem?_replicate, if_pos h3]
  rfl
theorem fmt_is : AllBytes (fmtS 300).last := by
  have e : (fmtS 300).last = lay (newS 300).cur [(1, headB 1 0 1)] := rfl
  rw [e]
  refine lay_is (newS_bytes 300) ?_
  intro p hp
  simp at hp
  rw [hp]
  exact headB_is (by omega) (by omega) (by omega)
/-- what is there behind a crash -/
structure Crashed (C : List (List Int)) (T : Nat) (R : List (List Int)) : Prop where
  len : C.length = 300
  is : AllBytes C
  h0 : C.getD 0 [] = zeros
  h1 : C.getD 1 [] = headB 1 0 1
  le : T ≤ totalM R
  at_ : ∀ i, i < T → C.getD (2 + i) [] = (sectsM 0 R).getD i []
  no : ∀ i, T ≤ i → num4 (C.getD (2 + i) []) 60 = 0
theorem num_nil (i : Nat) : num4 [] i = 0 := by simp [num4]
theorem crashed_lay {R : List (List Int)} (hR : totalM R ≤ 149) (hb : ∀ r ∈ R, IsBytes r ∧ r.length ≤ 4096) (T : Nat) (hT : T ≤ totalM R) : Crashed (lay (fmtS 300).last (wsAt 2 ((sectsM 0 R).take T))) T R := by
  have hl := sects_len 0 R
  have htl : ((sectsM 0 R).take T).length = T := by rw [List.length_take]; omega
  have hf := fmtS_len 300
  have hg := lay_ws (L := (fmtS 300).last) (k := 2) ((sectsM 0 R).take T) (by rw [htl, hf]; omega)
  rw [htl] at hg
  refine ⟨by rw [lay_len, hf], lay_is fmt_is ?_, ?_, ?_, hT, ?_, ?_⟩
  · intro p hp
    obtain ⟨r, hr, i, x, _, _, e⟩ := sects_mem (List.mem_of_mem_take (wsAt_mem hp))
    rw [e]
    exact secB_is (chunkOf_is (recBody_is (hb r hr).1 (hb r hr).2) i) _
  · rw [hg, if_neg (by omega)]; exact fmt0.1
  · rw [hg, if_neg (by omega)]; exact fmt0.2
  · intro i hi
    rw [hg, if_pos (by omega), Nat.add_sub_cancel_left, List.getD_eq_getElem?_getD, List.getElem?_take, if_pos hi, List.getD_eq_getElem?_getD]
  · intro i hi
    rw [hg, if_neg (by omega)]
    by_cases h3 : 2 + i < 300
    · rw [fmt_at (by omega) h3]; rfl
    · rw [List.getD_eq_getElem?_getD, List.getElem?_eq_none (by omega)]; exact num_nil 60
theorem crashed_any {n1 : Nat} {R : List (List Int)} (hR : totalM R ≤ 149) (hb : ∀ r ∈ R, IsBytes r ∧ r.length ≤ 4096) (h : n1 ≤ totalM R) (keep torn : Int) : ∃ T, n1 ≤ T ∧ Crashed ((kS n1 R).crash keep torn).cur T R ∧ ((kS n1 R).crash keep torn).wr = [] := by
  have hl := sects_len 0 R
  have hw := kS_wr n1 R
  obtain ⟨k, hk⟩ : ∃ k, k = clampN keep (kS n1 R).wr.length := ⟨_, rfl⟩
  have hkl : k ≤ totalM R - n1 := by rw [hk, hw]; unfold clampN; omega
  have hbase : lay (kS n1 R).last ((kS n1 R).wr.take k) = lay (fmtS 300).last (wsAt 2 ((sectsM 0 R).take (n1 + k))) := by
    have e1 : (kS n1 R).wr.take k = wsAt (2 + n1) (((sectsM 0 R).drop n1).take k) := by
      show (wsAt (2 + n1) ((sectsM 0 R).drop n1)).take k = _
      have e2 := wsAt_append (2 + n1) (((sectsM 0 R).drop n1).take k) (((sectsM 0 R).drop n1).drop k)
      rw [List.take_append_drop] at e2
      rw [e2]
      exact List.take_left' (by rw [wsAt_len, List.length_take, List.length_drop]; omega)
    rw [e1]
    show lay (lay _ (wsAt 2 ((sectsM 0 R).take n1))) _ = _
    rw [← lay_app]
    congr 1
    rw [show 2 + n1 = 2 + ((sectsM 0 R).take n1).length by rw [List.length_take]; omega, ← wsAt_append, List.take_add]
  have hC := crashed_lay hR hb (n1 + k) (by omega)
  by_cases hend : n1 + k = totalM R
  · refine ⟨n1 + k, by omega, ?_, rfl⟩
    have e : ((kS n1 R).crash keep torn).cur = lay (fmtS 300).last (wsAt 2 ((sectsM 0 R).take (n1 + k))) := by
      show lay ((kS n1 R).crash keep torn).last [] = _
      show (match (kS n1 R).wr[clampN keep (kS n1 R).wr.length]? with | some p => _ | none => _) = _
      rw [← hk, List.getElem?_eq_none (by omega)]
      exact hbase
    rw [e]
    exact hC
  · obtain ⟨b, hbk⟩ : ∃ b, (sectsM 0 R)[n1 + k]? = some b := ⟨_, List.getElem?_eq_getElem (by omega)⟩
    obtain ⟨r, hr, i, x, hx1, hx2, hbe⟩ := sects_mem (List.mem_of_getElem? hbk)
    have hp := chunk_len (recBody r) i
    have hwk : (kS n1 R).wr[k]? = some (2 + n1 + k, b) := by
      show (wsAt (2 + n1) ((sectsM 0 R).drop n1))[k]? = _
      unfold wsAt
      rw [List.getElem?_map, List.getElem?_zipIdx, List.getElem?_drop, hbk]
      simp
    have e : ((kS n1 R).crash keep torn).cur = (lay (fmtS 300).last (wsAt 2 ((sectsM 0 R).take (n1 + k)))).set (2 + n1 + k) (tear zeros b (clampN torn 64)) := by
      show lay ((kS n1 R).crash keep torn).last [] = _
      show (match (kS n1 R).wr[clampN keep (kS n1 R).wr.length]? with | some p => _ | none => _) = _
      rw [← hk, hwk]
      show (lay (kS n1 R).last ((kS n1 R).wr.take k)).set (2 + n1 + k) (tear ((lay (kS n1 R).last ((kS n1 R).wr.take k)).getD (2 + n1 + k) []) b (clampN torn 64)) = _
      rw [hbase]
      congr 2
      rw [lay_ws _ (by rw [List.length_take, fmtS_len]; omega), if_neg (by rw [List.length_take]; omega)]
      exact fmt_at (by omega) (by omega)
    obtain ⟨t, ht⟩ : ∃ t, t = clampN torn 64 := ⟨_, rfl⟩
    rw [e, ← ht]
    have hlen : 2 + n1 + k < (lay (fmtS 300).last (wsAt 2 ((sectsM 0 R).take (n1 + k)))).length := by rw [hC.len]; omega
    have hbb : IsBytes b := by rw [hbe]; exact secB_is (chunkOf_is (recBody_is (hb r hr).1 (hb r hr).2) i) _
    have hall : AllBytes ((lay (fmtS 300).last (wsAt 2 ((sectsM 0 R).take (n1 + k)))).set (2 + n1 + k) (tear zeros b t)) := by
      intro y hy
      rcases List.mem_or_eq_of_mem_set hy with h | h
      · exact hC.is y h
      · rw [h]; exact tear_is zeros_is hbb t
    by_cases h61 : 61 ≤ t
    · refine ⟨n1 + k + 1, by omega, ⟨by rw [List.length_set]; exact hC.len, hall, by rw [getD_set_ne (by omega)]; exact hC.h0, by rw [getD_set_ne (by omega)]; exact hC.h1, by omega, ?_, ?_⟩, rfl⟩
      · intro j hj
        by_cases hj2 : j = n1 + k
        · rw [hj2, show 2 + (n1 + k) = 2 + n1 + k by omega, getD_set_self hlen, hbe, tear_whole hp (by omega) h61, ← hbe, List.getD_eq_getElem?_getD, hbk]
          rfl
        · rw [getD_set_ne (by omega)]; exact hC.at_ j (by omega)
      · intro j hj
        rw [getD_set_ne (by omega)]; exact hC.no j (by omega)
    · refine ⟨n1 + k, by omega, ⟨by rw [List.length_set]; exact hC.len, hall, by rw [getD_set_ne (by omega)]; exact hC.h0, by rw [getD_set_ne (by omega)]; exact hC.h1, by omega, ?_, ?_⟩, rfl⟩
      · intro j hj
        rw [getD_set_ne (by omega)]; exact hC.at_ j hj
      · intro j hj
        by_cases hj2 : j = n1 + k
        · rw [hj2, show 2 + (n1 + k) = 2 + n1 + k by omega, getD_set_self hlen, hbe]
          exact tear_short hp (by omega)
        · rw [getD_set_ne (by omega)]; exact hC.no j hj
theorem headInM_zero {C : List (List Int)} (h : C.getD 0 [] = zeros) : headInM C 0 = none := by
  unfold headInM
  rw [h]
  decide +kernel
theorem headInM_one {C : List (List Int)} (h : C.getD 1 [] = headB 1 0 1) : headInM C 1 = some (1, 0, 1) := by
  unfold headInM
  rw [h]
  decide +kernel
theorem Crashed.head {C : List (List Int)} {T : Nat} {R : List (List Int)} (h : Crashed C T R) : headOfM C = some (1, 0, 1) := by
  unfold headOfM
  rw [headInM_zero h.h0, headInM_one h.h1]
  rfl
theorem Crashed.recs {C : List (List Int)} {T : Nat} {R : List (List Int)} (h : Crashed C T R) (hR : totalM R ≤ 149) (hb : ∀ r ∈ R, IsBytes r ∧ r.length ≤ 4096) :
    ∃ m, m ≤ R.length ∧ (recsM C 150 2 149 1).1 = R.take m ∧ ∀ n, n ≤ R.length → totalM (R.take n) ≤ T → n ≤ m := by
  have hp := placed_of (C := C) (T := T) R 0 (fun i _ hT => by rw [show 2 + 0 + i = 2 + i by omega]; exact h.at_ i (by omega))
  obtain ⟨m, h1, h2, h3⟩ := recs_front h.no R 0 150 hp (by omega) (by have := h.le; omega) (fun r hr => (hb r hr).2) (by omega)
  exact ⟨m, h1, h2, fun n hn ht => h3 n hn (by omega)⟩
end Go.Proofs.Ytehghjakggdnpaa
