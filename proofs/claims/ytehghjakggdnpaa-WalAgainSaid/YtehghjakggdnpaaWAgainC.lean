/-
  What a crash leaves of one record more, as plain data.
-/
import Derived.Test.YtehghjakggdnpaaWAgainM
namespace Go.Proofs.Ytehghjakggdnpaa
open Go.RowKit Go.Lib

theorem secs_at (m j : Nat) (h : j < m) : (secs [] m).getD j [] = zeros := by
  rw [secs_nil, List.getD_eq_getElem?_getD, List.getElem?_replicate, if_pos h]
  rfl
theorem fmt_last (m : Nat) : (fmtS m).last = (secs [] m).set 1 (headB 1 0 1) := rfl
theorem fmt_inv : AgInv (fmtS 400).last [] 0 := by
  have e := fmt_last 400
  have hz : ∀ j, 2 ≤ j → (fmtS 400).last.getD j [] = zeros ∨ (fmtS 400).last.getD j [] = [] := fun j hj => by
    by_cases h : j < 400
    · rw [e, getD_set_ne (by omega)]; exact .inl (secs_at 400 j h)
    · right; rw [List.getD_eq_getElem?_getD, List.getElem?_eq_none (by rw [fmtS_len]; omega)]; rfl
  have hn : ∀ j i, 2 ≤ j → (i = 0 ∨ i = 60) → num4 ((fmtS 400).last.getD j []) i = 0 := fun j i hj hi => by
    rcases hz j hj with e | e
    · rw [e]; rcases hi with rfl | rfl <;> rfl
    · rw [e]; exact num_nil i
  have hg : gr (fmtS 400).last ≤ 0 := great4_le (Int.le_refl _) fun j _ => Int.le_of_eq (hn (2 + j) 0 (by omega) (.inl rfl))
  have his : AllBytes (fmtS 400).last := by
    have e : (fmtS 400).last = lay (newS 400).cur [(1, headB 1 0 1)] := rfl
    rw [e]
    refine lay_is (newS_bytes 400) ?_
    intro p hp
    simp at hp
    rw [hp]
    exact headB_is (by omega) (by omega) (by omega)
  have h0 : 0 ≤ gr (fmtS 400).last := (great4_bd his 2 398).1
  refine ⟨fmtS_len 400, his, ?_, ?_, hg, fun k hk => by rw [hn k 60 hk (.inr rfl)]; exact h0, by simp [totalM], 1, by omega, ⟨rfl, rfl, rfl⟩, .inr ?_⟩
  · rw [e, getD_set_ne (by omega)]; exact secs_at 400 0 (by omega)
  · rw [e, getD_set_self (by rw [secs_len]; omega)]
  · unfold nextRec
    rw [if_pos]
    left
    rw [hn _ 0 (by omega) (.inl rfl)]
    omega

theorem tear_at {a b : List Int} {t j : Nat} (ht : t ≤ b.length) : (tear a b t)[j]? = if j < t then b[j]? else a[j]? := by
  unfold tear
  by_cases h : j < t
  · rw [if_pos h, List.getElem?_append_left (by rw [List.length_take]; omega), List.getElem?_take, if_pos h]
  · rw [if_neg h, List.getElem?_append_right (by rw [List.length_take]; omega), List.getElem?_drop, List.length_take]
    congr 1; omega
theorem small_num {b : List Int} {i : Nat} (h : IsBytes b) (hn : num4 b i < 256) : b.getD (i + 1) 0 = 0 ∧ b.getD (i + 2) 0 = 0 ∧ b.getD (i + 3) 0 = 0 ∧ num4 b i = b.getD i 0 := by
  have h0 := h.at_ i
  have h1 := h.at_ (i + 1)
  have h2 := h.at_ (i + 2)
  have h3 := h.at_ (i + 3)
  unfold num4 at hn ⊢
  omega
theorem getD_some {b : List Int} {j : Nat} (h : j < b.length) : b[j]? = some (b.getD j 0) := by
  rw [List.getD_eq_getElem?_getD, List.getElem?_eq_getElem h]; rfl
theorem tear_all {a p : List Int} {x : Int} {t : Nat} (ha : IsBytes a) (hl : a.length = 64) (h60 : num4 a 60 < 256) (hp : p.length ≤ 56) (hx : 0 ≤ x ∧ x < 256) (ht : 61 ≤ t ∧ t ≤ 64) : tear a (secB p x) t = secB p x := by
  have hs := secB_len (x := x) hp
  obtain ⟨z1, z2, z3, _⟩ := small_num ha h60
  apply List.ext_getElem?
  intro j
  rw [tear_at (by omega)]
  by_cases h1 : j < t
  · rw [if_pos h1]
  · rw [if_neg h1]
    by_cases h2 : j < 64
    · rw [secB_tail hp hx ⟨by omega, h2⟩, getD_some (by omega)]
      rcases (show j = 61 ∨ j = 62 ∨ j = 63 by omega) with rfl | rfl | rfl
      · rw [z1]
      · rw [z2]
      · rw [z3]
    · rw [List.getElem?_eq_none (by omega), List.getElem?_eq_none (by omega)]
theorem tear_part {a p : List Int} {x : Int} {t : Nat} (ha : IsBytes a) (h0 : num4 a 0 < 256) (hi : IsBytes p) (hp : p.length ≤ 56) (hx : 0 ≤ x ∧ x < 256) (ht : 1 ≤ t ∧ t ≤ 60) : num4 (tear a (secB p x) t) 60 = num4 a 60 ∧ num4 (tear a (secB p x) t) 0 = x := by
  have hs := secB_len (x := x) hp
  have hT : ∀ j, (tear a (secB p x) t).getD j 0 = if j < t then (secB p x).getD j 0 else a.getD j 0 := fun j => by
    rw [List.getD_eq_getElem?_getD, tear_at (by omega), List.getD_eq_getElem?_getD, List.getD_eq_getElem?_getD]
    split <;> rfl
  obtain ⟨z1, z2, z3, _⟩ := small_num ha h0
  have hx0 := secB_num0 (x := x) hp (by omega)
  obtain ⟨y1, y2, y3, y0⟩ := small_num (i := 0) (secB_is hi x) (by rw [hx0]; omega)
  rw [Nat.zero_add] at z1 z2 z3 y1 y2 y3
  constructor
  · unfold num4
    rw [hT, hT, hT, hT, if_neg (by omega), if_neg (by omega), if_neg (by omega), if_neg (by omega)]
  · unfold num4
    simp only [Nat.zero_add]
    rw [hT, hT, hT, hT, if_pos (by omega), y1, y2, y3, z1, z2, z3, ← y0, hx0]
    simp only [ite_self]
    omega
/-- the sectors of a record -/
def recX (x : Int) (r : List Int) : List (List Int) := (List.range (secsOf r.length)).map fun i => secB (chunkOf (recBody r) i) (x + i)
theorem recX_len (x : Int) (r : List Int) : (recX x r).length = secsOf r.length := by simp [recX]
theorem recX_at {x : Int} {r : List Int} {i : Nat} (h : i < secsOf r.length) : (recX x r)[i]? = some (secB (chunkOf (recBody r) i) (x + i)) := by
  unfold recX; rw [List.getElem?_map, List.getElem?_range h]; rfl
theorem app_lay {C : List (List Int)} {W : List (List Int)} {B k : Nat} {r : List Int} (h : AgInv C W B) (hb : IsBytes r ∧ r.length ≤ 4096) (hroom : totalM W + secsOf r.length ≤ 199) (hk : k ≤ secsOf r.length) :
    AppC C (lay C (wsAt (2 + totalM W) ((recX (gr C + 1) r).take k))) (totalM W) r k := by
  have htl : ((recX (gr C + 1) r).take k).length = k := by rw [List.length_take, recX_len]; omega
  have hg := lay_ws (L := C) (k := 2 + totalM W) ((recX (gr C + 1) r).take k) (by rw [htl, h.len]; omega)
  rw [htl] at hg
  refine ⟨by rw [lay_len, h.len], lay_is h.is ?_, hk, ?_, ?_, ?_, ?_⟩
  · intro p hp
    obtain ⟨i, _, e⟩ := List.mem_map.1 (List.mem_of_mem_take (wsAt_mem hp))
    rw [← e]
    exact secB_is (chunkOf_is (recBody_is hb.1 hb.2) i) _
  · intro j hj
    rw [hg, if_neg (by omega)]
  · intro i hi
    rw [hg, if_pos (by omega), Nat.add_sub_cancel_left, List.getD_eq_getElem?_getD, List.getElem?_take, if_pos hi, recX_at (by omega)]
    rfl
  · intro _
    rw [hg, if_neg (by omega)]
  · intro _
    rw [hg, if_neg (by omega)]
    exact .inl rfl
theorem appS_wr' (s : DS) (hw : s.wr = []) (U : Nat) (x : Int) (r : List Int) : (appS s 0 U x r).wr = wsAt (2 + U) (recX x r) ∧ (appS s 0 U x r).last = s.last := by
  refine ⟨?_, rfl⟩
  unfold appS
  show s.wr ++ _ = _
  rw [hw, putWs_range, List.nil_append, show 2 + (0 : Int).toNat * s.half + U = 2 + U by simp]
  rfl
theorem app_flush {s : DS} {W : List (List Int)} {B : Nat} {r : List Int} (hw : s.wr = []) (h : AgInv s.last W B) (hb : IsBytes r ∧ r.length ≤ 4096) (hroom : totalM W + secsOf r.length ≤ 199) (keep torn : Int) :
    AppC s.last ((appS s 0 (totalM W) (gr s.last + 1) r).flush.crash keep torn).cur (totalM W) r (secsOf r.length) := by
  have h1 := app_lay (k := secsOf r.length) h hb hroom (Nat.le_refl _)
  rw [List.take_of_length_le (by rw [recX_len]; omega)] at h1
  obtain ⟨e1, e2⟩ := appS_wr' s hw (totalM W) (gr s.last + 1) r
  have e : ((appS s 0 (totalM W) (gr s.last + 1) r).flush.crash keep torn).cur = lay s.last (wsAt (2 + totalM W) (recX (gr s.last + 1) r)) := by
    rw [← e1]
    unfold DS.cur DS.crash DS.flush
    simp only [List.getElem?_nil, List.take_nil]
    rfl
  rw [e]; exact h1
theorem app_crash {s : DS} {W : List (List Int)} {B : Nat} {r : List Int} (hw : s.wr = []) (h : AgInv s.last W B) (hl : ∀ b ∈ s.last, b.length = 64) (hb : IsBytes r ∧ r.length ≤ 4096) (hroom : totalM W + secsOf r.length ≤ 199) (hB : B + secsOf r.length < 250) (keep torn : Int) :
    ∃ k, AppC s.last ((appS s 0 (totalM W) (gr s.last + 1) r).crash keep torn).cur (totalM W) r k := by
  obtain ⟨e1, e2⟩ := appS_wr' s hw (totalM W) (gr s.last + 1) r
  obtain ⟨s1, hs1⟩ : ∃ s1, s1 = appS s 0 (totalM W) (gr s.last + 1) r := ⟨_, rfl⟩
  rw [← hs1] at e1 e2 ⊢
  have hwl : s1.wr.length = secsOf r.length := by rw [e1, wsAt_len, recX_len]
  obtain ⟨k, hk⟩ : ∃ k, k = clampN keep s1.wr.length := ⟨_, rfl⟩
  have hkl : k ≤ secsOf r.length := by rw [hk, hwl]; unfold clampN; omega
  have hbase : lay s1.last (s1.wr.take k) = lay s.last (wsAt (2 + totalM W) ((recX (gr s.last + 1) r).take k)) := by
    have e3 := wsAt_append (2 + totalM W) ((recX (gr s.last + 1) r).take k) ((recX (gr s.last + 1) r).drop k)
    rw [List.take_append_drop] at e3
    rw [e1, e2, e3]
    congr 1
    exact List.take_left' (by rw [wsAt_len, List.length_take, recX_len]; omega)
  have hC := app_lay (k := k) h hb hroom hkl
  have hG0 : 0 ≤ gr s.last := (great4_bd h.is 2 398).1
  have hbig := h.big
  by_cases hend : k = secsOf r.length
  · refine ⟨k, ?_⟩
    have e : (s1.crash keep torn).cur = lay s.last (wsAt (2 + totalM W) ((recX (gr s.last + 1) r).take k)) := by
      show (match s1.wr[clampN keep s1.wr.length]? with | some p => _ | none => _) = _
      rw [← hk, List.getElem?_eq_none (by omega)]
      exact hbase
    rw [e]; exact hC
  · obtain ⟨b, hbe⟩ : ∃ b, b = secB (chunkOf (recBody r) k) (gr s.last + 1 + k) := ⟨_, rfl⟩
    have hwk : s1.wr[k]? = some (2 + totalM W + k, b) := by
      rw [e1]
      unfold wsAt
      rw [List.getElem?_map, List.getElem?_zipIdx, recX_at (by omega), ← hbe]
      simp
    have hat : (lay s.last (wsAt (2 + totalM W) ((recX (gr s.last + 1) r).take k))).getD (2 + totalM W + k) [] = s.last.getD (2 + totalM W + k) [] := by
      rw [lay_ws _ (by rw [List.length_take, recX_len, h.len]; omega), if_neg (by rw [List.length_take, recX_len]; omega)]
    obtain ⟨a, hae⟩ : ∃ a, a = s.last.getD (2 + totalM W + k) [] := ⟨_, rfl⟩
    have ham : a ∈ s.last := by
      rw [hae, List.getD_eq_getElem?_getD, List.getElem?_eq_getElem (by rw [h.len]; omega)]
      exact List.getElem_mem _
    have e : (s1.crash keep torn).cur = (lay s.last (wsAt (2 + totalM W) ((recX (gr s.last + 1) r).take k))).set (2 + totalM W + k) (tear a b (clampN torn 64)) := by
      show (match s1.wr[clampN keep s1.wr.length]? with | some p => _ | none => _) = _
      rw [← hk, hwk]
      show (lay s1.last (s1.wr.take k)).set (2 + totalM W + k) (tear ((lay s1.last (s1.wr.take k)).getD (2 + totalM W + k) []) b (clampN torn 64)) = _
      rw [hbase, hat, ← hae]
    obtain ⟨t, ht⟩ : ∃ t, t = clampN torn 64 := ⟨_, rfl⟩
    have ht64 : t ≤ 64 := by rw [ht]; unfold clampN; omega
    rw [e, ← ht]
    have hlen : 2 + totalM W + k < (lay s.last (wsAt (2 + totalM W) ((recX (gr s.last + 1) r).take k))).length := by rw [hC.len]; omega
    have hai := h.is a ham
    have h0 : num4 a 0 < 256 := by have := gr_ge h.len h.is (j := 2 + totalM W + k) (by omega); rw [← hae] at this; omega
    have h60 : num4 a 60 < 256 := by have := h.n60 (2 + totalM W + k) (by omega); rw [← hae] at this; omega
    have hci := chunkOf_is (recBody_is hb.1 hb.2) k
    have hcl := chunk_len (recBody r) k
    have hbb : IsBytes b := by rw [hbe]; exact secB_is hci _
    have hall : AllBytes ((lay s.last (wsAt (2 + totalM W) ((recX (gr s.last + 1) r).take k))).set (2 + totalM W + k) (tear a b t)) := by
      intro y hy
      rcases List.mem_or_eq_of_mem_set hy with h | h
      · exact hC.is y h
      · rw [h]; exact tear_is hai hbb t
    by_cases h61 : 61 ≤ t
    · refine ⟨k + 1, ⟨by rw [List.length_set]; exact hC.len, hall, by omega, ?_, ?_, ?_, ?_⟩⟩
      · intro j hj
        rw [getD_set_ne (by omega)]; exact hC.far j (by omega)
      · intro j hj
        by_cases hj2 : j = k
        · rw [hj2, getD_set_self hlen, hbe, tear_all hai (hl a ham) h60 hcl (by omega) ⟨h61, ht64⟩]
        · rw [getD_set_ne (by omega)]; exact hC.whole j (by omega)
      · intro _
        rw [getD_set_ne (by omega)]; exact hC.far _ (by omega)
      · intro _
        left
        rw [getD_set_ne (by omega)]; exact hC.far _ (by omega)
    · refine ⟨k, ⟨by rw [List.length_set]; exact hC.len, hall, hkl, ?_, ?_, fun e => absurd e hend, ?_⟩⟩
      · intro j hj
        rw [getD_set_ne (by omega)]; exact hC.far j (by omega)
      · intro j hj
        rw [getD_set_ne (by omega)]; exact hC.whole j hj
      · intro _
        rw [getD_set_self hlen, ← hae]
        by_cases ht0 : t = 0
        · left; subst ht0; unfold tear; simp
        · right
          rw [hbe]
          exact tear_part hai h0 hci hcl (by omega) ⟨by omega, by omega⟩
end Go.Proofs.Ytehghjakggdnpaa
