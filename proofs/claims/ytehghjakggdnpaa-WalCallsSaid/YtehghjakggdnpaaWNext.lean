/-
  The contract of nextRecord.
-/
import Derived.Test.YtehghjakggdnpaaWLead
import Derived.Test.YtehghjakggdnpaaWRecM
namespace Go.Proofs.Ytehghjakggdnpaa
open Go.RowKit Go.Lib

theorem bodyM_len {C : List (List Int)} (hC : ∀ b ∈ C, b.length = 64) {k : Nat} : ∀ m, k + m ≤ C.length → (bodyM C k m).length = 56 * m := by
  intro m
  induction m with
  | zero => intro _; rfl
  | succ m ih =>
    intro h
    have h1 : (C.getD (k + m) []).length = 64 := by
      rw [List.getD_eq_getElem?_getD, List.getElem?_eq_getElem (by omega)]
      exact hC _ (List.getElem_mem _)
    simp only [bodyM, List.length_append, ih (by omega), List.length_take, List.length_drop, h1]
    omega
theorem stampsM_no {C : List (List Int)} {k i : Nat} {first : Int} (h : stampedB (C.getD (k + i) []) (first + i) = false) : ∀ m, i < m → stampsM C k first m = false := by
  intro m
  induction m with
  | zero => intro h; omega
  | succ m ih =>
    intro hi
    simp only [stampsM]
    by_cases e : i = m
    · subst e; rw [h, Bool.and_false]
    · rw [ih (by omega), Bool.false_and]
theorem lenAt_bd {b : List Int} (h : IsBytes b) : lenAt b ≤ 65535 := by
  have h4 := h.at_ 4
  have h5 := h.at_ 5
  unfold lenAt
  omega
theorem lenAt_or {b : List Int} (h : IsBytes b) : bits .or .i64 (b.getD 4 0) (b.getD 5 0 * 256) = ((lenAt b : Nat) : Int) := by
  rw [or8 (h.at_ 4) (h.at_ 5)]
  have h4 := h.at_ 4
  have h5 := h.at_ 5
  unfold lenAt
  omega

theorem room_r {w : World} {g l : Nat} {F : Nat → Prop} {s : DS} {gen area next : Int} {u : Nat} (rm : Nat) (h : DiskAt w g F s) (hl : LogAt w l g gen area u next) (h2 : 2 ≤ s.last.length) (hu : u + rm = s.half) :
    Calls Try.prog 28 #[.pointer (some ⟨l, 0, none⟩)] w (Quiet (.int .i64 (rm : Int)) w) := by
  have hle := h.ok.le
  have h1 := room_any h hl h2 ⟨by omega, by unfold DS.half at hu; omega⟩
  rwa [show (s.half : Int) - (u : Int) = (rm : Int) by omega] at h1

/-- what nextRecord answers -/
def NextRet (o : Option (List Int × Int)) (w : World) (e : Ending) (w' : World) : Prop :=
  Below w.heap.size w w' ∧ match o with
    | none => e = .returned (.tuple #[.slice none 0 0, .int .i64 0, .bool false])
    | some (r, first) => ∃ A c, e = .returned (.tuple #[.slice A r.length c, .int .i64 first, .bool true]) ∧ Rd w' w'.heap.size A r.length (cells r) ∧ r.length ≤ c ∧ c ≤ maxLen ∧ ∀ ad, A = some ad → w.heap.size ≤ ad.block

def NxRel (w : World) (C : List (List Int)) (k : Nat) (first : Int) (need : Nat) (v i : Value) (wr : World) : Prop :=
  ∃ j : Nat, j ≤ need ∧ i = .int .i64 j ∧ wr.ownsRow w.heap.size 5 1 v (56 * j) (cells (bodyM C k j)) ∧ stampsM C k first j = true ∧ Below w.heap.size w wr

set_option maxRecDepth 100000 in
set_option maxHeartbeats 3200000 in
theorem next_any {w : World} {g l : Nat} {F : Nat → Prop} {s : DS} {gen area next : Int} {u : Nat} (h : DiskAt w g F s) (hl : LogAt w l g gen area u next) (hb : AllBytes s.cur) (h2 : 2 ≤ s.last.length) (ha : area = 0 ∨ area = 1) (hu : u < s.half) (least : Int) :
    Calls Try.prog 68 #[.pointer (some ⟨l, 0, none⟩), .int .i64 least] w (NextRet (nextRec s.cur (2 + area.toNat * s.half + u) (s.half - u) least) w) := by
  obtain ⟨c0, c1, c2, c3, c4⟩ := hl.c
  have hlt := hl.lt
  have hlen := h.ok.le
  have hhl : 2 + 2 * s.half ≤ s.last.length := by unfold DS.half; omega
  have hh := h.half_le
  obtain ⟨st, hst⟩ : ∃ st : Nat, st = 2 + area.toNat * s.half := ⟨_, rfl⟩
  have hsi : 2 + area * (s.half : Int) = (st : Int) := by
    rcases ha with rfl | rfl
    · simp at hst ⊢; omega
    · simp at hst ⊢; omega
  have hstb : st + s.half ≤ s.last.length := by rcases ha with rfl | rfl <;> simp at hst <;> omega
  rw [← hst]
  have hcl : ∀ b ∈ s.cur, b.length = 64 := lay_all h.ok.len (fun p hp => (h.ok.wlen p hp).2)
  have hk : st + u < s.last.length := by omega
  obtain ⟨k, hke⟩ : ∃ k, k = st + u := ⟨_, rfl⟩
  have hkr : k + (s.half - u) ≤ s.last.length := by omega
  rw [← hke]
  obtain ⟨rm, hrm⟩ : ∃ rm, rm = s.half - u := ⟨_, rfl⟩
  rw [← hrm] at hkr ⊢
  have HRM := Lib.hid (show u + rm = s.half by omega)
  have HS := Lib.hid (show ∀ k0, Calls Try.prog 47 #[.pointer (some ⟨l, 0, none⟩), .int .i64 area] (w.drewN k0) fun e w' => e = .returned (.int .i64 (st : Int)) ∧ ∃ m, w' = w.drewN m from fun k0 => (start_any (w := w.drewN k0) h hl h2 area ha).mono fun e w' ⟨h1, h2⟩ => ⟨by rw [h1, hsi], k0, h2.symm⟩)
  have hB := hb.at_ k
  obtain ⟨b, hbe⟩ : ∃ b, b = s.cur.getD k [] := ⟨_, rfl⟩
  have H := Lib.hid (And.intro h (And.intro hl (And.intro hb (And.intro hcl hbe))))
  have hx := num4_bd hB 0
  have hL := lenAt_bd hB
  have hor := lenAt_or hB
  have hb4 := hB.at_ 4
  have hb5 := hB.at_ 5
  have hM : nextRec s.cur k rm least = (if num4 b 0 < least ∨ 4096 < lenAt b ∨ rm < secsOf (lenAt b) then none
    else if stampsM s.cur k (num4 b 0) (secsOf (lenAt b)) then some (((bodyM s.cur k (secsOf (lenAt b))).drop 2).take (lenAt b), num4 b 0) else none) := by rw [hbe]; rfl
  obtain ⟨o, ho⟩ : ∃ o, o = nextRec s.cur k rm least := ⟨_, rfl⟩
  rw [← ho]
  rw [← ho] at hM
  clear ho
  rw [← hbe] at hB hx hL hor hb4 hb5
  obtain ⟨x, hxe⟩ : ∃ x, x = num4 b 0 := ⟨_, rfl⟩
  obtain ⟨L, hLe⟩ : ∃ L, L = lenAt b := ⟨_, rfl⟩
  obtain ⟨x4, h4e⟩ : ∃ x4, x4 = b.getD 4 0 := ⟨_, rfl⟩
  obtain ⟨x5, h5e⟩ : ∃ x5, x5 = b.getD 5 0 := ⟨_, rfl⟩
  rw [← hxe] at hx hM
  rw [← hLe] at hL hor hM
  rw [← h4e] at hb4 hor
  rw [← h5e] at hb5 hor
  obtain ⟨need, hne⟩ : ∃ need, need = secsOf L := ⟨_, rfl⟩
  rw [← hne] at hM
  have HM := Lib.hid hM
  have hneb : 1 ≤ need ∧ need ≤ 1172 ∧ 2 + L ≤ 56 * need := by rw [hne]; unfold secsOf; omega
  have HE := Lib.hid (And.intro hxe (And.intro h4e (And.intro h5e (And.intro hne hB))))
  have HB := Lib.hid hB
  clear hM h hl hb hcl hbe hxe hLe h4e h5e hne hB hsi hst
  have hkI : (st : Int) + (u : Int) = (k : Int) := by omega
  clear hke hrm
  go_enter Try.func68, Try.ntmps68
  go_wp2_with fail
  go_quiet (first | (go_at_call 47; exact HS.out _))
  go_wp2_with (first | (go_at_call 57; refine (readw_any (w := w.drewN nq) H.out.1 (k : Int) (by omega)).mono ?_; rw [show s.cur.getD (k : Int).toNat [] = b from H.out.2.2.2.2.symm]; rintro e w1 ⟨q, rfl, hr, hl1⟩; have H1 := Lib.hid (And.intro hr hl1); clear hr hl1) | (go_at_call 56; refine (number_any _ 64 64 b w1 _ H1.out.1 HB.out (by omega)).mono ?_; rw [show num4 b 0 = x from HE.out.1.symm]; rintro e w2 ⟨rfl, p, rfl⟩))
  have hl1 : Below w.heap.size w w1 := ⟨H1.out.2.os, H1.out.2.tape, H1.out.2.output, H1.out.2.size, H1.out.2.block⟩
  have hd1 := H.out.1.below hl1
  have hlg1 := H.out.2.1.below hl1
  obtain ⟨ad, ea, e4⟩ := H1.out.1.cellAt (k := 4) (by omega)
  obtain rfl := Option.some.inj ea
  obtain ⟨ad, ea5, e5⟩ := H1.out.1.cellAt (k := 5) (by omega)
  obtain rfl := Option.some.inj ea5
  rw [addr_pos, ← HE.out.2.1] at e4
  rw [addr_pos, ← HE.out.2.2.1] at e5
  simp only [Nat.zero_add] at e4 e5
  have HD1 := Lib.hid (And.intro hd1 (And.intro hlg1 hl1))
  obtain ⟨d0, d1, d2, d3, d4⟩ := hlg1.c
  clear c0 c1 c2 c3 c4 hd1 hlg1 hl1 ea ea5
  go_quiet (fail)
  go_wp2_with fail
  refine (sectorsOf_any L (by omega) _).mono ?_
  rw [show (L + 57) / 56 = need from HE.out.2.2.2.1.symm]
  rintro e w2 ⟨rfl, rfl⟩
  by_cases g1 : x < least
  · have ho : o = none := by rw [HM.out, if_pos (.inl g1)]
    subst ho
    go_wp2
    go_ret3
    exact ⟨bdr HD1.out.2.2 _, rfl⟩
  by_cases g2 : 4096 < L
  · have ho : o = none := by rw [HM.out, if_pos (.inr (.inl g2))]
    subst ho
    have g2i : (4096 : Int) < (L : Int) := by omega
    go_wp2
    go_ret3
    exact ⟨bdr HD1.out.2.2 _, rfl⟩
  have g2i : ¬ ((4096 : Int) < (L : Int)) := by omega
  go_wp2_with fail
  refine (room_r rm (h := by exact HD1.out.1) (hl := by exact HD1.out.2.1) h2 HRM.out).mono ?_
  rintro e w3 ⟨rfl, p3, rfl⟩
  by_cases g3 : rm < need
  · have ho : o = none := by rw [HM.out, if_pos (.inr (.inr g3))]
    subst ho
    have g3i : (rm : Int) < (need : Int) := by omega
    go_wp2
    go_ret3
    exact ⟨bdr HD1.out.2.2 _, rfl⟩
  have g3i : ¬ ((rm : Int) < (need : Int)) := by omega
  have HM2 := Lib.hid (HM.out.trans (if_neg (by omega)))
  have hneed : k + need ≤ s.last.length := by omega
  clear HM e4 e5 d0 d1 d2 d3 d4 hor hb4 hb5
  obtain ⟨i0, hi, hz0, hz1, hz2⟩ := info_parts Try.dkinfo5
  have HI := Lib.hid (And.intro hi (And.intro hz0 (And.intro hz1 hz2)))
  clear hi hz0 hz1 hz2
  go_wp2_with fail
  go_loopw [12, 60] (fun v i wr => NxRel w s.cur k x need v i wr) (fun _ i _ => need - (intOf i).toNat)
  case atStart => exact ⟨0, by omega, rfl, ⟨rfl, .inl ⟨rfl, rfl⟩⟩, rfl, bdr HD1.out.2.2 _⟩
  case round =>
    obtain ⟨j, hj, rfl, hown, hst, hbel⟩ := hrel
    obtain ⟨A, c, rfl, hnc, hcm⟩ := own_shape hown
    have hdw := H.out.1.below hbel
    have hlw := H.out.2.1.below hbel
    obtain ⟨d0, d1, d2, d3, d4⟩ := hlw.c
    by_cases hjn : j < need
    · have hji : (j : Int) < (need : Int) := by omega
      have hkj : ((k : Int) + (j : Int)).toNat = k + j := by omega
      have hbj := H.out.2.2.1.at_ (k + j)
      have hlj : (s.cur.getD (k + j) []).length = 64 := by
        rw [List.getD_eq_getElem?_getD, List.getElem?_eq_getElem (by rw [cur_len]; omega)]
        exact H.out.2.2.2.1 _ (List.getElem_mem _)
      obtain ⟨bj, hbje⟩ : ∃ bj, bj = s.cur.getD (k + j) [] := ⟨_, rfl⟩
      rw [← hbje] at hbj hlj
      have HW := Lib.hid (And.intro hown (And.intro hst (And.intro hbel (And.intro hdw (And.intro hbj (And.intro hlj hbje))))))
      clear hown hst hbel hdw hlw hbj hlj hbje
      go_wp2_with fail
      refine (readw_any HW.out.2.2.2.1 ((k : Int) + (j : Int)) (by omega)).mono ?_
      rw [hkj, ← HW.out.2.2.2.2.2.2]
      rintro e w4 ⟨q4, rfl, hr4, hl4⟩
      have H4 := Lib.hid (And.intro hr4 hl4)
      clear hr4 hl4
      go_wp2_with fail
      refine (isStamped_any _ 64 bj (x + (j : Int)) w4 H4.out.1 (by omega) HW.out.2.2.2.2.1).mono ?_
      rintro e w5 ⟨rfl, p5, rfl⟩
      cases hsb : stampedB bj (x + (j : Int)) with
      | false =>
        have ho : o = none := by
          rw [HM2.out, if_neg]
          rw [stampsM_no (i := j) (by rw [← HW.out.2.2.2.2.2.2]; exact hsb) need hjn]
          simp
        subst ho
        go_wp2
        go_ret3
        exact ⟨bdr (HW.out.2.2.1.trans (H4.out.2.mono HW.out.2.2.1.size)) _, rfl⟩
      | true =>
        have hown4 := own_below HW.out.1 H4.out.2 (Nat.le_refl _)
        have hr46 : Rd w4 w4.heap.size (some ⟨q4, 4, none⟩) 56 (cells ((bj.drop 4).take 56)) := by
          have h1 := (H4.out.1.cutl (k := 4) (cap := 64) (by omega) (by omega)).cuth (k := 56) (by omega)
          rw [if_neg (by omega)] at h1
          rw [show ((cells bj).drop 4).take 56 = cells ((bj.drop 4).take 56) by simp [cells, List.map_take, List.map_drop]] at h1
          exact h1
        have hsz4 : w.heap.size ≤ w4.heap.size := Nat.le_trans HW.out.2.2.1.size H4.out.2.size
        go_wp2_with (at_builtin; refine wpList_append_rd _ rfl (.tmp 77) (.tmp 79) 38 rfl w.heap.size 5 i0 (.int .u8 0) 1 Try.underlying38 HI.out.1 HI.out.2.1 HI.out.2.2.1 HI.out.2.2.2 rfl _ _ _ rfl (by exact hown4) w4.heap.size (some ⟨q4, 4, none⟩) 56 60 _ rfl (by exact hr46) (cells_one _) ?e3 ?e4 ?e5 ?_)
        case e3 => unfold maxLen; omega
        case e4 => omega
        case e5 => exact hsz4
        intro v6 w6 ho6 hg6
        have HF : Hid (NxRel w s.cur k x need v6 (.int .i64 ((j : Int) + 1)) w6) := Lib.hid ⟨j + 1, by omega, by go_num, by
          have e1 : 56 * j + 56 = 56 * (j + 1) := by omega
          have e2 : cells (bodyM s.cur k j) ++ cells ((bj.drop 4).take 56) = cells (bodyM s.cur k (j + 1)) := by rw [← cells_append, HW.out.2.2.2.2.2.2]; rfl
          rw [← e1, ← e2]; exact ho6, by simp only [stampsM]; rw [HW.out.2.1, Bool.true_and, ← HW.out.2.2.2.2.2.2]; exact hsb, by
          exact (bdr (HW.out.2.2.1.trans (H4.out.2.mono HW.out.2.2.1.size)) p5).trans (below_own (w := w4.drewN p5) hown4 hg6 hsz4)⟩
        clear ho6 hg6 hown4 hr46
        go_wp2
        go_roundw
        case rel => exact HF.out
        case measure => simp [intOf]; omega
    · obtain rfl : j = need := by omega
      obtain ⟨gb, cap, hv, hgb0, hgb⟩ := hown.form (by omega)
      obtain ⟨rfl, rfl⟩ : A = some ⟨gb, 0, none⟩ ∧ c = cap := by injection hv with h1 h2 h3; exact ⟨h1, h3⟩
      have ho : o = some (((bodyM s.cur k j).drop 2).take L, x) := by rw [HM2.out, if_pos hst]
      have hbl : (bodyM s.cur k j).length = 56 * j := bodyM_len H.out.2.2.2.1 j (by rw [cur_len]; omega)
      have hrl : (((bodyM s.cur k j).drop 2).take L).length = L := by rw [List.length_take, List.length_drop, hbl]; omega
      have hrr : Rd wr wr.heap.size (some ⟨gb, 2, none⟩) L (cells (((bodyM s.cur k j).drop 2).take L)) := by
        have h1 := ((Rd.own hown).cutl (k := 2) (cap := c) (by omega) hnc).cuth (k := L) (by omega)
        rw [if_neg (by omega)] at h1
        rw [show ((cells (bodyM s.cur k j)).drop 2).take L = cells (((bodyM s.cur k j).drop 2).take L) by simp [cells, List.map_take, List.map_drop]] at h1
        exact h1
      subst ho
      have HF := Lib.hid (And.intro hrr hbel)
      have HRL := Lib.hid hrl
      clear hrr hbel hown hst hdw hlw hrl hbl hv
      have hm : c ≤ 9223372036854775807 := hcm
      go_wp2
      go_ret3
      have e2 : (((bodyM s.cur k j).drop 2).take L).length = 2 + L - 2 := by rw [HRL.out]; omega
      refine ⟨HF.out.2, some ⟨gb, 2, none⟩, c - 2, ?_, ?_, ?_, Nat.le_trans (Nat.sub_le _ _) hcm, fun ad e => by cases e; exact hgb0⟩
      · rw [e2]; rfl
      · rw [HRL.out]; exact HF.out.1
      · rw [HRL.out]; omega
end Go.Proofs.Ytehghjakggdnpaa
