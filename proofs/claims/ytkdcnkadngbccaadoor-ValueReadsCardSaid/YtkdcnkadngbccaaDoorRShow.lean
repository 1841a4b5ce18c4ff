/-
  The document's own Show of a value.
-/
import Derived.Test.YtkdcnkadngbccaaDoorRefS
namespace Go.Proofs.YtkdcnkadngbccaaDoor
open Go.RowKit Go.Lib

/-- what holds at the head of the loop -/
def ShRel (w : World) (l : List Int) (v i : Value) (wr : World) : Prop :=
  ∃ k : Nat, k ≤ l.length ∧ i = .int .i64 k ∧ wr.ownsRow w.heap.size 5 1 v (34 :: qBs (l.take k)).length (cells (34 :: qBs (l.take k))) ∧ Below w.heap.size w wr

theorem ShRel.step {w wr w1 : World} {l : List Int} {k : Nat} {v v' : Value} {n : Nat} {m : List Int} (hk : k < l.length) (hown : wr.ownsRow w.heap.size 5 1 v (34 :: qBs (l.take k)).length (cells (34 :: qBs (l.take k)))) (hb : Below w.heap.size w wr)
    (hm : m = qB (l[k]'hk)) (hn : n = (34 :: qBs (l.take k)).length + m.length)
    (o : Obj) (hown1 : w1.ownsRow w.heap.size 5 1 v' n (cells (34 :: qBs (l.take k)) ++ cells m)) (hgr : (wr.alloc o).grownBy w1 v.ownBlock) :
    ShRel w l v' (.int .i64 ((k : Int) + 1)) w1 := by
  have e1 : l.take (k + 1) = l.take k ++ [l[k]'hk] := by rw [List.take_succ_eq_append_getElem hk]
  have e2 : qBs (l.take (k + 1)) = qBs (l.take k) ++ m := by rw [e1, qBs_append, hm]; simp [qBs]
  refine ⟨k + 1, by omega, by go_num, ?_, ?_⟩
  · rw [e2]
    have e3 : (34 :: (qBs (l.take k) ++ m)).length = n := by rw [hn]; simp; omega
    have e4 : cells (34 :: (qBs (l.take k) ++ m)) = cells (34 :: qBs (l.take k)) ++ cells m := by simp [cells]
    rw [e3, e4]; exact hown1
  · exact (hb.alloc hb.size o).trans (below_own (hown.alloc o) hgr (by have := hb.size; simp; omega))

theorem isPl_cases (c : Int) : (isPl c = true ∧ ¬ c < 32 ∧ ¬ 126 < c ∧ (c == 34) = false ∧ (c == 92) = false) ∨
    (isPl c = false ∧ (c < 32 ∨ (¬ c < 32 ∧ 126 < c) ∨ c = 34 ∨ c = 92)) := by
  by_cases h1 : c < 32
  · exact .inr ⟨by simp [isPl]; omega, .inl h1⟩
  · by_cases h2 : 126 < c
    · exact .inr ⟨by simp [isPl]; omega, .inr (.inl ⟨h1, h2⟩)⟩
    · by_cases h3 : c = 34
      · exact .inr ⟨by simp [isPl, h3], .inr (.inr (.inl h3))⟩
      · by_cases h4 : c = 92
        · exact .inr ⟨by simp [isPl, h4], .inr (.inr (.inr h4))⟩
        · exact .inl ⟨by simp [isPl, h3, h4]; omega, h1, h2, by simp [h3], by simp [h4]⟩

set_option maxRecDepth 100000 in
set_option maxHeartbeats 3200000 in
theorem refShow_any (x : Va) (w : World) (h0 : -9223372036854775808 ≤ x.n) (h1 : x.n ≤ 9223372036854775807) :
    Calls Tryd.prog 19 #[.agg #[.int .i64 x.k, .int .i64 x.n, .string x.s]] w fun e w' => e = .returned (.string (showVa x)) ∧ Below w.heap.size w w' := by
  obtain ⟨k, n, s⟩ := x
  simp only at h0 h1 ⊢
  have hv := VS.new w k n s
  obtain ⟨w1, hw1⟩ : ∃ w1, w1 = w.alloc (.cells #[.int .i64 k, .int .i64 n, .string s] 23) := ⟨_, rfl⟩
  rw [← hw1] at hv
  obtain ⟨c0, c1, c2, hb⟩ := hv
  have HV := Lib.hid (show VS w w.heap.size k n s w1 from ⟨c0, c1, c2, hb⟩)
  have HW := Lib.hid hw1
  clear hw1 hb
  go_enter Tryd.func19, Tryd.ntmps19
  go_wp2_with fail
  rw [← HW.out]
  refine (refRight_any k n s _).mono ?_
  rintro e w2 ⟨rfl, hb2⟩
  obtain ⟨d0, d1, d2, _⟩ := HV.out.below hb2
  have HV2 := Lib.hid (HV.out.below hb2)
  clear c0 c1 c2 hb2
  by_cases hr : rightV k n s = false
  · have HR := Lib.hid (show showVa ⟨k, n, s⟩ = ⟨#[63]⟩ by
      unfold showVa
      by_cases e1 : k = 1
      · subst e1
        have es : s ≠ ⟨#[]⟩ := by
          intro es
          subst es
          simp [rightV] at hr
        simp [es]
      · simp [e1, showV, hr])
    rw [hr]
    go_wp2
    go_ret
    exact ⟨by rw [HR.out]; rfl, HV2.out.2.2.2⟩
  · have hr' : rightV k n s = true := by simpa using hr
    rw [hr']
    have hcs : (k = 0 ∧ n = 0 ∧ s = ⟨#[]⟩) ∨ (k = 1 ∧ s = ⟨#[]⟩) ∨ (k = 2 ∧ n = 0 ∧ s = ⟨#[]⟩) ∨ (k = 2 ∧ n = 1 ∧ s = ⟨#[]⟩) ∨ (k = 3 ∧ n = 0 ∧ s.size ≤ 16) := by
      unfold rightV at hr'
      by_cases e0 : k = 0
      · simp [e0] at hr'; exact .inl ⟨e0, hr'.1, hr'.2⟩
      · by_cases e1 : k = 1
        · simp [e1] at hr'; exact .inr (.inl ⟨e1, hr'⟩)
        · by_cases e2 : k = 2
          · simp [e2] at hr'
            rcases hr'.1 with h | h
            · exact .inr (.inr (.inl ⟨e2, h, hr'.2⟩))
            · exact .inr (.inr (.inr (.inl ⟨e2, h, hr'.2⟩)))
          · by_cases e3 : k = 3
            · simp [e3] at hr'; exact .inr (.inr (.inr (.inr ⟨e3, hr'.1, hr'.2⟩)))
            · simp [e0, e1, e2, e3] at hr'
    rcases hcs with ⟨rfl, rfl, rfl⟩ | ⟨rfl, rfl⟩ | ⟨rfl, rfl, rfl⟩ | ⟨rfl, rfl, rfl⟩ | ⟨rfl, rfl, hs16⟩
    · clear hr hr'
      go_wp2
      go_ret
      exact ⟨rfl, HV2.out.2.2.2⟩
    · clear hr hr'
      go_wp2_with fail
      refine (useShow_any n _ h0 h1).mono ?_
      rintro e w3 ⟨rfl, hb3⟩
      have HB := Lib.hid (HV2.out.2.2.2.trans (hb3.mono HV2.out.2.2.2.size))
      clear hb3
      go_wp2
      go_ret
      exact ⟨by simp [showVa], HB.out⟩
    · clear hr hr'
      go_wp2
      go_ret
      exact ⟨rfl, HV2.out.2.2.2⟩
    · clear hr hr'
      go_wp2
      go_ret
      exact ⟨rfl, HV2.out.2.2.2⟩
    · have HFS := Lib.hid (show showVa ⟨3, 0, s⟩ = mkStr (quoteL (bytes s)) by unfold showVa showV; rw [if_neg (by simp), if_neg hr]; simp)
      clear hr hr' h0 h1
      obtain ⟨i0, hi, hz0, hz1, hz2⟩ := info_parts Tryd.info5
      have hbl := bytes_len s
      have hib := bytes_is s
      have hln : ∀ (ba : Option Addr) (n c : Nat) (w : World), (Builtin.len_ #[41] 3 #[.slice ba n c]).run Tryd.prog w = .ok (goInt n) w := by intros; exact run_len_slice (h := rfl) ..
      obtain ⟨l, hl⟩ : ∃ l, l = bytes s := ⟨_, rfl⟩
      rw [← hl] at hbl hib HFS
      have hlen : l.length ≤ 16 := by omega
      have HS := Lib.hid (And.intro hl (And.intro hbl (And.intro hib hlen)))
      clear hl hbl hib hlen
      go_wp2_with fail
      go_loopw [3, 4] (fun v i wr => ShRel w2 l v i wr) (fun _ i _ => l.length - (Lib.intOf i).toNat)
      case atStart =>
        have hown := World.ownsRow_lit (base := w2.heap.size) (size := 1) (e := 5) w2 #[.int .u8 34] 1 (Nat.le_refl _) (by simp [maxLen]) (by simp)
        exact ⟨0, by omega, rfl, hown, (Below.refl _ w2).alloc (Nat.le_refl _) _⟩
      case round =>
        obtain ⟨j, hj, rfl, hown, hb⟩ := hrel
        have hj0 : (0 : Int) ≤ (j : Int) := Int.natCast_nonneg _
        have HVR := Lib.hid (HV2.out.below hb)
        obtain ⟨f0, f1, f2, _⟩ := HVR.out
        have hsz := hb.size
        have hqk := qBs_len (l.take j)
        rw [List.length_take] at hqk
        have HQ := Lib.hid (And.intro hown (And.intro hb (And.intro (show (34 :: qBs (l.take j)).length ≤ 100 by have := HS.out.2.2.2; simp only [List.length_cons]; omega) (show (qBs (l.take j)).length ≤ 99 by have := HS.out.2.2.2; omega))))
        clear hown hb hqk d0 d1 d2
        by_cases hlt : j < l.length
        · have hlt1 : (j : Int) < (s.size : Int) := by have := HS.out.2.1; omega
          obtain ⟨c, hcl⟩ : ∃ c, c = l[j]'hlt := ⟨_, rfl⟩
          have hcb := HS.out.2.2.1 c (by rw [hcl]; exact List.getElem_mem _)
          have hidx : ∀ w : World, (Instr.index 9 (.string s) (.int .i64 (j : Int))).run Tryd.prog w = .ok (.int .u8 c) w := by
            intro w
            have hjb : j < (bytes s).length := by rw [← HS.out.1]; exact hlt
            have hcc : c = (bytes s)[j]'hjb := by rw [hcl]; simp only [HS.out.1]
            rw [hcc]
            exact str_index s j j rfl hjb w
          have HCL := Lib.hid hcl
          clear hcl
          rcases isPl_cases c with ⟨hpl, p1, p2, p3, p4⟩ | ⟨hpl, hcase⟩
          · have HP := Lib.hid (show [c] = qB c by unfold qB; rw [if_pos hpl])
            clear hpl
            go_wp2_with (at_builtin; (refine wpList_append_own _ rfl (.tmp 59) (.tmp 61) 41 rfl w2.heap.size 5 i0 (.int .u8 0) 1 1 Tryd.underlying41 hi hz0 hz1 hz2 rfl (by decide) _ _ _ rfl (HQ.out.1.alloc _) ⟨wr.heap.size, 0, none⟩ 1 1 [.int .u8 c] rfl rfl (cell_one_new _ _ _) ?c2 ?c3 ?c4 ?c5 ?_))
            case c2 => first | rfl | (intro u hu; simp at hu; subst hu; rfl)
            case c3 => have := HQ.out.2.2.2; simp [maxLen]; omega
            case c4 => have := HQ.out.2.2.2; simp; omega
            case c5 => first | omega | (simp; omega)
            intro v' w5 hown5 hgr5 _
            have hfin := Lib.hid (ShRel.step (m := [c]) hlt HQ.out.1 HQ.out.2.1 (by rw [HP.out, HCL.out]) rfl _ hown5 hgr5)
            clear hown5 hgr5
            go_wp2
            go_roundw
            case rel => exact hfin.out
            case measure => simp [Lib.intOf]; omega
          · have HP := Lib.hid (show [92, hexd (c / 16), hexd (c % 16)] = qB c by unfold qB; rw [hpl]; rfl)
            clear hpl
            have hq0 := idx_hex (c / 16) (by omega) (by omega)
            have hq1 := idx_hex (c % 16) (by omega) (by omega)
            have hw1 : IntKind.u8.wrap (c.tdiv 16) = c / 16 := by rw [Int.tdiv_eq_ediv_of_nonneg hcb.1]; exact IntWalk.u8_in _ (by omega)
            have hw2 : IntKind.u8.wrap (c.tmod 16) = c % 16 := by rw [Int.tmod_eq_emod_of_nonneg hcb.1]; exact IntWalk.u8_in _ (by omega)
            have hw3 : c.tmod 16 = c % 16 := Int.tmod_eq_emod_of_nonneg hcb.1
            have hor : decide (c < 32) = true ∨ (decide (c < 32) = false ∧ decide (126 < c) = true) ∨ (decide (c < 32) = false ∧ decide (126 < c) = false ∧ (c == 34) = true) ∨ (decide (c < 32) = false ∧ decide (126 < c) = false ∧ (c == 34) = false ∧ (c == 92) = true) := by
              simp only [decide_eq_true_eq, decide_eq_false_iff_not, beq_iff_eq, beq_eq_false_iff_ne]; omega
            have HCB := Lib.hid hcb
            clear hcase hcb
            rcases hor with q1 | ⟨q1, q2⟩ | ⟨q1, q2, q3⟩ | ⟨q1, q2, q3, q4⟩
            all_goals
              go_wp2_with fail
              go_region_law (refine step_append_lies _ rfl (.tmp 50) (.tmp 57) 41 rfl w2.heap.size 5 i0 (.int .u8 0) 1 1 Tryd.underlying41 hi hz0 hz1 hz2 rfl (by decide) _ _ _ (by rfl) (by exact HQ.out.1.alloc _) ⟨wr.heap.size, 0, none⟩ 3 3 [.int .u8 92, .int .u8 (hexd (c / 16)), .int .u8 (hexd (c % 16))] (by rfl) rfl (by exact World.news_of_block (Go.heap_alloc_new _ _)) (by intro u hu; simp at hu; rcases hu with rfl | rfl | rfl <;> rfl) (by decide) (by have := HQ.out.2.2.2; simp [maxLen]; omega) (by have := HQ.out.2.2.2; simp; omega) (by simp; omega) _ rfl ?_; intro g1 cap1 w5 hown5 hgr5 _ _)
              all_goals
                have hfin := Lib.hid (ShRel.step (m := [92, hexd (c / 16), hexd (c % 16)]) hlt HQ.out.1 HQ.out.2.1 (by rw [HP.out, HCL.out]) rfl _ hown5 ⟨hgr5.os, hgr5.tape, hgr5.output, hgr5.size, hgr5.block⟩)
                clear hown5 hgr5
                go_wp2
                go_roundw
                case rel => exact hfin.out
                case measure => simp [Lib.intOf]; omega
        · have hlt1 : ¬ (j : Int) < (s.size : Int) := by have := HS.out.2.1; omega
          have hkk : j = l.length := by omega
          subst hkk
          have hown := HQ.out.1
          rw [List.take_length] at hown
          have HO := Lib.hid hown
          have hq99 : (qBs l).length ≤ 99 := by have := HQ.out.2.2.2; rwa [List.take_length] at this
          clear hown
          go_wp2_with (at_builtin; (refine wpList_append_own _ rfl (.tmp 63) (.tmp 64) 41 rfl w2.heap.size 5 i0 (.int .u8 0) 1 1 Tryd.underlying41 hi hz0 hz1 hz2 rfl (by decide) _ _ _ rfl (HO.out.alloc _) ⟨wr.heap.size, 0, none⟩ 1 1 [.int .u8 34] rfl rfl (cell_one_new _ _ _) ?d2 ?d3 ?d4 ?d5 ?_))
          case d2 => first | rfl | (intro u hu; simp at hu; subst hu; rfl)
          case d3 => first | omega | (simp [maxLen]; omega)
          case d4 => first | omega | (simp; omega)
          case d5 => first | omega | (simp; omega)
          intro v' w5 hown5 hgr5 _
          have hown6 : w5.ownsRow w2.heap.size 5 1 v' (quoteL l).length (cells (quoteL l)) := by
            have e1 : (quoteL l).length = (34 :: qBs l).length + 1 := by simp [quoteL]
            have e2 : cells (quoteL l) = cells (34 :: qBs l) ++ [.int .u8 34] := by simp [quoteL, cells]
            rw [e1, e2]; exact hown5
          obtain ⟨A2, cc, rfl, _, _⟩ := own_shape hown6
          have hst := run_strw (P := Tryd.prog) w5 41 9 5 A2 (quoteL l).length cc _ (quoteL l) Tryd.underlying41 Tryd.underlying5 Tryd.underlying9 (Rd.of_own hown6)
          have HB := Lib.hid (HV2.out.2.2.2.trans (((HQ.out.2.1.alloc hsz _).trans (below_own (HO.out.alloc _) hgr5 (by simp; omega))).mono HV2.out.2.2.2.size))
          clear hown5 hown6 hgr5
          go_wp2
          go_ret
          exact ⟨by rw [HFS.out]; rfl, HB.out⟩
end Go.Proofs.YtkdcnkadngbccaaDoor
