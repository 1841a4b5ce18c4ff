/-
  The contract of the document's own reader (layer 1), last: Texts.
-/
import Derived.Test.YtokpealeohoagaaRefRead2
namespace Go.Proofs.Ytokpealeohoagaa
open Go.RowKit Go.Lib

/-- each text takes a byte at least -/
theorem rText_len {l l1 t : List Int} (h : rText (some l) = (t, some l1)) (hb : IsBytes l) : l1.length < l.length := by
  unfold rText at h
  cases hn : num l with
  | none => rw [rInt_none hn] at h; simp at h
  | some p =>
    obtain ⟨u, k⟩ := p
    rw [rInt_some hn] at h
    simp only at h
    have hi := num_inv hb hn
    split at h
    · simp at h
    · simp only [Prod.mk.injEq, Option.some.injEq] at h
      rw [← h.2, List.length_drop, List.length_drop]
      omega
theorem rText_bytes {l l1 t : List Int} (h : rText (some l) = (t, some l1)) (hb : IsBytes l) : IsBytes l1 := by
  unfold rText at h
  cases hn : num l with
  | none => rw [rInt_none hn] at h; simp at h
  | some p =>
    obtain ⟨u, k⟩ := p
    rw [rInt_some hn] at h
    simp only at h
    split at h
    · simp at h
    · simp only [Prod.mk.injEq, Option.some.injEq] at h
      rw [← h.2]
      exact (hb.drop _).drop _
theorem rTextsN_len (k : Nat) : ∀ (l l1 : List Int) (ts : List (List Int)), IsBytes l → rTextsN k (some l) = (ts, some l1) → k ≤ l.length := by
  induction k with
  | zero => intro l l1 ts _ _; omega
  | succ j ih =>
    intro l l1 ts hb h
    rw [rTextsN] at h
    cases hr : rText (some l) with
    | mk t s1 =>
      rw [hr] at h
      cases s1 with
      | none => simp at h
      | some l2 =>
        simp only at h
        cases hq : rTextsN j (some l2) with
        | mk ts2 s2 =>
          rw [hq] at h
          cases s2 with
          | none => simp at h
          | some l3 =>
            have h1 := ih l2 l3 ts2 (rText_bytes hr hb) hq
            have h2 := rText_len hr hb
            omega
theorem rTextsN_far {k : Nat} {l : List Int} (hb : IsBytes l) (h : l.length < k) : rTextsN k (some l) = ([], none) := by
  cases hq : rTextsN k (some l) with
  | mk ts s =>
    cases s with
    | none => rw [rTextsN_nil k _ ts hq]
    | some l1 => have := rTextsN_len k l l1 ts hb hq; omega

/-- Texts, told by the number ahead of it -/
def tsOf (n : Int) : St → List (List Int) × St
  | none => ([], none)
  | some l1 => if n < 0 ∨ (l1.length : Int) < n then ([], none) else rTextsN n.toNat (some l1)
theorem rTexts_int (s : St) (hs : ∀ l, s = some l → IsBytes l) {n : Int} {s1 : St} (h : rInt s = (n, s1)) : rTexts s = tsOf n s1 := by
  unfold rTexts rCount tsOf
  rw [h]
  cases s1 with
  | none =>
    by_cases hc : n < 0 ∨ (left s : Int) < n
    · simp only
      rw [if_pos hc]
    · simp only
      rw [if_neg hc]
  | some l1 =>
    have hl := rInt_len h
    have hb1 : IsBytes l1 := by
      cases s with
      | none => simp [rInt] at h
      | some l =>
        cases hn : num l with
        | none => rw [rInt_none hn] at h; simp at h
        | some p =>
          obtain ⟨u, k⟩ := p
          rw [rInt_some hn] at h
          simp only [Prod.mk.injEq, Option.some.injEq] at h
          rw [← h.2]
          exact (hs l rfl).drop k
    simp only
    by_cases hc : n < 0 ∨ (left s : Int) < n
    · rw [if_pos hc, if_pos (by omega)]
    · rw [if_neg hc]
      simp only
      by_cases hd : n < 0 ∨ (l1.length : Int) < n
      · rw [if_pos hd, rTextsN_far hb1 (by omega)]
      · rw [if_neg hd]

/-- what holds at the head of the loop: all went well so far, or something was wrong -/
def RtRel (m : Nat) (s0 : St) (g : Nat) (w : World) (v i : Value) (wr : World) : Prop :=
  ∃ (k : Nat) (xs : List ByteArray), k ≤ m ∧ i = .int .i64 k ∧ xs.length = k ∧ wr.ownsRow w.heap.size 9 1 v k (strs xs) ∧ w.grownBy wr (some g) ∧
    ((∃ (done : List (List Int)) (l : List Int), xs = done.map mkStr ∧ RR wr g (some l) ∧
      rTextsN m s0 = match rTextsN (m - k) (some l) with
        | (_, none) => ([], none)
        | (ts, some l') => (done ++ ts, some l')) ∨ (RR wr g none ∧ rTextsN m s0 = ([], none)))

set_option maxRecDepth 100000 in
set_option maxHeartbeats 3200000 in
theorem reftexts_any (g : Nat) (s : St) (w : World) (h : RR w g s) :
    Calls Try.prog 27 #[.pointer (some ⟨g, 0, none⟩)] w (TsRet g (rTexts s).1 RR (rTexts s).2 w) := by
  obtain ⟨i0, hi, hz0, hz1, hz2⟩ := info_parts Try.info9
  have hglt := h.lt
  have hbd := rint_bd s h.bytes
  have hcall := refint_any g s w h
  have hbad : ∀ n, rInt s = (n, none) → n = 0 := fun n => rInt_bad
  have hdef : ∀ n s1, rInt s = (n, s1) → rTexts s = tsOf n s1 := fun n s1 => rTexts_int s h.bytes
  generalize rInt s = p at hbd hcall hdef hbad
  obtain ⟨n, s1⟩ := p
  have hdef := hdef n s1 rfl
  simp only at hbd hcall
  obtain ⟨hbd1, hbd2⟩ := hbd
  have HC := Lib.hid hcall
  clear hcall h
  cases s1 with
  | none =>
    obtain rfl := hbad n rfl
    have HD := Lib.hid (show rTexts s = ([], none) from hdef)
    clear hdef hbad
    go_enter Try.func27, Try.ntmps27
    go_wp2_with (go_at_call 20; refine HC.out.mono ?_; rintro e w1 ⟨rfl, h5, h6⟩; obtain ⟨A1, n1, c1, l1, _, d0, d1, e0, e1, H1, _⟩ := h5.open_)
    go_ret
    rw [HD.out]
    exact ⟨_, rfl, World.ownsRow_nil _ _ _ _, H1, h6.trans (grown_set _ _ _ _)⟩
  | some l0 =>
    clear hbad
    simp only [tsOf] at hdef
    rcases (show (n < 0 ∨ (0 ≤ n ∧ (l0.length : Int) < n)) ∨ (0 ≤ n ∧ n ≤ l0.length) by omega) with hc | ⟨h1, h2⟩
    · have HD := Lib.hid (show rTexts s = ([], none) by rw [hdef, if_pos (by omega)])
      clear hdef
      rcases hc with h1 | ⟨h1, h2⟩
      all_goals
        go_enter Try.func27, Try.ntmps27
        go_wp2_with (go_at_call 20; refine HC.out.mono ?_; rintro e w1 ⟨rfl, h5, h6⟩; obtain ⟨A1, n1, c1, l1, _, d0, d1, e0, e1, H1, _, _, _, _, _, hl1, hlen1⟩ := h5.open_; have hll := hl1 l0 rfl; subst hll; subst hlen1; clear hl1)
        go_ret
        rw [HD.out]
        exact ⟨_, rfl, World.ownsRow_nil _ _ _ _, H1, h6.trans (grown_set _ _ _ _)⟩
    · obtain ⟨m, rfl⟩ : ∃ m : Nat, n = (m : Int) := ⟨n.toNat, by omega⟩
      have hml : m ≤ l0.length := by omega
      have HD := Lib.hid (show rTexts s = rTextsN m (some l0) by rw [hdef, if_neg (by omega)]; rfl)
      clear hdef
      have hm0 : decide ((m : Int) < 0) = false := by simp
      have hm1 : decide (l0.length < m) = false := by simp; omega
      go_enter Try.func27, Try.ntmps27
      go_wp2_with (go_at_call 20; refine HC.out.mono ?_; rintro e w1 ⟨rfl, h5, h6⟩; have H5 := Lib.hid h5; obtain ⟨A1, n1, c1, l1, hblk1, d0, d1, e0, e1, H1, hnc1, hcm1, hn1, hr1, hb1, hl1, hlen1⟩ := h5.open_; have hll := hl1 l0 rfl; subst hll; subst hlen1; clear hl1 hr1 hblk1 hb1 H1)
      have hz1' := h6.size
      have HO := Lib.hid (show (w1.alloc (.cells #[] 9)).ownsRow w.heap.size 9 1 (.slice (some ⟨w1.heap.size, 0, none⟩) 0 0) 0 (strs []) from
        World.ownsRow_lit w1 #[] 0 hz1' (by simp [maxLen]) (by simp))
      have HR1 := Lib.hid (H5.out.below ((Below.refl w1.heap.size w1).alloc (Nat.le_refl _) (.cells #[] 9)) H5.out.lt)
      clear d0 d1 e0 e1
      go_loopw [4, 5] (fun v i wr => RtRel m (some l1) g w v i wr) (fun _ i _ => m - (intOf i).toNat)
      case atStart => exact ⟨0, [], by omega, rfl, rfl, HO.out, h6.trans (World.grownBy_alloc w1 _ _), .inl ⟨[], l1, rfl, HR1.out, ts_start m l1⟩⟩
      case round =>
        clear HO HR1 h6 hz1'
        obtain ⟨k, xs, hk, rfl, hxl, hown, hgr, hcase⟩ := hrel
        have hz := hgr.size
        by_cases hlt : k < m
        · have hne := own_ne hown hglt
          -- the state, the next one, and that the relation goes on
          obtain ⟨sk, hbr, hnext⟩ : ∃ sk : St, RR wr g sk ∧ ∀ w4, w.grownBy w4 (some g) → RR w4 g (rText sk).2 → ∀ v', w4.ownsRow w.heap.size 9 1 v' (k + 1) (strs xs ++ [.string (mkStr (rText sk).1)]) → RtRel m (some l1) g w v' (.int .i64 ((k : Int) + 1)) w4 := by
            rcases hcase with ⟨done, l, rfl, hbr, heq⟩ | ⟨hbr, heq⟩
            · refine ⟨some l, hbr, ?_⟩
              cases hrt : rText (some l) with
              | mk t s1 =>
                intro w4 hg4 hr4 v' ho4
                cases s1 with
                | none => exact ⟨k + 1, done.map mkStr ++ [mkStr t], by omega, by go_num, by simp [hxl], by simpa [strs] using ho4, hg4, .inr ⟨hr4, ts_bad hlt hrt heq⟩⟩
                | some l2 => exact ⟨k + 1, done.map mkStr ++ [mkStr t], by omega, by go_num, by simp [hxl], by simpa [strs] using ho4, hg4, .inl ⟨done ++ [t], l2, by simp, hr4, ts_next hlt hrt heq⟩⟩
            · exact ⟨none, hbr, fun w4 hg4 hr4 v' ho4 => ⟨k + 1, xs ++ [mkStr (rText none).1], by omega, by go_num, by simp [hxl], by simpa [strs] using ho4, hg4, .inr ⟨hr4, heq⟩⟩⟩
          have HN := Lib.hid hnext
          clear hnext hcase
          generalize hq : rText sk = q at HN
          have HQ := Lib.hid hq
          clear hq
          obtain ⟨t, s2⟩ := q
          go_wp2_with (first | (go_at_call 22; refine (reftext_any g _ _ hbr).mono ?_; rw [HQ.out]; rintro e w3 ⟨rfl, h7, h8⟩; have H7 := Lib.hid h7; clear h7; have hown3 := hown.kept h8 hne; have hz3 := h8.size) | (at_builtin; refine wpList_append_own _ rfl (.tmp 34) (.tmp 37) 22 rfl w.heap.size 9 i0 (.string ⟨#[]⟩) 1 16 Try.underlying22 hi hz0 hz1 hz2 rfl (by decide) _ _ _ rfl (hown3.alloc _) ⟨w3.heap.size, 0, none⟩ 1 1 [.string (mkStr t)] rfl rfl (cell_one_new _ _ _) ?c2 ?c3 ?c4 ?c5 ?_))
          case c2 => intro u hu; simp at hu; subst hu; rfl
          case c3 => simp [maxLen]; omega
          case c4 => omega
          case c5 => simp; omega
          intro v' w4 hown4 hgrow _
          have hg4 := grown_own ((hgr.trans h8).trans (World.grownBy_alloc w3 (.cells #[.string (mkStr t)] 9) (some g))) (hown3.alloc (.cells #[.string (mkStr t)] 9)) hgrow
          have hbel4 := below_own (hown3.alloc (.cells #[.string (mkStr t)] 9)) hgrow (by simp; omega)
          have hfin := HN.out w4 hg4 ((H7.out.below ((Below.refl w.heap.size w3).alloc (by omega) _) hglt).below hbel4 hglt) v' hown4
          have HF := Lib.hid hfin
          clear hfin hown4 hgrow hown3 hown hne hg4 hbel4
          go_wp2
          go_roundw
          case rel => exact HF.out
          case measure => simp [intOf]; omega
        · have hkm : k = m := by omega
          subst hkm
          rcases hcase with ⟨done, l, rfl, hbr, heq⟩ | ⟨hbr, heq⟩
          · have HE := Lib.hid (ts_end heq)
            clear heq
            have HBR := Lib.hid hbr
            have HOW := Lib.hid (show wr.ownsRow w.heap.size 9 1 u4 done.length (strs (done.map mkStr)) by rw [List.length_map] at hxl; rw [hxl]; exact hown)
            obtain ⟨A2, n2, c2, l2, _, d0, d1, _⟩ := hbr.open_
            clear hown hbr
            go_wp2
            go_ret
            rw [HD.out, HE.out]
            exact ⟨_, rfl, HOW.out, HBR.out, hgr⟩
          · have HE := Lib.hid heq
            clear heq
            have HBR := Lib.hid hbr
            obtain ⟨A2, n2, c2, l2, _, d0, d1, _⟩ := hbr.open_
            clear hown hbr
            go_wp2
            go_ret
            rw [HD.out, HE.out]
            exact ⟨_, rfl, World.ownsRow_nil _ _ _ _, HBR.out, hgr⟩

end Go.Proofs.Ytokpealeohoagaa
