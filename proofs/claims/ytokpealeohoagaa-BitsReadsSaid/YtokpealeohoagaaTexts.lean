/-
  The contract of layer 1's reader, last: Texts.
-/
import Derived.Test.YtokpealeohoagaaLift
namespace Go.Proofs.Ytokpealeohoagaa
open Go.RowKit Go.Lib

theorem Try.info9 : (Try.prog.info? 9).map (fun i => (i.zero, i.size, i.bytes)) = some (some (.string ⟨#[]⟩), 1, 16) := by kernel_rfl

/-- a slice of texts of the call's own is handed back; of what was there only block g may have turned -/
def TsRet (g : Nat) (ts : List (List Int)) (B : World → Nat → St → Prop) (s : St) (w : World) (e : Ending) (w' : World) : Prop :=
  ∃ v, e = .returned v ∧ w'.ownsRow w.heap.size 9 1 v ts.length (strs (ts.map mkStr)) ∧ B w' g s ∧ w.grownBy w' (some g)

/-- what holds at the head of Texts' loop -/
def TsRel (m : Nat) (s0 : St) (g : Nat) (B : World → Nat → St → Prop) (w : World) (v i : Value) (wr : World) : Prop :=
  ∃ (k : Nat) (done : List (List Int)) (l : List Int), k ≤ m ∧ i = .int .i64 k ∧ done.length = k ∧ wr.ownsRow w.heap.size 9 1 v done.length (strs (done.map mkStr)) ∧ B wr g (some l) ∧ w.grownBy wr (some g) ∧
    rTextsN m s0 = match rTextsN (m - k) (some l) with
      | (_, none) => ([], none)
      | (ts, some l') => (done ++ ts, some l')

theorem rTexts_step_none {j : Nat} {l : List Int} {t : List Int} (h : rText (some l) = (t, none)) : rTextsN (j + 1) (some l) = ([], none) := by rw [rTextsN, h]
theorem rTexts_step_some {j : Nat} {l l1 : List Int} {t : List Int} (h : rText (some l) = (t, some l1)) : rTextsN (j + 1) (some l) = match rTextsN j (some l1) with
      | (_, none) => ([], none)
      | (ts, some l') => (t :: ts, some l') := by rw [rTextsN, h]; rfl

theorem ts_next {m k : Nat} {s0 : St} {done : List (List Int)} {l l1 t : List Int} (hk : k < m) (ht : rText (some l) = (t, some l1))
    (h : rTextsN m s0 = match rTextsN (m - k) (some l) with
      | (_, none) => ([], none)
      | (ts, some l') => (done ++ ts, some l')) :
    rTextsN m s0 = match rTextsN (m - (k + 1)) (some l1) with
      | (_, none) => ([], none)
      | (ts, some l') => ((done ++ [t]) ++ ts, some l') := by
  rw [h, show m - k = (m - (k + 1)) + 1 by omega, rTexts_step_some ht]
  cases rTextsN (m - (k + 1)) (some l1) with
  | mk ts s => cases s <;> simp
theorem ts_bad {m k : Nat} {s0 : St} {done : List (List Int)} {l t : List Int} (hk : k < m) (ht : rText (some l) = (t, none))
    (h : rTextsN m s0 = match rTextsN (m - k) (some l) with
      | (_, none) => ([], none)
      | (ts, some l') => (done ++ ts, some l')) : rTextsN m s0 = ([], none) := by
  rw [h, show m - k = (m - (k + 1)) + 1 by omega, rTexts_step_none ht]
theorem ts_end {m : Nat} {s0 : St} {done : List (List Int)} {l : List Int}
    (h : rTextsN m s0 = match rTextsN (m - m) (some l) with
      | (_, none) => ([], none)
      | (ts, some l') => (done ++ ts, some l')) : rTextsN m s0 = (done, some l) := by
  rw [h, Nat.sub_self, rTextsN]
  simp

theorem rTextsN_nil (k : Nat) (s : St) (ts : List (List Int)) (h : rTextsN k s = (ts, none)) : ts = [] := by
  cases k with
  | zero => rw [rTextsN] at h; simp only [Prod.mk.injEq] at h; exact h.1.symm
  | succ j =>
    rw [rTextsN] at h
    cases hr : rText s with
    | mk t s1 =>
      rw [hr] at h
      cases s1 with
      | none => simp only [Prod.mk.injEq] at h; exact h.1.symm
      | some l =>
        simp only at h
        cases hq : rTextsN j (some l) with
        | mk ts2 s2 =>
          rw [hq] at h
          cases s2 with
          | none => simp only [Prod.mk.injEq] at h; exact h.1.symm
          | some l2 => simp at h
theorem ts_start (m : Nat) (l : List Int) : rTextsN m (some l) = match rTextsN (m - 0) (some l) with
      | (_, none) => ([], none)
      | (ts, some l') => ([] ++ ts, some l') := by
  rw [Nat.sub_zero]
  cases h : rTextsN m (some l) with
  | mk ts s =>
    cases s with
    | none => rw [rTextsN_nil m _ ts h]
    | some l2 => rfl

theorem own_ne {w : World} {base g n : Nat} {e : TypeId} {v : Value} {xs : List Value} (h : w.ownsRow base e 1 v n xs) (hg : g < base) : v.ownBlock = none ∨ v.ownBlock ≠ some g := by
  right
  intro he
  have := (h.lt g he).1
  omega

theorem rTexts_none {s : St} (h : rCount s (left s) = (0, none)) : rTexts s = ([], none) := by unfold rTexts; rw [h]
theorem rTexts_some {s : St} {m : Nat} {l1 : List Int} (h : rCount s (left s) = ((m : Int), some l1)) : rTexts s = rTextsN m (some l1) := by unfold rTexts; rw [h]; rfl

theorem grown_own {w w1 w2 : World} {g : Nat} {e : TypeId} {v : Value} {n : Nat} {xs : List Value} (h : w.grownBy w1 (some g)) (ho : w1.ownsRow w.heap.size e 1 v n xs) (h2 : w1.grownBy w2 v.ownBlock) : w.grownBy w2 (some g) :=
  ⟨h2.os.trans h.os, h2.tape.trans h.tape, h2.output.trans h.output, Nat.le_trans h.size h2.size, fun k hk hne => (h2.block k (Nat.lt_of_lt_of_le hk h.size) (fun e => by have := (ho.lt k e.symm).1; omega)).trans (h.block k hk hne)⟩

theorem strs_snoc (ts : List (List Int)) (t : List Int) : strs ((ts ++ [t]).map mkStr) = strs (ts.map mkStr) ++ [.string (mkStr t)] := by simp [strs]

set_option maxRecDepth 100000 in
set_option maxHeartbeats 3200000 in
theorem rtexts_any (g : Nat) (s : St) (w : World) (h : BR w g s) :
    Calls Try.prog 26 #[.pointer (some ⟨g, 0, none⟩)] w (TsRet g (rTexts s).1 BR (rTexts s).2 w) := by
  obtain ⟨i0, hi, hz0, hz1, hz2⟩ := info_parts Try.info9
  have hglt := h.lt
  have hleft : left s ≤ 8000000000000 := by
    obtain ⟨A, n, c, _, _, _, hn, hr, _⟩ := h
    have := hr.len
    rw [cells_len] at this
    unfold left
    omega
  have HB := Lib.hid h
  rcases rText_count s with ⟨h1, _⟩ | ⟨m, l1, h1, h2, _⟩
  · have HT := Lib.hid (rTexts_none h1)
    have HC := Lib.hid h1
    clear h1 hleft h
    go_enter Try.func26, Try.ntmps26
    go_wp2_with (first | (go_at_call 29; refine (rleft_any g s _ HB.out).mono ?_; rintro e w1 ⟨rfl, rfl⟩) | (go_at_call 23; refine (rcount_any g s _ _ HB.out).mono ?_; rw [HC.out]; rintro e w2 ⟨rfl, h5, h6⟩))
    refine wp_loop_rounds 1 ?_
    rw [rounds_succ]
    go_wp2
    go_ret
    rw [HT.out]
    exact ⟨_, rfl, World.ownsRow_nil _ _ _ _, h5, h6⟩
  · have HT := Lib.hid (rTexts_some h1)
    have HC := Lib.hid h1
    have hm : m ≤ 8000000000000 := by omega
    clear h1 hleft h h2
    go_enter Try.func26, Try.ntmps26
    go_wp2_with (first | (go_at_call 29; refine (rleft_any g s _ HB.out).mono ?_; rintro e w1 ⟨rfl, rfl⟩) | (go_at_call 23; refine (rcount_any g s _ _ HB.out).mono ?_; rw [HC.out]; rintro e w2 ⟨rfl, h5, h6⟩))
    go_loopw [3, 9] (fun v i wr => TsRel m (some l1) g BR w v i wr) (fun _ i _ => m - (intOf i).toNat)
    case atStart =>
      exact ⟨0, [], l1, by omega, rfl, rfl, World.ownsRow_nil _ _ _ _, h5, h6, ts_start m l1⟩
    case round =>
      obtain ⟨k, done, l, hk, rfl, hdl, hown, hbr, hgr, heq⟩ := hrel
      have hz := hgr.size
      by_cases hlt : k < m
      · cases hrt : rText (some l) with
        | mk t s1 =>
          have HRT := Lib.hid hrt
          cases s1 with
          | none =>
            have HE := Lib.hid (ts_bad hlt hrt heq)
            clear heq hrt h5 h6 hdl
            go_wp2_with (go_at_call 21; refine (rtext_any g _ _ hbr).mono ?_; rw [HRT.out]; rintro e w3 ⟨rfl, h7, h8⟩; have H7 := Lib.hid h7; obtain ⟨A3, n3, c3, hblk3, _⟩ := h7; have d1 := BR.cell1 hblk3)
            go_ret
            rw [HT.out, HE.out]
            exact ⟨_, rfl, World.ownsRow_nil _ _ _ _, H7.out, hgr.trans h8⟩
          | some l2 =>
            have HE := Lib.hid (ts_next hlt hrt heq)
            clear heq hrt h5 h6
            have hne := own_ne hown hglt
            go_wp2_with (first | (go_at_call 21; refine (rtext_any g _ _ hbr).mono ?_; rw [HRT.out]; rintro e w3 ⟨rfl, h7, h8⟩; have H7 := Lib.hid h7; obtain ⟨A3, n3, c3, hblk3, _⟩ := h7; have d1 := BR.cell1 hblk3; have hown3 := hown.kept h8 hne; have hz3 := h8.size) | (at_builtin; refine wpList_append_own _ rfl (.tmp 17) (.tmp 19) 22 rfl w.heap.size 9 i0 (.string ⟨#[]⟩) 1 16 Try.underlying22 hi hz0 hz1 hz2 rfl (by decide) _ _ _ rfl (hown3.alloc _) ⟨w3.heap.size, 0, none⟩ 1 1 [.string (mkStr t)] rfl rfl (cell_one_new _ _ _) ?c2 ?c3 ?c4 ?c5 ?_))
            case c2 => intro u hu; simp at hu; subst hu; rfl
            case c3 => simp [maxLen]; omega
            case c4 => omega
            case c5 => simp; omega
            intro v' w4 hown4 hgrow _
            have hg4 := grown_own ((hgr.trans h8).trans (World.grownBy_alloc w3 (.cells #[.string (mkStr t)] 9) (some g))) (hown3.alloc (.cells #[.string (mkStr t)] 9)) hgrow
            have hbel4 := below_own (hown3.alloc (.cells #[.string (mkStr t)] 9)) hgrow (by simp; omega)
            have hfin : TsRel m (some l1) g BR w v' (.int .i64 ((k : Int) + 1)) w4 :=
              ⟨k + 1, done ++ [t], l2, by omega, by go_num, by simp [hdl], by rw [strs_snoc, List.length_append, hdl]; exact hown4, (H7.out.below ((Below.refl w.heap.size w3).alloc (by omega) _) hglt).below hbel4 hglt, hg4, HE.out⟩
            have HF := Lib.hid hfin
            clear hfin hown4 hgrow hown3 hown hne hg4 hbel4
            go_wp2
            go_roundw
            case rel => exact HF.out
            case measure => simp [intOf]; omega
      · have hkm : k = m := by omega
        subst hkm
        have HE := Lib.hid (ts_end heq)
        clear heq h5 h6
        go_wp2
        go_ret
        rw [HT.out, HE.out]
        exact ⟨_, rfl, hown, hbr, hgr⟩

end Go.Proofs.Ytokpealeohoagaa
