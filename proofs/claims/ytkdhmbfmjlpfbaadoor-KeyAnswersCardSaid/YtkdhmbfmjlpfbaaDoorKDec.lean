/-
  The contracts of meant and Decode.
-/
import Derived.Test.YtkdhmbfmjlpfbaaDoorKFirst
import Derived.Test.YtkdhmbfmjlpfbaaDoorKRow
namespace Go.Proofs.YtkdhmbfmjlpfbaaDoor
open Go.RowKit Go.Lib

/-- a row that may have a key -/
def Good8 (us : List Va) : Prop := rightR us = true ∧ ∀ x ∈ us, InN x
def strSize : Value → Nat
  | .string s => s.size
  | _ => 0
def MtRel (s : ByteArray) (w : World) (a v : Value) (wr : World) : Prop :=
  ∃ (t : ByteArray) (done : List Va), a = .string t ∧ t.size ≤ s.size ∧ done.length ≤ 8 ∧ (∀ x ∈ done, InN x) ∧ wr.ownsRow w.heap.size 43 3 v done.length (cellsR done) ∧ Below w.heap.size w wr ∧
    ∀ us, Good8 us → bytes s = keyVs us → ∃ rest, us = done ++ rest ∧ bytes t = keyVs rest
/-- the row that meant hands back: the row whose key it is, if it is one's -/
def MeantRet (s : ByteArray) (w : World) (e : Ending) (w' : World) : Prop :=
  ∃ (vs : List Va) (A : Option Addr) (c : Nat), e = .returned (.slice A vs.length c) ∧ vs.length ≤ 8 ∧ (∀ x ∈ vs, InN x) ∧ w'.ownsRow w.heap.size 43 3 (.slice A vs.length c) vs.length (cellsR vs) ∧ Below w.heap.size w w' ∧
    ∀ us, Good8 us → bytes s = keyVs us → us = vs
theorem empty_test (t : ByteArray) : (t.toList == []) = decide (t.size = 0) := by
  have := str_eq t ⟨#[]⟩
  rw [show (⟨#[]⟩ : ByteArray).toList = [] by rw [ByteArray.toList_eq]] at this
  rw [this]
  by_cases h : t.size = 0
  · rw [decide_eq_true h, decide_eq_true]
    exact bytes_inj (List.eq_nil_of_length_eq_zero (by rw [bytes_len]; exact h))
  · rw [decide_eq_false h, decide_eq_false]
    rintro rfl
    exact h rfl
theorem keyVs_nil {l : List Va} (h : keyVs l = []) : l = [] := by
  cases l with
  | nil => rfl
  | cons x l =>
    have h1 := keyV_pos x
    have h2 := congrArg List.length h
    simp only [keyVs, List.length_append, List.length_nil] at h2
    omega

set_option maxRecDepth 100000 in
set_option maxHeartbeats 3200000 in
theorem meant_any (s : ByteArray) (w : World) (hs : s.size ≤ 1000000) (hMs : Ms w) : Calls Tryd.prog 28 #[.string s] w (MeantRet s w) := by
  have HM := Lib.hid hMs
  clear hMs
  go_enter Tryd.func28, Tryd.ntmps28
  go_wp2_with fail
  go_loopw [0, 3] (fun a v wr => MtRel s w a v wr) (fun a _ _ => strSize a)
  case atStart => exact ⟨s, [], rfl, Nat.le_refl _, by simp, fun x hx => by simp at hx, by simpa [cellsR] using World.ownsRow_nil _ _ _ _, Below.refl _ _, fun us _ h => ⟨us, rfl, h⟩⟩
  case round =>
    obtain ⟨t, done, rfl, hts, hd8, hin, hown, hb, hus⟩ := hrel
    obtain ⟨A, c, rfl, _, _⟩ := own3_shape hown
    have hte := empty_test t
    have HR := Lib.hid (And.intro hin (And.intro hown (And.intro hb hus)))
    clear hin hown hb hus
    by_cases ht : t.size = 0
    · rw [decide_eq_true ht] at hte
      have hte2 : (t.toList != []) = false := by simp [bne, hte]
      have HF := Lib.hid (show MeantRet s w (.returned (.slice A done.length c)) wr from ⟨done, A, c, rfl, hd8, HR.out.1, HR.out.2.1, HR.out.2.2.1, fun us hg h => by
        obtain ⟨rest, h1, h2⟩ := HR.out.2.2.2 us hg h
        have h3 : bytes t = [] := List.eq_nil_of_length_eq_zero (by rw [bytes_len]; exact ht)
        rw [keyVs_nil (h2.symm.trans h3), List.append_nil] at h1
        exact h1⟩)
      go_wp2
      go_ret
      exact HF.out
    · rw [decide_eq_false ht] at hte
      have hte2 : (t.toList != []) = true := by simp [bne, hte]
      by_cases h8 : done.length < 8
      · have h8i : (done.length : Int) < 8 := by omega
        have hMr := HM.out.below HR.out.2.2.1 (Nat.le_refl _)
        have HMr := Lib.hid hMr
        clear hMr
        go_wp2_with fail
        refine (first_any t _ (by omega) (by omega) HMr.out).mono ?_
        rintro e w2 ⟨x, r, rfl, hb2, hr, hxn, hy⟩
        have hlit := RowIn.of_own (row_lit (w2.alloc (.cells #[.int .i64 x.k, .int .i64 x.n, .string x.s] 43)) [x] (by simp [maxLen]))
        obtain ⟨w4, hw4⟩ : ∃ w4, w4 = (w2.alloc (.cells #[.int .i64 x.k, .int .i64 x.n, .string x.s] 43)).alloc (.cells #[.int .i64 x.k, .int .i64 x.n, .string x.s] 43) := ⟨_, rfl⟩
        have hlit' : RowIn w4 w4.heap.size (some ⟨w2.heap.size + 1, 0, none⟩) [x] := by rw [hw4]; simpa [cellsR, vcell] using hlit
        have hb4 : Below w2.heap.size w2 w4 := by rw [hw4]; exact ((Below.refl _ _).alloc (Nat.le_refl _) _).alloc (by simp) _
        have HX := Lib.hid (And.intro hw4 (And.intro hlit' (And.intro (hb2.trans (hb4.mono hb2.size)) (And.intro hr (And.intro hxn hy)))))
        clear hlit hw4 hlit' hb4 hb2 hxn hy
        have hown4 := own3_below HR.out.2.1 HX.out.2.2.1 (Nat.le_refl _)
        have HO4 := Lib.hid hown4
        clear hown4
        go_wp2_with (at_builtin; rw [← HX.out.1]; refine wpList_append_row rfl (.tmp 18) (.tmp 20) rfl w.heap.size _ done rfl HO4.out w4.heap.size _ 1 [x] rfl HX.out.2.1 ?c3 ?c4 ?c5 ?_)
        case c3 => unfold maxLen; simp; omega
        case c4 => simp; omega
        case c5 => exact Nat.le_trans HR.out.2.2.1.size HX.out.2.2.1.size
        intro v' w5 hown5 hgrow
        have HN := Lib.hid (show MtRel s w (.string r) v' w5 from ⟨r, done ++ [x], rfl, by omega, by simp; omega, fun y hy => (List.mem_append.1 hy).elim (HR.out.1 y) (fun h => by simp at h; subst h; exact HX.out.2.2.2.2.1), by rw [List.length_append]; exact hown5,
          (HR.out.2.2.1.trans (HX.out.2.2.1.mono HR.out.2.2.1.size)).trans (below_own3 HO4.out hgrow (Nat.le_trans HR.out.2.2.1.size HX.out.2.2.1.size)), fun us hg h => by
          obtain ⟨rest, h1, h2⟩ := HR.out.2.2.2 us hg h
          cases rest with
          | nil =>
            exfalso
            have h3 := congrArg List.length h2
            rw [bytes_len] at h3
            exact ht h3
          | cons y rest =>
            have hym : y ∈ us := by rw [h1]; simp
            obtain ⟨h3, h4⟩ := HX.out.2.2.2.2.2 y (keyVs rest) ((right_all hg.1).2 y hym) (hg.2 y hym) h2
            exact ⟨rest, by rw [h1, h3]; simp, h4⟩⟩)
        clear hown5 hgrow
        go_wp2
        go_roundw
        case rel => exact HN.out
        case measure => exact hr
      · have h8i : ¬ (done.length : Int) < 8 := by omega
        have HF := Lib.hid (show MeantRet s w (.returned (.slice A done.length c)) wr from ⟨done, A, c, rfl, hd8, HR.out.1, HR.out.2.1, HR.out.2.2.1, fun us hg h => by
          obtain ⟨rest, h1, h2⟩ := HR.out.2.2.2 us hg h
          have h3 := (right_all hg.1).1
          rw [h1, List.length_append] at h3
          have h4 : rest = [] := List.eq_nil_of_length_eq_zero (by omega)
          rw [h4, List.append_nil] at h1
          exact h1⟩)
        go_wp2
        go_ret
        exact HF.out

/-- what Decode hands back: the row whose key it is, or nothing -/
def DecRet (s : ByteArray) (w : World) (e : Ending) (w' : World) : Prop :=
  Below w.heap.size w w' ∧ ((∃ (vs : List Va) (A : Option Addr) (c : Nat), e = .returned (.tuple #[.slice A vs.length c, .bool true]) ∧ Good8 vs ∧ keyVs vs = bytes s ∧ w'.ownsRow w.heap.size 43 3 (.slice A vs.length c) vs.length (cellsR vs)) ∨
    (e = .returned (.tuple #[.slice none 0 0, .bool false]) ∧ ∀ us, Good8 us → keyVs us ≠ bytes s))

set_option maxRecDepth 100000 in
set_option maxHeartbeats 3200000 in
theorem decode_any (s : ByteArray) (w : World) (hs : s.size ≤ 1000000) (hMs : Ms w) : Calls Tryd.prog 15 #[.string s] w (DecRet s w) := by
  have HM := Lib.hid hMs
  clear hMs
  go_enter Tryd.func15, Tryd.ntmps15
  go_wp2_with fail
  refine (meant_any s _ hs HM.out).mono ?_
  rintro e w2 ⟨vs, A, c, rfl, h8, hin, hown, hb2, hus⟩
  have HV := Lib.hid (And.intro hin (And.intro hown (And.intro hb2 hus)))
  clear hin hown hb2 hus
  go_wp2_with fail
  refine (encode_any A c vs w2 (RowIn.of_own HV.out.2.1) (by unfold maxLen; omega) HV.out.1 (HM.out.below HV.out.2.2.1 (Nat.le_refl _))).mono ?_
  rintro e w3 ⟨hb3, rfl⟩
  have HB3 := Lib.hid (And.intro (HV.out.2.2.1.trans (hb3.mono HV.out.2.2.1.size)) (own3_below HV.out.2.1 hb3 (Nat.le_refl _)))
  clear hb3
  cases hr : rightR vs with
  | false =>
    have HF := Lib.hid (show DecRet s w (.returned (.tuple #[.slice none 0 0, .bool false])) w3 from ⟨HB3.out.1, .inr ⟨rfl, fun us hg h => by
      have := HV.out.2.2.2 us hg h.symm
      subst this
      rw [hg.1] at hr
      cases hr⟩⟩)
    clear hr
    go_wp2
    refine bodyPost_ret (results_tmp2 rfl _ _ _) rfl ?_
    exact HF.out
  | true =>
    have hg : Good8 vs := ⟨hr, HV.out.1⟩
    have hk : keyS vs = mkStr (keyVs vs) := by unfold keyS; rw [if_pos hr]
    have hse := str_eq (keyS vs) s
    by_cases he : keyS vs = s
    · rw [decide_eq_true he] at hse
      have hse2 : ((keyS vs).toList != s.toList) = false := by simp [bne, hse]
      have HF := Lib.hid (show DecRet s w (.returned (.tuple #[.slice A vs.length c, .bool true])) w3 from ⟨HB3.out.1, .inl ⟨vs, A, c, rfl, hg, by rw [← he, hk, bytes_mkStr _ (keyVs_bytes _)], HB3.out.2⟩⟩)
      obtain ⟨k, hkk⟩ : ∃ k, k = keyS vs := ⟨_, rfl⟩
      rw [← hkk] at hse hse2 ⊢
      clear hr hg hk he hkk
      go_wp2
      refine bodyPost_ret (results_tmp2 rfl _ _ _) rfl ?_
      exact HF.out
    · rw [decide_eq_false he] at hse
      have hse2 : ((keyS vs).toList != s.toList) = true := by simp [bne, hse]
      have HF := Lib.hid (show DecRet s w (.returned (.tuple #[.slice none 0 0, .bool false])) w3 from ⟨HB3.out.1, .inr ⟨rfl, fun us hg' h => by
        have := HV.out.2.2.2 us hg' h.symm
        subst this
        exact he (by rw [hk]; exact bytes_inj (by rw [bytes_mkStr _ (keyVs_bytes _), h]))⟩⟩)
      obtain ⟨k, hkk⟩ : ∃ k, k = keyS vs := ⟨_, rfl⟩
      rw [← hkk] at hse hse2 ⊢
      clear hr hg hk he hkk
      go_wp2
      refine bodyPost_ret (results_tmp2 rfl _ _ _) rfl ?_
      exact HF.out
end Go.Proofs.YtkdhmbfmjlpfbaaDoor
