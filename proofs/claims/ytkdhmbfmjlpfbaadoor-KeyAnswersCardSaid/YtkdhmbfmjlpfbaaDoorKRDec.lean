/-
  The document's own Decode.
-/
import Derived.Test.YtkdhmbfmjlpfbaaDoorKRF
namespace Go.Proofs.YtkdhmbfmjlpfbaaDoor
open Go.RowKit Go.Lib

def RdRel (s : ByteArray) (w : World) (a v : Value) (wr : World) : Prop :=
  ∃ (t : ByteArray) (done : List Va), a = .string t ∧ t.size ≤ s.size ∧ done.length ≤ 9 ∧ (∀ x ∈ done, Shp x) ∧ wr.ownsRow w.heap.size 43 3 v done.length (cellsR done) ∧ Below w.heap.size w wr ∧ bytes s = keyVs done ++ bytes t

set_option maxRecDepth 100000 in
set_option maxHeartbeats 3200000 in
theorem refDecode_any (s : ByteArray) (w : World) (hs : s.size ≤ 1000000) : Calls Tryd.prog 16 #[.string s] w (DecRet s w) := by
  have HL0 := Lib.hid (show (w.alloc (.cells #[] 43)).ownsRow w.heap.size 43 3 (.slice (some ⟨w.heap.size, 0, none⟩) 0 0) ([] : List Va).length (cellsR []) from row_lit w [] (by simp [maxLen]))
  go_enter Tryd.func16, Tryd.ntmps16
  go_wp2_with fail
  go_loopw [0, 4] (fun a v wr => RdRel s w a v wr) (fun a _ _ => strSize a)
  case atStart => exact ⟨s, [], rfl, Nat.le_refl _, by simp, fun x hx => by simp at hx, HL0.out, (Below.refl _ _).alloc (Nat.le_refl _) _, rfl⟩
  case round =>
    obtain ⟨t, done, rfl, hts, hd9, hshp, hown, hb, heq⟩ := hrel
    obtain ⟨A, c, rfl, _, _⟩ := own3_shape hown
    have HR := Lib.hid (And.intro hshp (And.intro hown (And.intro hb heq)))
    clear hshp hown hb heq
    by_cases ht : t.size = 0
    · have hti : ¬ (0 : Int) < (t.size : Int) := by omega
      have hbt : bytes t = [] := List.eq_nil_of_length_eq_zero (by rw [bytes_len]; exact ht)
      have HE := Lib.hid (show keyVs done = bytes s by rw [HR.out.2.2.2, hbt, List.append_nil])
      clear hbt
      go_wp2_with fail
      refine (refRightRow_any A c done wr (RowIn.of_own HR.out.2.1) (by unfold maxLen; omega)).mono ?_
      rintro e w3 ⟨rfl, hb3⟩
      have HB3 := Lib.hid (And.intro (HR.out.2.2.1.trans (hb3.mono HR.out.2.2.1.size)) (own3_below HR.out.2.1 hb3 (Nat.le_refl _)))
      clear hb3
      cases hr : rightR done with
      | false =>
        have HF := Lib.hid (show DecRet s w (.returned (.tuple #[.slice none 0 0, .bool false])) w3 from ⟨HB3.out.1, .inr ⟨rfl, fun us hg h => by
          have h1 : us = done := by
            obtain ⟨rest, e1, e2⟩ := keys_front done us [] HR.out.1 (good_shp hg) (by rw [h, HE.out, List.append_nil])
            rw [keyVs_nil e2.symm, List.append_nil] at e1
            exact e1
          subst h1
          rw [hg.1] at hr
          cases hr⟩⟩)
        clear hr
        go_wp2
        refine bodyPost_ret (results_tmp2 rfl _ _ _) rfl ?_
        exact HF.out
      | true =>
        have HF := Lib.hid (show DecRet s w (.returned (.tuple #[.slice A done.length c, .bool true])) w3 from ⟨HB3.out.1, .inl ⟨done, A, c, rfl, ⟨hr, fun x hx => shp_n (HR.out.1 x hx)⟩, HE.out, HB3.out.2⟩⟩)
        clear hr
        go_wp2
        refine bodyPost_ret (results_tmp2 rfl _ _ _) rfl ?_
        exact HF.out
    · have hti : (0 : Int) < (t.size : Int) := by omega
      go_wp2_with fail
      refine (refFirst_any t _ (by omega) (by omega)).mono ?_
      rintro e w2 ⟨hb2, x, r, ⟨rfl, hxs, hxe⟩ | ⟨rfl, hno⟩⟩
      · by_cases h8 : 8 < done.length
        · have h8i : (8 : Int) < (done.length : Int) := by omega
          have HF := Lib.hid (show ∀ w3 : World, Below w2.heap.size w2 w3 → DecRet s w (.returned (.tuple #[.slice none 0 0, .bool false])) w3 from fun w3 hb3 => ⟨HR.out.2.2.1.trans ((hb2.trans (hb3.mono hb2.size)).mono HR.out.2.2.1.size), .inr ⟨rfl, fun us hg h => by
            obtain ⟨rest, e1, e2⟩ := keys_front done us (bytes t) HR.out.1 (good_shp hg) (by rw [h, HR.out.2.2.2])
            have h3 := (right_all hg.1).1
            rw [e1, List.length_append] at h3
            omega⟩⟩)
          clear hb2 hxs hxe
          go_wp2
          refine bodyPost_ret (results_tmp2 rfl _ _ _) rfl ?_
          exact HF.out _ ((Below.refl _ _).alloc (Nat.le_refl _) _)
        · have h8i : ¬ (8 : Int) < (done.length : Int) := by omega
          have hlit := RowIn.of_own (row_lit (w2.alloc (.cells #[.int .i64 x.k, .int .i64 x.n, .string x.s] 43)) [x] (by simp [maxLen]))
          obtain ⟨w4, hw4⟩ : ∃ w4, w4 = (w2.alloc (.cells #[.int .i64 x.k, .int .i64 x.n, .string x.s] 43)).alloc (.cells #[.int .i64 x.k, .int .i64 x.n, .string x.s] 43) := ⟨_, rfl⟩
          have hlit' : RowIn w4 w4.heap.size (some ⟨w2.heap.size + 1, 0, none⟩) [x] := by rw [hw4]; simpa [cellsR, vcell] using hlit
          have hb4 : Below w2.heap.size w2 w4 := by rw [hw4]; exact ((Below.refl _ _).alloc (Nat.le_refl _) _).alloc (by simp) _
          have hlr : r.size < t.size := by
            have h := congrArg List.length hxe
            have h2 := keyV_pos x
            rw [List.length_append, bytes_len, bytes_len] at h
            omega
          have HX := Lib.hid (And.intro hw4 (And.intro hlit' (And.intro (hb2.trans (hb4.mono hb2.size)) (And.intro hlr (And.intro hxs hxe)))))
          clear hlit hw4 hlit' hb4 hb2 hxs hxe
          have hown4 := own3_below HR.out.2.1 HX.out.2.2.1 (Nat.le_refl _)
          have HO4 := Lib.hid hown4
          clear hown4
          go_wp2_with (at_builtin; rw [← HX.out.1]; refine wpList_append_row rfl (.tmp 25) (.tmp 27) rfl w.heap.size _ done rfl HO4.out w4.heap.size _ 1 [x] rfl HX.out.2.1 ?c3 ?c4 ?c5 ?_)
          case c3 => unfold maxLen; simp; omega
          case c4 => simp; omega
          case c5 => exact Nat.le_trans HR.out.2.2.1.size HX.out.2.2.1.size
          intro v' w5 hown5 hgrow
          have HN := Lib.hid (show RdRel s w (.string r) v' w5 from ⟨r, done ++ [x], rfl, by omega, by simp; omega, fun y hy => (List.mem_append.1 hy).elim (HR.out.1 y) (fun h => by simp at h; subst h; exact HX.out.2.2.2.2.1), by rw [List.length_append]; exact hown5,
            (HR.out.2.2.1.trans (HX.out.2.2.1.mono HR.out.2.2.1.size)).trans (below_own3 HO4.out hgrow (Nat.le_trans HR.out.2.2.1.size HX.out.2.2.1.size)), by rw [HR.out.2.2.2, HX.out.2.2.2.2.2, keyVs_append]; simp [keyVs]⟩)
          clear hown5 hgrow
          go_wp2
          go_roundw
          case rel => exact HN.out
          case measure => exact HX.out.2.2.2.1
      · have HF := Lib.hid (show ∀ w3 : World, Below w2.heap.size w2 w3 → DecRet s w (.returned (.tuple #[.slice none 0 0, .bool false])) w3 from fun w3 hb3 => ⟨HR.out.2.2.1.trans ((hb2.trans (hb3.mono hb2.size)).mono HR.out.2.2.1.size), .inr ⟨rfl, fun us hg h => by
          obtain ⟨rest, e1, e2⟩ := keys_front done us (bytes t) HR.out.1 (good_shp hg) (by rw [h, HR.out.2.2.2])
          cases rest with
          | nil =>
            have h3 := congrArg List.length e2
            rw [bytes_len] at h3
            exact ht h3
          | cons y rest =>
            have hym : y ∈ us := by rw [e1]; simp
            exact hno y (keyVs rest) (good_shp hg y hym) e2⟩⟩)
        clear hb2 hno
        go_wp2
        refine bodyPost_ret (results_tmp2 rfl _ _ _) rfl ?_
        exact HF.out _ ((Below.refl _ _).alloc (Nat.le_refl _) _)
end Go.Proofs.YtkdhmbfmjlpfbaaDoor
