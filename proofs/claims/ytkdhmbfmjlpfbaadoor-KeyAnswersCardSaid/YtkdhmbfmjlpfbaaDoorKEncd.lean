/-
  The contracts of encoded and Encode.
-/
import Derived.Test.YtkdhmbfmjlpfbaaDoorKNum
import Derived.Test.YtkdhmbfmjlpfbaaDoorKRep
import Derived.Test.YtkdhmbfmjlpfbaaDoorLays
namespace Go.Proofs.YtkdhmbfmjlpfbaaDoor
open Go.RowKit Go.Lib

theorem Tryd.xRep : Builder.Extra Tryd.prog Tryd.laysRep_ren := {
  sizeBuilder := by kernel_rfl
  liesBuilder := by kernel_rfl
  t5 := Tryd.underlying5
  a5 := Tryd.isAgg5
  z5 := Tryd.sizeOf5
  v5 := Tryd.zeroValue5
  infoByte := by kernel_rfl
  cellsByte := by kernel_rfl
  sizeByte := by kernel_rfl
  neB5 := by decide
}

/-- the library's variable holds a number -/
def Ms (w : World) : Prop := ∃ m, w.cell? ⟨0, 0, none⟩ = some (.int .i64 m)
theorem Ms.below {w w' : World} {B : Nat} (h : Ms w) (hb : Below B w w') (hB : w.heap.size ≤ B) : Ms w' := by
  obtain ⟨m, hm⟩ := h
  have := World.block_lt_of_cell? _ _ hm
  exact ⟨m, (hb.cell (p := ⟨0, 0, none⟩) (by show 0 < B; have h2 : 0 < w.heap.size := this; omega)).trans hm⟩

theorem own_lit (w : World) (x : Int) : (w.alloc (.cells #[.int .u8 x] 5)).ownsRow w.heap.size 5 1 (.slice (some ⟨w.heap.size, 0, none⟩) 1 1) 1 (cells [x]) :=
  World.ownsRow_lit w #[.int .u8 x] 1 (Nat.le_refl _) (by simp [maxLen]) (by simp)
theorem rd_lit1 (w : World) (x : Int) : Rd (w.alloc (.cells #[.int .u8 x] 5)) (w.heap.size + 1) (some ⟨w.heap.size, 0, none⟩) 1 (cells [x]) := by
  have h := Rd.of_own (own_lit w x)
  simpa using h
theorem bytes_cat (s t : ByteArray) : bytes (s ++ t) = bytes s ++ bytes t := by simp [bytes]

theorem replaceAll_any (s : ByteArray) (w : World) (hm : Ms w) (hs : s.size ≤ 1000000) :
    Calls Tryd.prog 37 #[.string s, .string ⟨#[0]⟩, .string ⟨#[0, 255]⟩] w fun e w' => (∃ t, bytes t = escB (bytes s) ∧ e = .returned (.string t)) ∧ Below w.heap.size w w' := by
  obtain ⟨m, hm⟩ := hm
  have hc := Lib.countB_le ⟨#[0]⟩ (by decide) s.size s (Nat.le_refl _)
  have hsz : (⟨#[0, 255]⟩ : ByteArray).size = 2 := rfl
  refine (Any.strings_ReplaceAll Tryd.laysRep Tryd.xRep s ⟨#[0]⟩ ⟨#[0, 255]⟩ m w (by omega) hm (by decide) (by rw [hsz]; omega)).mono ?_
  rintro e w' ⟨rfl, hb⟩
  exact ⟨⟨_, rep_bytes s, rfl⟩, hb⟩

theorem OwnRet.str {base : Nat} {k : Int} {s t : ByteArray} {w w1 w2 : World} {v' : Value} {n : Nat} (hn : n = 1 + (t ++ ⟨#[0, 1]⟩).size) (ht : bytes t = escB (bytes s)) (hb1 : Below base w w1) (hb2 : Below base w1 w2)
    (hown : w2.ownsRow base 5 1 v' n (cells [k] ++ strCells (t ++ ⟨#[0, 1]⟩))) : OwnRet base (k :: (escB (bytes s) ++ [0, 1])) w (.returned v') w2 := by
  subst hn
  have e : bytes (t ++ ⟨#[0, 1]⟩) = escB (bytes s) ++ [0, 1] := by rw [bytes_cat, ht]; rfl
  refine ⟨v', rfl, ?_, hb1.trans hb2⟩
  rw [strCells_eq, ← cells_append, e, ← bytes_len, e] at hown
  rw [List.length_cons, Nat.add_comm]
  exact hown

set_option maxRecDepth 100000 in
set_option maxHeartbeats 1600000 in
theorem encoded_any (x : Va) (w : World) (hx : rightVa x = true) (hn : InN x) (hm : Ms w) : Calls Tryd.prog 26 #[.agg #[.int .i64 x.k, .int .i64 x.n, .string x.s]] w (OwnRet w.heap.size (keyV x) w) := by
  obtain ⟨k, n, s⟩ := x
  unfold InN at hn
  simp only at hn ⊢
  obtain ⟨i0, hi, hz0, hz1, hz2⟩ := info_parts Tryd.info5
  have hv := VS.new w k n s
  obtain ⟨w1, hw1⟩ : ∃ w1, w1 = w.alloc (.cells #[.int .i64 k, .int .i64 n, .string s] 43) := ⟨_, rfl⟩
  rw [← hw1] at hv
  have HV := Lib.hid hv
  have HM := Lib.hid (hm.below hv.2.2.2 (Nat.le_refl _))
  have HW := Lib.hid hw1
  clear hw1 hv hm
  have hc := right_cases hx
  simp only at hc
  clear hx
  have HS := Lib.hid (show w1.heap.size = w.heap.size + 1 by rw [HW.out]; simp)
  rcases hc with ⟨rfl, rfl, rfl⟩ | ⟨rfl, rfl⟩ | ⟨rfl, h01, rfl⟩ | ⟨rfl, rfl, h16⟩
  · skip
    have HO := Lib.hid (own_lit w1 0)
    have HB := Lib.hid (HV.out.2.2.2.alloc HV.out.2.2.2.size (.cells #[.int .u8 0] 5))
    rw [HS.out] at HO
    obtain ⟨w2, hw2⟩ : ∃ w2, w2 = w1.alloc (.cells #[.int .u8 0] 5) := ⟨_, rfl⟩
    rw [← hw2] at HO HB
    have HS2 := Lib.hid (show w2.heap.size = w.heap.size + 1 + 1 by rw [hw2]; simp [HS.out])
    have hv2 := HV.out.below (w'' := w2) (by rw [hw2]; exact (Below.refl _ _).alloc (Nat.le_refl _) _)
    obtain ⟨c0, c1, c2, _⟩ := HV.out
    obtain ⟨d0, d1, d2, _⟩ := hv2
    have HM2 := Lib.hid (HM.out.below (w' := w2) (B := w1.heap.size) (by rw [hw2]; exact (Below.refl _ _).alloc (Nat.le_refl _) _) (Nat.le_refl _))
    have HW2 := Lib.hid hw2
    clear hw2
    have HF := Lib.hid (show OwnRet w.heap.size (keyV ⟨0, 0, ⟨#[]⟩⟩) w (.returned (.slice (some ⟨w.heap.size + 1, 0, none⟩) 1 1)) w2 from ⟨_, rfl, own_base HO.out (by omega), HB.out⟩)
    go_enter Tryd.func26, Tryd.ntmps26
    go_wp2_with fail
    rw [← HW.out, ← HW2.out]
    go_ret
    exact HF.out
  · skip
    have HO := Lib.hid (own_lit w1 1)
    have HB := Lib.hid (HV.out.2.2.2.alloc HV.out.2.2.2.size (.cells #[.int .u8 1] 5))
    rw [HS.out] at HO
    obtain ⟨w2, hw2⟩ : ∃ w2, w2 = w1.alloc (.cells #[.int .u8 1] 5) := ⟨_, rfl⟩
    rw [← hw2] at HO HB
    have HS2 := Lib.hid (show w2.heap.size = w.heap.size + 1 + 1 by rw [hw2]; simp [HS.out])
    have hv2 := HV.out.below (w'' := w2) (by rw [hw2]; exact (Below.refl _ _).alloc (Nat.le_refl _) _)
    obtain ⟨c0, c1, c2, _⟩ := HV.out
    obtain ⟨d0, d1, d2, _⟩ := hv2
    have HM2 := Lib.hid (HM.out.below (w' := w2) (B := w1.heap.size) (by rw [hw2]; exact (Below.refl _ _).alloc (Nat.le_refl _) _) (Nat.le_refl _))
    have HW2 := Lib.hid hw2
    clear hw2
    have HE := Lib.hid (show keyV ⟨1, n, ⟨#[]⟩⟩ = [1] ++ be 8 (u64 n) by simp [keyV])
    go_enter Tryd.func26, Tryd.ntmps26
    go_wp2_with fail
    rw [← HW.out, ← HW2.out]
    refine (numberBytes_any n _ hn).mono ?_
    rintro e w3 ⟨v3, rfl, hown3, hb3⟩
    rw [be_len] at hown3
    obtain ⟨A3, c3, rfl, _, _⟩ := own_shape hown3
    have HO3 := Lib.hid hown3
    have HB3 := Lib.hid hb3
    clear hown3 hb3 c0 c1 c2 d0 d1 d2
    go_wp2_with (at_builtin; refine wpList_append_rd _ rfl (.tmp 12) (.tmp 15) 44 rfl w.heap.size 5 i0 (.int .u8 0) 1 Tryd.underlying44 hi hz0 hz1 hz2 rfl _ _ _ rfl (own_base (own_below HO.out HB3.out (Nat.le_refl _)) (by omega)) w3.heap.size A3 8 c3 _ rfl (Rd.of_own HO3.out) (cells_one _) ?c3 ?c4 ?c5 ?_)
    case c3 => simp [maxLen]
    case c4 => omega
    case c5 => have h1 := HB.out.size; have h2 := HB3.out.size; omega
    intro v' w4 hown4 hgrow
    have hfin := OwnRet.cat (a := [1]) (b := be 8 (u64 n)) (by simp [be_len]) (HB.out.trans (HB3.out.mono HB.out.size)) (below_own (base := w.heap.size) (own_base (own_below HO.out HB3.out (Nat.le_refl _)) (by omega)) hgrow (by have h1 := HB.out.size; have h2 := HB3.out.size; omega)) hown4
    rw [← HE.out] at hfin
    have HFN := Lib.hid hfin
    clear hown4 hgrow hfin
    go_wp2
    go_ret
    exact HFN.out
  · have hn2 : n % 256 = n := by omega
    have HE := Lib.hid (show keyV ⟨2, n, ⟨#[]⟩⟩ = [2] ++ [n] by simp [keyV, hn2])
    clear hn2
    have HO := Lib.hid (own_lit w1 2)
    have HB := Lib.hid (HV.out.2.2.2.alloc HV.out.2.2.2.size (.cells #[.int .u8 2] 5))
    rw [HS.out] at HO
    obtain ⟨w2, hw2⟩ : ∃ w2, w2 = w1.alloc (.cells #[.int .u8 2] 5) := ⟨_, rfl⟩
    rw [← hw2] at HO HB
    have HS2 := Lib.hid (show w2.heap.size = w.heap.size + 1 + 1 by rw [hw2]; simp [HS.out])
    have hv2 := HV.out.below (w'' := w2) (by rw [hw2]; exact (Below.refl _ _).alloc (Nat.le_refl _) _)
    obtain ⟨c0, c1, c2, _⟩ := HV.out
    obtain ⟨d0, d1, d2, _⟩ := hv2
    have HM2 := Lib.hid (HM.out.below (w' := w2) (B := w1.heap.size) (by rw [hw2]; exact (Below.refl _ _).alloc (Nat.le_refl _) _) (Nat.le_refl _))
    have HW2 := Lib.hid hw2
    clear hw2
    have hwn : IntKind.u8.wrap n = n := by show n % 256 = n; omega
    obtain ⟨w3, hw3⟩ : ∃ w3, w3 = w2.alloc (.cells #[.int .u8 n] 5) := ⟨_, rfl⟩
    have HB3 := Lib.hid (show Below w2.heap.size w2 w3 by rw [hw3]; exact (Below.refl _ _).alloc (Nat.le_refl _) _)
    have hrd := rd_lit1 w2 n
    rw [← hw3, HS2.out] at hrd
    have HR3 := Lib.hid hrd
    have HW3 := Lib.hid hw3
    clear hw3 hrd h01
    go_enter Tryd.func26, Tryd.ntmps26
    go_wp2_with (at_builtin; rw [← HW.out, ← HW2.out, ← HW3.out]; refine wpList_append_rd _ rfl (.tmp 19) (.tmp 23) 44 rfl w.heap.size 5 i0 (.int .u8 0) 1 Tryd.underlying44 hi hz0 hz1 hz2 rfl _ _ _ rfl (own_base (own_below HO.out HB3.out (Nat.le_refl _)) (by omega)) (w.heap.size + 1 + 1 + 1) (some ⟨w.heap.size + 1 + 1, 0, none⟩) 1 1 _ rfl (HR3.out) (cells_one _) ?c3 ?c4 ?c5 ?_)
    case c3 => simp [maxLen]
    case c4 => omega
    case c5 => have h1 := HB.out.size; have h2 := HB3.out.size; omega
    intro v' w4 hown4 hgrow
    have hfin := OwnRet.cat (a := [2]) (b := [n]) (by simp) (HB.out.trans (HB3.out.mono HB.out.size)) (below_own (base := w.heap.size) (own_base (own_below HO.out HB3.out (Nat.le_refl _)) (by omega)) hgrow (by have h1 := HB.out.size; have h2 := HB3.out.size; omega)) hown4
    rw [← HE.out] at hfin
    have HFN := Lib.hid hfin
    clear hown4 hgrow hfin c0 c1 c2 d0 d1 d2
    go_wp2
    go_ret
    exact HFN.out
  · skip
    have HO := Lib.hid (own_lit w1 3)
    have HB := Lib.hid (HV.out.2.2.2.alloc HV.out.2.2.2.size (.cells #[.int .u8 3] 5))
    rw [HS.out] at HO
    obtain ⟨w2, hw2⟩ : ∃ w2, w2 = w1.alloc (.cells #[.int .u8 3] 5) := ⟨_, rfl⟩
    rw [← hw2] at HO HB
    have HS2 := Lib.hid (show w2.heap.size = w.heap.size + 1 + 1 by rw [hw2]; simp [HS.out])
    have hv2 := HV.out.below (w'' := w2) (by rw [hw2]; exact (Below.refl _ _).alloc (Nat.le_refl _) _)
    obtain ⟨c0, c1, c2, _⟩ := HV.out
    obtain ⟨d0, d1, d2, _⟩ := hv2
    have HM2 := Lib.hid (HM.out.below (w' := w2) (B := w1.heap.size) (by rw [hw2]; exact (Below.refl _ _).alloc (Nat.le_refl _) _) (Nat.le_refl _))
    have HW2 := Lib.hid hw2
    clear hw2
    have HE := Lib.hid (show keyV ⟨3, 0, s⟩ = 3 :: (escB (bytes s) ++ [0, 1]) by simp [keyV])
    go_enter Tryd.func26, Tryd.ntmps26
    go_wp2_with fail
    rw [← HW.out, ← HW2.out]
    refine (replaceAll_any s _ HM2.out (by omega)).mono ?_
    rintro e w3 ⟨⟨t, ht, rfl⟩, hb3⟩
    have HT := Lib.hid ht
    have HB3 := Lib.hid hb3
    have htl : t.size ≤ 32 := by
      have h1 := escB_len (bytes s)
      rw [← ht, bytes_len, bytes_len] at h1
      omega
    have htl2 : (t ++ ⟨#[0, 1]⟩).size = t.size + 2 := by rw [ByteArray.size_append]; rfl
    have HL := Lib.hid (And.intro htl htl2)
    have hcat : ¬ (9223372036854775807 < t.size + 2) := by omega
    clear hb3 ht c0 c1 c2 d0 d1 d2 htl htl2
    go_wp2_with (at_builtin; refine wpList_append_own_string _ rfl (.tmp 27) (.tmp 31) 44 9 rfl w.heap.size 5 i0 Tryd.underlying44 Tryd.underlying9 hi hz0 hz1 hz2 _ _ _ rfl (own_base (own_below HO.out HB3.out (Nat.le_refl _)) (by omega)) (t ++ ⟨#[0, 1]⟩) rfl ?c1 ?c2 ?c3 ?_)
    case c1 => have h1 := HL.out.1; have h2 := HL.out.2; unfold maxLen; omega
    case c2 => have h1 := HL.out.1; have h2 := HL.out.2; omega
    case c3 => have h1 := HB.out.size; have h2 := HB3.out.size; omega
    intro v' w4 hown4 hgrow _
    have hfin := OwnRet.str (k := 3) (by have h2 := HL.out.2; omega) HT.out (HB.out.trans (HB3.out.mono HB.out.size)) (below_own (base := w.heap.size) (own_base (own_below HO.out HB3.out (Nat.le_refl _)) (by omega)) hgrow (by have h1 := HB.out.size; have h2 := HB3.out.size; omega)) hown4
    rw [← HE.out] at hfin
    have HFN := Lib.hid hfin
    clear hown4 hgrow hfin
    go_wp2
    go_ret
    exact HFN.out
end Go.Proofs.YtkdhmbfmjlpfbaaDoor
