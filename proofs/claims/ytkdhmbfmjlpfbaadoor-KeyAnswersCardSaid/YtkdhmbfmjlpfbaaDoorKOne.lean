/-
  The document's own key of a value and of a row: the contracts of one and Encode.
-/
import Derived.Test.YtkdhmbfmjlpfbaaDoorKRR
namespace Go.Proofs.YtkdhmbfmjlpfbaaDoor
open Go.RowKit Go.Lib

def OneRel (u : Nat) (w : World) (v i : Value) (wr : World) : Prop :=
  ∃ k : Nat, k ≤ 8 ∧ i = .int .i64 ((k : Int) - 1) ∧ wr.ownsRow w.heap.size 5 1 v (9 - k) (cells (1 :: (be 8 u).take (8 - k))) ∧ Below w.heap.size w wr
def EscRel (s : ByteArray) (w : World) (v i : Value) (wr : World) : Prop :=
  ∃ k : Nat, k ≤ s.size ∧ i = .int .i64 k ∧ wr.ownsRow (w.heap.size + 1) 5 1 v (3 :: escB ((bytes s).take k)).length (cells (3 :: escB ((bytes s).take k))) ∧ VS w w.heap.size 3 0 s wr
theorem VS.above {w0 w' w'' : World} {k n : Int} {s : ByteArray} (h : VS w0 w0.heap.size k n s w') (hl : Below (w0.heap.size + 1) w' w'') : VS w0 w0.heap.size k n s w'' :=
  ⟨(hl.cell (p := ⟨w0.heap.size, 0, none⟩) (Nat.lt_succ_self _)).trans h.1, (hl.cell (p := ⟨w0.heap.size, 1, none⟩) (Nat.lt_succ_self _)).trans h.2.1, (hl.cell (p := ⟨w0.heap.size, 2, none⟩) (Nat.lt_succ_self _)).trans h.2.2.1, h.2.2.2.trans (hl.mono (Nat.le_succ _))⟩

theorem be_step (u k : Nat) (h : 1 ≤ k) (h8 : k ≤ 8) : (be 8 u).take (8 - (k - 1)) = (be 8 u).take (8 - k) ++ [((u / 256 ^ (k - 1) % 256 : Nat) : Int)] := by
  rcases (by omega : k = 8 ∨ k = 7 ∨ k = 6 ∨ k = 5 ∨ k = 4 ∨ k = 3 ∨ k = 2 ∨ k = 1) with rfl | rfl | rfl | rfl | rfl | rfl | rfl | rfl <;> simp [be]
theorem one_step {u k : Nat} (h : 1 ≤ k) (h8 : k ≤ 8) {w w5 : World} {v : Value} {b : Int} (hown : w5.ownsRow w.heap.size 5 1 v (9 - k + 1) (cells (1 :: (be 8 u).take (8 - k)) ++ cells [b])) (hb : b = ((u / 256 ^ (k - 1) % 256 : Nat) : Int)) (hbel : Below w.heap.size w w5) :
    OneRel u w v (.int .i64 ((k : Int) - 2)) w5 := by
  refine ⟨k - 1, by omega, by congr 1; omega, ?_, hbel⟩
  rw [be_step u k h h8, ← hb, show 9 - (k - 1) = 9 - k + 1 by omega, ← List.cons_append, cells_append]
  exact hown

theorem escB_append (a b : List Int) : escB (a ++ b) = escB a ++ escB b := by
  induction a with
  | nil => rfl
  | cons x l ih => simp only [List.cons_append, escB]; split <;> simp [ih]

/-- a byte is put behind a row of the call's own -/
theorem own_add {w w1 : World} {base : Nat} {v : Value} {n : Nat} {l : List Value} (h : w.ownsRow base 5 1 v n l) (x : Array Value) (h1 : w1 = w.alloc (.cells x 5)) : w1.ownsRow base 5 1 v n l := by
  subst h1
  exact own_below h ((Below.refl _ _).alloc (Nat.le_refl _) _) (Nat.le_refl _)
theorem rd_lit2 (w : World) (x y : Int) : Rd (w.alloc (.cells #[.int .u8 x, .int .u8 y] 5)) (w.heap.size + 1) (some ⟨w.heap.size, 0, none⟩) 2 (cells [x, y]) := by
  have h := Rd.of_own (World.ownsRow_lit (base := w.heap.size) (e := 5) (size := 1) w #[.int .u8 x, .int .u8 y] 2 (Nat.le_refl _) (by simp [maxLen]) (by simp))
  simpa [cells] using h

set_option maxRecDepth 100000 in
set_option maxHeartbeats 6400000 in
theorem refOne_any (x : Va) (w : World) (hx : rightVa x = true) (hn : InN x) : Calls Tryd.prog 27 #[.agg #[.int .i64 x.k, .int .i64 x.n, .string x.s]] w (OwnRet w.heap.size (keyV x) w) := by
  obtain ⟨k, n, s⟩ := x
  unfold InN at hn
  simp only at hn ⊢
  obtain ⟨i0, hi, hz0, hz1, hz2⟩ := info_parts Tryd.info5
  have hv := VS.new w k n s
  obtain ⟨w1, hw1⟩ : ∃ w1, w1 = w.alloc (.cells #[.int .i64 k, .int .i64 n, .string s] 43) := ⟨_, rfl⟩
  rw [← hw1] at hv
  have HV := Lib.hid hv
  have HW := Lib.hid hw1
  clear hw1 hv
  have hc := right_cases hx
  simp only at hc
  clear hx
  have HS := Lib.hid (show w1.heap.size = w.heap.size + 1 by rw [HW.out]; simp)
  rcases hc with ⟨rfl, rfl, rfl⟩ | ⟨rfl, rfl⟩ | ⟨rfl, h01, rfl⟩ | ⟨rfl, rfl, h16⟩
  · skip
    have HO := Lib.hid (own_lit w1 0)
    have HB := Lib.hid (HV.out.2.2.2.alloc HV.out.2.2.2.size (.cells #[.int .u8 0] 5))
    rw [HS.out] at HO
    obtain ⟨w2, hw2⟩ : ∃ w2, w2 = w1.alloc (.cells #[.int .u8 0] 5) := ⟨_, rfl⟩
    rw [← hw2] at HO HB
    have HS2 := Lib.hid (show w2.heap.size = w.heap.size + 1 + 1 by rw [hw2]; simp [HS.out])
    have hv2 := HV.out.below (w'' := w2) (by rw [hw2]; exact (Below.refl _ _).alloc (Nat.le_refl _) _)
    obtain ⟨c0, c1, c2, _⟩ := HV.out
    obtain ⟨d0, d1, d2, _⟩ := hv2
    have HW2 := Lib.hid hw2
    clear hw2
    have HF := Lib.hid (show OwnRet w.heap.size (keyV ⟨0, 0, ⟨#[]⟩⟩) w (.returned (.slice (some ⟨w.heap.size + 1, 0, none⟩) 1 1)) w2 from ⟨_, rfl, own_base HO.out (by omega), HB.out⟩)
    go_enter Tryd.func27, Tryd.ntmps27
    go_wp2_with fail
    rw [← HW.out, ← HW2.out]
    go_ret
    exact HF.out
  · skip
    have HO := Lib.hid (own_lit w1 1)
    have HB := Lib.hid (HV.out.2.2.2.alloc HV.out.2.2.2.size (.cells #[.int .u8 1] 5))
    rw [HS.out] at HO
    obtain ⟨w2, hw2⟩ : ∃ w2, w2 = w1.alloc (.cells #[.int .u8 1] 5) := ⟨_, rfl⟩
    rw [← hw2] at HO HB
    have HS2 := Lib.hid (show w2.heap.size = w.heap.size + 1 + 1 by rw [hw2]; simp [HS.out])
    have hv2 := HV.out.below (w'' := w2) (by rw [hw2]; exact (Below.refl _ _).alloc (Nat.le_refl _) _)
    obtain ⟨c0, c1, c2, _⟩ := HV.out
    obtain ⟨d0, d1, d2, _⟩ := hv2
    have HW2 := Lib.hid hw2
    clear hw2
    have HE := Lib.hid (show keyV ⟨1, n, ⟨#[]⟩⟩ = 1 :: be 8 (u64 n) by simp [keyV])
    obtain ⟨u, hu⟩ : ∃ u, u = u64 n := ⟨_, rfl⟩
    have hul := u64_lt n
    rw [← hu] at hul HE
    have hwu : IntKind.u64.wrap (IntKind.u64.wrap n + 9223372036854775808) = (u : Int) := by
      rw [hu, u64]
      show ((n % 18446744073709551616) + 9223372036854775808) % 18446744073709551616 = _
      omega
    have HU := Lib.hid hu
    clear hu
    go_enter Tryd.func27, Tryd.ntmps27
    go_wp2_with fail
    rw [← HW.out, ← HW2.out]
    clear c0 c1 c2 d0 d1 d2
    go_loopw [3, 5] (fun v i wr => OneRel u w v i wr) (fun _ i _ => (Lib.intOf i + 1).toNat)
    case atStart => exact ⟨8, by omega, rfl, own_base (by simpa using HO.out) (by omega), HB.out⟩
    case round =>
      obtain ⟨k, hk, rfl, hown, hb⟩ := hrel
      have HQ := Lib.hid (And.intro hown hb)
      have hsz := hb.size
      by_cases hk0 : k = 0
      · subst hk0
        have HF := Lib.hid (show ∀ x, x = u3 → OwnRet w.heap.size (keyV ⟨1, n, ⟨#[]⟩⟩) w (.returned x) wr from fun x hx => ⟨x, rfl, by rw [HE.out, hx]; simpa [be_len, List.take_of_length_le] using hown, hb⟩)
        clear hown hb
        go_wp2
        go_ret
        exact HF.out _ rfl
      · clear hown hb
        rcases (by omega : k = 8 ∨ k = 7 ∨ k = 6 ∨ k = 5 ∨ k = 4 ∨ k = 3 ∨ k = 2 ∨ k = 1) with rfl | rfl | rfl | rfl | rfl | rfl | rfl | rfl
        all_goals
          go_wp2_with (at_builtin; refine wpList_append_rd _ rfl (.tmp 23) (.tmp 30) 44 rfl w.heap.size 5 i0 (.int .u8 0) 1 Tryd.underlying44 hi hz0 hz1 hz2 rfl _ _ _ rfl (own_add HQ.out.1 _ rfl) (wr.heap.size + 1) _ 1 1 _ rfl (rd_lit1 wr _) (cells_one _) ?c3 ?c4 ?c5 ?_)
          case c3 => simp [maxLen]
          case c4 => omega
          case c5 => first | omega | (simp; omega)
          intro v' w5 hown5 hgrow
          have hb5 : Below w.heap.size w w5 := HQ.out.2.trans (((Below.refl _ wr).alloc hsz _).trans (below_own (own_add HQ.out.1 _ rfl) hgrow (by simp; omega)))
          have HN := Lib.hid (one_step (u := u) (k := _) (by decide) hk hown5 (by first | (simp; done) | (simp; omega) | omega) hb5)
          clear hown5 hgrow hb5
          go_wp2
          exact ⟨by simpa using HN.out, by simp [Lib.intOf]⟩
  · have hn2 : n % 256 = n := by omega
    have HE := Lib.hid (show keyV ⟨2, n, ⟨#[]⟩⟩ = [2] ++ [n] by simp [keyV, hn2])
    clear hn2
    have HO := Lib.hid (own_lit w1 2)
    have HB := Lib.hid (HV.out.2.2.2.alloc HV.out.2.2.2.size (.cells #[.int .u8 2] 5))
    rw [HS.out] at HO
    obtain ⟨w2, hw2⟩ : ∃ w2, w2 = w1.alloc (.cells #[.int .u8 2] 5) := ⟨_, rfl⟩
    rw [← hw2] at HO HB
    have HS2 := Lib.hid (show w2.heap.size = w.heap.size + 1 + 1 by rw [hw2]; simp [HS.out])
    have hv2 := HV.out.below (w'' := w2) (by rw [hw2]; exact (Below.refl _ _).alloc (Nat.le_refl _) _)
    obtain ⟨c0, c1, c2, _⟩ := HV.out
    obtain ⟨d0, d1, d2, _⟩ := hv2
    have HW2 := Lib.hid hw2
    clear hw2
    have hwn : IntKind.u8.wrap n = n := by show n % 256 = n; omega
    obtain ⟨w3, hw3⟩ : ∃ w3, w3 = w2.alloc (.cells #[.int .u8 n] 5) := ⟨_, rfl⟩
    have HB3 := Lib.hid (show Below w2.heap.size w2 w3 by rw [hw3]; exact (Below.refl _ _).alloc (Nat.le_refl _) _)
    have hrd := rd_lit1 w2 n
    rw [← hw3, HS2.out] at hrd
    have HR3 := Lib.hid hrd
    have HW3 := Lib.hid hw3
    clear hw3 hrd h01
    go_enter Tryd.func27, Tryd.ntmps27
    go_wp2_with (at_builtin; rw [← HW.out, ← HW2.out, ← HW3.out]; refine wpList_append_rd _ rfl (.tmp 34) (.tmp 38) 44 rfl w.heap.size 5 i0 (.int .u8 0) 1 Tryd.underlying44 hi hz0 hz1 hz2 rfl _ _ _ rfl (own_base (own_below HO.out HB3.out (Nat.le_refl _)) (by omega)) (w.heap.size + 1 + 1 + 1) (some ⟨w.heap.size + 1 + 1, 0, none⟩) 1 1 _ rfl (HR3.out) (cells_one _) ?c3 ?c4 ?c5 ?_)
    case c3 => simp [maxLen]
    case c4 => omega
    case c5 => have h1 := HB.out.size; have h2 := HB3.out.size; omega
    intro v' w4 hown4 hgrow
    have hfin := OwnRet.cat (a := [2]) (b := [n]) (by simp) (HB.out.trans (HB3.out.mono HB.out.size)) (below_own (base := w.heap.size) (own_base (own_below HO.out HB3.out (Nat.le_refl _)) (by omega)) hgrow (by have h1 := HB.out.size; have h2 := HB3.out.size; omega)) hown4
    rw [← HE.out] at hfin
    have HFN := Lib.hid hfin
    clear hown4 hgrow hfin c0 c1 c2 d0 d1 d2
    go_wp2
    go_ret
    exact HFN.out
  · skip
    have HO := Lib.hid (own_lit w1 3)
    have HB := Lib.hid (HV.out.2.2.2.alloc HV.out.2.2.2.size (.cells #[.int .u8 3] 5))
    rw [HS.out] at HO
    obtain ⟨w2, hw2⟩ : ∃ w2, w2 = w1.alloc (.cells #[.int .u8 3] 5) := ⟨_, rfl⟩
    rw [← hw2] at HO HB
    have HS2 := Lib.hid (show w2.heap.size = w.heap.size + 1 + 1 by rw [hw2]; simp [HS.out])
    have hv2 := HV.out.below (w'' := w2) (by rw [hw2]; exact (Below.refl _ _).alloc (Nat.le_refl _) _)
    obtain ⟨c0, c1, c2, _⟩ := HV.out
    obtain ⟨d0, d1, d2, _⟩ := hv2
    have HW2 := Lib.hid hw2
    clear hw2
    have HE := Lib.hid (show keyV ⟨3, 0, s⟩ = 3 :: (escB (bytes s) ++ [0, 1]) by simp [keyV])
    have hvs2 := HV.out.below (w'' := w2) (by rw [HW2.out]; exact (Below.refl _ _).alloc (Nat.le_refl _) _)
    have HV2 := Lib.hid hvs2
    clear hvs2
    go_enter Tryd.func27, Tryd.ntmps27
    go_wp2_with fail
    rw [← HW.out, ← HW2.out]
    clear c0 c1 c2 d0 d1 d2
    go_loopw [3, 6] (fun v i wr => EscRel s w v i wr) (fun _ i _ => s.size - (Lib.intOf i).toNat)
    case atStart => exact ⟨0, by omega, rfl, by simpa [escB, HS.out] using HO.out, HV2.out⟩
    case round =>
      obtain ⟨k, hk, rfl, hown, hvs⟩ := hrel
      have hk0 : (0 : Int) ≤ (k : Int) := Int.natCast_nonneg _
      have hsz := World.block_lt_of_cell? _ _ hvs.1
      have hlk : (3 :: escB ((bytes s).take k)).length ≤ 40 ∧ (escB ((bytes s).take k)).length ≤ 39 := by
        have h1 := escB_len ((bytes s).take k)
        rw [List.length_take, bytes_len] at h1
        rw [List.length_cons]
        omega
      have HQ := Lib.hid (And.intro hown (And.intro hvs hlk))
      clear hown hlk hvs
      obtain ⟨c0, c1, c2, _⟩ := HQ.out.2.1
      by_cases hlt : k < s.size
      · have hlt1 : (k : Int) < (s.size : Int) := by omega
        have hkl : k < (bytes s).length := by rw [bytes_len]; exact hlt
        have hix := str_index s k k rfl hkl
        have htk := List.take_succ_eq_append_getElem hkl
        obtain ⟨x, hx⟩ : ∃ x, x = (bytes s)[k] := ⟨_, rfl⟩
        rw [← hx] at hix htk
        have hxb := bytes_is s x (by rw [hx]; exact List.getElem_mem _)
        have HT := Lib.hid htk
        clear hx htk hkl
        have hcA : ∀ c, (wr.alloc (.cells c 5)).cell? ⟨w.heap.size, 2, none⟩ = some (.string s) := fun c => (World.cell?_alloc_lt wr _ ⟨w.heap.size, 2, none⟩ hsz).trans c2
        go_wp2_with (at_builtin; refine wpList_append_rd _ rfl (.tmp 49) (.tmp 54) 44 rfl (w.heap.size + 1) 5 i0 (.int .u8 0) 1 Tryd.underlying44 hi hz0 hz1 hz2 rfl _ _ _ rfl (own_add HQ.out.1 _ rfl) (wr.heap.size + 1) _ 1 1 _ rfl (rd_lit1 wr x) (cells_one _) ?c3 ?c4 ?c5 ?_)
        case c3 => have := HQ.out.2.2; unfold maxLen; omega
        case c4 => have := HQ.out.2.2; omega
        case c5 => first | omega | (simp; omega)
        intro v' w5 hown5 hgrow
        have hb5 : Below (w.heap.size + 1) wr w5 := ((Below.refl _ wr).alloc hsz _).trans (below_own (own_add HQ.out.1 _ rfl) hgrow (by simp; omega))
        have hvs5 := HQ.out.2.1.above hb5
        have hsz5 := hb5.size
        have HN := Lib.hid (And.intro hown5 hvs5)
        clear hown5 hgrow hb5 c0 c1 c2 hcA hvs5
        obtain ⟨e0, e1, e2, _⟩ := HN.out.2
        by_cases hx0 : x = 0
        · subst hx0
          have hx00 : ((0 : Int) == 0) = true := rfl
          go_wp2_with (at_builtin; refine wpList_append_rd _ rfl (.tmp 61) (.tmp 62) 44 rfl (w.heap.size + 1) 5 i0 (.int .u8 0) 1 Tryd.underlying44 hi hz0 hz1 hz2 rfl _ _ _ rfl (own_add HN.out.1 _ rfl) (w5.heap.size + 1) _ 1 1 _ rfl (rd_lit1 w5 255) (cells_one _) ?c3 ?c4 ?c5 ?_)
          case c3 => have := HQ.out.2.2; unfold maxLen; omega
          case c4 => have := HQ.out.2.2; omega
          case c5 => first | omega | (simp; omega)
          intro v6 w6 hown6 hgrow
          have hb6 : Below (w.heap.size + 1) w5 w6 := ((Below.refl _ w5).alloc (by omega) _).trans (below_own (own_add HN.out.1 _ rfl) hgrow (by simp; omega))
          have HR := Lib.hid (show EscRel s w v6 (.int .i64 ((k : Int) + 1)) w6 from ⟨k + 1, by omega, by go_num, by rw [HT.out, escB_append, show escB [0] = [0] ++ [255] by simp [escB], ← List.append_assoc, ← List.cons_append, ← List.cons_append, cells_append, cells_append]; simpa using hown6, HN.out.2.above hb6⟩)
          clear hown6 hgrow hb6 e0 e1 e2
          go_wp2
          go_roundw
          case rel => exact HR.out
          case measure => simp [Lib.intOf]; omega
        · have hxne : (x == 0) = false := by simp [hx0]
          have HR := Lib.hid (show EscRel s w v' (.int .i64 ((k : Int) + 1)) w5 from ⟨k + 1, by omega, by go_num, by rw [HT.out, escB_append, show escB [x] = [x] by simp [escB, hx0], ← List.cons_append, List.length_append, cells_append]; exact HN.out.1, HN.out.2⟩)
          clear hx0
          go_wp2
          go_roundw
          case rel => exact HR.out
          case measure => simp [Lib.intOf]; omega
      · have hlt1 : ¬ (k : Int) < (s.size : Int) := by omega
        have htk : (bytes s).take k = bytes s := List.take_of_length_le (by rw [bytes_len]; omega)
        have HT := Lib.hid htk
        clear htk
        go_wp2_with (at_builtin; refine wpList_append_rd _ rfl (.tmp 64) (.tmp 65) 44 rfl (w.heap.size + 1) 5 i0 (.int .u8 0) 1 Tryd.underlying44 hi hz0 hz1 hz2 rfl _ _ _ rfl (own_add HQ.out.1 _ rfl) (wr.heap.size + 1) _ 2 2 _ rfl (rd_lit2 wr 0 1) (cells_one _) ?c3 ?c4 ?c5 ?_)
        case c3 => have := HQ.out.2.2; unfold maxLen; omega
        case c4 => have := HQ.out.2.2; omega
        case c5 => first | omega | (simp; omega)
        intro v6 w6 hown6 hgrow
        have hb6 : Below (w.heap.size + 1) wr w6 := ((Below.refl _ wr).alloc (by omega) _).trans (below_own (own_add HQ.out.1 _ rfl) hgrow (by simp; omega))
        have HF := Lib.hid (show OwnRet w.heap.size (keyV ⟨3, 0, s⟩) w (.returned v6) w6 from ⟨v6, rfl, own_base (by rw [HE.out, ← List.cons_append, ← HT.out, List.length_append, cells_append]; exact hown6) (Nat.le_succ _), (HQ.out.2.1.above hb6).2.2.2⟩)
        clear hown6 hgrow hb6 c0 c1 c2
        go_wp2
        go_ret
        exact HF.out
end Go.Proofs.YtkdhmbfmjlpfbaaDoor
