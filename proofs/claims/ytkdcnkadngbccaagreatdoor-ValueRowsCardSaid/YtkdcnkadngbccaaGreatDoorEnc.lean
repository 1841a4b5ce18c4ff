/-
  The contracts of layer 1's writers: fold, unfold, addInt, addText, Int, Text, Texts.
-/
import Derived.Test.YtkdcnkadngbccaaGreatDoorWords
import Derived.Test.YtkdcnkadngbccaaGreatDoorRows
import Derived.WalkKit
import Derived.WalkSpells
import Derived.WalkLawsBesides
import Derived.Lib.Hide
namespace Go.Proofs.YtkdcnkadngbccaaGreatDoor
open Go.RowKit Go.Lib

theorem ret_int {k : IntKind} {a b : Int} (h : a = b) : Ending.returned (.int k a) = .returned (.int k b) := by rw [h]
theorem foldN_neg {n : Int} (h : n < 0) : (foldN n : Int) = 2 * (-(n + 1)) + 1 := by unfold foldN; rw [if_pos h]; omega
theorem foldN_pos {n : Int} (h : ¬ n < 0) : (foldN n : Int) = 2 * n := by unfold foldN; rw [if_neg h]; omega
theorem unfoldN_odd {u : Nat} (h : (u : Int) % 2 = 1) : unfoldN u = -((u : Int) / 2) - 1 := by unfold unfoldN; rw [if_pos (by omega)]; omega
theorem unfoldN_even {u : Nat} (h : ¬ (u : Int) % 2 = 1) : unfoldN u = (u : Int) / 2 := by unfold unfoldN; rw [if_neg (by omega)]; omega

set_option maxHeartbeats 400000 in
theorem fold_any (n : Int) (w : World) (h1 : -9223372036854775808 ≤ n) (h2 : n ≤ 9223372036854775807) :
    Calls Tryz.prog 68 #[.int .i64 n] w fun e w' => e = .returned (.int .u64 (foldN n)) ∧ w = w' := by
  by_cases h : n < 0
  · have HE := Lib.hid (foldN_neg h)
    go_enter Tryz.func68, Tryz.ntmps68
    go_wp2
    go_ret
    exact ⟨ret_int HE.out.symm, rfl⟩
  · have HE := Lib.hid (foldN_pos h)
    go_enter Tryz.func68, Tryz.ntmps68
    go_wp2
    go_ret
    exact ⟨ret_int HE.out.symm, rfl⟩

set_option maxHeartbeats 400000 in
theorem unfold_any (u : Nat) (w : World) (h1 : u < 18446744073709551616) :
    Calls Tryz.prog 77 #[.int .u64 u] w fun e w' => e = .returned (.int .i64 (unfoldN u)) ∧ w = w' := by
  by_cases h : (u : Int) % 2 = 1
  · have HE := Lib.hid (unfoldN_odd h)
    go_enter Tryz.func77, Tryz.ntmps77
    go_wp2
    go_ret
    exact ⟨ret_int HE.out.symm, rfl⟩
  · have HE := Lib.hid (unfoldN_even h)
    go_enter Tryz.func77, Tryz.ntmps77
    go_wp2
    go_ret
    exact ⟨ret_int HE.out.symm, rfl⟩

theorem Tryz.info5 : (Tryz.prog.info? 5).map (fun i => (i.zero, i.size, i.bytes)) = some (some (.int .u8 0), 1, 1) := by kernel_rfl

/-- a slice of bytes of the call's own is handed back; nothing below base has turned -/
def OwnRet (base : Nat) (l : List Int) (w : World) (e : Ending) (w' : World) : Prop :=
  ∃ v', e = .returned v' ∧ w'.ownsRow base 5 1 v' l.length (cells l) ∧ Below base w w'

/-- what holds at the head of addInt's loop -/
def AddRel (base : Nat) (l : List Int) (u0 : Nat) (w : World) (v u : Value) (wr : World) : Prop :=
  ∃ (done : List Int) (x : Nat), u = .int .u64 (x : Int) ∧ x < 18446744073709551616 ∧ done ++ enc x = enc u0 ∧ wr.ownsRow base 5 1 v (l ++ done).length (cells (l ++ done)) ∧ Below base w wr

theorem AddRel.step {base : Nat} {l : List Int} {u0 : Nat} {w : World} {done : List Int} {x : Nat} {wr w1 : World} {v' : Value} (hx : ¬ x < 128) (hlt : x < 18446744073709551616)
    (he : done ++ enc x = enc u0) (hbel : Below base w wr) (hb1 : Below base wr w1) {n : Nat} (hn : n = (l ++ done).length + 1)
    (hown : w1.ownsRow base 5 1 v' n (cells (l ++ done) ++ [.int .u8 ((x : Int) % 128 + 128)])) : AddRel base l u0 w v' (.int .u64 ((x : Int) / 128)) w1 := by
  refine ⟨done ++ [(x : Int) % 128 + 128], x / 128, by congr 1, by omega, ?_, ?_, hbel.trans hb1⟩
  · rw [← he, enc_big hx]; simp
  · subst hn
    have e1 : (l ++ (done ++ [(x : Int) % 128 + 128])).length = (l ++ done).length + 1 := by simp; omega
    have e2 : cells (l ++ (done ++ [(x : Int) % 128 + 128])) = cells (l ++ done) ++ [.int .u8 ((x : Int) % 128 + 128)] := by simp [cells]
    rw [e1, e2]; exact hown

theorem AddRel.stop {base : Nat} {l : List Int} {u0 : Nat} {w : World} {done : List Int} {x : Nat} {wr w1 : World} {v' : Value} (hx : x < 128)
    (he : done ++ enc x = enc u0) (hbel : Below base w wr) (hb1 : Below base wr w1) {n : Nat} (hn : n = (l ++ done).length + 1)
    (hown : w1.ownsRow base 5 1 v' n (cells (l ++ done) ++ [.int .u8 (x : Int)])) : OwnRet base (l ++ enc u0) w (.returned v') w1 := by
  refine ⟨v', rfl, ?_, hbel.trans hb1⟩
  subst hn
  rw [← he, enc_small hx]
  have e1 : (l ++ (done ++ [(x : Int)])).length = (l ++ done).length + 1 := by simp; omega
  have e2 : cells (l ++ (done ++ [(x : Int)])) = cells (l ++ done) ++ [.int .u8 (x : Int)] := by simp [cells]
  rw [e1, e2]; exact hown

set_option maxRecDepth 100000 in
set_option maxHeartbeats 400000 in
theorem addInt_any (base : Nat) (v : Value) (l : List Int) (n : Int) (w : World) (hown : w.ownsRow base 5 1 v l.length (cells l)) (hb : base ≤ w.heap.size) (hl : l.length ≤ 70000000000000)
    (h1 : -9223372036854775808 ≤ n) (h2 : n ≤ 9223372036854775807) :
    Calls Tryz.prog 51 #[v, .int .i64 n] w (OwnRet base (l ++ encI n) w) := by
  obtain ⟨i0, hi, hz0, hz1, hz2⟩ := info_parts Tryz.info5
  have hf := foldN_lt n h1 h2
  have HL := Lib.hid (enc_len64 hf)
  have HF := Lib.hid hf
  clear hf
  go_enter Tryz.func51, Tryz.ntmps51
  go_wp2_with (go_at_call 68; refine (fold_any _ _ (by omega) (by omega)).mono ?_; rintro e w' ⟨rfl, rfl⟩)
  go_loopw [0, 5] (fun v u wr => AddRel base l (foldN n) w v u wr) (fun _ u _ => (intOf u).toNat)
  case atStart => exact ⟨[], foldN n, rfl, HF.out, rfl, by simpa using hown, Below.refl _ _⟩
  case round =>
    obtain ⟨done, x, rfl, hx, he, hown', hbel⟩ := hrel
    have hdl : done.length ≤ 10 := by have := HL.out; rw [← he, List.length_append] at this; omega
    have hsz := hbel.size
    have HE := Lib.hid he
    have HX := Lib.hid hx
    clear he hown hx
    by_cases h128 : x < 128
    · go_wp2_with (at_builtin; refine wpList_append_own _ rfl (.tmp 19) (.tmp 22) 25 rfl base 5 i0 (.int .u8 0) 1 1 Tryz.underlying25 hi hz0 hz1 hz2 rfl (by decide) _ _ _ rfl (hown'.alloc _) ⟨wr.heap.size, 0, none⟩ 1 1 [.int .u8 (x : Int)] rfl rfl (cell_one_new _ _ _) ?c2 ?c3 ?c4 ?c5 ?_)
      case c2 => intro u hu; simp at hu; subst hu; rfl
      case c3 => simp [maxLen]; omega
      case c4 => simp; omega
      case c5 => simp; omega
      intro v' w1 hown1 hgrow _
      have hb1 : Below base wr w1 := ((Below.refl _ _).alloc (by omega) _).trans (below_own (hown'.alloc _) hgrow (by simp; omega))
      have hfin := AddRel.stop h128 HE.out hbel hb1 (by simp) hown1
      clear hown1 hgrow hown'
      go_wp2
      go_ret
      exact hfin
    · have hxi : (x : Int) ≤ 18446744073709551615 := by have := HX.out; omega
      go_wp2_with (at_builtin; refine wpList_append_own _ rfl (.tmp 10) (.tmp 15) 25 rfl base 5 i0 (.int .u8 0) 1 1 Tryz.underlying25 hi hz0 hz1 hz2 rfl (by decide) _ _ _ rfl (hown'.alloc _) ⟨wr.heap.size, 0, none⟩ 1 1 [.int .u8 ((x : Int) % 128 + 128)] rfl rfl (cell_one_new _ _ _) ?d2 ?d3 ?d4 ?d5 ?_)
      case d2 => intro u hu; simp at hu; subst hu; rfl
      case d3 => simp [maxLen]; omega
      case d4 => simp; omega
      case d5 => simp; omega
      intro v' w1 hown1 hgrow _
      have hb1 : Below base wr w1 := ((Below.refl _ _).alloc (by omega) _).trans (below_own (hown'.alloc _) hgrow (by simp; omega))
      have hfin := Lib.hid (AddRel.step h128 HX.out HE.out hbel hb1 (by simp) hown1)
      clear hown1 hgrow hown'
      go_wp2
      go_roundw
      case rel => exact hfin.out
      case measure => simp [intOf]; omega

set_option maxRecDepth 100000 in
set_option maxHeartbeats 400000 in
theorem int_any (n : Int) (w : World) (h1 : -9223372036854775808 ≤ n) (h2 : n ≤ 9223372036854775807) :
    Calls Tryz.prog 22 #[.int .i64 n] w (OwnRet w.heap.size (encI n) w) := by
  go_enter Tryz.func22, Tryz.ntmps22
  go_wp2_with (go_at_call 51; refine (addInt_any w.heap.size (.slice none 0 0) [] n _ (World.ownsRow_nil _ _ _ _) (Nat.le_refl _) (by simp) h1 h2).mono ?_; rintro e w' ⟨v', rfl, h3, h4⟩)
  go_ret
  exact ⟨v', rfl, h3, h4⟩

theorem OwnRet.text {base : Nat} {l : List Int} {w w1 w2 : World} {s : ByteArray} {v' : Value} {n : Nat} (hn : n = (l ++ encI s.size).length) (hb1 : Below base w w1) (hb2 : Below base w1 w2)
    (hown : w2.ownsRow base 5 1 v' (n + s.size) (cells (l ++ encI s.size) ++ strCells s)) : OwnRet base (l ++ encT (bytes s)) w (.returned v') w2 := by
  subst hn
  refine ⟨v', rfl, ?_, hb1.trans hb2⟩
  have e1 : (l ++ encT (bytes s)).length = (l ++ encI s.size).length + s.size := by simp [encT, bytes_len]; omega
  have e2 : cells (l ++ encT (bytes s)) = cells (l ++ encI s.size) ++ strCells s := by rw [strCells_eq, ← cells_append, encT, bytes_len, List.append_assoc]
  rw [e1, e2]; exact hown

set_option maxRecDepth 100000 in
set_option maxHeartbeats 400000 in
theorem addText_any (base : Nat) (v : Value) (l : List Int) (s : ByteArray) (w : World) (hown : w.ownsRow base 5 1 v l.length (cells l)) (hb : base ≤ w.heap.size) (hl : l.length ≤ 30000000000000) (hs : s.size ≤ 30000000000000) :
    Calls Tryz.prog 69 #[v, .string s] w (OwnRet base (l ++ encT (bytes s)) w) := by
  obtain ⟨i0, hi, hz0, hz1, hz2⟩ := info_parts Tryz.info5
  have hel := encI_len (n := (s.size : Int)) (by omega) (by omega)
  have HE := Lib.hid hel
  clear hel
  go_enter Tryz.func69, Tryz.ntmps69
  go_wp2_with (first | (go_at_call 51; refine (addInt_any base v l _ _ hown hb (by omega) (by omega) (by omega)).mono ?_; rintro e w1 ⟨v1, rfl, h3, h4⟩; have hsz := h4.size) | (at_builtin; refine wpList_append_own_string _ rfl (.tmp 8) (.tmp 9) 25 9 rfl base 5 i0 Tryz.underlying25 Tryz.underlying9 hi hz0 hz1 hz2 v1 _ _ rfl h3 s rfl ?c1 ?c2 ?c3 ?_))
  case c1 => have := HE.out; simp [maxLen]; omega
  case c2 => have := HE.out; simp; omega
  case c3 => omega
  intro v' w2 hown2 hgrow _
  have hfin := OwnRet.text (l := l) (n := l.length + (encI s.size).length) (by simp) h4 (below_own h3 hgrow (by omega)) hown2
  clear hown2 hgrow h3 hown
  go_wp2
  go_ret
  exact hfin

set_option maxRecDepth 100000 in
set_option maxHeartbeats 400000 in
theorem text_any (s : ByteArray) (w : World) (hs : s.size ≤ 30000000000000) :
    Calls Tryz.prog 52 #[.string s] w (OwnRet w.heap.size (encT (bytes s)) w) := by
  go_enter Tryz.func52, Tryz.ntmps52
  go_wp2_with (go_at_call 69; refine (addText_any w.heap.size (.slice none 0 0) [] s _ (World.ownsRow_nil _ _ _ _) (Nat.le_refl _) (by simp) hs).mono ?_; rintro e w' ⟨v', rfl, h3, h4⟩)
  go_ret
  exact ⟨v', rfl, h3, h4⟩

set_option maxRecDepth 100000 in
theorem encI_nat {m : Nat} (h : m ≤ 30000000000000) : (encI (m : Int)).length ≤ 10 := encI_len (by omega) (by omega)
theorem encTs_append (a b : List (List Int)) : encTs (a ++ b) = encTs a ++ encTs b := by
  induction a with
  | nil => rfl
  | cons t a ih => simp [encTs, ih]

end Go.Proofs.YtkdcnkadngbccaaGreatDoor
