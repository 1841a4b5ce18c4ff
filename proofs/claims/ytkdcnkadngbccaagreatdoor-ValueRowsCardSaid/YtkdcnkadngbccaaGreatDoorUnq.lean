/-
  The contracts of strings.IndexByte, strings.HasPrefix and unquoted.
-/
import Derived.Test.YtkdcnkadngbccaaGreatDoorQuo
import Derived.Deep.QuietTactic
import Derived.BigQuiet
namespace Go.Proofs.YtkdcnkadngbccaaGreatDoor
open Go.RowKit Go.Lib

def digS : ByteArray := ⟨#[48, 49, 50, 51, 52, 53, 54, 55, 56, 57, 97, 98, 99, 100, 101, 102]⟩
def hx (c : Int) : Int := indexByte digS.data.toList c.toNat.toUInt8

set_option maxRecDepth 100000 in
theorem indexLite_any (s : ByteArray) (c : Int) (w : World) :
    Calls Tryz.prog 78 #[.string s, .int .u8 c] w fun e w' => e = .returned (.int .i64 (indexByte s.data.toList c.toNat.toUInt8)) ∧ w' = w := by
  go_enter Tryz.func78, Tryz.ntmps78
  go_wp2
  rw [run_callFunc_extern Tryz.func88 (by kernel_rfl) (by kernel_rfl) (by kernel_rfl) (e := Extern.BytealgIndexByte.indexByte) (by kernel_rfl), run_indexByteString]
  simp only [Result.andThen]
  rw [Oper.upon_value]
  go_wp2
  go_ret
  exact ⟨rfl, rfl⟩
theorem indexByte_any (c : Int) (w : World) :
    Calls Tryz.prog 72 #[.string ⟨#[48, 49, 50, 51, 52, 53, 54, 55, 56, 57, 97, 98, 99, 100, 101, 102]⟩, .int .u8 c] w fun e w' => e = .returned (.int .i64 (hx c)) ∧ w' = w := by
  go_enter Tryz.func72, Tryz.ntmps72
  go_wp2_with fail
  refine (indexLite_any _ c _).mono ?_
  rintro e w' ⟨rfl, rfl⟩
  go_wp2
  go_ret
  exact ⟨rfl, rfl⟩

theorem hx_bd (c : Int) : -1 ≤ hx c ∧ hx c ≤ 15 := by
  have h : ∀ (l : List UInt8) (x : UInt8), -1 ≤ indexByte l x ∧ indexByte l x ≤ (l.length : Int) - 1 := by
    intro l x
    induction l with
    | nil => simp [indexByte]
    | cons b l ih =>
      unfold indexByte
      simp only [List.length_cons]
      split
      · omega
      · split <;> omega
  have := h digS.data.toList c.toNat.toUInt8
  have e : digS.data.toList.length = 16 := rfl
  unfold hx
  omega

/-- what unquoted makes of the bytes from a place on -/
def unqL : List Int → List Int
  | a :: b :: c :: r => if a ≠ 92 then a :: unqL (b :: c :: r) else ((hx b * 16 + hx c) % 256) :: unqL r
  | [a, _] => [a]
  | _ => []

theorem bytes_getElem (s : ByteArray) (k : Nat) (h : k < s.size) (h' : k < (bytes s).length) : (bytes s)[k] = ((s[k]'h).toNat : Int) := by
  simp only [bytes, List.getElem_map, Array.getElem_toList]
  rfl
theorem str_index (s : ByteArray) (k : Nat) (i : Int) (hi : i = k) (h' : k < (bytes s).length) (w : World) :
    (Instr.index 9 (.string s) (.int .i64 i)).run Tryz.prog w = .ok (.int .u8 ((bytes s)[k])) w := by
  subst hi
  have h : k < s.size := by rw [bytes_len] at h'; exact h'
  rw [run_index_string w 9 s .i64 k Tryz.underlying9]
  rw [dif_pos ⟨Int.natCast_nonneg k, by omega⟩, bytes_getElem s k h h']
  rfl

/-- what holds at the head of unquoted's loop -/
def UnRel (w : World) (l : List Int) (v i : Value) (wr : World) : Prop :=
  ∃ (k : Nat) (done : List Int), 1 ≤ k ∧ k ≤ l.length + 1 ∧ i = .int .i64 k ∧ done.length ≤ k ∧ done ++ unqL (l.drop k) = unqL (l.drop 1) ∧ wr.ownsRow w.heap.size 5 1 v done.length (cells done) ∧ Below w.heap.size w wr
theorem UnRel.step {w wr w1 : World} {l done : List Int} {k k' : Nat} {v v' : Value} {i : Value} {n : Nat} {x : Int} (h1 : 1 ≤ k') (hk : k' ≤ l.length + 1) (hi : i = .int .i64 k') (hkk : k + 1 ≤ k') (hd : done.length ≤ k)
    (he : done ++ unqL (l.drop k) = unqL (l.drop 1)) (hu : unqL (l.drop k) = x :: unqL (l.drop k')) (hown : wr.ownsRow w.heap.size 5 1 v done.length (cells done)) (hb : Below w.heap.size w wr) (o : Obj) (hn : n = done.length + 1)
    (hown1 : w1.ownsRow w.heap.size 5 1 v' n (cells done ++ [.int .u8 x])) (hgr : (wr.alloc o).grownBy w1 v.ownBlock) : UnRel w l v' i w1 := by
  refine ⟨k', done ++ [x], h1, hk, hi, by simp; omega, by rw [← he, hu]; simp, ?_, (hb.alloc hb.size o).trans (below_own (hown.alloc o) hgr (by have := hb.size; simp; omega))⟩
  have e1 : (done ++ [x]).length = n := by rw [hn]; simp
  have e2 : cells (done ++ [x]) = cells done ++ [.int .u8 x] := by simp [cells]
  rw [e1, e2]; exact hown1
theorem unq_plain {l : List Int} {k : Nat} (h : k + 1 < l.length) (hs : l[k] ≠ 92 ∨ l.length ≤ k + 2) : unqL (l.drop k) = l[k] :: unqL (l.drop (k + 1)) := by
  rw [List.drop_eq_getElem_cons (show k < l.length by omega), List.drop_eq_getElem_cons h]
  by_cases h2 : k + 2 < l.length
  · rw [List.drop_eq_getElem_cons h2]
    rcases hs with hs | hs
    · rw [unqL, if_pos hs]
    · omega
  · rw [List.drop_eq_nil_of_le (by omega)]
    rfl
theorem unq_esc {l : List Int} {k : Nat} (h : k + 2 < l.length) (hs : l[k] = 92) : unqL (l.drop k) = ((hx l[k + 1] * 16 + hx l[k + 2]) % 256) :: unqL (l.drop (k + 3)) := by
  rw [List.drop_eq_getElem_cons (show k < l.length by omega), List.drop_eq_getElem_cons (show k + 1 < l.length by omega), List.drop_eq_getElem_cons h]
  rw [unqL, if_neg (by simp [hs])]
theorem unq_end {l : List Int} {k : Nat} (h : l.length ≤ k + 1) : unqL (l.drop k) = [] := by
  have h1 : (l.drop k).length ≤ 1 := by simp; omega
  match l.drop k, h1 with
  | [], _ => rfl
  | [_], _ => rfl

set_option maxRecDepth 100000 in
set_option maxHeartbeats 3200000 in
theorem unquoted_any (s : ByteArray) (w : World) (hs : s.size ≤ 30000000000000) :
    Calls Tryz.prog 62 #[.string s] w fun e w' => e = .returned (.string (mkStr (unqL (bytes s).tail))) ∧ Below w.heap.size w w' := by
  obtain ⟨i0, hi, hz0, hz1, hz2⟩ := info_parts Tryz.info5
  obtain ⟨N, hN⟩ : ∃ N, N = s.size := ⟨_, rfl⟩
  have hbl := bytes_len s
  rw [← hN] at hs hbl
  have hsub : IntKind.i64.wrap ((N : Int) - 1) = (N : Int) - 1 := IntWalk.i64_in _ (by omega)
  have HN := Lib.hid (And.intro hN hbl)
  clear hN hbl
  go_enter Tryz.func62, Tryz.ntmps62
  go_wp2_with fail
  go_loopw [3, 4] (fun v i wr => UnRel w (bytes s) v i wr) (fun _ i _ => N + 2 - (intOf i).toNat)
  case atStart => exact ⟨1, [], by omega, by omega, rfl, by simp, rfl, World.ownsRow_nil _ _ _ _, Below.refl _ _⟩
  case round =>
    obtain ⟨k, done, hk1, hk2, rfl, hd, he, hown, hb⟩ := hrel
    rw [HN.out.2] at hk2
    have hk0 : (0 : Int) ≤ (k : Int) := Int.natCast_nonneg _
    have hsz := hb.size
    have hss := HN.out.1
    have hbl := HN.out.2
    by_cases hlt : k + 1 < N
    · have hlt1 : (k : Int) < (N : Int) - 1 := by omega
      have ix0 := str_index s k k rfl (by omega)
      obtain ⟨a, ha⟩ : ∃ a, a = (bytes s)[k]'(by omega) := ⟨_, rfl⟩
      rw [← ha] at ix0
      by_cases h92 : a = 92
      · subst h92
        have hd2 : (k : Int) + 2 < (N : Int) ∨ ¬ (k : Int) + 2 < (N : Int) := by omega
        have hw2 : IntKind.i64.wrap ((k : Int) + 2) = (k : Int) + 2 := IntWalk.i64_in _ (by omega)
        by_cases hlt2 : k + 2 < N
        · have hg2 : ¬ (N : Int) ≤ (k : Int) + 2 := by omega
          have hd3 : decide ((N : Int) ≤ (k : Int) + 2) = false := by simp; omega
          have hw1 : IntKind.i64.wrap ((k : Int) + 1) = (k : Int) + 1 := IntWalk.i64_in _ (by omega)
          have hw3 : IntKind.i64.wrap ((k : Int) + 2 + 1) = (k : Int) + 3 := by rw [show (k : Int) + 2 + 1 = (k : Int) + 3 by omega]; exact IntWalk.i64_in _ (by omega)
          have hu := unq_esc (l := bytes s) (k := k) (by omega) ha.symm
          have ix1 := str_index s (k + 1) ((k : Int) + 1) (by omega) (by omega)
          have ix2 := str_index s (k + 2) ((k : Int) + 2) (by omega) (by omega)
          obtain ⟨b, hb'⟩ : ∃ b, b = (bytes s)[k + 1]'(by omega) := ⟨_, rfl⟩
          obtain ⟨c, hc'⟩ : ∃ c, c = (bytes s)[k + 2]'(by omega) := ⟨_, rfl⟩
          rw [← hb'] at ix1 hu
          rw [← hc'] at ix2 hu
          have HC1 := Lib.hid (indexByte_any b)
          have HC2 := Lib.hid (indexByte_any c)
          have hpb := hx_bd b
          have hqb := hx_bd c
          obtain ⟨p, hp⟩ : ∃ p, p = hx b := ⟨_, rfl⟩
          obtain ⟨q, hq⟩ : ∃ q, q = hx c := ⟨_, rfl⟩
          rw [← hp] at HC1 hpb hu
          rw [← hq] at HC2 hqb hu
          have hm1 : IntKind.i64.wrap (p * 16) = p * 16 := IntWalk.i64_in _ (by omega)
          have hm2 : IntKind.i64.wrap (p * 16 + q) = p * 16 + q := IntWalk.i64_in _ (by omega)
          have hm3 : IntKind.u8.wrap (p * 16 + q) = (p * 16 + q) % 256 := by rw [IntKind.wrap_u8]
          have HQ := Lib.hid (And.intro hown (And.intro hb (And.intro he (And.intro hd hu))))
          have HA := Lib.hid (And.intro ha (And.intro hb' (And.intro hc' (And.intro hp hq))))
          clear hown hb he hd hu ha hb' hc' hp hq hd2
          rw [hss] at hlt1 hg2 hd3
          go_wp2_with fail
          go_quiet (first | (go_at_call 72; first | exact Calls.quiet_of_same (HC1.out _) | exact Calls.quiet_of_same (HC2.out _)))
          go_wp2_with (at_builtin; refine wpList_append_own _ rfl (.tmp 41) (.tmp 47) 25 rfl w.heap.size 5 i0 (.int .u8 0) 1 1 Tryz.underlying25 hi hz0 hz1 hz2 rfl (by decide) _ _ _ rfl (HQ.out.1.alloc _) ⟨(wr.drewN nq).heap.size, 0, none⟩ 1 1 [.int .u8 ((p * 16 + q) % 256)] rfl rfl (cell_one_new _ _ _) ?e2 ?e3 ?e4 ?e5 ?_)
          case e2 => first | rfl | (intro u hu; simp at hu; subst hu; rfl)
          case e3 => have := HQ.out.2.2.2.1; simp [maxLen]; omega
          case e4 => have := HQ.out.2.2.2.1; simp; omega
          case e5 => first | omega | (simp; omega)
          intro v' w1 hown1 hgrow _
          have hfin := Lib.hid (UnRel.step (k := k) (k' := k + 3) (i := .int .i64 ((k : Int) + 3)) (by omega) (by omega) (by go_num) (by omega) HQ.out.2.2.2.1 HQ.out.2.2.1 HQ.out.2.2.2.2 HQ.out.1 HQ.out.2.1 _ rfl hown1 ⟨hgrow.os, hgrow.tape, hgrow.output, hgrow.size, hgrow.block⟩)
          clear hown1 hgrow
          go_wp2
          go_roundw
          case rel => exact hfin.out
          case measure => simp [intOf]; omega
        · have hg2 : (N : Int) ≤ (k : Int) + 2 := by omega
          have hd3 : decide ((N : Int) ≤ (k : Int) + 2) = true := by simp [hg2]
          have hu := unq_plain (l := bytes s) (k := k) (by omega) (.inr (by omega))
          rw [← ha] at hu
          have HQ := Lib.hid (And.intro hown (And.intro hb (And.intro he (And.intro hd hu))))
          have HA := Lib.hid ha
          clear hown hb he hd hu ha hd2
          rw [hss] at hlt1 hg2 hd3
          go_wp2_with (at_builtin; refine wpList_append_own _ rfl (.tmp 25) (.tmp 29) 25 rfl w.heap.size 5 i0 (.int .u8 0) 1 1 Tryz.underlying25 hi hz0 hz1 hz2 rfl (by decide) _ _ _ rfl (HQ.out.1.alloc _) ⟨wr.heap.size, 0, none⟩ 1 1 [.int .u8 92] rfl rfl (cell_one_new _ _ _) ?c2 ?c3 ?c4 ?c5 ?_)
          case c2 => first | rfl | (intro u hu; simp at hu; subst hu; rfl)
          case c3 => have := HQ.out.2.2.2.1; simp [maxLen]; omega
          case c4 => have := HQ.out.2.2.2.1; simp; omega
          case c5 => first | omega | (simp; omega)
          intro v' w1 hown1 hgrow _
          have hfin := Lib.hid (UnRel.step (k := k) (k' := k + 1) (i := .int .i64 ((k : Int) + 1)) (by omega) (by omega) (by go_num) (by omega) HQ.out.2.2.2.1 HQ.out.2.2.1 HQ.out.2.2.2.2 HQ.out.1 HQ.out.2.1 _ rfl hown1 hgrow)
          clear hown1 hgrow
          go_wp2
          go_roundw
          case rel => exact hfin.out
          case measure => simp [intOf]; omega
      · have hd92 : (a != 92) = true := by simp [h92]
        have hu := unq_plain (l := bytes s) (k := k) (by omega) (.inl (by rw [← ha]; exact h92))
        rw [← ha] at hu
        have HQ := Lib.hid (And.intro hown (And.intro hb (And.intro he (And.intro hd hu))))
        have HA := Lib.hid ha
        clear hown hb he hd hu ha h92
        rw [hss] at hlt1
        go_wp2_with (at_builtin; refine wpList_append_own _ rfl (.tmp 25) (.tmp 29) 25 rfl w.heap.size 5 i0 (.int .u8 0) 1 1 Tryz.underlying25 hi hz0 hz1 hz2 rfl (by decide) _ _ _ rfl (HQ.out.1.alloc _) ⟨wr.heap.size, 0, none⟩ 1 1 [.int .u8 a] rfl rfl (cell_one_new _ _ _) ?c2 ?c3 ?c4 ?c5 ?_)
        case c2 => first | rfl | (intro u hu; simp at hu; subst hu; rfl)
        case c3 => have := HQ.out.2.2.2.1; simp [maxLen]; omega
        case c4 => have := HQ.out.2.2.2.1; simp; omega
        case c5 => first | omega | (simp; omega)
        intro v' w1 hown1 hgrow _
        have hfin := Lib.hid (UnRel.step (k := k) (k' := k + 1) (i := .int .i64 ((k : Int) + 1)) (by omega) (by omega) (by go_num) (by omega) HQ.out.2.2.2.1 HQ.out.2.2.1 HQ.out.2.2.2.2 HQ.out.1 HQ.out.2.1 _ rfl hown1 hgrow)
        clear hown1 hgrow
        go_wp2
        go_roundw
        case rel => exact hfin.out
        case measure => simp [intOf]; omega
    · have hlt1 : ¬ (k : Int) < (N : Int) - 1 := by omega
      have hu := unq_end (l := bytes s) (k := k) (by omega)
      rw [hu, List.append_nil] at he
      obtain ⟨A2, c2, rfl, _, _⟩ := own_shape hown
      have hst := run_strw (P := Tryz.prog) wr 25 9 5 A2 _ c2 _ done Tryz.underlying25 Tryz.underlying5 Tryz.underlying9 (Rd.of_own hown)
      rw [List.drop_one] at he
      have HB := Lib.hid (And.intro hb he)
      clear hb he hd hu hown
      rw [hss] at hlt1
      go_wp2
      go_ret
      exact ⟨by rw [← HB.out.2]; rfl, HB.out.1⟩
end Go.Proofs.YtkdcnkadngbccaaGreatDoor
