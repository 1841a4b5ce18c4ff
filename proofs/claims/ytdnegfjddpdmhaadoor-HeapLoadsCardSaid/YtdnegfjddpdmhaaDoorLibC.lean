/-
  The contracts of slices.Grow onto nothing, slices.Concat of three rows of bytes, bytes.Clone, bytes.IndexByte, and New.
-/
import Derived.Test.YtdnegfjddpdmhaaDoorBeg
import Derived.Lib.AppendZerosOnto
import Derived.Lib.AppendZeros
import Derived.Lib.BytesEntry
import Derived.Lib.SliceRun
namespace Go.Proofs.YtdnegfjddpdmhaaDoor
open Go.RowKit Go.Lib

theorem Tryd.dkinfo5 : (Tryd.prog.info? 5).map (fun i => (i.zero, i.size, i.bytes)) = some (some (.int .u8 0), 1, 1) := by kernel_rfl
theorem info_parts {P : Program} {t : TypeId} {z : Value} {n b : Nat} (h : (P.info? t).map (fun i => (i.zero, i.size, i.bytes)) = some (some z, n, b)) : ∃ i, P.info? t = some i ∧ i.zero = some z ∧ i.size = n ∧ i.bytes = b := by
  cases hi : P.info? t with
  | none => rw [hi] at h; cases h
  | some i =>
    rw [hi] at h
    simp only [Option.map_some, Option.some.injEq, Prod.mk.injEq] at h
    exact ⟨i, rfl, h.1, h.2.1, h.2.2⟩

/-- bytes of the call's own are handed back -/
def OwnRet (base : Nat) (l : List Int) (w : World) (e : Ending) (w' : World) : Prop :=
  ∃ v', e = .returned v' ∧ w'.ownsRow base 5 1 v' l.length (cells l) ∧ Below base w w'

set_option maxRecDepth 100000 in
set_option maxHeartbeats 1600000 in
theorem grow_any (n : Nat) (h0 : 0 < n) (hn : n ≤ 100000000000) (w : World) :
    Calls Tryd.prog 97 #[.slice none 0 0, .int .i64 n] w fun e w' => ∃ v, e = .returned v ∧ w'.ownsRow w.heap.size 5 1 v 0 [] ∧ Below w.heap.size w w' := by
  obtain ⟨i0, hi, hz0, hz1, hz2⟩ := info_parts Tryd.dkinfo5
  have hold : (Builtin.firstCells i0.size 0 (.slice none 0 0)).run Tryd.prog w.drew = .ok ([] : List Value).toArray w.drew := by simp [Builtin.firstCells]
  have hrz : ∀ ty, (Builtin.append_ #[33, 3] ty #[.slice none 0 0, .int .i64 n]).run Tryd.prog w = .ok (.slice (some ⟨w.heap.size, 0, none⟩) n (grownCap w n 0 5)) (w.drew.alloc (.cells (([] : List Value).toArray ++ Builtin.zeroCells (Value.int .u8 0).cells n ++ Builtin.zeroCells (Value.int .u8 0).cells (grownCap w n 0 5 - n)) 5)) := fun ty => by
    have h := Lib.run_append_grow_zeros w 33 3 ty 5 i0 _ .i64 .i64 Tryd.underlying33 Tryd.underlying3 hi hz0 none 0 0 [] hold n h0 (by rw [hz1]; omega) (by omega) (by omega) (by rw [hz2]; omega) (by rw [hz2]; exact growslice_fits (by omega) (by omega))
    rw [Nat.zero_add] at h
    exact h
  have hGn : n ≤ grownCap w n 0 5 := by have := grownCap_ge w n 0 5; omega
  obtain ⟨G, hG⟩ : ∃ G, G = grownCap w n 0 5 := ⟨_, rfl⟩
  have hG63 : G ≤ maxLen := by rw [hG]; exact grownCap_le_maxLen w n 0 5 (by unfold maxLen; omega)
  rw [← hG] at hrz hGn
  have hG64 : G ≤ 9223372036854775807 := hG63
  have HG := Lib.hid hG63
  obtain ⟨cur, hcur⟩ : ∃ cur, cur = ([] : List Value).toArray ++ Builtin.zeroCells (Value.int .u8 0).cells n ++ Builtin.zeroCells (Value.int .u8 0).cells (G - n) := ⟨_, rfl⟩
  have hcl : cur.size = G := by rw [hcur]; simp [Builtin.zeroCells, Value.cells]; omega
  rw [← hcur] at hrz
  have HC := Lib.hid hcl
  have hb : Below w.heap.size w (w.drew.alloc (.cells cur 5)) := ((Below.refl _ w).drew).alloc (Nat.le_refl _) _
  have HB := Lib.hid hb
  clear hold hG hcur hcl hi hz0 hz1 hz2 hb hG63
  go_enter Tryd.func97, Tryd.ntmps97
  go_wp2_with (refine Lib.wpList_append_run _ rfl (.tmp 20) (.tmp 21) 33 3 rfl _ _ rfl rfl _ _ (hrz _) ?_)
  go_ret
  exact ⟨_, rfl, ⟨rfl, .inr ⟨_, G, cur, rfl, Nat.le_refl _, Blk.new w.drew 5 cur, by omega, HG.out, by rw [HC.out, Nat.mul_one], by simp⟩⟩, HB.out⟩

theorem grow_at (x : Int) (n : Nat) (hx : x = n) (h0 : 0 < n) (hn : n ≤ 100000000000) (w : World) :
    Calls Tryd.prog 97 #[.slice none 0 0, .int .i64 x] w fun e w' => ∃ v, e = .returned v ∧ w'.ownsRow w.heap.size 5 1 v 0 [] ∧ Below w.heap.size w w' := by
  subst hx
  exact grow_any n h0 hn w

/-- three rows of bytes, in one row of slices at block L -/
structure Thr (w : World) (L : Nat) (A1 : Option Addr) (n1 c1 : Nat) (l1 : List Int) (A2 : Option Addr) (n2 c2 : Nat) (l2 : List Int) (A3 : Option Addr) (n3 c3 : Nat) (l3 : List Int) : Prop where
  a : w.cell? ⟨L, 0, none⟩ = some (.slice A1 n1 c1)
  b : w.cell? ⟨L, 1, none⟩ = some (.slice A2 n2 c2)
  c : w.cell? ⟨L, 2, none⟩ = some (.slice A3 n3 c3)
  lt : L < w.heap.size
  r1 : Rd w w.heap.size A1 n1 (cells l1)
  r2 : Rd w w.heap.size A2 n2 (cells l2)
  r3 : Rd w w.heap.size A3 n3 (cells l3)
theorem Thr.below {w w' : World} {L : Nat} {A1 : Option Addr} {n1 c1 : Nat} {l1 : List Int} {A2 : Option Addr} {n2 c2 : Nat} {l2 : List Int} {A3 : Option Addr} {n3 c3 : Nat} {l3 : List Int} (h : Thr w L A1 n1 c1 l1 A2 n2 c2 l2 A3 n3 c3 l3) (hb : Below w.heap.size w w') : Thr w' L A1 n1 c1 l1 A2 n2 c2 l2 A3 n3 c3 l3 :=
  ⟨(hb.cell h.lt).trans h.a, (hb.cell h.lt).trans h.b, (hb.cell h.lt).trans h.c, Nat.lt_of_lt_of_le h.lt hb.size, (h.r1.below hb (Nat.le_refl _)).more hb.size, (h.r2.below hb (Nat.le_refl _)).more hb.size, (h.r3.below hb (Nat.le_refl _)).more hb.size⟩

theorem grow_none (w : World) : Calls Tryd.prog 97 #[.slice none 0 0, .int .i64 0] w fun e w' => e = .returned (.slice none 0 0) ∧ w' = w := by
  go_enter Tryd.func97, Tryd.ntmps97
  go_wp2
  go_ret
  exact ⟨rfl, rfl⟩
theorem grow_all (x : Int) (n : Nat) (hx : x = n) (hn : n ≤ 100000000000) (w : World) :
    Calls Tryd.prog 97 #[.slice none 0 0, .int .i64 x] w (OwnRet w.heap.size [] w) := by
  subst hx
  rcases Nat.eq_zero_or_pos n with rfl | h0
  · refine (grow_none w).mono ?_
    rintro e w' ⟨rfl, rfl⟩
    exact ⟨_, rfl, ⟨rfl, .inl ⟨rfl, rfl⟩⟩, Below.refl _ _⟩
  · exact grow_any n h0 hn w

def sum3 (n1 n2 n3 : Nat) : Nat → Nat
  | 0 => 0
  | 1 => n1
  | 2 => n1 + n2
  | _ => n1 + n2 + n3
def cat3 (l1 l2 l3 : List Int) : Nat → List Int
  | 0 => []
  | 1 => l1
  | 2 => l1 ++ l2
  | _ => l1 ++ l2 ++ l3
def CcRel (w : World) (n1 n2 n3 : Nat) (l1 l2 l3 : List Int) (v i : Value) (wr : World) : Prop :=
  ∃ k : Nat, k ≤ 3 ∧ i = .int .i64 k ∧ wr.ownsRow w.heap.size 5 1 v (sum3 n1 n2 n3 k) (cells (cat3 l1 l2 l3 k)) ∧ Below w.heap.size w wr
def SuRel (w : World) (n1 n2 n3 : Nat) (s i : Value) (wr : World) : Prop := ∃ k : Nat, k ≤ 3 ∧ s = .int .i64 (sum3 n1 n2 n3 k) ∧ i = .int .i64 k ∧ wr = w

set_option maxRecDepth 100000 in
set_option maxHeartbeats 6400000 in
theorem concat_any (w : World) (L : Nat) (A1 : Option Addr) (n1 c1 : Nat) (l1 : List Int) (A2 : Option Addr) (n2 c2 : Nat) (l2 : List Int) (A3 : Option Addr) (n3 c3 : Nat) (l3 : List Int) (h : Thr w L A1 n1 c1 l1 A2 n2 c2 l2 A3 n3 c3 l3) (hb1 : n1 ≤ 1000000) (hb2 : n2 ≤ 1000000) (hb3 : n3 ≤ 1000000) :
    Calls Tryd.prog 89 #[.slice (some ⟨L, 0, none⟩) 3 3] w (OwnRet w.heap.size (l1 ++ l2 ++ l3) w) := by
  have H := Lib.hid h
  obtain ⟨a, b, c, lt, r1, r2, r3⟩ := h
  have HLE := Lib.hid (show n1 + n2 + n3 = (l1 ++ l2 ++ l3).length by have e1 := r1.1; have e2 := r2.1; have e3 := r3.1; rw [cells_len] at e1 e2 e3; simp [e1, e2, e3]; omega)
  clear r1 r2 r3
  go_enter Tryd.func89, Tryd.ntmps89
  go_wp2_with fail
  go_loopw [3, 11] (fun s i wr => SuRel w n1 n2 n3 s i wr) (fun _ i _ => 3 - (intOf i).toNat)
  case atStart => exact ⟨0, by omega, rfl, rfl, rfl⟩
  case round =>
    obtain ⟨k, hk, rfl, rfl, rfl⟩ := hrel
    rcases (by omega : k = 0 ∨ k = 1 ∨ k = 2 ∨ k = 3) with rfl | rfl | rfl | rfl
    · simp only [sum3]
      have HF := Lib.hid (show SuRel wr n1 n2 n3 (.int .i64 n1) (.int .i64 1) wr from ⟨1, by omega, rfl, rfl, rfl⟩)
      go_wp2
      go_roundw
      case rel => exact HF.out
      case measure => simp [intOf]
    · simp only [sum3]
      have HF := Lib.hid (show SuRel wr n1 n2 n3 (.int .i64 (n1 + n2)) (.int .i64 2) wr from ⟨2, by omega, by simp [sum3], rfl, rfl⟩)
      go_wp2
      go_roundw
      case rel => exact HF.out
      case measure => simp [intOf]
    · simp only [sum3]
      have HF := Lib.hid (show SuRel wr n1 n2 n3 (.int .i64 (n1 + n2 + n3)) (.int .i64 3) wr from ⟨3, by omega, by simp [sum3], rfl, rfl⟩)
      go_wp2
      go_roundw
      case rel => exact HF.out
      case measure => simp [intOf]
    · simp only [sum3]
      obtain ⟨w0, hw0⟩ : ∃ w0, w0 = wr := ⟨_, rfl⟩
      subst hw0
      go_wp2_with fail
      refine (grow_all _ (n1 + n2 + n3) (by omega) (by omega) _).mono ?_
      rintro e w1 ⟨v, rfl, ho, hl⟩
      have HO := Lib.hid (And.intro ho hl)
      obtain ⟨i0, hi, hz0, hz1, hz2⟩ := info_parts Tryd.dkinfo5
      have HI := Lib.hid (And.intro hi (And.intro hz0 (And.intro hz1 hz2)))
      clear ho hl a b c hi hz0 hz1 hz2
      go_wp2_with fail
      go_loopw [6, 27] (fun v i wr' => CcRel w0 n1 n2 n3 l1 l2 l3 v i wr') (fun _ i _ => 3 - (intOf i).toNat)
      case atStart => exact ⟨0, by omega, rfl, HO.out.1, HO.out.2⟩
      case round =>
        obtain ⟨k, hk, rfl, hown, hbel⟩ := hrel
        have HT := Lib.hid (H.out.below hbel)
        have a := HT.out.a
        have b := HT.out.b
        have c := HT.out.c
        have hbs := hbel.size
        rcases (by omega : k = 0 ∨ k = 1 ∨ k = 2 ∨ k = 3) with rfl | rfl | rfl | rfl
        · go_wp2_with (at_builtin; refine wpList_append_rd _ rfl (.tmp 31) (.tmp 32) 33 rfl w0.heap.size 5 i0 (.int .u8 0) 1 Tryd.underlying33 HI.out.1 HI.out.2.1 HI.out.2.2.1 HI.out.2.2.2 rfl _ _ _ rfl hown wr.heap.size A1 n1 c1 _ rfl HT.out.r1 (cells_one _) ?c30 ?c40 ?c50 ?_)
          case c30 => (simp only [sum3]; unfold maxLen; omega)
          case c40 => (simp only [sum3]; omega)
          case c50 => exact hbs
          intro v2 w2 ho2 hg2
          have HF : Hid (CcRel w0 n1 n2 n3 l1 l2 l3 v2 (.int .i64 1) w2) := Lib.hid ⟨1, by omega, rfl, by simpa [sum3, cat3, cells] using ho2, hbel.trans (below_own hown hg2 hbs)⟩
          clear ho2 hg2 hown hbel
          go_wp2
          go_roundw
          case rel => exact HF.out
          case measure => simp [intOf]
        · go_wp2_with (at_builtin; refine wpList_append_rd _ rfl (.tmp 31) (.tmp 32) 33 rfl w0.heap.size 5 i0 (.int .u8 0) 1 Tryd.underlying33 HI.out.1 HI.out.2.1 HI.out.2.2.1 HI.out.2.2.2 rfl _ _ _ rfl hown wr.heap.size A2 n2 c2 _ rfl HT.out.r2 (cells_one _) ?c31 ?c41 ?c51 ?_)
          case c31 => (simp only [sum3]; unfold maxLen; omega)
          case c41 => (simp only [sum3]; omega)
          case c51 => exact hbs
          intro v2 w2 ho2 hg2
          have HF : Hid (CcRel w0 n1 n2 n3 l1 l2 l3 v2 (.int .i64 2) w2) := Lib.hid ⟨2, by omega, rfl, by simpa [sum3, cat3, cells] using ho2, hbel.trans (below_own hown hg2 hbs)⟩
          clear ho2 hg2 hown hbel
          go_wp2
          go_roundw
          case rel => exact HF.out
          case measure => simp [intOf]
        · go_wp2_with (at_builtin; refine wpList_append_rd _ rfl (.tmp 31) (.tmp 32) 33 rfl w0.heap.size 5 i0 (.int .u8 0) 1 Tryd.underlying33 HI.out.1 HI.out.2.1 HI.out.2.2.1 HI.out.2.2.2 rfl _ _ _ rfl hown wr.heap.size A3 n3 c3 _ rfl HT.out.r3 (cells_one _) ?c32 ?c42 ?c52 ?_)
          case c32 => (simp only [sum3]; unfold maxLen; omega)
          case c42 => (simp only [sum3]; omega)
          case c52 => exact hbs
          intro v2 w2 ho2 hg2
          have HF : Hid (CcRel w0 n1 n2 n3 l1 l2 l3 v2 (.int .i64 3) w2) := Lib.hid ⟨3, by omega, rfl, by simpa [sum3, cat3, cells] using ho2, hbel.trans (below_own hown hg2 hbs)⟩
          clear ho2 hg2 hown hbel
          go_wp2
          go_roundw
          case rel => exact HF.out
          case measure => simp [intOf]
        · have HF := Lib.hid (And.intro hown hbel)
          clear hown hbel
          go_wp2
          go_ret
          exact ⟨_, rfl, by rw [← HLE.out]; exact HF.out.1, HF.out.2⟩

/-- bytes.Clone of bytes at an address -/
theorem own_lit0 (w : World) : (w.alloc (.cells #[] 5)).ownsRow w.heap.size 5 1 (.slice (some ⟨w.heap.size, 0, none⟩) 0 0) 0 [] :=
  World.ownsRow_lit (base := w.heap.size) w #[] 0 (Nat.le_refl _) (by simp [maxLen]) (by simp)
set_option maxRecDepth 100000 in
set_option maxHeartbeats 1600000 in
theorem clone_any (w : World) (g o m c : Nat) (l : List Int) (hl : l.length = m) (hm : m ≤ 1000000) (hr : Rd w w.heap.size (some ⟨g, o, none⟩) m (cells l)) :
    Calls Tryd.prog 64 #[.slice (some ⟨g, o, none⟩) m c] w (OwnRet w.heap.size l w) := by
  have q22 : ∀ (w : World) (a : Option Addr) (n c n' c' : Nat), (binOp .eql 33 (.slice a n c) (.slice none n' c')).run Tryd.prog w = .ok (.bool a.isNone) w := fun w a n c n' c' => Lib.run_eql_slice_nil w _ _ a n c n' c' Tryd.underlying33
  obtain ⟨i0, hi, hz0, hz1, hz2⟩ := info_parts Tryd.dkinfo5
  have hlw := own_lit0 w
  have hb := (Below.refl w.heap.size w).alloc (Nat.le_refl _) (.cells #[] 5)
  obtain ⟨w1, hw1⟩ : ∃ w1, w1 = w.alloc (.cells #[] 5) := ⟨_, rfl⟩
  rw [← hw1] at hb hlw
  have HW := Lib.hid hw1
  have H := Lib.hid (And.intro hlw (And.intro hb (hr.below hb (Nat.le_refl _))))
  clear hw1 hb hlw hr
  go_enter Tryd.func64, Tryd.ntmps64
  go_wp2_with (at_builtin; rw [← HW.out]; refine wpList_append_rd _ rfl (.tmp 5) (.tmp 6) 33 rfl w.heap.size 5 i0 (.int .u8 0) 1 Tryd.underlying33 hi hz0 hz1 hz2 rfl _ _ _ rfl H.out.1 w.heap.size _ m c _ rfl H.out.2.2 (cells_one _) ?c3 ?c4 ?c5 ?_)
  case c3 => simp [maxLen]; omega
  case c4 => simp; omega
  case c5 => exact H.out.2.1.size
  intro v' w2 hown hgrow
  have HF := Lib.hid (show OwnRet w.heap.size l w (.returned v') w2 from ⟨v', rfl, by rw [hl]; simpa using hown, H.out.2.1.trans (below_own H.out.1 hgrow H.out.2.1.size)⟩)
  clear hown hgrow
  go_wp2
  go_ret
  exact HF.out
end Go.Proofs.YtdnegfjddpdmhaaDoor
