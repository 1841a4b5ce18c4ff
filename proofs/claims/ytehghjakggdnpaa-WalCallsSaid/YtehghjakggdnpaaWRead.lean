/-
  The contracts of read, greatest, nextStamp, isStamped.
-/
import Derived.Test.YtehghjakggdnpaaWNum
namespace Go.Proofs.Ytehghjakggdnpaa
open Go.RowKit Go.Lib

/-- what the disk's sectors read as -/
def DS.cur (s : DS) : List (List Int) := lay s.last s.wr
theorem cur_len (s : DS) : s.cur.length = s.last.length := lay_len _ _
theorem cur_at {s : DS} {k : Nat} (hk : k < s.last.length) : s.read k = s.cur.getD k [] := read_lay s.last s.wr hk
/-- all bytes of the disk are bytes -/
def AllBytes (C : List (List Int)) : Prop := ∀ b ∈ C, IsBytes b
theorem AllBytes.at_ {C : List (List Int)} (h : AllBytes C) (k : Nat) : IsBytes (C.getD k []) := by
  rw [List.getD_eq_getElem?_getD]
  by_cases hk : k < C.length
  · rw [List.getElem?_eq_getElem hk]; exact h _ (List.getElem_mem hk)
  · rw [List.getElem?_eq_none (by omega)]; exact IsBytes.nil

/-- a sector's bytes, in new memory -/
def SecAt (b : List Int) (w : World) (e : Ending) (w' : World) : Prop :=
  ∃ g, e = .returned (.slice (some ⟨g, 0, none⟩) 64 64) ∧ Rd w' w'.heap.size (some ⟨g, 0, none⟩) 64 (cells b) ∧ Below w.heap.size w w'

set_option maxRecDepth 100000 in
theorem readw_any {w : World} {g : Nat} {F : Nat → Prop} {s : DS} (h : DiskAt w g F s) (k : Int) (hk : 0 ≤ k ∧ k < s.last.length) :
    Calls Try.prog 57 #[.pointer (some ⟨g, 0, none⟩), .int .i64 k] w (SecAt (s.cur.getD k.toNat []) w) := by
  obtain ⟨n, rfl⟩ : ∃ n : Nat, k = n := ⟨k.toNat, by omega⟩
  have hn : n < s.last.length := by omega
  have H := Lib.hid h
  have HL := Lib.hid (h.ok.read_len hn)
  have HC := Lib.hid (cur_at (s := s) hn)
  clear h
  go_enter Try.func57, Try.ntmps57
  go_wp2_with (go_at_call 71; refine (read_any H.out n hn).mono ?_; rintro e w' ⟨g', rfl, hb, _, hl⟩)
  have HB := Lib.hid (And.intro hb hl)
  clear hb hl
  go_ret
  refine ⟨g', rfl, ?_, HB.out.2⟩
  have h1 := HB.out.1.rd (n := 64) (by rw [cells_len]; exact HL.out)
  rw [HC.out] at h1
  exact h1

/-- the greatest number that m sectors from k on begin with -/
def great4 (C : List (List Int)) (k : Nat) : Nat → Int
  | 0 => 0
  | m + 1 => max (great4 C k m) (num4 (C.getD (k + m) []) 0)
theorem num4_bd {b : List Int} (h : IsBytes b) (i : Nat) : 0 ≤ num4 b i ∧ num4 b i < 4294967296 := by
  have h0 := h.at_ i
  have h1 := h.at_ (i + 1)
  have h2 := h.at_ (i + 2)
  have h3 := h.at_ (i + 3)
  unfold num4
  omega
theorem great4_bd {C : List (List Int)} (h : AllBytes C) (k m : Nat) : 0 ≤ great4 C k m ∧ great4 C k m < 4294967296 := by
  induction m with
  | zero => simp [great4]
  | succ m ih =>
    have h1 := num4_bd (h.at_ (k + m)) 0
    unfold great4
    omega

theorem great4_next (C : List (List Int)) {a q : Nat} (h : a ≤ q) : great4 C a (q + 1 - a) = max (great4 C a (q - a)) (num4 (C.getD q []) 0) := by
  rw [show q + 1 - a = (q - a) + 1 by omega]
  unfold great4
  rw [show a + (q - a) = q by omega]
  cases q - a <;> rfl

theorem bdr {B : Nat} {w w' : World} (h : Below B w w') (n : Nat) : Below B w (w'.drewN n) := ⟨h.os, h.tape, h.output, h.size, h.block⟩
def GrRel (w : World) (C : List (List Int)) (a to : Nat) (n k : Value) (wr : World) : Prop :=
  ∃ q : Nat, a ≤ q ∧ q ≤ to ∧ n = .int .i64 (great4 C a (q - a)) ∧ k = .int .i64 q ∧ Below w.heap.size w wr

set_option maxRecDepth 100000 in
set_option maxHeartbeats 3200000 in
theorem greatest_any {w : World} {g : Nat} {F : Nat → Prop} {s : DS} (h : DiskAt w g F s) (hb : AllBytes s.cur) (a to : Nat) (hat : a ≤ to) (ham : to ≤ s.last.length) :
    Calls Try.prog 37 #[.pointer (some ⟨g, 0, none⟩), .int .i64 a, .int .i64 to] w fun e w' => e = .returned (.int .i64 (great4 s.cur a (to - a))) ∧ Below w.heap.size w w' := by
  have hle := h.ok.le
  have H := Lib.hid h
  have HB := Lib.hid hb
  clear h hb
  go_enter Try.func37, Try.ntmps37
  go_wp2_with fail
  go_loopw [7, 8] (fun n k wr => GrRel w s.cur a to n k wr) (fun _ k _ => to - (intOf k).toNat)
  case atStart => exact ⟨a, by omega, by omega, by rw [Nat.sub_self]; rfl, rfl, Below.refl _ _⟩
  case round =>
    obtain ⟨q, ha, hj, rfl, rfl, hl⟩ := hrel
    have hbd := great4_bd HB.out a (q - a)
    by_cases hlt : q < to
    · have hlt' : (q : Int) < (to : Int) := by omega
      have hnb := num4_bd (HB.out.at_ q) 0
      have hgs := great4_next s.cur ha
      obtain ⟨x, hx⟩ : ∃ x, x = great4 s.cur a (q - a) := ⟨_, rfl⟩
      obtain ⟨y, hy⟩ : ∃ y, y = num4 (s.cur.getD q []) 0 := ⟨_, rfl⟩
      rw [← hx] at hbd hgs ⊢
      rw [← hy] at hgs hnb
      have HG := Lib.hid hgs
      have HL := Lib.hid hl
      have HY := Lib.hid hy
      clear hgs hl hx hy
      go_wp2_with fail
      refine (readw_any (H.out.below HL.out) (q : Int) (by omega)).mono ?_
      rintro e w1 ⟨g1, rfl, hr1, hl1⟩
      have H1 := Lib.hid (And.intro hr1 (HL.out.trans (hl1.mono HL.out.size)))
      clear hr1 hl1
      go_wp2_with fail
      refine (number_any _ 64 64 _ w1 _ H1.out.1 (HB.out.at_ _) (by omega)).mono ?_
      rintro e w1' ⟨rfl, p, rfl⟩
      rw [show num4 (s.cur.getD ((q : Int).toNat) []) 0 = y from HY.out.symm]
      go_wp2
      go_roundw
      case rel => exact ⟨q + 1, by omega, by omega, by rw [HG.out, show max x y = (if x < y then y else x) by split <;> omega], by go_num, bdr H1.out.2 p⟩
      case measure => simp [intOf]; omega
    · obtain rfl : q = to := by omega
      go_wp2
      go_ret
      exact ⟨rfl, hl⟩

theorem greatest_at {w : World} {g : Nat} {F : Nat → Prop} {s : DS} (h : DiskAt w g F s) (hb : AllBytes s.cur) (ia ito : Int) (a to : Nat) (h1 : ia = (a : Int)) (h2 : ito = (to : Int)) (hat : a ≤ to) (ham : to ≤ s.last.length) (x : Int) (hx : great4 s.cur a (to - a) = x) :
    Calls Try.prog 37 #[.pointer (some ⟨g, 0, none⟩), .int .i64 ia, .int .i64 ito] w fun e w' => e = .returned (.int .i64 x) ∧ Below w.heap.size w w' := by
  subst h1 h2 hx
  exact greatest_any h hb a to hat ham

set_option maxRecDepth 100000 in
theorem nextStamp_any {w : World} {g : Nat} {F : Nat → Prop} {s : DS} (h : DiskAt w g F s) (hb : AllBytes s.cur) (h2 : 2 ≤ s.last.length) :
    Calls Try.prog 38 #[.pointer (some ⟨g, 0, none⟩)] w fun e w' => e = .returned (.int .i64 (great4 s.cur 2 (2 * ((s.last.length - 2) / 2)) + 1)) ∧ Below w.heap.size w w' := by
  have hle := h.ok.le
  have hbd := great4_bd hb 2 (2 * ((s.last.length - 2) / 2))
  obtain ⟨q, hq⟩ : ∃ q, q = (s.last.length - 2) / 2 := ⟨_, rfl⟩
  rw [← hq] at hbd ⊢
  have hq2 : 2 + 2 * q ≤ s.last.length := by omega
  have hx : great4 s.cur 2 (2 + 2 * q - 2) = great4 s.cur 2 (2 * q) := by rw [show 2 + 2 * q - 2 = 2 * q by omega]
  obtain ⟨x, hxx⟩ : ∃ x, x = great4 s.cur 2 (2 * q) := ⟨_, rfl⟩
  rw [← hxx] at hbd hx ⊢
  have H := Lib.hid h
  have HB := Lib.hid hb
  have HQ := Lib.hid hq
  have HX := Lib.hid hx
  clear h hb hq hx hxx
  go_enter Try.func38, Try.ntmps38
  go_wp2_with fail
  refine (half_any H.out h2).mono ?_
  rw [← HQ.out]
  rintro e w' ⟨rfl, rfl⟩
  go_wp2_with fail
  refine (greatest_at H.out HB.out 2 (2 + 2 * (q : Int)) 2 (2 + 2 * q) rfl (by omega) (by omega) hq2 x HX.out).mono ?_
  rintro e w' ⟨rfl, hl⟩
  have HL := Lib.hid hl
  clear hl
  go_wp2
  go_ret
  exact ⟨rfl, HL.out⟩

theorem num4_drop (b : List Int) (i j : Nat) : num4 (b.drop i) j = num4 b (i + j) := by
  unfold num4
  simp only [List.getD_eq_getElem?_getD, List.getElem?_drop, Nat.add_assoc]
theorem beq_int (x y : Int) : (x == y) = decide (x = y) := by
  by_cases h : x = y <;> simp [h]
/-- a sector is stamped by a number -/
def stampedB (b : List Int) (n : Int) : Bool := decide (n < 2147483648) && (decide (num4 b 0 = n) && decide (num4 b 60 = n))

set_option maxRecDepth 100000 in
set_option maxHeartbeats 1600000 in
theorem isStamped_any (A : Option Addr) (c : Nat) (b : List Int) (n : Int) (w : World) (hr : Rd w w.heap.size A 64 (cells b)) (hc : 64 ≤ c) (hb : IsBytes b) :
    Calls Try.prog 77 #[.slice A 64 c, .int .i64 n] w (Quiet (.bool (stampedB b n)) w) := by
  have HR := Lib.hid hr
  have HB := Lib.hid hb
  have hr60 := hr.cutl (k := 60) (cap := c) (by omega) hc
  rw [if_neg (by omega), show (cells b).drop 60 = cells (b.drop 60) by simp [cells]] at hr60
  have h0 : num4 (b.drop 60) 0 = num4 b 60 := num4_drop b 60 0
  obtain ⟨x, hx⟩ : ∃ x, x = num4 b 0 := ⟨_, rfl⟩
  obtain ⟨y, hy⟩ : ∃ y, y = num4 b 60 := ⟨_, rfl⟩
  have e : stampedB b n = (decide (n < 2147483648) && (decide (x = n) && decide (y = n))) := by rw [hx, hy]; rfl
  rw [e]
  rw [← hy] at h0
  have H60 := Lib.hid hr60
  have HX := Lib.hid hx
  have H0 := Lib.hid h0
  clear hr hb hr60 hx hy h0 e
  by_cases h1 : n < 2147483648
  · have HK1 := Lib.hid (show ∀ k, Calls Try.prog 56 #[.slice A 64 c] (w.drewN k) (Quiet (.int .i64 x) (w.drewN k)) from fun k => by
      have := number_any A 64 c b (w.drewN k) w.heap.size HR.out HB.out (by omega)
      rwa [← HX.out] at this)
    by_cases h2 : x = n
    · subst h2
      have HK2 := Lib.hid (show ∀ k, Calls Try.prog 56 #[.slice (A.map (·.add 60)) 4 (c - 60)] (w.drewN k) (Quiet (.int .i64 y) (w.drewN k)) from fun k => by
        have := number_any (A.map (·.add 60)) 4 (c - 60) (b.drop 60) (w.drewN k) w.heap.size H60.out (HB.out.drop 60) (by omega)
        rwa [H0.out] at this)
      go_enter Try.func77, Try.ntmps77
      go_wp2_with fail
      refine (HK1.out 0).mono ?_
      rintro e w' ⟨rfl, p, rfl⟩
      clear HK1
      go_wp2_with fail
      refine (HK2.out _).mono ?_
      rintro e w' ⟨rfl, p2, rfl⟩
      clear HK2
      go_wp2
      go_ret
      refine ⟨?_, _, rfl⟩
      rw [decide_eq_true h1, decide_eq_true trivial, Bool.true_and, Bool.true_and, ← beq_int]
      rfl
    · have h2' : decide (x = n) = false := by simpa using h2
      go_enter Try.func77, Try.ntmps77
      go_wp2_with fail
      refine (HK1.out 0).mono ?_
      rintro e w' ⟨rfl, p, rfl⟩
      clear HK1
      go_wp2
      go_ret
      refine ⟨?_, _, rfl⟩
      rw [h2', Bool.false_and, Bool.and_false]
      rfl
  · go_enter Try.func77, Try.ntmps77
    go_wp2
    go_ret
    refine ⟨?_, 0, rfl⟩
    rw [decide_eq_false (by omega), Bool.false_and]
    rfl
end Go.Proofs.Ytehghjakggdnpaa
