/-
  Rows of values in memory; the contracts of long, SameRow, CompareFunc and OrderRows.
-/
import Derived.Test.YtkdcnkadngbccaaGreatDoorOrd
import Derived.Test.YtkdcnkadngbccaaGreatDoorSame
namespace Go.Proofs.YtkdcnkadngbccaaGreatDoor
open Go.RowKit Go.Lib

structure Va where
  k : Int
  n : Int
  s : ByteArray
deriving DecidableEq
def vcell (x : Va) : List Value := [.int .i64 x.k, .int .i64 x.n, .string x.s]
/-- the values lie in w, below block B -/
structure RowIn (w : World) (B : Nat) (A : Option Addr) (vs : List Va) : Prop where
  lo : 0 < vs.length → ∃ ad, A = some ad ∧ ad.block < B
  cell : ∀ i (hi : i < vs.length) j u, (vcell vs[i])[j]? = some u → ∃ ad, A = some ad ∧ w.cell? (ad.add (i * 3 + j)) = some u
theorem RowIn.nil {w : World} {B : Nat} {A : Option Addr} : RowIn w B A [] := ⟨fun h => absurd h (by simp), fun i hi => absurd hi (by simp)⟩
theorem RowIn.below {w w' : World} {B C : Nat} {A : Option Addr} {vs : List Va} (h : RowIn w B A vs) (hb : Below C w w') (hC : B ≤ C) : RowIn w' B A vs := by
  refine ⟨h.lo, fun i hi j u hu => ?_⟩
  obtain ⟨ad, rfl, hc⟩ := h.cell i hi j u hu
  obtain ⟨ad', e, hlt⟩ := h.lo (by omega)
  obtain rfl := Option.some.inj e
  exact ⟨ad, rfl, (hb.cell (p := ad.add (i * 3 + j)) (by rw [addr_block]; omega)).trans hc⟩
theorem RowIn.more {w : World} {B C : Nat} {A : Option Addr} {vs : List Va} (h : RowIn w B A vs) (hC : B ≤ C) : RowIn w C A vs :=
  ⟨fun h0 => (h.lo h0).imp fun ad h1 => ⟨h1.1, by omega⟩, h.cell⟩
theorem RowIn.drewN {w : World} {B : Nat} {A : Option Addr} {vs : List Va} (h : RowIn w B A vs) (k : Nat) : RowIn (w.drewN k) B A vs := ⟨h.lo, h.cell⟩
theorem addr_field (a : Addr) {j : Nat} (hj : 0 < j) : (⟨a.block, a.off + j, none⟩ : Addr) = a.add j := by unfold Addr.add; rw [if_neg (by omega)]
theorem RowIn.at_ {w : World} {B : Nat} {A : Option Addr} {vs : List Va} (h : RowIn w B A vs) {i : Nat} (hi : i < vs.length) : ∃ ad, A = some ad ∧ ad.block < B ∧ w.cell? (ad.add (i * 3)) = some (.int .i64 vs[i].k) ∧
    w.cell? ⟨(ad.add (i * 3)).block, (ad.add (i * 3)).off + 1, none⟩ = some (.int .i64 vs[i].n) ∧ w.cell? ⟨(ad.add (i * 3)).block, (ad.add (i * 3)).off + 2, none⟩ = some (.string vs[i].s) := by
  obtain ⟨ad, rfl, hlt⟩ := h.lo (by omega)
  have get : ∀ j u, (vcell vs[i])[j]? = some u → w.cell? (ad.add (i * 3 + j)) = some u := fun j u hu => by
    obtain ⟨ad', e, hc⟩ := h.cell i hi j u hu
    obtain rfl := Option.some.inj e
    exact hc
  refine ⟨ad, rfl, hlt, get 0 _ rfl, ?_, ?_⟩
  · rw [addr_field _ (by omega), addr_add]; exact get 1 _ rfl
  · rw [addr_field _ (by omega), addr_add]; exact get 2 _ rfl

theorem neqVal (k n : Int) (s : ByteArray) (k' n' : Int) (s' : ByteArray) (w : World) :
    (binOp .neq 40 (.agg #[.int .i64 k, .int .i64 n, .string s]) (.agg #[.int .i64 k', .int .i64 n', .string s'])).run Tryz.prog w
      = .ok (.bool (!(decide (k = k') && (decide (n = n') && decide (s = s'))))) w := by
  have u3 := Tryz.underlying3
  have a3 := Tryz.isAgg3
  have z3 := Tryz.sizeOf3
  have u9 := Tryz.underlying9
  have a9 := Tryz.isAgg9
  have z9 := Tryz.sizeOf9
  have hS : Tryz.prog.underlying 40 = some (.struct (Tryz.prog.fieldsOf 40)) := by kernel_rfl
  have hp : Tryz.prog.stoodInHeld 40 = false := by kernel_rfl
  rw [run_neq_struct, show (10000 : Nat) = 9999 + 1 from rfl, run_equalIn_agg w 9999 40 _ _ hS hp]
  simp only [Program.fieldsOf, Tryz.underlying40]
  have hs := str_eq s s'
  go_simp
  by_cases h1 : k = k' <;> by_cases h2 : n = n' <;> by_cases h3 : s = s' <;> simp [h1, h2, h3]

/-- how the answer of long is used: true, or the row is small -/
def LongRet (vs : List Va) (w : World) (e : Ending) (w' : World) : Prop :=
  w = w' ∧ (e = .returned (.bool true) ∨ (e = .returned (.bool false) ∧ vs.length ≤ 100 ∧ ∀ x ∈ vs, x.s.size ≤ 1000))
def LongRel (vs : List Va) (i : Value) : Prop := ∃ k : Nat, k ≤ vs.length ∧ i = .int .i64 k ∧ ∀ j (h : j < vs.length), j < k → vs[j].s.size ≤ 1000

set_option maxRecDepth 100000 in
set_option maxHeartbeats 800000 in
theorem long_any (A : Option Addr) (c : Nat) (vs : List Va) (w : World) (B : Nat) (h : RowIn w B A vs) (hm : vs.length ≤ maxLen) :
    Calls Tryz.prog 5 #[.slice A vs.length c] w (LongRet vs w) := by
  unfold maxLen at hm
  have HC := Lib.hid h
  clear h
  by_cases h100 : 100 < vs.length
  · have h100i : (100 : Int) < (vs.length : Int) := by omega
    go_enter Tryz.func5, Tryz.ntmps5
    go_wp2
    go_ret
    exact ⟨rfl, .inl rfl⟩
  · have h100i : ¬ (100 : Int) < (vs.length : Int) := by omega
    go_enter Tryz.func5, Tryz.ntmps5
    go_wp2
    go_loop [3] (fun i => LongRel vs i) (fun i => vs.length - (intOf i).toNat)
    case atStart => exact ⟨0, by omega, rfl, fun j _ hj => absurd hj (by omega)⟩
    case round =>
      obtain ⟨k, hk, rfl, hall⟩ := hrel
      have HA := Lib.hid hall
      clear hall
      by_cases hlt : k < vs.length
      · obtain ⟨ad, rfl, _, c0, c1, c2⟩ := HC.out.at_ hlt
        obtain ⟨x, hx⟩ : ∃ x, x = vs[k] := ⟨_, rfl⟩
        rw [← hx] at c0 c1 c2
        have HX := Lib.hid hx
        clear hx
        have hk0 : (0 : Int) ≤ (k : Int) := Int.natCast_nonneg _
        have hk1 : (k : Int) < (vs.length : Int) := by omega
        by_cases hbig : 1000 < x.s.size
        · have hb2 : (1000 : Int) < (x.s.size : Int) := by omega
          go_wp2
          go_ret
          exact ⟨rfl, .inl rfl⟩
        · have hb2 : ¬ (1000 : Int) < (x.s.size : Int) := by omega
          go_wp2
          go_round
          case rel => exact ⟨k + 1, by omega, by go_num, fun j hj hjk => by
            rcases Nat.lt_or_ge j k with h | h
            · exact HA.out j hj h
            · obtain rfl : j = k := by omega
              have := HX.out
              subst this
              omega⟩
          case measure => simp [intOf]; omega
      · have hk1 : ¬ (k : Int) < (vs.length : Int) := by omega
        go_wp2
        go_ret
        exact ⟨rfl, .inr ⟨rfl, by omega, fun x hx => by
          obtain ⟨j, hj, rfl⟩ := List.mem_iff_getElem.1 hx
          exact HA.out j hj (by omega)⟩⟩

def ordVa (a b : Va) : Int := ordV a.k a.n a.s b.k b.n b.s
def ordR : List Va → List Va → Int
  | [], [] => 0
  | [], _ :: _ => -1
  | _ :: _, [] => 1
  | a :: l, b :: m => if ordVa a b ≠ 0 then ordVa a b else ordR l m
theorem ordR_drop {a b : List Va} {k : Nat} (ha : k < a.length) (hb : k < b.length) : ordR (a.drop k) (b.drop k) = if ordVa a[k] b[k] ≠ 0 then ordVa a[k] b[k] else ordR (a.drop (k + 1)) (b.drop (k + 1)) := by
  rw [List.drop_eq_getElem_cons ha, List.drop_eq_getElem_cons hb]; rfl

theorem ordR_gt {a b : List Va} {k : Nat} (ha : k < a.length) (hb : b.length ≤ k) : ordR (a.drop k) (b.drop k) = 1 := by
  rw [List.drop_eq_getElem_cons ha, List.drop_eq_nil_of_le hb]; rfl
theorem ordR_lt {a b : List Va} {k : Nat} (ha : a.length ≤ k) (hb : k < b.length) : ordR (a.drop k) (b.drop k) = -1 := by
  rw [List.drop_eq_getElem_cons hb, List.drop_eq_nil_of_le ha]; rfl
theorem ordR_nil {a b : List Va} {k : Nat} (ha : a.length ≤ k) (hb : b.length ≤ k) : ordR (a.drop k) (b.drop k) = 0 := by
  rw [List.drop_eq_nil_of_le ha, List.drop_eq_nil_of_le hb]; rfl

def CfRel (a b : List Va) (w : World) (i : Value) (wr : World) : Prop := ∃ k : Nat, k ≤ a.length ∧ k ≤ b.length ∧ i = .int .i64 k ∧ Below w.heap.size w wr ∧ ordR a b = ordR (a.drop k) (b.drop k)

set_option maxRecDepth 100000 in
set_option maxHeartbeats 1600000 in
theorem compareFunc_any (A A' : Option Addr) (c c' : Nat) (a b : List Va) (w : World) (h : RowIn w w.heap.size A a) (h' : RowIn w w.heap.size A' b) (hm : a.length ≤ maxLen) (hm' : b.length ≤ maxLen) :
    Calls Tryz.prog 38 #[.slice A a.length c, .slice A' b.length c', .func (.func 20) #[] #[]] w fun e w' => e = .returned (.int .i64 (ordR a b)) ∧ Below w.heap.size w w' := by
  unfold maxLen at hm hm'
  have H := Lib.hid (And.intro h h')
  clear h h'
  go_enter Tryz.func38, Tryz.ntmps38
  go_wp2_with fail
  go_loopw [13] (fun i wr => CfRel a b w i wr) (fun i _ => a.length - (intOf i).toNat)
  case atStart => exact ⟨0, by omega, by omega, rfl, Below.refl _ _, rfl⟩
  case round =>
    obtain ⟨k, hka, hkb, rfl, hb, ho⟩ := hrel
    have HB := Lib.hid (And.intro hb ho)
    have hk0 : (0 : Int) ≤ (k : Int) := Int.natCast_nonneg _
    by_cases hla : k < a.length
    · have hla1 : (k : Int) < (a.length : Int) := by omega
      obtain ⟨ad, rfl, hlt, c0, c1, c2⟩ := (H.out.1.below hb (Nat.le_refl _)).at_ hla
      by_cases hlb : k < b.length
      · have hlb1 : (k : Int) < (b.length : Int) := by omega
        obtain ⟨ad', rfl, hlt', d0, d1, d2⟩ := (H.out.2.below hb (Nat.le_refl _)).at_ hlb
        have hstep := ordR_drop hla hlb
        obtain ⟨x, hx⟩ : ∃ x, x = a[k] := ⟨_, rfl⟩
        obtain ⟨y, hy⟩ : ∃ y, y = b[k] := ⟨_, rfl⟩
        rw [← hx] at c0 c1 c2 hstep
        rw [← hy] at d0 d1 d2 hstep
        have HS := Lib.hid hstep
        have hsz := hb.size
        have HZ := Lib.hid hsz
        have e0 := (Below.refl wr.heap.size wr).alloc (Nat.le_refl _) (.cells #[.int .i64 x.k, .int .i64 x.n, .string x.s] 40)
        have f0 := (e0.cell (p := (ad'.add (k * 3))) (by rw [addr_block]; omega)).trans d0
        have f1 := (e0.cell (p := ⟨(ad'.add (k * 3)).block, (ad'.add (k * 3)).off + 1, none⟩) (by show (ad'.add (k * 3)).block < _; rw [addr_block]; omega)).trans d1
        have f2 := (e0.cell (p := ⟨(ad'.add (k * 3)).block, (ad'.add (k * 3)).off + 2, none⟩) (by show (ad'.add (k * 3)).block < _; rw [addr_block]; omega)).trans d2
        clear hb ho hstep hx hy hlt hlt' e0 d0 d1 d2 hsz
        go_wp2_with fail
        refine (order_any x.k x.n x.s y.k y.n y.s _).mono ?_
        rintro e w3 ⟨rfl, hb3⟩
        have HB3 := Lib.hid (HB.out.1.trans (((((Below.refl wr.heap.size wr).alloc (Nat.le_refl _) _).trans (((Below.refl _ _).alloc (Nat.le_refl _) _).mono (by simp))).trans (hb3.mono (by simp; omega))).mono HB.out.1.size))
        rw [show ordV x.k x.n x.s y.k y.n y.s = ordVa x y from rfl]
        clear hb3 c0 c1 c2 f0 f1 f2
        by_cases g : ordVa x y = 0
        · have hd : (ordVa x y != 0) = false := by simp [g]
          have HR := Lib.hid (show CfRel a b w (.int .i64 ((k : Int) + 1)) w3 from ⟨k + 1, by omega, by omega, by go_num, HB3.out, by rw [HB.out.2, HS.out, if_neg (by simp [g])]⟩)
          go_wp2
          go_roundw
          case rel => exact HR.out
          case measure => simp [intOf]; omega
        · have hd : (ordVa x y != 0) = true := by simp [g]
          have hd2 : ¬ ordVa x y = 0 := g
          have HR := Lib.hid (show ordR a b = ordVa x y by rw [HB.out.2, HS.out, if_pos g])
          go_wp2
          go_ret
          exact ⟨ret_int HR.out.symm, HB3.out⟩
      · have hlb1 : ¬ (k : Int) < (b.length : Int) := by omega
        have hlb2 : (b.length : Int) ≤ (k : Int) := by omega
        have HR := Lib.hid (show ordR a b = 1 by rw [HB.out.2, ordR_gt hla (by omega)])
        obtain ⟨x, hx⟩ : ∃ x, x = a[k] := ⟨_, rfl⟩
        rw [← hx] at c0 c1 c2
        have HE := Lib.hid (hb.alloc hb.size (.cells #[.int .i64 x.k, .int .i64 x.n, .string x.s] 40))
        clear hb ho hx
        go_wp2
        go_ret
        exact ⟨ret_int HR.out.symm, HE.out⟩
    · have hla1 : ¬ (k : Int) < (a.length : Int) := by omega
      clear hb ho
      by_cases hlt : a.length < b.length
      · have hlt1 : (a.length : Int) < (b.length : Int) := by omega
        have HR := Lib.hid (show ordR a b = -1 by rw [HB.out.2, ordR_lt (by omega) (by omega)])
        go_wp2
        go_ret
        exact ⟨ret_int HR.out.symm, HB.out.1⟩
      · have hlt1 : ¬ (a.length : Int) < (b.length : Int) := by omega
        have HR := Lib.hid (show ordR a b = 0 by rw [HB.out.2, ordR_nil (by omega) (by omega)])
        go_wp2
        go_ret
        exact ⟨ret_int HR.out.symm, HB.out.1⟩

theorem orderRows_any (A A' : Option Addr) (c c' : Nat) (a b : List Va) (w : World) (h : RowIn w w.heap.size A a) (h' : RowIn w w.heap.size A' b) (hm : a.length ≤ maxLen) (hm' : b.length ≤ maxLen) :
    Calls Tryz.prog 13 #[.slice A a.length c, .slice A' b.length c'] w fun e w' => e = .returned (.int .i64 (ordR a b)) ∧ Below w.heap.size w w' := by
  go_enter Tryz.func13, Tryz.ntmps13
  go_wp2_with fail
  refine (compareFunc_any A A' c c' a b w h h' hm hm').mono ?_
  rintro e w3 ⟨rfl, hb3⟩
  go_wp2
  go_ret
  exact ⟨rfl, hb3⟩

def SrRel (a b : List Va) (w : World) (i : Value) (wr : World) : Prop := ∃ k d : Nat, k ≤ a.length ∧ i = .int .i64 k ∧ wr = w.drewN d ∧ a.take k = b.take k

set_option maxRecDepth 100000 in
set_option maxHeartbeats 1600000 in
theorem sameRow_len (A A' : Option Addr) (c c' : Nat) (a b : List Va) (n : Nat) (hna : a.length = n) (hnb : b.length = n) (w : World) (B B' : Nat) (h : RowIn w B A a) (h' : RowIn w B' A' b) (hm : n ≤ maxLen) :
    Calls Tryz.prog 18 #[.slice A n c, .slice A' n c'] w fun e w' => e = .returned (.bool (decide (a = b))) ∧ ∃ d, w' = w.drewN d := by
  unfold maxLen at hm
  have H := Lib.hid (And.intro h (And.intro h' (And.intro hna hnb)))
  clear h h'
  have heq := neqVal
  go_enter Tryz.func18, Tryz.ntmps18
  go_wp2
  go_loopw [5] (fun i wr => SrRel a b w i wr) (fun i _ => n - (intOf i).toNat)
  case atStart => exact ⟨0, 0, by omega, rfl, rfl, by simp⟩
  case round =>
    obtain ⟨k, d, hk, rfl, hw, hpre⟩ := hrel
    have HP := Lib.hid (And.intro hpre hw)
    have hk0 : (0 : Int) ≤ (k : Int) := Int.natCast_nonneg _
    by_cases hlt : k < n
    · have hla : k < a.length := by omega
      have hlb : k < b.length := by omega
      have hlt1 : (k : Int) < (n : Int) := by omega
      obtain ⟨ad, rfl, _, c0, c1, c2⟩ := ((H.out.1.drewN d)).at_ hla
      obtain ⟨ad', rfl, _, d0, d1, d2⟩ := ((H.out.2.1.drewN d)).at_ hlb
      rw [← hw] at c0 c1 c2 d0 d1 d2
      obtain ⟨x, hx⟩ : ∃ x, x = a[k] := ⟨_, rfl⟩
      obtain ⟨y, hy⟩ : ∃ y, y = b[k] := ⟨_, rfl⟩
      rw [← hx] at c0 c1 c2
      rw [← hy] at d0 d1 d2
      have hx' : a[k]? = some x := by rw [hx]; exact List.getElem?_eq_getElem hla
      have hy' : b[k]? = some y := by rw [hy]; exact List.getElem?_eq_getElem hlb
      have HX := Lib.hid (And.intro hx' hy')
      clear hx hy hx' hy' hw hpre hna hnb hla hlb
      by_cases hxy : x = y
      · subst hxy
        have HR := Lib.hid (show ∀ m, SrRel a b w (.int .i64 ((k : Int) + 1)) (wr.drewN m) from fun m => ⟨k + 1, d + m, by have := H.out.2.2.1; omega, by go_num, by rw [HP.out.2]; exact World.drewN_drewN _ _ _, by
          rw [List.take_add_one, List.take_add_one, HP.out.1, HX.out.1, HX.out.2]⟩)
        go_wp2_with fail
        go_quiet (fail)
        go_wp2
        go_roundw
        case rel => exact HR.out _
        case measure => simp [intOf]; omega
      · have hd : (decide (x.k = y.k) && (decide (x.n = y.n) && decide (x.s = y.s))) = false := by
          obtain ⟨xk, xn, xs⟩ := x
          obtain ⟨yk, yn, ys⟩ := y
          simp only [Va.mk.injEq] at hxy
          by_cases h1 : xk = yk <;> by_cases h2 : xn = yn <;> by_cases h3 : xs = ys <;> simp_all
        have HR := Lib.hid (show decide (a = b) = false from decide_eq_false fun e => hxy (by have h1 := HX.out.1; rw [e, HX.out.2] at h1; exact (Option.some.inj h1).symm))
        have HD : Hid (∀ m, ∃ d, wr.drewN m = w.drewN d) := Lib.hid fun m => ⟨d + m, by rw [HP.out.2]; exact World.drewN_drewN _ _ _⟩
        clear hxy
        go_wp2_with fail
        go_quiet (fail)
        go_wp2
        go_ret
        exact ⟨by rw [HR.out]; rfl, HD.out _⟩
    · have hlt1 : ¬ (k : Int) < (n : Int) := by omega
      have HR := Lib.hid (show decide (a = b) = true from decide_eq_true (by
        have h1 := hpre
        rw [List.take_of_length_le (by omega), List.take_of_length_le (by omega)] at h1
        exact h1))
      clear hpre hw
      go_wp2
      go_ret
      exact ⟨by rw [HR.out]; rfl, d, HP.out.2⟩

theorem sameRow_any (A A' : Option Addr) (c c' : Nat) (a b : List Va) (w : World) (B B' : Nat) (h : RowIn w B A a) (h' : RowIn w B' A' b) (hm : a.length ≤ maxLen) :
    Calls Tryz.prog 18 #[.slice A a.length c, .slice A' b.length c'] w fun e w' => e = .returned (.bool (decide (a = b))) ∧ ∃ d, w' = w.drewN d := by
  by_cases hl : a.length = b.length
  · rw [← hl]
    exact sameRow_len A A' c c' a b a.length rfl hl.symm w B B' h h' hm
  · have hl1 : ((a.length : Int) != (b.length : Int)) = true := by simp; omega
    have hl2 : ¬ (a.length : Int) = (b.length : Int) := by omega
    have HR := Lib.hid (show decide (a = b) = false from decide_eq_false fun e => hl (by rw [e]))
    go_enter Tryz.func18, Tryz.ntmps18
    go_wp2
    go_ret
    exact ⟨by rw [HR.out]; rfl, 0, rfl⟩
end Go.Proofs.YtkdcnkadngbccaaGreatDoor
