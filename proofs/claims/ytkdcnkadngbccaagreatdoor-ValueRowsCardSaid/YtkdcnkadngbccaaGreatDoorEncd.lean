/-
  The contracts of RightRow, encoded and Encode.
-/
import Derived.Test.YtkdcnkadngbccaaGreatDoorRowV
import Derived.Test.YtkdcnkadngbccaaGreatDoorEnc
namespace Go.Proofs.YtkdcnkadngbccaaGreatDoor
open Go.RowKit Go.Lib

def rightVa (x : Va) : Bool := rightV x.k x.n x.s
theorem wrong_any (k n : Int) (s : ByteArray) (w : World) :
    Calls Tryz.prog 34 #[.agg #[.int .i64 k, .int .i64 n, .string s]] w fun e w' => e = .returned (.bool (!rightV k n s)) ∧ Below w.heap.size w w' := by
  have hv := VS.new w k n s
  obtain ⟨w1, hw1⟩ : ∃ w1, w1 = w.alloc (.cells #[.int .i64 k, .int .i64 n, .string s] 40) := ⟨_, rfl⟩
  rw [← hw1] at hv
  obtain ⟨c0, c1, c2, hb⟩ := hv
  have HB := Lib.hid hb
  have HW := Lib.hid hw1
  clear hw1 hb
  go_enter Tryz.func34, Tryz.ntmps34
  go_wp2_with fail
  rw [← HW.out]
  refine (right_any k n s _).mono ?_
  rintro e w2 ⟨rfl, hb2⟩
  have HB2 := Lib.hid (HB.out.trans (hb2.mono HB.out.size))
  clear hb2
  go_wp2
  go_ret
  exact ⟨rfl, HB2.out⟩

def IfRel (vs : List Va) (w : World) (i : Value) (wr : World) : Prop := ∃ k : Nat, k ≤ vs.length ∧ i = .int .i64 k ∧ Below w.heap.size w wr ∧ ∀ j (h : j < vs.length), j < k → rightVa vs[j] = true
/-- the place that IndexFunc tells: none is wrong, just if it is -1 -/
def IfRet (vs : List Va) (w : World) (e : Ending) (w' : World) : Prop := Below w.heap.size w w' ∧ ((e = .returned (.int .i64 (-1)) ∧ vs.all rightVa = true) ∨ ∃ k : Nat, k < 1000000000 ∧ e = .returned (.int .i64 k) ∧ vs.all rightVa = false)

set_option maxRecDepth 100000 in
set_option maxHeartbeats 1600000 in
theorem indexFunc_any (A : Option Addr) (c : Nat) (vs : List Va) (w : World) (h : RowIn w w.heap.size A vs) (hm : vs.length ≤ 1000) :
    Calls Tryz.prog 59 #[.slice A vs.length c, .func (.func 34) #[] #[]] w (IfRet vs w) := by
  have H := Lib.hid h
  clear h
  go_enter Tryz.func59, Tryz.ntmps59
  go_wp2_with fail
  go_loopw [8] (fun i wr => IfRel vs w i wr) (fun i _ => vs.length - (intOf i).toNat)
  case atStart => exact ⟨0, by omega, rfl, Below.refl _ _, fun j _ hj => absurd hj (by omega)⟩
  case round =>
    obtain ⟨k, hk, rfl, hb, hall⟩ := hrel
    have HB := Lib.hid (And.intro hb hall)
    have hk0 : (0 : Int) ≤ (k : Int) := Int.natCast_nonneg _
    by_cases hlt : k < vs.length
    · have hlt1 : (k : Int) < (vs.length : Int) := by omega
      obtain ⟨ad, rfl, _, c0, c1, c2⟩ := (H.out.below hb (Nat.le_refl _)).at_ hlt
      obtain ⟨x, hx⟩ : ∃ x, x = vs[k] := ⟨_, rfl⟩
      rw [← hx] at c0 c1 c2
      have HX := Lib.hid hx
      clear hb hall hx
      go_wp2_with fail
      refine (wrong_any x.k x.n x.s _).mono ?_
      rintro e w3 ⟨rfl, hb3⟩
      have HB3 := Lib.hid (HB.out.1.trans (hb3.mono HB.out.1.size))
      clear hb3 c0 c1 c2
      cases hr : rightV x.k x.n x.s with
      | true =>
        have HR := Lib.hid (show IfRel vs w (.int .i64 ((k : Int) + 1)) w3 from ⟨k + 1, by omega, by go_num, HB3.out, fun j hj hjk => by
          rcases Nat.lt_or_ge j k with h | h
          · exact HB.out.2 j hj h
          · obtain rfl : j = k := by omega
            rw [← HX.out]; exact hr⟩)
        clear hr
        go_wp2
        go_roundw
        case rel => exact HR.out
        case measure => simp [intOf]; omega
      | false =>
        have HR := Lib.hid (show vs.all rightVa = false from by
          rw [List.all_eq_false]
          exact ⟨x, by rw [HX.out]; exact List.getElem_mem _, by unfold rightVa; rw [hr]; simp⟩)
        clear hr
        go_wp2
        go_ret
        exact ⟨HB3.out, .inr ⟨k, by omega, rfl, HR.out⟩⟩
    · have hlt1 : ¬ (k : Int) < (vs.length : Int) := by omega
      have HR := Lib.hid (show vs.all rightVa = true from by
        rw [List.all_eq_true]
        intro x hx
        obtain ⟨j, hj, rfl⟩ := List.mem_iff_getElem.1 hx
        exact hall j hj (by omega))
      clear hb hall
      go_wp2
      go_ret
      exact ⟨HB.out.1, .inl ⟨rfl, HR.out⟩⟩

theorem containsFunc_any (A : Option Addr) (c : Nat) (vs : List Va) (w : World) (h : RowIn w w.heap.size A vs) (hm : vs.length ≤ 1000) :
    Calls Tryz.prog 36 #[.slice A vs.length c, .func (.func 34) #[] #[]] w fun e w' => e = .returned (.bool (!vs.all rightVa)) ∧ Below w.heap.size w w' := by
  go_enter Tryz.func36, Tryz.ntmps36
  go_wp2_with fail
  refine (indexFunc_any A c vs w h hm).mono ?_
  rintro e w3 ⟨hb3, ⟨rfl, hr⟩ | ⟨k, hk, rfl, hr⟩⟩
  · have HR := Lib.hid hr
    clear hr
    go_wp2
    go_ret
    exact ⟨by rw [HR.out]; rfl, hb3⟩
  · have HR := Lib.hid hr
    clear hr
    have hk0 : (0 : Int) ≤ (k : Int) := Int.natCast_nonneg _
    go_wp2
    go_ret
    exact ⟨by rw [HR.out]; rfl, hb3⟩

def rightR (vs : List Va) : Bool := decide (vs.length ≤ 8) && vs.all rightVa
theorem rightRow_any (A : Option Addr) (c : Nat) (vs : List Va) (w : World) (h : RowIn w w.heap.size A vs) (hm : vs.length ≤ maxLen) :
    Calls Tryz.prog 11 #[.slice A vs.length c] w fun e w' => e = .returned (.bool (rightR vs)) ∧ Below w.heap.size w w' := by
  by_cases h8 : vs.length ≤ 8
  · have h8i : (vs.length : Int) ≤ 8 := by omega
    have HR := Lib.hid (show rightR vs = vs.all rightVa by simp [rightR, h8])
    go_enter Tryz.func11, Tryz.ntmps11
    go_wp2_with fail
    refine (containsFunc_any A c vs w h (by omega)).mono ?_
    rintro e w3 ⟨rfl, hb3⟩
    go_wp2
    go_ret
    exact ⟨by rw [HR.out]; rfl, hb3⟩
  · have h8i : ¬ (vs.length : Int) ≤ 8 := by omega
    have HR := Lib.hid (show rightR vs = false by simp [rightR, h8])
    go_enter Tryz.func11, Tryz.ntmps11
    go_wp2_with fail
    go_wp2
    go_ret
    exact ⟨by rw [HR.out]; rfl, Below.refl _ _⟩

/-- a value as bytes -/
def encV (x : Va) : List Int := encI x.k ++ (if x.k = 1 ∨ x.k = 2 then encI x.n else if x.k = 3 then encT (bytes x.s) else [])
def encVs : List Va → List Int
  | [] => []
  | x :: l => encV x ++ encVs l
theorem encVs_append (a b : List Va) : encVs (a ++ b) = encVs a ++ encVs b := by
  induction a with
  | nil => rfl
  | cons x l ih => simp [encVs, ih]
def encR (vs : List Va) : List Int := encI vs.length ++ encVs vs

theorem OwnRet.cat {base : Nat} {a b : List Int} {w w1 w2 : World} {v' : Value} {n : Nat} (hn : n = a.length + b.length) (hb1 : Below base w w1) (hb2 : Below base w1 w2)
    (hown : w2.ownsRow base 5 1 v' n (cells a ++ cells b)) : OwnRet base (a ++ b) w (.returned v') w2 := by
  subst hn
  refine ⟨v', rfl, ?_, hb1.trans hb2⟩
  rw [List.length_append, cells_append]; exact hown

/-- a right value is in the reach of its kind -/
structure VaOk (x : Va) : Prop where
  k : -9223372036854775808 ≤ x.k ∧ x.k ≤ 9223372036854775807
  n : -9223372036854775808 ≤ x.n ∧ x.n ≤ 9223372036854775807
  s : x.s.size ≤ 10000

set_option maxRecDepth 100000 in
set_option maxHeartbeats 1600000 in
theorem encoded_any (x : Va) (w : World) (hx : VaOk x) : Calls Tryz.prog 23 #[.agg #[.int .i64 x.k, .int .i64 x.n, .string x.s]] w (OwnRet w.heap.size (encV x) w) := by
  obtain ⟨k, n, s⟩ := x
  have hkb := hx.k
  have hnb := hx.n
  have hsb := hx.s
  simp only at hkb hnb hsb ⊢
  obtain ⟨i0, hi, hz0, hz1, hz2⟩ := info_parts Tryz.info5
  have hv := VS.new w k n s
  obtain ⟨w1, hw1⟩ : ∃ w1, w1 = w.alloc (.cells #[.int .i64 k, .int .i64 n, .string s] 40) := ⟨_, rfl⟩
  rw [← hw1] at hv
  have HV := Lib.hid hv
  obtain ⟨c0, c1, c2, _⟩ := hv
  have HW := Lib.hid hw1
  clear hw1 hx
  go_enter Tryz.func23, Tryz.ntmps23
  go_wp2_with fail
  rw [← HW.out]
  refine (int_any k _ hkb.1 hkb.2).mono ?_
  rintro e w2 ⟨v2, rfl, hown2, hb2⟩
  have hsz1 := HV.out.2.2.2.size
  have HV2 := Lib.hid (HV.out.below hb2)
  have HO2 := Lib.hid (own_base hown2 hsz1)
  have hsz2 := hb2.size
  have hl2 := encI_len hkb.1 hkb.2
  have HL2 := Lib.hid hl2
  clear c0 c1 c2 hown2 hb2 hl2
  obtain ⟨d0, d1, d2, _⟩ := HV2.out
  have h12 : k = 1 ∨ k = 2 ∨ k = 3 ∨ (k ≠ 1 ∧ k ≠ 2 ∧ k ≠ 3) := by omega
  rcases h12 with rfl | rfl | rfl | ⟨n1, n2, n3⟩
  · have HE := Lib.hid (show encV ⟨1, n, s⟩ = encI 1 ++ encI n by unfold encV; rw [if_pos (by simp)])
    · skip
      go_wp2_with fail
      refine (int_any n _ hnb.1 hnb.2).mono ?_
      rintro e w3 ⟨v3, rfl, hown3, hb3⟩
      obtain ⟨A3, c3, rfl, _, _⟩ := own_shape hown3
      have HO3 := Lib.hid hown3
      have HB3 := Lib.hid hb3
      have hln := encI_len hnb.1 hnb.2
      clear hown3 hb3
      go_wp2_with (at_builtin; refine wpList_append_rd _ rfl (.tmp 12) (.tmp 15) 25 rfl w.heap.size 5 i0 (.int .u8 0) 1 Tryz.underlying25 hi hz0 hz1 hz2 rfl _ _ _ rfl (own_below HO2.out HB3.out (Nat.le_refl _)) w3.heap.size A3 (encI n).length c3 _ rfl (Rd.of_own HO3.out) (cells_one _) ?c3 ?c4 ?c5 ?_)
      case c3 => have := HL2.out; simp [maxLen]; omega
      case c4 => have := HL2.out; omega
      case c5 => have := HB3.out.size; omega
      intro v' w4 hown4 hgrow
      have hfin := OwnRet.cat (a := encI 1) rfl (HV2.out.2.2.2.trans (HB3.out.mono (by omega))) (below_own (own_below HO2.out HB3.out (Nat.le_refl _)) hgrow (by have := HB3.out.size; omega)) hown4
      rw [← HE.out] at hfin
      have HFN := Lib.hid hfin
      clear hown4 hgrow hfin
      go_wp2
      go_ret
      exact HFN.out
  · have HE := Lib.hid (show encV ⟨2, n, s⟩ = encI 2 ++ encI n by unfold encV; rw [if_pos (by simp)])
    · skip
      go_wp2_with fail
      refine (int_any n _ hnb.1 hnb.2).mono ?_
      rintro e w3 ⟨v3, rfl, hown3, hb3⟩
      obtain ⟨A3, c3, rfl, _, _⟩ := own_shape hown3
      have HO3 := Lib.hid hown3
      have HB3 := Lib.hid hb3
      have hln := encI_len hnb.1 hnb.2
      clear hown3 hb3
      go_wp2_with (at_builtin; refine wpList_append_rd _ rfl (.tmp 12) (.tmp 15) 25 rfl w.heap.size 5 i0 (.int .u8 0) 1 Tryz.underlying25 hi hz0 hz1 hz2 rfl _ _ _ rfl (own_below HO2.out HB3.out (Nat.le_refl _)) w3.heap.size A3 (encI n).length c3 _ rfl (Rd.of_own HO3.out) (cells_one _) ?c3 ?c4 ?c5 ?_)
      case c3 => have := HL2.out; simp [maxLen]; omega
      case c4 => have := HL2.out; omega
      case c5 => have := HB3.out.size; omega
      intro v' w4 hown4 hgrow
      have hfin := OwnRet.cat (a := encI 2) rfl (HV2.out.2.2.2.trans (HB3.out.mono (by omega))) (below_own (own_below HO2.out HB3.out (Nat.le_refl _)) hgrow (by have := HB3.out.size; omega)) hown4
      rw [← HE.out] at hfin
      have HFN := Lib.hid hfin
      clear hown4 hgrow hfin
      go_wp2
      go_ret
      exact HFN.out
  · have HE := Lib.hid (show encV ⟨3, n, s⟩ = encI 3 ++ encT (bytes s) by unfold encV; rw [if_neg (by simp), if_pos rfl])
    · skip
      go_wp2_with fail
      refine (text_any s _ (by omega)).mono ?_
      rintro e w3 ⟨v3, rfl, hown3, hb3⟩
      obtain ⟨A3, c3, rfl, _, _⟩ := own_shape hown3
      have HO3 := Lib.hid hown3
      have HB3 := Lib.hid hb3
      have hln : (encT (bytes s)).length ≤ 20000 := by
        have h1 := encI_len (n := ((bytes s).length : Int)) (by omega) (by rw [bytes_len]; omega)
        unfold encT
        rw [List.length_append, bytes_len]
        rw [bytes_len] at h1
        omega
      clear hown3 hb3
      go_wp2_with (at_builtin; refine wpList_append_rd _ rfl (.tmp 19) (.tmp 22) 25 rfl w.heap.size 5 i0 (.int .u8 0) 1 Tryz.underlying25 hi hz0 hz1 hz2 rfl _ _ _ rfl (own_below HO2.out HB3.out (Nat.le_refl _)) w3.heap.size A3 (encT (bytes s)).length c3 _ rfl (Rd.of_own HO3.out) (cells_one _) ?c3 ?c4 ?c5 ?_)
      case c3 => have := HL2.out; simp [maxLen]; omega
      case c4 => have := HL2.out; omega
      case c5 => have := HB3.out.size; omega
      intro v' w4 hown4 hgrow
      have hfin := OwnRet.cat (a := encI 3) rfl (HV2.out.2.2.2.trans (HB3.out.mono (by omega))) (below_own (own_below HO2.out HB3.out (Nat.le_refl _)) hgrow (by have := HB3.out.size; omega)) hown4
      rw [← HE.out] at hfin
      have HFN := Lib.hid hfin
      clear hown4 hgrow hfin
      go_wp2
      go_ret
      exact HFN.out
  · have HE := Lib.hid (show encV ⟨k, n, s⟩ = encI k by simp [encV, n1, n2, n3])
    have HFN : Hid (OwnRet w.heap.size (encV ⟨k, n, s⟩) w (.returned v2) w2) := Lib.hid (by rw [HE.out]; exact ⟨v2, rfl, HO2.out, HV2.out.2.2.2⟩)
    go_wp2
    go_ret
    exact HFN.out

theorem encV_len {x : Va} (hx : VaOk x) : (encV x).length ≤ 10100 := by
  have h1 := encI_len hx.k.1 hx.k.2
  have h2 := encI_len hx.n.1 hx.n.2
  have h3 := hx.s
  have h4 : (encT (bytes x.s)).length ≤ 10010 := by
    have h5 := encI_len (n := ((bytes x.s).length : Int)) (by omega) (by rw [bytes_len]; omega)
    unfold encT
    rw [List.length_append]
    rw [bytes_len] at h5 ⊢
    omega
  unfold encV
  rw [List.length_append]
  split
  · omega
  · split
    · omega
    · simp; omega
theorem encVs_len {vs : List Va} (h : ∀ x ∈ vs, VaOk x) : (encVs vs).length ≤ 10100 * vs.length := by
  induction vs with
  | nil => simp [encVs]
  | cons x l ih =>
    have h1 := encV_len (h x (by simp))
    have h2 := ih fun y hy => h y (by simp [hy])
    simp only [encVs, List.length_append, List.length_cons]
    omega

def EcRel (vs : List Va) (w : World) (v i : Value) (wr : World) : Prop :=
  ∃ k : Nat, k ≤ vs.length ∧ i = .int .i64 k ∧ wr.ownsRow w.heap.size 5 1 v (encI vs.length ++ encVs (vs.take k)).length (cells (encI vs.length ++ encVs (vs.take k))) ∧ Below w.heap.size w wr

/-- what Encode hands back: the bytes of a right row, or nothing -/
def EncRet (vs : List Va) (w : World) (e : Ending) (w' : World) : Prop :=
  Below w.heap.size w w' ∧ ((rightR vs = false ∧ e = .returned (.tuple #[.slice none 0 0, .bool false])) ∨
    (rightR vs = true ∧ ∃ v', e = .returned (.tuple #[v', .bool true]) ∧ w'.ownsRow w.heap.size 5 1 v' (encR vs).length (cells (encR vs))))

set_option maxRecDepth 100000 in
set_option maxHeartbeats 1600000 in
theorem encode_any (A : Option Addr) (c : Nat) (vs : List Va) (w : World) (h : RowIn w w.heap.size A vs) (hm : vs.length ≤ maxLen) (hok : ∀ x ∈ vs, VaOk x) :
    Calls Tryz.prog 7 #[.slice A vs.length c] w (EncRet vs w) := by
  obtain ⟨i0, hi, hz0, hz1, hz2⟩ := info_parts Tryz.info5
  have H := Lib.hid (And.intro h hok)
  go_enter Tryz.func7, Tryz.ntmps7
  go_wp2_with fail
  refine (rightRow_any A c vs w h hm).mono ?_
  clear h hok
  rintro e w1 ⟨rfl, hb1⟩
  have HB1 := Lib.hid hb1
  clear hb1
  cases hr : rightR vs with
  | false =>
    have HR := Lib.hid hr
    clear hr
    go_wp2
    refine bodyPost_ret (results_tmp2 rfl _ _ _) rfl ?_
    exact ⟨HB1.out, .inl ⟨HR.out, rfl⟩⟩
  | true =>
    have h8 : vs.length ≤ 8 := by unfold rightR at hr; simp at hr; exact hr.1
    have HR := Lib.hid hr
    clear hr hm
    go_wp2_with fail
    refine (int_any (vs.length : Int) _ (by omega) (by omega)).mono ?_
    rintro e w2 ⟨v2, rfl, hown2, hb2⟩
    have HO2 := Lib.hid (own_base hown2 HB1.out.size)
    have HB2 := Lib.hid (HB1.out.trans (hb2.mono HB1.out.size))
    clear hown2 hb2
    go_wp2_with fail
    go_loopw [4, 15] (fun v i wr => EcRel vs w v i wr) (fun _ i _ => vs.length - (intOf i).toNat)
    case atStart => exact ⟨0, by omega, rfl, by simpa [encVs] using HO2.out, HB2.out⟩
    case round =>
      obtain ⟨k, hk, rfl, hown, hb⟩ := hrel
      have hk0 : (0 : Int) ≤ (k : Int) := Int.natCast_nonneg _
      by_cases hlt : k < vs.length
      · have hlt1 : (k : Int) < (vs.length : Int) := by omega
        obtain ⟨ad, rfl, _, c0, c1, c2⟩ := (H.out.1.below hb (Nat.le_refl _)).at_ hlt
        obtain ⟨x, hx⟩ : ∃ x, x = vs[k] := ⟨_, rfl⟩
        rw [← hx] at c0 c1 c2
        have hxo := H.out.2 x (by rw [hx]; exact List.getElem_mem _)
        have hnext : encI vs.length ++ encVs (vs.take (k + 1)) = (encI vs.length ++ encVs (vs.take k)) ++ encV x := by
          rw [List.take_succ_eq_append_getElem hlt, encVs_append, ← hx]
          simp [encVs]
        have hlk : (encI vs.length ++ encVs (vs.take k)).length ≤ 100000 := by
          have h1 := encI_len (n := (vs.length : Int)) (by omega) (by omega)
          have h2 := encVs_len (vs := vs.take k) (fun y hy => H.out.2 y (List.mem_of_mem_take hy))
          rw [List.length_take] at h2
          rw [List.length_append]
          omega
        have HQ := Lib.hid (And.intro hown (And.intro hb (And.intro hnext (And.intro hlk (encV_len hxo)))))
        have hsz := hb.size
        clear hown hb hnext hlk hx
        go_wp2_with fail
        refine (encoded_any x _ hxo).mono ?_
        rintro e w4 ⟨v4, rfl, hown4, hb4⟩
        obtain ⟨A4, c4, rfl, _, _⟩ := own_shape hown4
        have HO4 := Lib.hid hown4
        have hb34 := ((Below.refl wr.heap.size wr).alloc (Nat.le_refl _) (.cells #[.int .i64 x.k, .int .i64 x.n, .string x.s] 40)).trans (hb4.mono (by simp))
        have HB4 := Lib.hid hb34
        have hsz4 := hb34.size
        clear hown4 hb4 hb34 c0 c1 c2 hxo
        go_wp2_with (at_builtin; refine wpList_append_rd _ rfl (.tmp 19) (.tmp 21) 25 rfl w.heap.size 5 i0 (.int .u8 0) 1 Tryz.underlying25 hi hz0 hz1 hz2 rfl _ _ _ rfl (own_below HQ.out.1 HB4.out (Nat.le_refl _)) w4.heap.size A4 (encV x).length c4 _ rfl (Rd.of_own HO4.out) (cells_one _) ?c3 ?c4 ?c5 ?_)
        case c3 => have := HQ.out.2.2.2; simp [maxLen] at *; omega
        case c4 => have := HQ.out.2.2.2; omega
        case c5 => omega
        intro v' w5 hown5 hgrow
        have HR' := Lib.hid (show EcRel vs w v' (.int .i64 ((k : Int) + 1)) w5 from ⟨k + 1, by omega, by go_num, by rw [HQ.out.2.2.1, List.length_append, cells_append]; simpa using hown5, (HQ.out.2.1.trans (HB4.out.mono hsz)).trans (below_own (own_below HQ.out.1 HB4.out (Nat.le_refl _)) hgrow (by omega))⟩)
        clear hown5 hgrow
        go_wp2
        go_roundw
        case rel => exact HR'.out
        case measure => simp [intOf]; omega
      · have hlt1 : ¬ (k : Int) < (vs.length : Int) := by omega
        rw [List.take_of_length_le (by omega)] at hown
        have HF := Lib.hid (And.intro hown hb)
        clear hown hb
        go_wp2
        refine bodyPost_ret (results_tmp2 rfl _ _ _) rfl ?_
        exact ⟨HF.out.2, .inr ⟨HR.out, _, rfl, HF.out.1⟩⟩
end Go.Proofs.YtkdcnkadngbccaaGreatDoor
