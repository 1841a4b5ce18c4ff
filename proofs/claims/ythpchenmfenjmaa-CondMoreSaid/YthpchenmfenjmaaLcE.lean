/-
  What Equals tells is what rows have for which the conditions hold: the law CondEquals.
-/
import Derived.Test.YthpchenmfenjmaaLcS
import Derived.Deep.QuietTactic
import Derived.BigQuiet
namespace Go.Proofs.Ythpchenmfenjmaa
open Go.RowKit Go.Lib Go.Shelf

theorem cmpB_zero : ∀ a b : List UInt8, compareBytes a b = 0 → a = b
  | [], [], _ => rfl
  | [], _ :: _, h => by simp [compareBytes] at h
  | _ :: _, [], h => by simp [compareBytes] at h
  | x :: l, y :: m, h => by
    unfold compareBytes at h
    by_cases h1 : x < y
    · simp [h1] at h
    · by_cases h2 : y < x
      · simp [h1, h2] at h
      · have h3 : x = y := by rw [UInt8.lt_iff_toNat_lt] at h1 h2; rw [← UInt8.toNat_inj]; omega
        rw [h3, cmpB_zero l m (by simpa [h1, h2] using h)]
theorem ord_zero {u v : Va} (h : ordVa u v = 0) : u = v := by
  unfold ordVa ordV orI at h
  have hI : ∀ a b : Int, cmpI a b = 0 → a = b := fun a b h => by unfold cmpI at h; (repeat' split at h) <;> omega
  by_cases h1 : cmpI u.k v.k = 0
  · rw [if_neg (by simpa using h1)] at h
    by_cases h2 : cmpI u.n v.n = 0
    · rw [if_neg (by simpa using h2)] at h
      have h3 := cmpB_zero _ _ h
      obtain ⟨a, b, ⟨⟨s⟩⟩⟩ := u
      obtain ⟨a', b', ⟨⟨s'⟩⟩⟩ := v
      have e1 : a = a' := hI _ _ h1
      have e2 : b = b' := hI _ _ h2
      have e3 : s = s' := h3
      rw [e1, e2, e3]
    · rw [if_pos h2] at h
      exact absurd h h2
  · rw [if_pos h1] at h
    exact absurd h h1
/-- of a column of which it is told, the row has what is told -/
theorem equals_of {l : List Cd} {cols : List Co} {r : List Va} (hh : holdsL l cols r = true) {s : ByteArray} {v : Va} (he : eqOf l s = some v) : ∃ k, placeL cols s = some k ∧ r[k]? = some v := by
  unfold eqOf at he
  obtain ⟨c, hc, hv⟩ := Option.map_eq_some_iff.1 he
  have hm := List.mem_of_find?_eq_some hc
  have hp := List.find?_some hc
  simp only [Bool.and_eq_true, decide_eq_true_eq] at hp
  have ht : truthL c cols r = 1 := by
    unfold holdsL at hh
    have := List.all_eq_true.1 hh c hm
    simpa using this
  unfold truthL at ht
  rw [hp.2] at ht
  cases hk : placeL cols s with
  | none => rw [hk] at ht; simp at ht
  | some k =>
    rw [hk] at ht
    simp only at ht
    refine ⟨k, rfl, ?_⟩
    cases hr : r[k]? with
    | none => rw [hr] at ht; simp at ht
    | some u =>
      rw [hr] at ht
      simp only at ht
      unfold truthV at ht
      rw [hp.1] at ht
      simp only [show ¬ ((1 : Int) = 5) by decide, show ¬ ((1 : Int) = 6) by decide, if_false, if_true] at ht
      split at ht
      · by_cases h0 : ordVa u c.w = 0
        · rw [ord_zero h0, hv]
        · simp [h0, numB] at ht
      · simp at ht
theorem place_there : ∀ {cols : List Co} {i : Nat} (hi : i < cols.length), ∃ k, placeL cols cols[i].name = some k
  | c :: r, 0, _ => ⟨0, by simp [placeL]⟩
  | c :: r, i + 1, hi => by
    have hi' : i < r.length := by simpa using hi
    obtain ⟨k, hk⟩ := place_there hi'
    simp only [List.getElem_cons_succ]
    unfold placeL
    by_cases h : c.name = r[i].name
    · exact ⟨0, by rw [if_pos h]⟩
    · exact ⟨k + 1, by rw [if_neg h, hk]; rfl⟩
/-- where the law stands: what it was handed -/
structure EqS (w0 w : World) (A : Option Addr) (n : Nat) (l : List Cd) (A2 : Option Addr) (n2 : Nat) (cols : List Co) (A3 : Option Addr) (n3 : Nat) (r : List Va) : Prop where
  low : Below w0.heap.size w0 w
  cd : CdR w A n l
  co : CoR w A2 n2 cols
  va : VaR w A3 n3 r
theorem EqS.below {w0 w w' : World} {A : Option Addr} {n : Nat} {l : List Cd} {A2 : Option Addr} {n2 : Nat} {cols : List Co} {A3 : Option Addr} {n3 : Nat} {r : List Va} (h : EqS w0 w A n l A2 n2 cols A3 n3 r) (hb : Below w.heap.size w w') : EqS w0 w' A n l A2 n2 cols A3 n3 r :=
  ⟨h.low.trans (hb.mono h.low.size), h.cd.below hb, h.co.below hb, h.va.below hb⟩
theorem CdR.of {w : World} {B : Nat} {A : Option Addr} {n : Nat} {l : List Cd} {cols : List Co} {r : List Va} (h : RowG cdC 5 w B A l) (hB : B ≤ w.heap.size) (hn : n = l.length) (hL : Looked l cols r) (hi : ∀ x ∈ l, x.In) : CdR w A n l :=
  ⟨h.more hB, hn, Cd.sm_of hL hi, by have := hL.nl; omega⟩
/-- a row of one value: where its cells lie -/
theorem va_first {w : World} {A : Option Addr} {v : Va} (h : VaR w A 1 [v]) : ∃ ad, A = some ad ∧ w.cell? ad = some (.int .i64 v.k) ∧ w.cell? ⟨ad.block, ad.off + 1, none⟩ = some (.int .i64 v.n) ∧ w.cell? ⟨ad.block, ad.off + 2, none⟩ = some (.string v.s) ∧ ad.block < w.heap.size := by
  obtain ⟨ad, e, hb, a0, a1, a2⟩ := va_at h.row (i := 0) (by simp)
  have e0 : ad.add (0 * 3) = ad := by unfold Addr.add; rw [if_pos (by omega)]
  rw [e0] at a0 a1 a2
  exact ⟨ad, e, a0, a1, a2, hb⟩
theorem va_at2 {w : World} {B : Nat} {A : Option Addr} {l : List Va} (h : RowG vcell 3 w B A l) {i : Nat} (hi : i < l.length) {y : Va} (hy : l[i]? = some y) : ∃ ad, A = some ad ∧ w.cell? (ad.add (i * 3)) = some (.int .i64 y.k) ∧ w.cell? ⟨(ad.add (i * 3)).block, (ad.add (i * 3)).off + 1, none⟩ = some (.int .i64 y.n) ∧ w.cell? ⟨(ad.add (i * 3)).block, (ad.add (i * 3)).off + 2, none⟩ = some (.string y.s) := by
  rw [List.getElem?_eq_getElem hi] at hy
  obtain rfl := Option.some.inj hy
  obtain ⟨ad, e, _, a0, a1, a2⟩ := va_at h hi
  exact ⟨ad, e, a0, a1, a2⟩
set_option maxRecDepth 100000 in
set_option maxHeartbeats 12800000 in
theorem cequals_walk (I : ImplCo) {w : World} {A : Option Addr} {c1 : Nat} {l : List Cd} {A2 : Option Addr} {c2 : Nat} {cols : List Co} {A3 : Option Addr} {c3 : Nat} {r : List Va} (h1 : RowG cdC 5 w w.heap.size A l) (i1 : ∀ x ∈ l, x.In) (h2 : RowG coC 3 w w.heap.size A2 cols) (i2 : ∀ x ∈ cols, x.In) (h3 : RowG vcell 3 w w.heap.size A3 r) (i3 : ∀ x ∈ r, x.In) :
    Calls Try.prog 5 #[.slice A l.length c1, .slice A2 cols.length c2, .slice A3 r.length c3] w fun e w' => e = .returned (.bool true) ∧ Below w.heap.size w w' := by
  have heq := eqVal
  have hal := alive12_any I w
  have HA := Lib.hid hal
  have HI := Lib.hid I
  have HN := Lib.hid (And.intro i1 (And.intro i2 i3))
  have HR := Lib.hid (And.intro h1 (And.intro h2 h3))
  obtain ⟨n1, hn1⟩ : ∃ n1, n1 = l.length := ⟨_, rfl⟩
  obtain ⟨n2, hn2⟩ : ∃ n2, n2 = cols.length := ⟨_, rfl⟩
  obtain ⟨n3, hn3⟩ : ∃ n3, n3 = r.length := ⟨_, rfl⟩
  rw [← hn1, ← hn2, ← hn3]
  have HL := Lib.hid (And.intro hn1 (And.intro hn2 hn3))
  clear hn1 hn2 hn3 hal I i1 i2 i3 h1 h2 h3
  go_enter Try.func5, Try.ntmps5
  go_upto_region 3 with (go_at_call 7; refine HA.out.mono ?_; rintro e w2 ⟨rfl, hb⟩; have HB := Lib.hid hb; clear hb)
  have hg := great12_any (c := c1) (c2 := c2) (c3 := c3) (HR.out.1.below HB.out (Nat.le_refl _)) HL.out.1 (HR.out.2.1.below HB.out (Nat.le_refl _)) HL.out.2.1 (HR.out.2.2.below HB.out (Nat.le_refl _)) HL.out.2.2
  have HG := Lib.hid hg
  clear hg
  cases hh : holdsL l cols r with
  | false =>
    have HH := Lib.hid hh
    clear hh
    go_wp2_with (first
      | (go_at_call 8; refine HG.out.mono ?_; rintro e w4 ⟨hw4, he⟩; subst hw4; rcases he with rfl | ⟨rfl, hL⟩)
      | (go_at_call 10; refine (HI.out.holds (c := c1) (c2 := c2) (c3 := c3) (CdR.of (HR.out.1.below HB.out (Nat.le_refl _)) HB.out.size HL.out.1 hL HN.out.1) (CoR.of (HR.out.2.1.below HB.out (Nat.le_refl _)) HB.out.size HL.out.2.1 hL HN.out.2.1) (VaR.of (HR.out.2.2.below HB.out (Nat.le_refl _)) HB.out.size HL.out.2.2 hL HN.out.2.2)).mono ?_; rintro e w5 ⟨rfl, hb⟩; rw [HH.out]; have HB5 := Lib.hid (HB.out.trans (hb.mono HB.out.size)); clear hb))
    · go_ret
      exact ⟨rfl, HB.out⟩
    · go_ret
      exact ⟨rfl, HB5.out⟩
  | true =>
    have HH := Lib.hid hh
    clear hh
    go_upto_region 6 with (first
      | (go_at_call 8; refine HG.out.mono ?_; rintro e w4 ⟨hw4, he⟩; subst hw4; rcases he with rfl | ⟨rfl, hL⟩)
      | (go_at_call 10; refine (HI.out.holds (c := c1) (c2 := c2) (c3 := c3) (CdR.of (HR.out.1.below HB.out (Nat.le_refl _)) HB.out.size HL.out.1 hL HN.out.1) (CoR.of (HR.out.2.1.below HB.out (Nat.le_refl _)) HB.out.size HL.out.2.1 hL HN.out.2.1) (VaR.of (HR.out.2.2.below HB.out (Nat.le_refl _)) HB.out.size HL.out.2.2 hL HN.out.2.2)).mono ?_; rintro e w5 ⟨rfl, hb⟩; rw [HH.out]; have HS := Lib.hid (show EqS w w5 A n1 l A2 n2 cols A3 n3 r from EqS.below ⟨HB.out, CdR.of (HR.out.1.below HB.out (Nat.le_refl _)) HB.out.size HL.out.1 hL HN.out.1, CoR.of (HR.out.2.1.below HB.out (Nat.le_refl _)) HB.out.size HL.out.2.1 hL HN.out.2.1, VaR.of (HR.out.2.2.below HB.out (Nat.le_refl _)) HB.out.size HL.out.2.2 hL HN.out.2.2⟩ hb); clear hb))
    · go_ret
      exact ⟨rfl, HB.out⟩
    clear HG HR HB hL
    have HE := Lib.hid (Below.refl w5.heap.size w5)
    go_loopw [7, 8, 9, 10, 11] (fun iv _ _ _ _ wr => ∃ k : Nat, k ≤ n2 ∧ iv = .int .i64 k ∧ Below w5.heap.size w5 wr) (fun iv _ _ _ _ _ => n2 - (RowKit.intOf iv).toNat)
    case atStart => exact ⟨0, Nat.zero_le _, rfl, HE.out⟩
    case round =>
      obtain ⟨k, hk, rfl, hb⟩ := hrel
      have hk0 : (0 : Int) ≤ (k : Int) := Int.natCast_nonneg _
      have HR := Lib.hid hb
      have HT := Lib.hid (HS.out.below hb)
      have hn2b : n2 ≤ 1000 := by have := HS.out.co.len; have := HS.out.co.few; omega
      clear HE hb
      by_cases hlt : k < n2
      · have hlt1 : (k : Int) < (n2 : Int) := by omega
        have hkl : k < cols.length := by rw [← HL.out.2.1]; exact hlt
        obtain ⟨x, hx⟩ : ∃ x, x = cols[k] := ⟨_, rfl⟩
        obtain ⟨ad, rfl, _, d0, d1, d2⟩ := co_at2 HT.out.co.row hkl hx
        have HX := Lib.hid hx
        have hsz : x.name.size ≤ 500 := by rw [hx]; exact (HT.out.co.sm _ (List.getElem_mem _)).1
        have HZ := Lib.hid hsz
        have hb6 : Below wr.heap.size wr (wr.alloc (.cells #[.string x.name] 9)) := (Below.refl _ wr).alloc (Nat.le_refl _) _
        have hq := Blk.new wr 9 #[.string x.name]
        have hcall := HI.out.equals (c := c1) x.name (HT.out.cd.below hb6) hsz hq.lt (hq.cell 0)
        obtain ⟨w6, hw6⟩ : ∃ w6, w6 = wr.alloc (.cells #[.string x.name] 9) := ⟨_, rfl⟩
        rw [← hw6] at hcall hb6
        have H6 := Lib.hid (And.intro hb6 (HT.out.below hb6))
        have HW := Lib.hid hw6
        clear d1 d2 hsz hb6 hq hw6
        cases he : eqOf l x.name with
        | none =>
          rw [he] at hcall
          have HC := Lib.hid hcall
          clear hcall he
          obtain ⟨kp, hp⟩ : ∃ kp, placeL cols x.name = some kp := by rw [hx]; exact place_there hkl
          have HP := Lib.hid hp
          have hkp0 : (0 : Int) ≤ (kp : Int) := Int.natCast_nonneg _
          clear hp hx
          go_upto_region 9 with (go_at_call 13; rw [← HW.out]; refine HC.out.mono ?_; rintro e w7 ⟨hb7, A', n', c', rfl⟩; have H7 := Lib.hid (And.intro (HR.out.trans ((H6.out.1.trans (hb7.mono H6.out.1.size)).mono HR.out.size)) (H6.out.2.below hb7)); clear hb7 d0)
          obtain ⟨ad2, e2, _, d0, d1, d2⟩ := co_at2 H7.out.2.co.row hkl HX.out
          obtain rfl := Option.some.inj e2
          clear d1 d2 e2
          go_upto_region 12 with (go_at_call 14; refine (HI.out.place (c := c2) x.name H7.out.2.co HZ.out).mono ?_; rintro e w8 ⟨rfl, hb8⟩; rw [HP.out]; simp only [Option.isSome, Option.getD]; have H8 := Lib.hid (And.intro (H7.out.1.trans (hb8.mono H7.out.1.size)) (H7.out.2.below hb8)); clear hb8)
          clear d0 heq
          go_quiet (fail)
          go_wp2_with fail
          go_roundw
          case rel => exact ⟨k + 1, by omega, by go_num, H8.out.1.os, H8.out.1.tape, H8.out.1.output, H8.out.1.size, H8.out.1.block⟩
          case measure => simp [RowKit.intOf]; omega
        | some v =>
          rw [he] at hcall
          have HC := Lib.hid hcall
          obtain ⟨kp, hp, hr⟩ := equals_of HH.out he
          have HP := Lib.hid hp
          have HV := Lib.hid hr
          have hkp0 : (0 : Int) ≤ (kp : Int) := Int.natCast_nonneg _
          have hkr : kp < r.length := (List.getElem?_eq_some_iff.1 hr).1
          have hkn : (kp : Int) < (n3 : Int) := by have := HL.out.2.2; omega
          have hge : ¬ (n3 : Int) ≤ (kp : Int) := by omega
          have hged : decide ((n3 : Int) ≤ (kp : Int)) = false := decide_eq_false hge
          have hknN : kp < n3 := by omega
          have hgeN : ¬ n3 ≤ kp := by omega
          have hgedN : decide (n3 ≤ kp) = false := decide_eq_false hgeN
          clear hcall he hp hr hx
          go_upto_region 9 with (go_at_call 13; rw [← HW.out]; refine HC.out.mono ?_; rintro e w7 ⟨hb7, A', c', rfl, hv7⟩; have H7 := Lib.hid (And.intro (HR.out.trans ((H6.out.1.trans (hb7.mono H6.out.1.size)).mono HR.out.size)) (H6.out.2.below hb7)); have HV7 := Lib.hid hv7; clear hb7 d0 hv7)
          obtain ⟨ad2, e2, _, d0, d1, d2⟩ := co_at2 H7.out.2.co.row hkl HX.out
          obtain rfl := Option.some.inj e2
          clear d1 d2 e2
          go_upto_region 12 with (go_at_call 14; refine (HI.out.place (c := c2) x.name H7.out.2.co HZ.out).mono ?_; rintro e w8 ⟨rfl, hb8⟩; rw [HP.out]; simp only [Option.isSome, Option.getD]; have H8 := Lib.hid (And.intro (H7.out.1.trans (hb8.mono H7.out.1.size)) (H7.out.2.below hb8)); have HV8 := Lib.hid (HV7.out.below hb8); clear hb8)
          obtain ⟨ad3, rfl, b0, b1, b2, _⟩ := va_first HV8.out
          obtain ⟨ad4, rfl, a0, a1, a2⟩ := va_at2 H8.out.2.va.row hkr HV.out
          clear d0 hkr
          go_quiet (fail)
          go_wp2_with fail
          go_roundw
          case rel => exact ⟨k + 1, by omega, by go_num, H8.out.1.os, H8.out.1.tape, H8.out.1.output, H8.out.1.size, H8.out.1.block⟩
          case measure => simp [RowKit.intOf]; omega
      · have hlt1 : ¬ (k : Int) < (n2 : Int) := by omega
        go_wp2_with fail
        go_ret
        exact ⟨rfl, HT.out.low⟩
end Go.Proofs.Ythpchenmfenjmaa
