/-
  asks: all that a page tells is what the document says.
-/
import Derived.Test.YtmgjoogfhkfooaaDoorRefF
namespace Go.Proofs.YtmgjoogfhkfooaaDoor
open Go.RowKit Go.Lib

theorem below_le {a b c : World} (h : Below a.heap.size a b) (k : Below b.heap.size b c) : Below a.heap.size a c := h.trans (k.mono h.size)
theorem Rd.le {w w' : World} {A : Option Addr} {n : Nat} {xs : List Value} (h : Rd w w.heap.size A n xs) (hb : Below w.heap.size w w') : Rd w' w'.heap.size A n xs := (h.below hb (Nat.le_refl _)).more hb.size

theorem of_sl (w : World) (A : Option Addr) (n c : Nat) (l : List Int) (h : Sl w A n c l) : Calls Tryd.prog 21 #[.slice A n c] w (OfRet l w) := by
  by_cases hn : n = 256
  · subst hn
    obtain ⟨g, rfl⟩ := h.adr rfl
    have h0 : 0 < l.length := by have := h.len; omega
    have hx := h.byt _ (List.getElem_mem h0)
    exact of_at w g c l[0].toNat l ⟨h.rd, h.cap, h.top, h.len, h.byt, by rw [List.getElem?_eq_getElem h0]; congr 1; omega⟩
  · exact of_len w A n c l h.len hn

theorem slotsN_front {s : List Slot} {i N : Nat} (h : i ≤ N) (hN : N ≤ s.length) : ∃ r, slotsN s N = slotsN s i ++ r := by
  induction N with
  | zero => obtain rfl : i = 0 := by omega
            exact ⟨[], by simp⟩
  | succ N ih =>
    rcases Nat.lt_or_ge i (N + 1) with h1 | h1
    · obtain ⟨r, hr⟩ := ih (by omega) (by omega)
      cases ho : s[N]'(by omega) with
      | none =>
        have h2 : s[N]? = some none := by rw [List.getElem?_eq_getElem (by omega), ho]
        exact ⟨r, by rw [slotsN_no h2, hr]⟩
      | some b =>
        have h2 : s[N]? = some (some b) := by rw [List.getElem?_eq_getElem (by omega), ho]
        exact ⟨r ++ [(N : Int)], by rw [slotsN_yes h2, hr, List.append_assoc]⟩
    · obtain rfl : i = N + 1 := by omega
      exact ⟨[], by simp⟩
theorem slotsN_at {s : List Slot} {i : Nat} {b : List Int} (h : s[i]? = some (some b)) : (slotsN s s.length)[(slotsN s i).length]? = some (i : Int) := by
  have hi : i < s.length := (List.getElem?_eq_some_iff.1 h).1
  obtain ⟨r, hr⟩ := slotsN_front (s := s) (i := i + 1) (N := s.length) (by omega) (Nat.le_refl _)
  rw [hr, slotsN_yes h, List.append_assoc, List.getElem?_append_right (Nat.le_refl _), Nat.sub_self]
  rfl

/-- SameBytes of two that are one, somewhere behind W -/
theorem same_at (W w : World) (hb : Below W.heap.size W w) (A A' : Option Addr) (n c c' : Nat) (l : List Int) (h1 : Rd W W.heap.size A n (cells l)) (h2 : Rd W W.heap.size A' n (cells l)) (hn : n ≤ 140000000000000) :
    Calls Tryd.prog 11 #[.slice A n c, .slice A' n c'] w fun e w' => e = .returned (.bool true) ∧ Below W.heap.size W w' := by
  refine (same_any A A' n n c c' l l w (h1.le hb) (h2.le hb) hn).mono ?_
  rintro e w' ⟨rfl, h3⟩
  exact ⟨by rw [decide_eq_true rfl], below_le hb h3⟩

theorem got_some (s : List Slot) (k : Int) : (getP (some s) k).isSome = takenP s k := by
  simp only [getP]
  split
  · rename_i h; rw [h]; rfl
  · rename_i h; rw [Bool.not_eq_true] at h; rw [h]; rfl
theorem radd_add {s : List Slot} (h : Fit s) (ht : TrimP s) {b : List Int} (hb : IsBytes b) : rputP s (ffP s) b = addP (some s) b := rput_put h ht _ hb
theorem raddK_add {s : List Slot} (h : Fit s) (ht : TrimP s) {b : List Int} (hb : IsBytes b) : raddK s b = addK (some s) b := by
  unfold raddK addK
  rw [radd_add h ht hb]
def AkRel (W : World) (s : List Slot) (n i : Value) (wr : World) : Prop := ∃ k : Nat, k ≤ s.length ∧ i = .int .i64 k ∧ n = .int .i64 ((slotsN s k).length : Nat) ∧ wr = W

set_option maxRecDepth 100000 in
set_option maxHeartbeats 12800000 in
theorem asks_any (w : World) (A : Option Addr) (n c : Nat) (l : List Int) (h : Sl w A n c l) (k : Int) (A2 : Option Addr) (n2 c2 : Nat) (b : List Int) (h2 : Rd w w.heap.size A2 n2 (cells b)) (hb : IsBytes b) (hn2 : n2 ≤ 1000) :
    Calls Tryd.prog 10 #[.slice A n c, .int .i64 k, .slice A2 n2 c2] w (YesB w) := by
  have HBL := Lib.hid (show b.length = n2 by have := h2.1; rwa [cells_len] at this)
  have H := Lib.hid h
  have HR := Lib.hid h2
  have HB := Lib.hid hb
  clear h h2 hb
  go_enter Tryd.func10, Tryd.ntmps10
  go_wp2_with fail
  refine (of_sl w A n c l H.out).mono ?_
  rintro e w1 ⟨A', n', c', xs, rfl, hpg, hsl, hn', hb1⟩
  have HPG := Lib.hid (And.intro hpg (And.intro hsl hb1))
  clear hpg hsl hb1
  cases ho : ofP l with
  | none =>
    have HO := Lib.hid ho
    have hba := (Below.refl w1.heap.size w1).alloc (Nat.le_refl _) (.cells #[.slice A' n' c'] 45)
    have H2 := Lib.hid (below_le HPG.out.2.2 hba)
    obtain ⟨w2, hw2⟩ : ∃ w2, w2 = w1.alloc (.cells #[.slice A' n' c'] 45) := ⟨_, rfl⟩
    rw [← hw2] at H2
    have HW2 := Lib.hid hw2
    clear hba hw2 ho
    simp only [Option.isSome_none]
    go_wp2_with fail
    rw [← HW2.out]
    refine (right_sl w2 A n c l (H.out.below H2.out)).mono ?_
    rintro e w3 ⟨rfl, hb3⟩
    rw [HO.out]
    have H3 := Lib.hid (below_le H2.out hb3)
    clear hb3
    go_wp2_with fail
    refine (get_any w3 A n c l (H.out.below H3.out) k).mono ?_
    rintro e w4 ⟨v4, rfl, hown4, hb4⟩
    rw [HO.out] at hown4 ⊢
    obtain ⟨A4, c4, rfl, _, _⟩ := own_shape hown4
    have H4 := Lib.hid (below_le H3.out hb4)
    clear hown4 hb4
    go_wp2_with fail
    refine (put_any w4 A n c l (H.out.below H4.out) k A2 n2 c2 b (HR.out.le H4.out) HB.out).mono ?_
    rintro e w5 ⟨v5, rfl, hown5, hb5⟩
    rw [HO.out] at hown5 ⊢
    obtain ⟨A5, c5, rfl, _, _⟩ := own_shape hown5
    have H5 := Lib.hid (below_le H4.out hb5)
    clear hown5 hb5
    go_wp2_with fail
    refine (add_any w5 A n c l (H.out.below H5.out) A2 n2 c2 b (HR.out.le H5.out) HB.out).mono ?_
    rintro e w6 ⟨v6, rfl, hown6, hb6⟩
    rw [HO.out] at hown6 ⊢
    obtain ⟨A6, c6, rfl, _, _⟩ := own_shape hown6
    have H6 := Lib.hid (below_le H5.out hb6)
    clear hown6 hb6
    go_wp2_with fail
    refine (cut_any w6 A n c l (H.out.below H6.out) k).mono ?_
    rintro e w7 ⟨v7, rfl, hown7, hb7⟩
    rw [HO.out] at hown7 ⊢
    obtain ⟨A7, c7, rfl, _, _⟩ := own_shape hown7
    have H7 := Lib.hid (below_le H6.out hb7)
    clear hown7 hb7
    go_wp2_with fail
    refine (slots_any w7 A n c l (H.out.below H7.out)).mono ?_
    rintro e w8 ⟨v8, rfl, hown8, hb8⟩
    rw [HO.out] at hown8
    obtain ⟨A8, c8, rfl, _, _⟩ := own_shape hown8
    have H8 := Lib.hid (below_le H7.out hb8)
    clear hown8 hb8
    simp only [getP, putP, addP, addK, cutP, slotsP, Option.isSome_none, Option.getD_none, List.length_nil]
    go_wp2_with fail
    refine (room_sl w8 A n c l (H.out.below H8.out)).mono ?_
    rintro e w9 ⟨rfl, hb9⟩
    rw [HO.out]
    have H9 := Lib.hid (below_le H8.out hb9)
    clear hb9
    rw [show roomO none = 0 from rfl]
    go_wp2
    go_ret
    exact ⟨rfl, H9.out⟩
  | some s =>
    have HO := Lib.hid ho
    have HS := Lib.hid (HPG.out.2.1 s ho)
    have hpgl := ofP_some ho
    have HP := Lib.hid hpgl
    have hba := (Below.refl w1.heap.size w1).alloc (Nat.le_refl _) (.cells #[.slice A' n' c'] 45)
    have H2 := Lib.hid (And.intro (below_le HPG.out.2.2 hba) (HPG.out.1.below hba))
    have hbx := Blk.new w1 45 #[.slice A' n' c']
    obtain ⟨w2, hw2⟩ : ∃ w2, w2 = w1.alloc (.cells #[.slice A' n' c'] 45) := ⟨_, rfl⟩
    rw [← hw2] at H2 hbx
    have HBX := Lib.hid hbx
    have hslen : s.length = n' := by rw [← HS.out, slotsOf_len]; exact HPG.out.1.len
    have HSL := Lib.hid hslen
    have HW2 := Lib.hid hw2
    have hn300 : n' ≤ 300 := by omega
    clear hba hw2 ho hbx hpgl hslen
    simp only [Option.isSome_some]
    go_wp2_with fail
    rw [← HW2.out]
    refine (right_sl w2 A n c l (H.out.below H2.out.1)).mono ?_
    rintro e w3 ⟨rfl, hb3⟩
    rw [HO.out]
    have HB3 := Lib.hid hb3
    have H3 := Lib.hid (below_le H2.out.1 hb3)
    clear hb3
    go_wp2_with fail
    refine (get_any w3 A n c l (H.out.below H3.out) k).mono ?_
    rintro e w4 ⟨v4, rfl, hown4, hb4⟩
    rw [HO.out] at hown4 ⊢
    obtain ⟨A4, c4, rfl, _, _⟩ := own_shape hown4
    have HR4 := Lib.hid (Rd.of_own hown4)
    have HB4 := Lib.hid (below_le HB3.out hb4)
    have H4 := Lib.hid (below_le H3.out hb4)
    clear hown4 hb4
    go_wp2_with fail
    refine (put_any w4 A n c l (H.out.below H4.out) k A2 n2 c2 b (HR.out.le H4.out) HB.out).mono ?_
    rintro e w5 ⟨v5, rfl, hown5, hb5⟩
    rw [HO.out] at hown5 ⊢
    obtain ⟨A5, c5, rfl, _, _⟩ := own_shape hown5
    have HR5 := Lib.hid (And.intro (Rd.of_own hown5) (HR4.out.le hb5))
    have HB5 := Lib.hid (below_le HB4.out hb5)
    have H5 := Lib.hid (below_le H4.out hb5)
    clear hown5 hb5
    go_wp2_with fail
    refine (add_any w5 A n c l (H.out.below H5.out) A2 n2 c2 b (HR.out.le H5.out) HB.out).mono ?_
    rintro e w6 ⟨v6, rfl, hown6, hb6⟩
    rw [HO.out] at hown6 ⊢
    obtain ⟨A6, c6, rfl, _, _⟩ := own_shape hown6
    have HR6 := Lib.hid (And.intro (Rd.of_own hown6) (And.intro (HR5.out.1.le hb6) (HR5.out.2.le hb6)))
    have HB6 := Lib.hid (below_le HB5.out hb6)
    have H6 := Lib.hid (below_le H5.out hb6)
    clear hown6 hb6
    go_wp2_with fail
    refine (cut_any w6 A n c l (H.out.below H6.out) k).mono ?_
    rintro e w7 ⟨v7, rfl, hown7, hb7⟩
    rw [HO.out] at hown7 ⊢
    obtain ⟨A7, c7, rfl, _, _⟩ := own_shape hown7
    have HR7 := Lib.hid (And.intro (Rd.of_own hown7) (And.intro (HR6.out.1.le hb7) (And.intro (HR6.out.2.1.le hb7) (HR6.out.2.2.le hb7))))
    have HB7 := Lib.hid (below_le HB6.out hb7)
    have H7 := Lib.hid (below_le H6.out hb7)
    clear hown7 hb7
    go_wp2_with fail
    refine (slots_any w7 A n c l (H.out.below H7.out)).mono ?_
    rintro e w8 ⟨v8, rfl, hown8, hb8⟩
    rw [HO.out] at hown8
    obtain ⟨A8, c8, rfl, _, _⟩ := own_shape hown8
    have HR8 := Lib.hid (And.intro (Rd.of_own hown8) (And.intro (HR7.out.1.le hb8) (And.intro (HR7.out.2.1.le hb8) (And.intro (HR7.out.2.2.1.le hb8) (HR7.out.2.2.2.le hb8)))))
    have HB8 := Lib.hid (below_le HB7.out hb8)
    have H8 := Lib.hid (below_le H7.out hb8)
    clear hown8 hb8
    have hcr8 : w8.cell? ⟨w1.heap.size, 0, none⟩ = some (.slice A' n' c') := (HB8.out.cell (p := ⟨w1.heap.size, 0, none⟩) HBX.out.lt).trans (by rw [HBX.out.cell]; rfl)
    go_wp2_with fail
    have hg8 := refGet_any w8 A' n' c' xs (H2.out.2.below HB8.out) k
    have hp8 := fun w' (hh : Below w2.heap.size w2 w') => refPut_any w' A' n' c' xs (H2.out.2.below hh) hn300 k A2 n2 c2 b (HR.out.le (below_le H2.out.1 hh)) HB.out hn2
    have ha8 := fun w' (hh : Below w2.heap.size w2 w') => refAdd_any w' A' n' c' xs (H2.out.2.below hh) hn300 A2 n2 c2 b (HR.out.le (below_le H2.out.1 hh)) HB.out hn2
    have hc8 := fun w' (hh : Below w2.heap.size w2 w') => refCut_any w' A' n' c' xs (H2.out.2.below hh) hn300 k
    have hm8 := fun w' (hh : Below w2.heap.size w2 w') => refRoom_any w' A' n' c' xs (H2.out.2.below hh) hn300 (by rw [HS.out]; exact HP.out.fit) (by rw [HS.out]; exact HP.out.trim)
    rw [HS.out] at hg8 hp8 ha8 hc8 hm8
    rw [rput_put HP.out.fit HP.out.trim k HB.out] at hp8
    rw [radd_add HP.out.fit HP.out.trim HB.out, raddK_add HP.out.fit HP.out.trim HB.out] at ha8
    rw [rcut_cut HP.out.fit] at hc8
    have hgl : ((getP (some s) k).getD []).length ≤ 1000 := by
      simp only [getP]
      split
      · rename_i ht
        obtain ⟨j, rfl, b', hj⟩ := taken_some ht
        have := HP.out.fit.len (some b') (List.mem_of_getElem? hj)
        rw [Int.toNat_natCast, hj]
        simp only [Option.getD_some, bsS] at this ⊢
        omega
      · simp
    have hpl : ((putP (some s) k b).getD []).length ≤ 1000 := by
      cases hq : putP (some s) k b with
      | none => simp
      | some q => have := (put_pg HP.out HB.out hq).2.2.2.2.len; simp only [Option.getD_some]; omega
    have hal : ((addP (some s) b).getD []).length ≤ 1000 := by
      cases hq : addP (some s) b with
      | none => simp
      | some q => have := (put_pg HP.out HB.out (show putP (some s) (ffP s) b = some q from hq)).2.2.2.2.len; simp only [Option.getD_some]; omega
    have hcl : ((cutP (some s) k).getD []).length ≤ 1000 := by
      simp only [cutP]
      split
      · rename_i ht
        obtain ⟨j, rfl, b', hj⟩ := taken_some ht
        have hjl : j < s.length := (List.getElem?_eq_some_iff.1 hj).1
        have := (trim_fit (cut_fit HP.out.fit hjl)).img_len
        rw [Int.toNat_natCast]
        simp only [Option.getD_some]
        omega
      · simp
    have hkb : addK (some s) b ≤ 300 := by
      show (if (addP (some s) b).isSome then ffP s else 0) ≤ 300
      have h1 := ff_le s
      have h2 := HSL.out
      split <;> omega
    rw [got_some]
    unfold RgRet at hg8
    obtain ⟨lx, hlx⟩ : ∃ x, x = (getP (some s) k).getD [] := ⟨_, rfl⟩
    obtain ⟨ox, hox⟩ : ∃ x, x = takenP s k := ⟨_, rfl⟩
    obtain ⟨pq, hpq⟩ : ∃ x, x = putP (some s) k b := ⟨_, rfl⟩
    obtain ⟨pa, hpa⟩ : ∃ x, x = addP (some s) b := ⟨_, rfl⟩
    obtain ⟨pk, hpk⟩ : ∃ x, x = addK (some s) b := ⟨_, rfl⟩
    obtain ⟨pc, hpc⟩ : ∃ x, x = cutP (some s) k := ⟨_, rfl⟩
    rw [← hlx] at hg8 HR8 hgl ⊢
    rw [← hox] at hg8 ⊢
    rw [← hpq] at hp8 HR8 hpl ⊢
    rw [← hpa] at ha8 HR8 hal ⊢
    rw [← hpk] at ha8 hkb ⊢
    rw [← hpc] at hc8 HR8 hcl ⊢
    have HG8 := Lib.hid hg8
    have HP8 := Lib.hid hp8
    have HA8 := Lib.hid ha8
    have HC8 := Lib.hid hc8
    have HM8 := Lib.hid hm8
    clear hg8 hp8 ha8 hc8 hm8 hlx hox hpq hpa hpk hpc
    refine HG8.out.mono ?_
    rintro e w9 ⟨B9, m9, d9, rfl, hm9, hr9, hb9⟩
    subst hm9
    have HR9 := Lib.hid hr9
    have HB9 := Lib.hid hb9
    have HX9 := Lib.hid (below_le HB8.out hb9)
    have hcr9 := (hb9.cell (World.block_lt_of_cell? _ _ hcr8)).trans hcr8
    clear hr9 hb9
    go_wp2_with fail
    refine (HP8.out w9 HX9.out).mono ?_
    rintro e w10 ⟨v10, rfl, hown10, hb10⟩
    obtain ⟨B10, d10, rfl, _, _⟩ := own_shape hown10
    have HR10 := Lib.hid (And.intro (Rd.of_own hown10) (HR9.out.le hb10))
    have HB10 := Lib.hid (below_le HB9.out hb10)
    have HX10 := Lib.hid (below_le HX9.out hb10)
    have hcr10 := (hb10.cell (World.block_lt_of_cell? _ _ hcr9)).trans hcr9
    clear hown10 hb10
    go_wp2_with fail
    refine (HA8.out w10 HX10.out).mono ?_
    rintro e w11 ⟨v11, rfl, hown11, hb11⟩
    obtain ⟨B11, d11, rfl, _, _⟩ := own_shape hown11
    have HR11 := Lib.hid (And.intro (Rd.of_own hown11) (And.intro (HR10.out.1.le hb11) (HR10.out.2.le hb11)))
    have HB11 := Lib.hid (below_le HB10.out hb11)
    have HX11 := Lib.hid (below_le HX10.out hb11)
    have hcr11 := (hb11.cell (World.block_lt_of_cell? _ _ hcr10)).trans hcr10
    clear hown11 hb11
    go_wp2_with fail
    refine (HC8.out w11 HX11.out).mono ?_
    rintro e w12 ⟨v12, rfl, hown12, hb12⟩
    obtain ⟨B12, d12, rfl, _, _⟩ := own_shape hown12
    have HR12 := Lib.hid (And.intro (Rd.of_own hown12) (And.intro (HR11.out.1.le hb12) (And.intro (HR11.out.2.1.le hb12) (HR11.out.2.2.le hb12))))
    have HB12 := Lib.hid (below_le HB11.out hb12)
    have HX12 := Lib.hid (below_le HX11.out hb12)
    have hcr12 := (hb12.cell (World.block_lt_of_cell? _ _ hcr11)).trans hcr11
    clear hown12 hb12
    have hn255 : n' ≤ 255 := hn'
    have hq := q22
    have HPGR := Lib.hid (H2.out.2.below HX12.out)
    have HSLT := Lib.hid (HR8.out.1.le HB12.out)
    have hsle := slotsN_le s s.length
    rw [HSL.out] at hsle
    rw [show slotsP (some s) = slotsN s s.length from rfl] at HSLT
    rw [show slotsP (some s) = slotsN s s.length from rfl]
    obtain ⟨LS, hLS⟩ : ∃ LS, LS = slotsN s s.length := ⟨_, rfl⟩
    have HLS := Lib.hid hLS
    rw [← hLS, ] at HSLT ⊢
    rw [HSL.out] at hLS
    rw [← hLS] at hsle
    clear hLS hcr8 hcr9 hcr10 hcr11
    go_wp2_with fail
    go_loopw [28, 29] (fun n i wr => AkRel w12 s n i wr) (fun _ i _ => n' - (intOf i).toNat)
    case atStart => exact ⟨0, by omega, rfl, rfl, rfl⟩
    case round =>
      obtain ⟨j, hj, rfl, rfl, rfl⟩ := hrel
      rw [HSL.out] at hj
      have hj0 : (0 : Int) ≤ (j : Int) := Int.natCast_nonneg _
      by_cases hlt : j < n'
      · obtain ⟨ad, x, rfl, hx, hcell, hok, hso⟩ := HPGR.out.at_ hlt
        rw [HS.out] at hso
        have HSO := Lib.hid hso
        have hsl := slotsN_le s j
        cases hxo : x.o with
        | none =>
          rw [hok.free hxo] at hcell
          have HF := Lib.hid (show AkRel wr s (.int .i64 ((slotsN s j).length : Nat)) (.int .i64 ((j : Int) + 1)) wr from ⟨j + 1, by rw [HSL.out]; omega, by simp, by rw [slotsN_no (by rw [HSO.out, hxo])], rfl⟩)
          obtain ⟨u, hu⟩ : ∃ u, u = (slotsN s j).length := ⟨_, rfl⟩
          rw [← hu] at HF ⊢
          clear hx hok hso hxo hsl hu
          go_wp2
          go_roundw
          case rel => exact HF.out
          case measure => simp [intOf]; omega
        | some y =>
          obtain ⟨⟨a, ha⟩, _⟩ := hok.got hxo
          unfold Sv.val at hcell
          rw [ha] at hcell
          obtain ⟨xn, hxn⟩ : ∃ xn, xn = x.n := ⟨_, rfl⟩
          obtain ⟨xc, hxc⟩ : ∃ xc, xc = x.c := ⟨_, rfl⟩
          rw [← hxn, ← hxc] at hcell
          have hsy : s[j]? = some (some y) := by rw [HSO.out, hxo]
          have hat := slotsN_at hsy
          rw [← HLS.out] at hat
          have HF := Lib.hid (show AkRel wr s (.int .i64 (((slotsN s j).length : Nat) + 1)) (.int .i64 ((j : Int) + 1)) wr from ⟨j + 1, by rw [HSL.out]; omega, by simp, by rw [slotsN_yes hsy, List.length_append]; rfl, rfl⟩)
          obtain ⟨u, hu⟩ : ∃ u, u = (slotsN s j).length := ⟨_, rfl⟩
          rw [← hu] at HF hat ⊢
          have hul : u < LS.length := (List.getElem?_eq_some_iff.1 hat).1
          obtain ⟨ad8, z, rfl, _, hz, hcz⟩ := HSLT.out.at_ hul
          rw [cells64, List.getElem?_map, hat] at hz
          obtain rfl := Option.some.inj hz
          have hu0 : (0 : Int) ≤ (u : Int) := Int.natCast_nonneg _
          clear hx hok hso hxo hsl hu ha hxn hxc hsy hat hz
          go_wp2
          go_roundw
          case rel => exact HF.out
          case measure => simp [intOf]; omega
      · obtain rfl : j = n' := by omega
        rw [show (slotsN s j).length = LS.length by rw [HLS.out, HSL.out]]
        obtain ⟨RM, hRM⟩ : ∃ RM, RM = roomI s (ffP s) := ⟨_, rfl⟩
        rw [← hRM] at HM8
        have HRM := Lib.hid (show roomO (ofP l) = RM by rw [HO.out, hRM]; rfl)
        have hwl := World.block_lt_of_cell? _ _ hcr12
        have HWL := Lib.hid hwl
        have HCR := Lib.hid hcr12
        have HR4' := Lib.hid (HR8.out.2.2.2.2.le HB12.out)
        have HR5' := Lib.hid (HR8.out.2.2.2.1.le HB12.out)
        have HR6' := Lib.hid (HR8.out.2.2.1.le HB12.out)
        have HR7' := Lib.hid (HR8.out.2.1.le HB12.out)
        have HW12 := Lib.hid (below_le H8.out HB12.out)
        clear hRM hwl
        obtain ⟨z1, hz1⟩ : ∃ z, z = lx.length := ⟨_, rfl⟩
        obtain ⟨z2, hz2⟩ : ∃ z, z = (pq.getD []).length := ⟨_, rfl⟩
        obtain ⟨z3, hz3⟩ : ∃ z, z = (pa.getD []).length := ⟨_, rfl⟩
        obtain ⟨z4, hz4⟩ : ∃ z, z = (pc.getD []).length := ⟨_, rfl⟩
        rw [← hz1] at HR4' HR12 hgl ⊢
        rw [← hz2] at HR5' HR12 hpl ⊢
        rw [← hz3] at HR6' HR12 hal ⊢
        rw [← hz4] at HR7' HR12 hcl ⊢
        clear hz1 hz2 hz3 hz4
        go_wp2_with fail
        go_region_held3 (fun w' => w'.cell? ⟨w1.heap.size, 0, none⟩ = some (.slice A' j c'))
          (first | exact HC6.out | exact HC5.out | exact HC4.out | exact HC3.out | exact HC2.out | exact HC1.out | exact hcr12 | go_keep)
          (first
            | (go_at_call 11; with_reducible refine (same_at wr _ ((Below.refl _ wr).drew) A4 B9 z1 c4 d9 lx HR4'.out HR12.out.2.2.2 (by omega)).mono ?_; rintro e v1 ⟨rfl, hv1⟩; have HV1 := Lib.hid hv1; have HC1 := Lib.hid ((hv1.cell HWL.out).trans HCR.out); clear hv1)
            | (go_at_call 11; with_reducible refine (same_at wr _ HV1.out A5 B10 z2 c5 d10 (pq.getD []) HR5'.out HR12.out.2.2.1 (by omega)).mono ?_; rintro e v2 ⟨rfl, hv2⟩; have HV2 := Lib.hid hv2; have HC2 := Lib.hid ((hv2.cell HWL.out).trans HCR.out); clear hv2)
            | (go_at_call 11; with_reducible refine (same_at wr _ HV2.out A6 B11 z3 c6 d11 (pa.getD []) HR6'.out HR12.out.2.1 (by omega)).mono ?_; rintro e v3 ⟨rfl, hv3⟩; have HV3 := Lib.hid hv3; have HC3 := Lib.hid ((hv3.cell HWL.out).trans HCR.out); clear hv3)
            | (go_at_call 11; with_reducible refine (same_at wr _ HV3.out A7 B12 z4 c7 d12 (pc.getD []) HR7'.out HR12.out.1 (by omega)).mono ?_; rintro e v4 ⟨rfl, hv4⟩; have HV4 := Lib.hid hv4; have HC4 := Lib.hid ((hv4.cell HWL.out).trans HCR.out); clear hv4)
            | (go_at_call 20; refine (room_sl _ A n c l (H.out.below (below_le HW12.out HV4.out))).mono ?_; rintro e v5 ⟨rfl, hv5⟩; rw [HRM.out]; have HV5 := Lib.hid (below_le HV4.out hv5); have HC5 := Lib.hid ((HV5.out.cell HWL.out).trans HCR.out); clear hv5)
            | (go_at_call 26; refine (HM8.out _ (below_le HX12.out HV5.out)).mono ?_; rintro e v6 ⟨rfl, hv6⟩; have HV6 := Lib.hid (below_le HV5.out hv6); have HC6 := Lib.hid ((HV6.out.cell HWL.out).trans HCR.out); clear hv6))
        go_wp2
        go_ret
        exact ⟨rfl, below_le HW12.out HV6.out⟩
end Go.Proofs.YtmgjoogfhkfooaaDoor
