/-
  The contracts of the document's own reader (layer 1): Int, Count, Text, Texts, Left.
-/
import Derived.Test.YtkdcnkadngbccaaGreatDoorRead2
namespace Go.Proofs.YtkdcnkadngbccaaGreatDoor
open Go.RowKit Go.Lib

/-- block g is the document's reader in the state s -/
def RR (w : World) (g : Nat) (s : St) : Prop :=
  ∃ A n c l, Blk w g 55 #[.slice A n c, .bool s.isNone] ∧ n ≤ c ∧ c ≤ maxLen ∧ n ≤ 8000000000000 ∧ Rd w g A n (cells l) ∧ IsBytes l ∧ ∀ l', s = some l' → l = l'

def RfRet (g : Nat) (v : Value) (s : St) (w : World) (e : Ending) (w' : World) : Prop := e = .returned v ∧ RR w' g s ∧ w.grownBy w' (some g)

theorem RR.cell0 {w : World} {g : Nat} {v : Value} {b : Value} (h : Blk w g 55 #[v, b]) : w.cell? ⟨g, 0, none⟩ = some v := by rw [h.cell 0]; rfl
theorem RR.cell1 {w : World} {g : Nat} {v : Value} {b : Value} (h : Blk w g 55 #[v, b]) : w.cell? ⟨g, 1, none⟩ = some b := by rw [h.cell 1]; rfl
theorem RR.below {w w' : World} {g : Nat} {s : St} {C : Nat} (h : RR w g s) (hb : Below C w w') (hg : g < C) : RR w' g s := by
  obtain ⟨A, n, c, l, h1, h2, h3, h4, h5, h6, h7⟩ := h
  exact ⟨A, n, c, l, h1.below hb hg, h2, h3, h4, h5.below hb (by omega), h6, h7⟩
theorem RR.lt {w : World} {g : Nat} {s : St} (h : RR w g s) : g < w.heap.size := by
  obtain ⟨A, n, c, l, h1, _⟩ := h
  exact h1.lt

theorem RR.wrong {w : World} {g : Nat} {A : Option Addr} {n c : Nat} {b : Value} {l : List Int} (h : Blk w g 55 #[.slice A n c, b]) (hc : n ≤ c) (hm : c ≤ maxLen) (hn : n ≤ 8000000000000) (hr : Rd w g A n (cells l)) (hb : IsBytes l) :
    RR (w.setCell ⟨g, 1, none⟩ (.bool true)) g none :=
  ⟨A, n, c, l, by simpa using h.put 1 (.bool true), hc, hm, hn, hr.setCell (Nat.le_refl _) _, hb, fun l' h => by cases h⟩
theorem RR.next {w : World} {g : Nat} {l : List Int} {A : Option Addr} {n c k : Nat} (h : Blk w g 55 #[.slice A n c, .bool false]) (hc : n ≤ c) (hm : c ≤ maxLen) (hn : n ≤ 8000000000000) (hr : Rd w g A n (cells l)) (hb : IsBytes l) (hk : k ≤ n) :
    RR (w.setCell ⟨g, 0, none⟩ (.slice (if c = k then A else A.map (·.add k)) (n - k) (c - k))) g (some (l.drop k)) := by
  refine ⟨_, _, _, l.drop k, by simpa using h.put 0 (.slice (if c = k then A else A.map (·.add k)) (n - k) (c - k)), by omega, by omega, by omega, ?_, hb.drop k, fun l' h => by injection h⟩
  have h2 := (hr.cutl hk hc).setCell (p := ⟨g, 0, none⟩) (Nat.le_refl _) (.slice (if c = k then A else A.map (·.add k)) (n - k) (c - k))
  simpa [cells, List.map_drop] using h2
theorem RR.next_at {w : World} {g : Nat} {l : List Int} {A : Option Addr} {n c k : Nat} (h : Blk w g 55 #[.slice A n c, .bool false]) (hc : n ≤ c) (hm : c ≤ maxLen) (hn : n ≤ 8000000000000) (hr : Rd w g A n (cells l)) (hb : IsBytes l) (hk : k ≤ n) (e : c = k) :
    RR (w.setCell ⟨g, 0, none⟩ (.slice A (n - k) 0)) g (some (l.drop k)) := by
  have h1 := RR.next h hc hm hn hr hb hk
  rw [if_pos e, show c - k = 0 by omega] at h1
  exact h1
theorem RR.next_far {w : World} {g : Nat} {l : List Int} {A : Option Addr} {n c k : Nat} (h : Blk w g 55 #[.slice A n c, .bool false]) (hc : n ≤ c) (hm : c ≤ maxLen) (hn : n ≤ 8000000000000) (hr : Rd w g A n (cells l)) (hb : IsBytes l) (hk : k ≤ n) (e : ¬ c = k) :
    RR (w.setCell ⟨g, 0, none⟩ (.slice (A.map fun x => x.add k) (n - k) (c - k))) g (some (l.drop k)) := by
  have h1 := RR.next h hc hm hn hr hb hk
  rw [if_neg e] at h1
  exact h1

theorem RR.next_lit {w : World} {g : Nat} {l : List Int} {ad : Addr} {n c k : Nat} (h : Blk w g 55 #[.slice (some ad) n c, .bool false]) (hc : n ≤ c) (hm : c ≤ maxLen) (hn : n ≤ 8000000000000) (hr : Rd w g (some ad) n (cells l)) (hb : IsBytes l) (hk : k + 1 ≤ n) (e : ¬ c = k + 1) :
    RR (w.setCell ⟨g, 0, none⟩ (.slice (some ⟨ad.block, ad.off + (k + 1), none⟩) (n - (k + 1)) (c - (k + 1)))) g (some (l.drop (k + 1))) := by
  have h1 := RR.next_far h hc hm hn hr hb hk e
  simpa [Addr.add] using h1

def RnRel (l : List Int) (i u : Value) : Prop :=
  ∃ k : Nat, k ≤ l.length ∧ i = .int .i64 (k : Int) ∧ ((k ≤ 9 ∧ ∃ acc : Nat, u = .int .u64 (acc : Int) ∧ acc < 128 ^ k ∧ num l = dec k acc (l.drop k)) ∨ (k = 10 ∧ (∃ x : Int, u = .int .u64 x) ∧ num l = none))

theorem add_val {k acc : Nat} {d : Int} (hk : k ≤ 9) (hacc : acc < 128 ^ k) (h9 : k = 9 → d % 128 ≤ 1) :
    IntKind.u64.wrap ((acc : Int) + IntKind.u64.wrap (d % 128 * 2 ^ (7 * k))) = ((acc + (d % 128).toNat * 128 ^ k : Nat) : Int) := by
  have h1 := acc_bd hk hacc
  have hb := digit_bd (x := (d % 128).toNat) hk (by omega) (by omega)
  rw [shl_val hk h9, IntKind.wrap_u64]
  generalize (d % 128).toNat * 128 ^ k = q at hb ⊢
  omega

set_option maxRecDepth 100000 in
set_option maxHeartbeats 3200000 in
theorem refint_any (g : Nat) (s : St) (w : World) (h : RR w g s) :
    Calls Tryz.prog 32 #[.pointer (some ⟨g, 0, none⟩)] w (RfRet g (.int .i64 (rInt s).1) (rInt s).2 w) := by
  have H := Lib.hid h
  obtain ⟨A, n, c, l, hblk, hnc, hcm, hn, hr, hb, hl⟩ := h
  have c0 := RR.cell0 hblk
  have c1 := RR.cell1 hblk
  have f0 := hblk.frozen 0
  have f1 := hblk.frozen 1
  cases s with
  | none =>
    clear hl hblk
    go_enter Tryz.func32, Tryz.ntmps32
    go_wp2
    go_ret
    exact ⟨rfl, H.out, World.grownBy.refl _ _⟩
  | some l0 =>
    obtain rfl : l = l0 := hl l0 rfl
    have hlen : l.length = n := by have := hr.len; rwa [cells_len] at this
    subst hlen
    have HW := Lib.hid (RR.wrong hblk hnc hcm hn hr hb)
    have HBL := Lib.hid hblk
    have hr0 := hr
    clear hl hblk
    go_enter Tryz.func32, Tryz.ntmps32
    go_wp2
    go_loop [4, 3] (fun i u => RnRel l i u) (fun i _ => l.length - (intOf i).toNat)
    case atStart => exact ⟨0, by omega, rfl, .inl ⟨by omega, 0, rfl, by simp, rfl⟩⟩
    case round =>
      obtain ⟨k, hk, rfl, hh⟩ := hrel
      rcases hh with ⟨hk9, acc, rfl, hacc, hnum⟩ | ⟨rfl, ⟨x, rfl⟩, hnum⟩
      · by_cases hlt : k < l.length
        · obtain ⟨ad, u, rfl, _, hu, hc⟩ := hr.at_ hlt
          rw [cells_at hlt] at hu
          obtain rfl := Option.some.inj hu
          have hd := hb _ (List.getElem_mem hlt)
          rw [List.drop_eq_getElem_cons hlt] at hnum
          generalize l[k] = d at hc hd hu hnum
          clear hr hu
          obtain ⟨hd0, hd1⟩ := hd
          rcases Nat.lt_or_ge k 9 with h9 | h9
          · have h99 : ¬ (k = 9 ∧ 1 < d) := by omega
            have h9' : k = 9 → d % 128 ≤ 1 := by omega
            have hv := add_val hk9 hacc h9'
            have hS := sum_bd hk9 hacc h9'
            have HA := Lib.hid (next_bd (x := (d % 128).toNat) hacc (by omega))
            by_cases h128 : 128 ≤ d
            · rw [dec_more h99 h128] at hnum
              generalize acc + (d % 128).toNat * 128 ^ k = U at hv hS HA hnum
              have HV := Lib.hid hv
              have HN := Lib.hid hnum
              clear hnum h9' h99 hacc hS hv
              go_wp2
              go_round
              case rel => exact ⟨k + 1, by omega, by go_num, .inl ⟨by omega, U, val_int HV.out, HA.out, HN.out⟩⟩
              case measure => simp [intOf]; omega
            · by_cases h0 : d = 0 ∧ 0 < k
              · rw [dec_zero h99 h128 h0] at hnum
                have HI := Lib.hid (rInt_none hnum)
                have h1 : d ≤ 0 := by omega
                have h2 : 0 < k := by omega
                clear hnum h9' h99 hacc hS hv HA h0
                go_wp2
                go_ret
                rw [HI.out]
                exact ⟨rfl, HW.out, grown_set _ _ _ _⟩
              · rw [dec_last h99 h128 h0] at hnum
                generalize acc + (d % 128).toNat * 128 ^ k = U at hv hS HA hnum
                have HI := Lib.hid (rInt_some hnum)
                have hUi : (U : Int) ≤ 18446744073709551615 := by omega
                have HX1 := Lib.hid (RR.next_at HBL.out hnc hcm hn hr0 hb (k := k + 1) (by omega))
                have HX2 := Lib.hid (RR.next_lit HBL.out hnc hcm hn hr0 hb (k := k) (by omega))
                have hk0 : k ≤ 0 ∨ 1 ≤ d := by omega
                clear hnum h9' h99 hacc hS HA h0
                rcases hk0 with hk0 | hk0
                all_goals
                  by_cases hpar : (U : Int) % 2 = 1
                  · have HE := Lib.hid (unfoldN_odd hpar)
                    go_wp2
                    all_goals
                      go_ret
                      rw [HI.out]
                      first | exact ⟨ret_int HE.out.symm, HX1.out (by assumption), grown_set _ _ _ _⟩ | exact ⟨ret_int HE.out.symm, HX2.out (by assumption), grown_set _ _ _ _⟩
                  · have HE := Lib.hid (unfoldN_even hpar)
                    go_wp2
                    all_goals
                      go_ret
                      rw [HI.out]
                      first | exact ⟨ret_int HE.out.symm, HX1.out (by assumption), grown_set _ _ _ _⟩ | exact ⟨ret_int HE.out.symm, HX2.out (by assumption), grown_set _ _ _ _⟩
          · obtain rfl : k = 9 := by omega
            have hc9 : w.cell? ⟨ad.block, ad.off + 9, none⟩ = some (.int .u8 d) := by simpa [Addr.add] using hc
            clear hc
            by_cases hbig : 1 < d % 128
            · rw [dec_high ⟨rfl, by omega⟩] at hnum
              have HI := Lib.hid (rInt_none hnum)
              clear hnum hacc
              go_wp2
              go_ret
              rw [HI.out]
              exact ⟨rfl, HW.out, grown_set _ _ _ _⟩
            · by_cases h128 : 128 ≤ d
              · rw [dec_high ⟨rfl, by omega⟩] at hnum
                have HN := Lib.hid hnum
                clear hnum hacc
                go_wp2
                go_round
                case rel => exact ⟨10, by omega, rfl, .inr ⟨rfl, ⟨_, rfl⟩, HN.out⟩⟩
                case measure => simp [intOf]; omega
              · by_cases h0 : d ≤ 0
                · rw [dec_zero (by omega) h128 ⟨by omega, by omega⟩] at hnum
                  have HI := Lib.hid (rInt_none hnum)
                  clear hnum hacc
                  go_wp2
                  go_ret
                  rw [HI.out]
                  exact ⟨rfl, HW.out, grown_set _ _ _ _⟩
                · rw [dec_last (by omega) h128 (by omega)] at hnum
                  have h1d : 1 ≤ d := by omega
                  have hd1' : d ≤ 1 := by omega
                  have hab := acc_bd hk9 hacc
                  obtain ⟨U, hU⟩ : ∃ U, U = acc + 9223372036854775808 := ⟨_, rfl⟩
                  have he : acc + (d % 128).toNat * 128 ^ 9 = U := by
                    rw [show (d % 128).toNat = 1 by omega, Nat.one_mul, hU]
                  rw [he] at hnum
                  have hv : IntKind.u64.wrap ((acc : Int) + d % 128 * 9223372036854775808) = (U : Int) := by
                    rw [IntKind.wrap_u64]
                    omega
                  have hUi : (U : Int) ≤ 18446744073709551615 := by omega
                  have HI := Lib.hid (rInt_some hnum)
                  have HX1 := Lib.hid (RR.next_at HBL.out hnc hcm hn hr0 hb (k := 9 + 1) (by omega))
                  have HX2 := Lib.hid (RR.next_lit HBL.out hnc hcm hn hr0 hb (k := 9) (by omega))
                  clear hnum hacc hU he hab
                  by_cases hpar : (U : Int) % 2 = 1
                  · have HE := Lib.hid (unfoldN_odd hpar)
                    go_wp2
                    all_goals
                      go_ret
                      rw [HI.out]
                      first | exact ⟨ret_int HE.out.symm, HX1.out (by assumption), grown_set _ _ _ _⟩ | exact ⟨ret_int HE.out.symm, HX2.out (by assumption), grown_set _ _ _ _⟩
                  · have HE := Lib.hid (unfoldN_even hpar)
                    go_wp2
                    all_goals
                      go_ret
                      rw [HI.out]
                      first | exact ⟨ret_int HE.out.symm, HX1.out (by assumption), grown_set _ _ _ _⟩ | exact ⟨ret_int HE.out.symm, HX2.out (by assumption), grown_set _ _ _ _⟩
        · have hkl : k = l.length := by omega
          have hnn : num l = none := by rw [hnum, hkl, List.drop_length]; rfl
          have HI := Lib.hid (rInt_none hnn)
          clear hnum hacc hnn hkl hr
          go_wp2
          go_ret
          rw [HI.out]
          exact ⟨rfl, HW.out, grown_set _ _ _ _⟩
      · have HI := Lib.hid (rInt_none hnum)
        clear hnum hr
        go_wp2
        all_goals
          go_ret
          rw [HI.out]
          exact ⟨rfl, HW.out, grown_set _ _ _ _⟩

end Go.Proofs.YtkdcnkadngbccaaGreatDoor
