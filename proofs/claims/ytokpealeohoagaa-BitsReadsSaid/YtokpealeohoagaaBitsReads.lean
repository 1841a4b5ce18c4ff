/-
  BitsReads returns true for every slice of bytes and every row of asks, and leaves both as they were: a reader answers what the document says, at each ask, and leaves its bytes as they were.
  No condition.
-/
import Derived.Test.YtokpealeohoagaaRefTexts
import Derived.Deep.RegionWith
import Derived.BigQuiet
import Derived.Deep.QuietTactic
import Derived.Deep.RegionHeld3
namespace Go.Proofs.Ytokpealeohoagaa
open Go.RowKit Go.Lib

/-- a reader's data lie in no block of a slice and a bool -/
theorem Rd.ne_pair {w : World} {B n : Nat} {A : Option Addr} {l : List Int} (h : Rd w B A n (cells l)) {g : Nat} {t : TypeId} {A' : Option Addr} {n' c' : Nat} {b : Bool} (hb : Blk w g t #[.slice A' n' c', .bool b]) (hn : 0 < n) : ∃ ad, A = some ad ∧ ad.block < B ∧ ad.block ≠ g ∧ ad.block < w.heap.size := by
  obtain ⟨ad, u, rfl, hlt, hu, hc⟩ := h.at_ (k := 0) hn
  refine ⟨ad, rfl, hlt, ?_, ?_⟩
  · rintro rfl
    have hl : 0 < l.length := by have := h.len; rw [cells_len] at this; omega
    rw [cells_at hl] at hu
    obtain rfl := Option.some.inj hu
    unfold Blk at hb
    have e : (ad.add 0).block = ad.block := addr_block ad 0
    unfold World.cell? at hc
    rw [e, hb] at hc
    simp only at hc
    split at hc
    · cases hc
    · generalize (ad.add 0).off = o at hc
      match o with
      | 0 => simp at hc
      | 1 => simp at hc
      | k + 2 => simp at hc
  · have h1 := World.block_lt_of_cell? _ _ hc
    rwa [addr_block] at h1

theorem Rd.kept_pair {w w' : World} {B n : Nat} {A : Option Addr} {l : List Int} (h : Rd w B A n (cells l)) {g : Nat} {t : TypeId} {A' : Option Addr} {n' c' : Nat} {b : Bool} (hb : Blk w g t #[.slice A' n' c', .bool b]) (hg : w.grownBy w' (some g)) : Rd w' B A n (cells l) := by
  refine ⟨h.1, fun hn => ?_⟩
  obtain ⟨ad, rfl, hlt, hne, hsz⟩ := h.ne_pair hb hn
  obtain ⟨ad', e, _, hc⟩ := h.2 hn
  obtain rfl := Option.some.inj e
  refine ⟨ad, rfl, hlt, fun j u hu => ?_⟩
  have e : (ad.add j).block = ad.block := addr_block ad j
  rw [World.cell?_of_block (w := w) (w' := w') (by rw [e]; exact hg.block ad.block hsz (fun he => hne (by injection he)))]
  exact hc j u hu

theorem BR.kept {w w' : World} {g g' : Nat} {s s' : St} (h : BR w g s) (h' : RR w g' s') (hne : g ≠ g') (hg : w.grownBy w' (some g')) : BR w' g s := by
  obtain ⟨A, n, c, hblk, h2, h3, h4, h5, h6, h7⟩ := h
  obtain ⟨A', n', c', l', hblk', _⟩ := h'
  exact ⟨A, n, c, (hg.block g hblk.lt (fun e => hne (by injection e))).trans hblk, h2, h3, h4, h5.kept_pair hblk' hg, h6, h7⟩
theorem RR.kept {w w' : World} {g g' : Nat} {s s' : St} (h : RR w g s) (h' : BR w g' s') (hne : g ≠ g') (hg : w.grownBy w' (some g')) : RR w' g s := by
  obtain ⟨A, n, c, l, hblk, h2, h3, h4, h5, h6, h7⟩ := h
  obtain ⟨A', n', c', hblk', _⟩ := h'
  exact ⟨A, n, c, l, (hg.block g hblk.lt (fun e => hne (by injection e))).trans hblk, h2, h3, h4, h5.kept_pair hblk' hg, h6, h7⟩

theorem BR.drewN {w : World} {g : Nat} {s : St} (h : BR w g s) (n : Nat) : BR (w.drewN n) g s := h
theorem RR.drewN {w : World} {g : Nat} {s : St} (h : RR w g s) (n : Nat) : RR (w.drewN n) g s := h

theorem quiet_left {P : Program} {f : FuncId} {args : Array Value} {w : World} {n : Nat} {v : Value}
    (h : Calls P f args (w.drewN n) fun e w' => e = .returned v ∧ w.drewN n = w') : Calls P f args (w.drewN n) fun e w'' => e = .returned v ∧ ∃ m, w'' = w.drewN m :=
  h.mono fun _ _ ⟨he, hm⟩ => ⟨he, n, hm.symm⟩

theorem ints_at {zs : List Int} {k : Nat} (hk : k < zs.length) : (zs.map (Value.int .i64))[k]? = some (.int .i64 zs[k]) := by simp [hk]

theorem rTextsN_count (k : Nat) : ∀ s, (rTextsN k s).1.length ≤ k := by
  induction k with
  | zero => intro s; simp [rTextsN]
  | succ j ih =>
    intro s
    rw [rTextsN]
    cases hr : rText s with
    | mk t s1 =>
      cases s1 with
      | none => simp
      | some l =>
        simp only
        have h := ih (some l)
        cases hq : rTextsN j (some l) with
        | mk ts s2 =>
          rw [hq] at h
          cases s2 with
          | none => simp
          | some l2 => simpa using h
theorem rTexts_count (s : St) : (rTexts s).1.length ≤ left s := by
  rcases rText_count s with ⟨h1, _⟩ | ⟨m, l1, h1, h2, _⟩
  · rw [rTexts_none h1]; simp
  · rw [rTexts_some h1]
    have := rTextsN_count m (some l1)
    omega

theorem BR.drew {w : World} {g : Nat} {s : St} (h : BR w g s) : BR w.drew g s := h
theorem grown_drew {w w' : World} {r : Option Nat} (h : w.drew.grownBy w' r) : w.grownBy w' r := ⟨h.os, h.tape, h.output, h.size, h.block⟩

/-- both readers are in one state; what lies below C is as it was -/
def BrRel (n C : Nat) (w2 : World) (g g' : Nat) (i : Value) (wr : World) : Prop :=
  ∃ (k : Nat) (s : St), k ≤ n ∧ i = .int .i64 k ∧ BR wr g s ∧ RR wr g' s ∧ Below C w2 wr

set_option maxRecDepth 100000 in
set_option maxHeartbeats 6400000 in
theorem bitsReads_walk (A : Option Addr) (n c : Nat) (l : List Int) (A' : Option Addr) (m c' : Nat) (zs : List Int) (w : World)
    (hr : Rd w w.heap.size A n (cells l)) (hwf : ∀ z ∈ l, (Lit.int .u8 z).wf = true) (hlen : l.length = n) (hnc : n ≤ c) (_hcm : c ≤ maxLen)
    (hr' : Rd w w.heap.size A' m (zs.map (Value.int .i64))) (hwf' : ∀ z ∈ zs, (Lit.int .i64 z).wf = true) (hlen' : zs.length = m) (hnc' : m ≤ c') (_hcm' : c' ≤ maxLen) :
    Calls Try.prog 4 #[.slice A n c, .slice A' m c'] w (Yes w) := by
  subst hlen
  subst hlen'
  unfold maxLen at _hcm _hcm'
  have hby := bytes_wf hwf
  have hzb : ∀ z ∈ zs, -9223372036854775808 ≤ z ∧ z ≤ 9223372036854775807 := fun z hz => bounds_i64 (hwf' z hz)
  clear hwf hwf'
  by_cases hn : 2000 < l.length
  · go_enter Try.func4, Try.ntmps4
    go_wp2_with (go_at_call 9; refine (alive_any _).mono ?_; rintro e w1 ⟨rfl, h1⟩)
    go_ret
    exact ⟨rfl, h1⟩
  · by_cases hm : 200 < zs.length
    · go_enter Try.func4, Try.ntmps4
      go_wp2_with (go_at_call 9; refine (alive_any _).mono ?_; rintro e w1 ⟨rfl, h1⟩)
      go_ret
      exact ⟨rfl, h1⟩
    · have HZB := Lib.hid hzb
      clear hzb
      have hcopy : ∀ w c, Rd w w.heap.size A l.length (cells l) → Calls Try.prog 17 #[.slice A l.length c] w (OwnSl w.heap.size l.length l w) := fun w c h => (copyBytes_any A _ c l w h (by omega)).mono fun e w' h => h.sl rfl
      have HCP := Lib.hid hcopy
      clear hcopy
      go_enter Try.func4, Try.ntmps4
      go_wp2_with fail
      refine (alive_any _).mono ?_
      rintro e w1 ⟨rfl, h1⟩
      have r1 := (hr.below h1 (Nat.le_refl _)).more h1.size
      go_wp2_with fail
      refine (HCP.out _ c r1).mono ?_
      rintro e w2 ⟨A2, c2, rfl, _, o2, h2⟩
      have b2 := h1.trans (h2.mono h1.size)
      have z2 := b2.size
      have own2 := Rd.of_own o2
      go_wp2_with fail
      refine (new_any A2 _ c2 l _ own2 hby (by omega)).mono ?_
      rintro e w3 ⟨g, rfl, hbr, h3, hg⟩
      have r3 := (hr.below (b2.trans (h3.mono z2)) (Nat.le_refl _)).more (Nat.le_trans z2 h3.size)
      have z3 := h3.size
      have zg := hbr.lt
      go_wp2_with fail
      refine (HCP.out _ c r3).mono ?_
      rintro e w4 ⟨A4, c4, rfl, hc4, o4, h4⟩
      have z4 := h4.size
      have HRR := Lib.hid (show RR (w4.alloc (.cells #[.slice A4 l.length c4, .bool false] 36)) w4.heap.size (some l) from
        ⟨A4, l.length, c4, l, Blk.new _ _ _, hc4, by obtain ⟨_, _, e, _, hm⟩ := own_shape o4; injection e with _ _ e3; omega, by omega, (Rd.of_own o4).alloc (Nat.le_refl _) _, hby, fun l' h => by injection h⟩)
      have HBR := Lib.hid (show BR (w4.alloc (.cells #[.slice A4 l.length c4, .bool false] 36)) g (some l) from (hbr.below h4 zg).below ((Below.refl w4.heap.size w4).alloc (Nat.le_refl _) _) (by omega))
      have HBL := Lib.hid (show Below w2.heap.size w2 (w4.alloc (.cells #[.slice A4 l.length c4, .bool false] 36)) from (h3.trans (h4.mono z3)).alloc (by omega) _)
      have zgg : g < w4.heap.size := by omega
      clear o2 o4 hbr r1 r3 h3 h4 h2 h1
      have zw2 : w2.heap.size ≤ w4.heap.size := Nat.le_trans z3 z4
      have zw3 : w2.heap.size ≤ g := by omega
      go_wp2
      go_loopw [8] (fun i wr => BrRel zs.length w2.heap.size w2 g w4.heap.size i wr) (fun i _ => zs.length - (intOf i).toNat)
      case atStart => exact ⟨0, some l, by omega, rfl, HBR.out, HRR.out, HBL.out⟩
      case round =>
        clear HBR HRR HBL
        obtain ⟨k, s, hk, rfl, hbr, hrr, hbel⟩ := hrel
        have hbs := hbel.size
        have hball := b2.trans (hbel.mono z2)
        by_cases hlt : k < zs.length
        · obtain ⟨ad, u, rfl, _, hu, hc⟩ := (hr'.below hball (Nat.le_refl _)).at_ hlt
          rw [ints_at hlt] at hu
          obtain rfl := Option.some.inj hu
          clear hu
          have HB := Lib.hid (HZB.out _ (List.getElem_mem hlt))
          have HC := Lib.hid (show ∀ w5, Below w2.heap.size wr w5 → w5.cell? (ad.add k) = some (.int .i64 zs[k]) from fun w5 h => by
            obtain ⟨ad', u, e, _, hu, hc⟩ := (hr'.below (hball.trans (h.mono z2)) (Nat.le_refl _)).at_ hlt
            rw [ints_at hlt] at hu
            obtain rfl := Option.some.inj hu
            obtain rfl := Option.some.inj e
            exact hc)
          have hne : g ≠ w4.heap.size := by omega
          generalize zs[k] = x at hc HB HC
          clear hr hr' own2
          have hx : ∃ q, bits .and .i64 x 3 = q := ⟨_, rfl⟩
          obtain ⟨q, hq⟩ := hx
          by_cases h0 : q = 0
          · subst h0
            go_wp2_with (first
              | (go_at_call 19; refine (rint_any g _ _ hbr).mono ?_; rintro e w5 h5; have b5 := h5.below hbs zw3; obtain ⟨rfl, hbr5, g5⟩ := h5; have hrr5 := hrr.kept hbr (Ne.symm hne) g5)
              | (go_at_call 20; refine (refint_any w4.heap.size _ _ hrr5).mono ?_; rintro e w6 ⟨rfl, hrr6, g6⟩; have hbr6 := hbr5.kept hrr5 hne g6))
            have b6 : Below w2.heap.size w2 w6 := (hbel.trans b5).grown g6 (Nat.le_trans hbs b5.size) fun j hj => by injection hj with hj; omega
            generalize (rInt s).2 = s6 at hbr6 hrr6
            clear hbr5 hrr5 g5 g6 b5 hbr hrr
            have HBR6 := Lib.hid hbr6
            have HRR6 := Lib.hid hrr6
            have HB6 := Lib.hid b6
            obtain ⟨A6, n6, c6, l6, _, d0, d1, _, _, _, _, _, _, _, _, hl6, hn6⟩ := hrr6.open_
            clear hc
            cases s6 with
            | none =>
              clear hl6 hn6 hbr6 hrr6 b6
              have HK1 := Lib.hid (show ∀ k0, Calls Try.prog 28 #[.pointer (some ⟨g, 0, none⟩)] (w6.drewN k0) fun e w' => e = .returned (.bool true) ∧ ∃ m, w' = w6.drewN m from fun k0 => quiet_left (rbad_any g _ _ (HBR6.out.drewN k0)))
              have HK2 := Lib.hid (show ∀ k0, Calls Try.prog 29 #[.pointer (some ⟨g, 0, none⟩)] (w6.drewN k0) fun e w' => e = .returned (.int .i64 0) ∧ ∃ m, w' = w6.drewN m from fun k0 => quiet_left (rleft_any g _ _ (HBR6.out.drewN k0)))
              have HK3 := Lib.hid (show ∀ k0, Calls Try.prog 30 #[.pointer (some ⟨w4.heap.size, 0, none⟩)] (w6.drewN k0) fun e w' => e = .returned (.int .i64 0) ∧ ∃ m, w' = w6.drewN m from fun k0 => quiet_left (refleft_any w4.heap.size _ _ (HRR6.out.drewN k0)))
              have HK4 := Lib.hid (show ∀ k0, Calls Try.prog 31 #[.pointer (some ⟨g, 0, none⟩)] (w6.drewN k0) fun e w' => e = .returned (.bool false) ∧ ∃ m, w' = w6.drewN m from fun k0 => quiet_left (rdone_any g _ _ (HBR6.out.drewN k0)))
              go_quiet (first | (go_at_call 28; exact HK1.out _) | (go_at_call 29; exact HK2.out _) | (go_at_call 30; exact HK3.out _) | (go_at_call 31; exact HK4.out _))
              go_wp2
              go_roundw
              case rel => exact ⟨k + 1, _, by omega, by go_num, HBR6.out.drewN nq, HRR6.out.drewN nq, below_drewN HB6.out nq⟩
              case measure => simp [intOf]; omega
            | some l7 =>
              obtain rfl : l6 = l7 := hl6 l7 rfl
              subst hn6
              clear hl6 hbr6 hrr6 b6
              rcases Nat.eq_zero_or_pos l6.length with hz6 | hz6
              · have hd6 : (!(some l6 : St).isNone && decide (left (some l6) = 0)) = true := by simp [left, hz6]
                have HK1 := Lib.hid (show ∀ k0, Calls Try.prog 28 #[.pointer (some ⟨g, 0, none⟩)] (w6.drewN k0) fun e w' => e = .returned (.bool false) ∧ ∃ m, w' = w6.drewN m from fun k0 => quiet_left (rbad_any g _ _ (HBR6.out.drewN k0)))
                have HK2 := Lib.hid (show ∀ k0, Calls Try.prog 29 #[.pointer (some ⟨g, 0, none⟩)] (w6.drewN k0) fun e w' => e = .returned (.int .i64 (l6.length : Nat)) ∧ ∃ m, w' = w6.drewN m from fun k0 => quiet_left (rleft_any g _ _ (HBR6.out.drewN k0)))
                have HK3 := Lib.hid (show ∀ k0, Calls Try.prog 30 #[.pointer (some ⟨w4.heap.size, 0, none⟩)] (w6.drewN k0) fun e w' => e = .returned (.int .i64 (l6.length : Nat)) ∧ ∃ m, w' = w6.drewN m from fun k0 => quiet_left (refleft_any w4.heap.size _ _ (HRR6.out.drewN k0)))
                have HK4 := Lib.hid (show ∀ k0, Calls Try.prog 31 #[.pointer (some ⟨g, 0, none⟩)] (w6.drewN k0) fun e w' => e = .returned (.bool true) ∧ ∃ m, w' = w6.drewN m from fun k0 => quiet_left (by have h := rdone_any g _ _ (HBR6.out.drewN k0); rw [hd6] at h; exact h))
                have hy6 : ((l6.length : Int) == 0) = true := by rw [hz6]; rfl
                clear hd6
                have HZ6 := Lib.hid hz6
                clear hz6
                go_quiet (first | (go_at_call 28; exact HK1.out _) | (go_at_call 29; exact HK2.out _) | (go_at_call 30; exact HK3.out _) | (go_at_call 31; exact HK4.out _))
                go_wp2
                go_roundw
                case rel => exact ⟨k + 1, _, by omega, by go_num, HBR6.out.drewN nq, HRR6.out.drewN nq, below_drewN HB6.out nq⟩
                case measure => simp [intOf]; omega
              · have hd6 : (!(some l6 : St).isNone && decide (left (some l6) = 0)) = false := by simp [left]; intro h; subst h; simp at hz6
                have HK1 := Lib.hid (show ∀ k0, Calls Try.prog 28 #[.pointer (some ⟨g, 0, none⟩)] (w6.drewN k0) fun e w' => e = .returned (.bool false) ∧ ∃ m, w' = w6.drewN m from fun k0 => quiet_left (rbad_any g _ _ (HBR6.out.drewN k0)))
                have HK2 := Lib.hid (show ∀ k0, Calls Try.prog 29 #[.pointer (some ⟨g, 0, none⟩)] (w6.drewN k0) fun e w' => e = .returned (.int .i64 (l6.length : Nat)) ∧ ∃ m, w' = w6.drewN m from fun k0 => quiet_left (rleft_any g _ _ (HBR6.out.drewN k0)))
                have HK3 := Lib.hid (show ∀ k0, Calls Try.prog 30 #[.pointer (some ⟨w4.heap.size, 0, none⟩)] (w6.drewN k0) fun e w' => e = .returned (.int .i64 (l6.length : Nat)) ∧ ∃ m, w' = w6.drewN m from fun k0 => quiet_left (refleft_any w4.heap.size _ _ (HRR6.out.drewN k0)))
                have HK4 := Lib.hid (show ∀ k0, Calls Try.prog 31 #[.pointer (some ⟨g, 0, none⟩)] (w6.drewN k0) fun e w' => e = .returned (.bool false) ∧ ∃ m, w' = w6.drewN m from fun k0 => quiet_left (by have h := rdone_any g _ _ (HBR6.out.drewN k0); rw [hd6] at h; exact h))
                have hy6 : ((l6.length : Int) == 0) = false := by simpa using (show (l6.length : Int) ≠ 0 by omega)
                clear hd6
                go_quiet (first | (go_at_call 28; exact HK1.out _) | (go_at_call 29; exact HK2.out _) | (go_at_call 30; exact HK3.out _) | (go_at_call 31; exact HK4.out _))
                go_wp2
                go_roundw
                case rel => exact ⟨k + 1, _, by omega, by go_num, HBR6.out.drewN nq, HRR6.out.drewN nq, below_drewN HB6.out nq⟩
                case measure => simp [intOf]; omega
          · by_cases h1 : q = 1
            · subst h1
              go_wp2_with (first
                | (go_at_call 21; refine (rtext_any g _ _ hbr).mono ?_; rintro e w5 h5; have b5 := h5.below hbs zw3; obtain ⟨rfl, hbr5, g5⟩ := h5; have hrr5 := hrr.kept hbr (Ne.symm hne) g5)
                | (go_at_call 22; refine (reftext_any w4.heap.size _ _ hrr5).mono ?_; rintro e w6 ⟨rfl, hrr6, g6⟩; have hbr6 := hbr5.kept hrr5 hne g6))
              have b6 : Below w2.heap.size w2 w6 := (hbel.trans b5).grown g6 (Nat.le_trans hbs b5.size) fun j hj => by injection hj with hj; omega
              generalize (rText s).2 = s6 at hbr6 hrr6
              clear hbr5 hrr5 g5 g6 b5 hbr hrr
              have HBR6 := Lib.hid hbr6
              have HRR6 := Lib.hid hrr6
              have HB6 := Lib.hid b6
              obtain ⟨A6, n6, c6, l6, _, d0, d1, _, _, _, _, _, _, _, _, hl6, hn6⟩ := hrr6.open_
              clear hc
              cases s6 with
              | none =>
                clear hl6 hn6 hbr6 hrr6 b6
                have HK1 := Lib.hid (show ∀ k0, Calls Try.prog 28 #[.pointer (some ⟨g, 0, none⟩)] (w6.drewN k0) fun e w' => e = .returned (.bool true) ∧ ∃ m, w' = w6.drewN m from fun k0 => quiet_left (rbad_any g _ _ (HBR6.out.drewN k0)))
                have HK2 := Lib.hid (show ∀ k0, Calls Try.prog 29 #[.pointer (some ⟨g, 0, none⟩)] (w6.drewN k0) fun e w' => e = .returned (.int .i64 0) ∧ ∃ m, w' = w6.drewN m from fun k0 => quiet_left (rleft_any g _ _ (HBR6.out.drewN k0)))
                have HK3 := Lib.hid (show ∀ k0, Calls Try.prog 30 #[.pointer (some ⟨w4.heap.size, 0, none⟩)] (w6.drewN k0) fun e w' => e = .returned (.int .i64 0) ∧ ∃ m, w' = w6.drewN m from fun k0 => quiet_left (refleft_any w4.heap.size _ _ (HRR6.out.drewN k0)))
                have HK4 := Lib.hid (show ∀ k0, Calls Try.prog 31 #[.pointer (some ⟨g, 0, none⟩)] (w6.drewN k0) fun e w' => e = .returned (.bool false) ∧ ∃ m, w' = w6.drewN m from fun k0 => quiet_left (rdone_any g _ _ (HBR6.out.drewN k0)))
                go_quiet (first | (go_at_call 28; exact HK1.out _) | (go_at_call 29; exact HK2.out _) | (go_at_call 30; exact HK3.out _) | (go_at_call 31; exact HK4.out _))
                go_wp2
                go_roundw
                case rel => exact ⟨k + 1, _, by omega, by go_num, HBR6.out.drewN nq, HRR6.out.drewN nq, below_drewN HB6.out nq⟩
                case measure => simp [intOf]; omega
              | some l7 =>
                obtain rfl : l6 = l7 := hl6 l7 rfl
                subst hn6
                clear hl6 hbr6 hrr6 b6
                rcases Nat.eq_zero_or_pos l6.length with hz6 | hz6
                · have hd6 : (!(some l6 : St).isNone && decide (left (some l6) = 0)) = true := by simp [left, hz6]
                  have HK1 := Lib.hid (show ∀ k0, Calls Try.prog 28 #[.pointer (some ⟨g, 0, none⟩)] (w6.drewN k0) fun e w' => e = .returned (.bool false) ∧ ∃ m, w' = w6.drewN m from fun k0 => quiet_left (rbad_any g _ _ (HBR6.out.drewN k0)))
                  have HK2 := Lib.hid (show ∀ k0, Calls Try.prog 29 #[.pointer (some ⟨g, 0, none⟩)] (w6.drewN k0) fun e w' => e = .returned (.int .i64 (l6.length : Nat)) ∧ ∃ m, w' = w6.drewN m from fun k0 => quiet_left (rleft_any g _ _ (HBR6.out.drewN k0)))
                  have HK3 := Lib.hid (show ∀ k0, Calls Try.prog 30 #[.pointer (some ⟨w4.heap.size, 0, none⟩)] (w6.drewN k0) fun e w' => e = .returned (.int .i64 (l6.length : Nat)) ∧ ∃ m, w' = w6.drewN m from fun k0 => quiet_left (refleft_any w4.heap.size _ _ (HRR6.out.drewN k0)))
                  have HK4 := Lib.hid (show ∀ k0, Calls Try.prog 31 #[.pointer (some ⟨g, 0, none⟩)] (w6.drewN k0) fun e w' => e = .returned (.bool true) ∧ ∃ m, w' = w6.drewN m from fun k0 => quiet_left (by have h := rdone_any g _ _ (HBR6.out.drewN k0); rw [hd6] at h; exact h))
                  have hy6 : ((l6.length : Int) == 0) = true := by rw [hz6]; rfl
                  clear hd6
                  have HZ6 := Lib.hid hz6
                  clear hz6
                  go_quiet (first | (go_at_call 28; exact HK1.out _) | (go_at_call 29; exact HK2.out _) | (go_at_call 30; exact HK3.out _) | (go_at_call 31; exact HK4.out _))
                  go_wp2
                  go_roundw
                  case rel => exact ⟨k + 1, _, by omega, by go_num, HBR6.out.drewN nq, HRR6.out.drewN nq, below_drewN HB6.out nq⟩
                  case measure => simp [intOf]; omega
                · have hd6 : (!(some l6 : St).isNone && decide (left (some l6) = 0)) = false := by simp [left]; intro h; subst h; simp at hz6
                  have HK1 := Lib.hid (show ∀ k0, Calls Try.prog 28 #[.pointer (some ⟨g, 0, none⟩)] (w6.drewN k0) fun e w' => e = .returned (.bool false) ∧ ∃ m, w' = w6.drewN m from fun k0 => quiet_left (rbad_any g _ _ (HBR6.out.drewN k0)))
                  have HK2 := Lib.hid (show ∀ k0, Calls Try.prog 29 #[.pointer (some ⟨g, 0, none⟩)] (w6.drewN k0) fun e w' => e = .returned (.int .i64 (l6.length : Nat)) ∧ ∃ m, w' = w6.drewN m from fun k0 => quiet_left (rleft_any g _ _ (HBR6.out.drewN k0)))
                  have HK3 := Lib.hid (show ∀ k0, Calls Try.prog 30 #[.pointer (some ⟨w4.heap.size, 0, none⟩)] (w6.drewN k0) fun e w' => e = .returned (.int .i64 (l6.length : Nat)) ∧ ∃ m, w' = w6.drewN m from fun k0 => quiet_left (refleft_any w4.heap.size _ _ (HRR6.out.drewN k0)))
                  have HK4 := Lib.hid (show ∀ k0, Calls Try.prog 31 #[.pointer (some ⟨g, 0, none⟩)] (w6.drewN k0) fun e w' => e = .returned (.bool false) ∧ ∃ m, w' = w6.drewN m from fun k0 => quiet_left (by have h := rdone_any g _ _ (HBR6.out.drewN k0); rw [hd6] at h; exact h))
                  have hy6 : ((l6.length : Int) == 0) = false := by simpa using (show (l6.length : Int) ≠ 0 by omega)
                  clear hd6
                  go_quiet (first | (go_at_call 28; exact HK1.out _) | (go_at_call 29; exact HK2.out _) | (go_at_call 30; exact HK3.out _) | (go_at_call 31; exact HK4.out _))
                  go_wp2
                  go_roundw
                  case rel => exact ⟨k + 1, _, by omega, by go_num, HBR6.out.drewN nq, HRR6.out.drewN nq, below_drewN HB6.out nq⟩
                  case measure => simp [intOf]; omega
            · by_cases h2 : q = 2
              · subst h2
                go_wp2
                go_region_held3 (fun w' => w'.cell? (ad.add k) = some (.int .i64 x)) (first | exact hc | exact hc5 | exact hc6 | go_keep) (first
                  | (go_at_call 23; refine (rcount_any g _ _ _ (BR.drew hbr)).mono ?_; rintro e w5 ⟨rfl, hbr5, g5'⟩; have g5 := grown_drew g5'; have b5 : Below w2.heap.size wr w5 := ((Below.refl _ _).grown g5 hbs fun j hj => by injection hj with hj; omega); have hrr5 := hrr.kept hbr (Ne.symm hne) g5; have hc5 := HC.out w5 b5)
                  | (go_at_call 24; refine (refcount_any w4.heap.size _ _ _ hrr5).mono ?_; rintro e w6 ⟨rfl, hrr6, g6⟩; have hbr6 := hbr5.kept hrr5 hne g6; have b6' : Below w2.heap.size wr w6 := (b5.grown g6 (Nat.le_trans hbs b5.size) fun j hj => by injection hj with hj; omega); have hc6 := HC.out w6 b6'))
                all_goals
                  have b6 : Below w2.heap.size w2 w6 := hbel.trans b6'
                  generalize (rCount s _).2 = s6 at hbr6 hrr6
                  clear hbr5 hrr5 g5 g5' g6 b5 hbr hrr hc5 hc6 b6'
                  go_wp2
                  have HBR6 := Lib.hid hbr6
                  have HRR6 := Lib.hid hrr6
                  have HB6 := Lib.hid b6
                  obtain ⟨A6, n6, c6, l6, _, d0, d1, _, _, _, _, _, _, _, _, hl6, hn6⟩ := hrr6.open_
                  clear hc
                  cases s6 with
                  | none =>
                    clear hl6 hn6 hbr6 hrr6 b6
                    have HK1 := Lib.hid (show ∀ k0, Calls Try.prog 28 #[.pointer (some ⟨g, 0, none⟩)] (w6.drewN k0) fun e w' => e = .returned (.bool true) ∧ ∃ m, w' = w6.drewN m from fun k0 => quiet_left (rbad_any g _ _ (HBR6.out.drewN k0)))
                    have HK2 := Lib.hid (show ∀ k0, Calls Try.prog 29 #[.pointer (some ⟨g, 0, none⟩)] (w6.drewN k0) fun e w' => e = .returned (.int .i64 0) ∧ ∃ m, w' = w6.drewN m from fun k0 => quiet_left (rleft_any g _ _ (HBR6.out.drewN k0)))
                    have HK3 := Lib.hid (show ∀ k0, Calls Try.prog 30 #[.pointer (some ⟨w4.heap.size, 0, none⟩)] (w6.drewN k0) fun e w' => e = .returned (.int .i64 0) ∧ ∃ m, w' = w6.drewN m from fun k0 => quiet_left (refleft_any w4.heap.size _ _ (HRR6.out.drewN k0)))
                    have HK4 := Lib.hid (show ∀ k0, Calls Try.prog 31 #[.pointer (some ⟨g, 0, none⟩)] (w6.drewN k0) fun e w' => e = .returned (.bool false) ∧ ∃ m, w' = w6.drewN m from fun k0 => quiet_left (rdone_any g _ _ (HBR6.out.drewN k0)))
                    go_quiet (first | (go_at_call 28; exact HK1.out _) | (go_at_call 29; exact HK2.out _) | (go_at_call 30; exact HK3.out _) | (go_at_call 31; exact HK4.out _))
                    go_wp2
                    go_roundw
                    case rel => exact ⟨k + 1, _, by omega, by go_num, HBR6.out.drewN nq, HRR6.out.drewN nq, below_drewN HB6.out nq⟩
                    case measure => simp [intOf]; omega
                  | some l7 =>
                    obtain rfl : l6 = l7 := hl6 l7 rfl
                    subst hn6
                    clear hl6 hbr6 hrr6 b6
                    rcases Nat.eq_zero_or_pos l6.length with hz6 | hz6
                    · have hd6 : (!(some l6 : St).isNone && decide (left (some l6) = 0)) = true := by simp [left, hz6]
                      have HK1 := Lib.hid (show ∀ k0, Calls Try.prog 28 #[.pointer (some ⟨g, 0, none⟩)] (w6.drewN k0) fun e w' => e = .returned (.bool false) ∧ ∃ m, w' = w6.drewN m from fun k0 => quiet_left (rbad_any g _ _ (HBR6.out.drewN k0)))
                      have HK2 := Lib.hid (show ∀ k0, Calls Try.prog 29 #[.pointer (some ⟨g, 0, none⟩)] (w6.drewN k0) fun e w' => e = .returned (.int .i64 (l6.length : Nat)) ∧ ∃ m, w' = w6.drewN m from fun k0 => quiet_left (rleft_any g _ _ (HBR6.out.drewN k0)))
                      have HK3 := Lib.hid (show ∀ k0, Calls Try.prog 30 #[.pointer (some ⟨w4.heap.size, 0, none⟩)] (w6.drewN k0) fun e w' => e = .returned (.int .i64 (l6.length : Nat)) ∧ ∃ m, w' = w6.drewN m from fun k0 => quiet_left (refleft_any w4.heap.size _ _ (HRR6.out.drewN k0)))
                      have HK4 := Lib.hid (show ∀ k0, Calls Try.prog 31 #[.pointer (some ⟨g, 0, none⟩)] (w6.drewN k0) fun e w' => e = .returned (.bool true) ∧ ∃ m, w' = w6.drewN m from fun k0 => quiet_left (by have h := rdone_any g _ _ (HBR6.out.drewN k0); rw [hd6] at h; exact h))
                      have hy6 : ((l6.length : Int) == 0) = true := by rw [hz6]; rfl
                      clear hd6
                      have HZ6 := Lib.hid hz6
                      clear hz6
                      go_quiet (first | (go_at_call 28; exact HK1.out _) | (go_at_call 29; exact HK2.out _) | (go_at_call 30; exact HK3.out _) | (go_at_call 31; exact HK4.out _))
                      go_wp2
                      go_roundw
                      case rel => exact ⟨k + 1, _, by omega, by go_num, HBR6.out.drewN nq, HRR6.out.drewN nq, below_drewN HB6.out nq⟩
                      case measure => simp [intOf]; omega
                    · have hd6 : (!(some l6 : St).isNone && decide (left (some l6) = 0)) = false := by simp [left]; intro h; subst h; simp at hz6
                      have HK1 := Lib.hid (show ∀ k0, Calls Try.prog 28 #[.pointer (some ⟨g, 0, none⟩)] (w6.drewN k0) fun e w' => e = .returned (.bool false) ∧ ∃ m, w' = w6.drewN m from fun k0 => quiet_left (rbad_any g _ _ (HBR6.out.drewN k0)))
                      have HK2 := Lib.hid (show ∀ k0, Calls Try.prog 29 #[.pointer (some ⟨g, 0, none⟩)] (w6.drewN k0) fun e w' => e = .returned (.int .i64 (l6.length : Nat)) ∧ ∃ m, w' = w6.drewN m from fun k0 => quiet_left (rleft_any g _ _ (HBR6.out.drewN k0)))
                      have HK3 := Lib.hid (show ∀ k0, Calls Try.prog 30 #[.pointer (some ⟨w4.heap.size, 0, none⟩)] (w6.drewN k0) fun e w' => e = .returned (.int .i64 (l6.length : Nat)) ∧ ∃ m, w' = w6.drewN m from fun k0 => quiet_left (refleft_any w4.heap.size _ _ (HRR6.out.drewN k0)))
                      have HK4 := Lib.hid (show ∀ k0, Calls Try.prog 31 #[.pointer (some ⟨g, 0, none⟩)] (w6.drewN k0) fun e w' => e = .returned (.bool false) ∧ ∃ m, w' = w6.drewN m from fun k0 => quiet_left (by have h := rdone_any g _ _ (HBR6.out.drewN k0); rw [hd6] at h; exact h))
                      have hy6 : ((l6.length : Int) == 0) = false := by simpa using (show (l6.length : Int) ≠ 0 by omega)
                      clear hd6
                      go_quiet (first | (go_at_call 28; exact HK1.out _) | (go_at_call 29; exact HK2.out _) | (go_at_call 30; exact HK3.out _) | (go_at_call 31; exact HK4.out _))
                      go_wp2
                      go_roundw
                      case rel => exact ⟨k + 1, _, by omega, by go_num, HBR6.out.drewN nq, HRR6.out.drewN nq, below_drewN HB6.out nq⟩
                      case measure => simp [intOf]; omega
              · by_cases h3 : q = 3
                · subst h3
                  have hbnd : (rTexts s).1.length ≤ 140000000000000 := by
                    have h1 := rTexts_count s
                    obtain ⟨_, n0, _, _, _, _, hn0, hr0, _⟩ := hbr
                    have h2 := hr0.len
                    rw [cells_len] at h2
                    unfold left at h1
                    omega
                  have HBN := Lib.hid hbnd
                  clear hbnd
                  go_wp2_with fail
                  refine (rtexts_any g _ _ hbr).mono ?_
                  rintro e w5 ⟨v5, rfl, o5, hbr5, g5⟩
                  obtain ⟨A5, c5, rfl, _, _⟩ := own_shape o5
                  have b5 : Below w2.heap.size wr w5 := (Below.refl _ _).grown g5 hbs fun j hj => by injection hj with hj; omega
                  have hrr5 := hrr.kept hbr (Ne.symm hne) g5
                  go_wp2_with fail
                  refine (reftexts_any w4.heap.size _ _ hrr5).mono ?_
                  rintro e w8 ⟨v8, rfl, o8, hrr8, g8⟩
                  obtain ⟨A8, c8, rfl, _, _⟩ := own_shape o8
                  have hbr8 := hbr5.kept hrr5 hne g8
                  have b8 : Below w2.heap.size wr w8 := b5.grown g8 (Nat.le_trans hbs b5.size) fun j hj => by injection hj with hj; omega
                  have o5' := o5.kept g8 (own_ne o5 hrr.lt)
                  go_wp2_with fail
                  refine (sameTexts_below _ _ _ _ _ _ _ _ _ (Rd.of_own o5') (Rd.of_own o8) HBN.out).mono ?_
                  rintro e w6 ⟨rfl, g6⟩
                  have hbr6 := hbr8.below g6 hbr8.lt
                  have hrr6 := hrr8.below g6 hrr8.lt
                  have b6 : Below w2.heap.size w2 w6 := (hbel.trans b8).trans (g6.mono (Nat.le_trans hbs b8.size))
                  generalize hs6 : (rTexts s).2 = s6 at hbr6 hrr6
                  clear hbr5 hrr5 g5 g6 b5 hbr hrr o5 o5' o8 hrr8 g8 hbr8 b8 hs6
                  go_wp2
                  have HBR6 := Lib.hid hbr6
                  have HRR6 := Lib.hid hrr6
                  have HB6 := Lib.hid b6
                  obtain ⟨A6, n6, c6, l6, _, d0, d1, _, _, _, _, _, _, _, _, hl6, hn6⟩ := hrr6.open_
                  clear hc
                  cases s6 with
                  | none =>
                    clear hl6 hn6 hbr6 hrr6 b6
                    have HK1 := Lib.hid (show ∀ k0, Calls Try.prog 28 #[.pointer (some ⟨g, 0, none⟩)] (w6.drewN k0) fun e w' => e = .returned (.bool true) ∧ ∃ m, w' = w6.drewN m from fun k0 => quiet_left (rbad_any g _ _ (HBR6.out.drewN k0)))
                    have HK2 := Lib.hid (show ∀ k0, Calls Try.prog 29 #[.pointer (some ⟨g, 0, none⟩)] (w6.drewN k0) fun e w' => e = .returned (.int .i64 0) ∧ ∃ m, w' = w6.drewN m from fun k0 => quiet_left (rleft_any g _ _ (HBR6.out.drewN k0)))
                    have HK3 := Lib.hid (show ∀ k0, Calls Try.prog 30 #[.pointer (some ⟨w4.heap.size, 0, none⟩)] (w6.drewN k0) fun e w' => e = .returned (.int .i64 0) ∧ ∃ m, w' = w6.drewN m from fun k0 => quiet_left (refleft_any w4.heap.size _ _ (HRR6.out.drewN k0)))
                    have HK4 := Lib.hid (show ∀ k0, Calls Try.prog 31 #[.pointer (some ⟨g, 0, none⟩)] (w6.drewN k0) fun e w' => e = .returned (.bool false) ∧ ∃ m, w' = w6.drewN m from fun k0 => quiet_left (rdone_any g _ _ (HBR6.out.drewN k0)))
                    go_quiet (first | (go_at_call 28; exact HK1.out _) | (go_at_call 29; exact HK2.out _) | (go_at_call 30; exact HK3.out _) | (go_at_call 31; exact HK4.out _))
                    go_wp2
                    go_roundw
                    case rel => exact ⟨k + 1, _, by omega, by go_num, HBR6.out.drewN nq, HRR6.out.drewN nq, below_drewN HB6.out nq⟩
                    case measure => simp [intOf]; omega
                  | some l7 =>
                    obtain rfl : l6 = l7 := hl6 l7 rfl
                    subst hn6
                    clear hl6 hbr6 hrr6 b6
                    rcases Nat.eq_zero_or_pos l6.length with hz6 | hz6
                    · have hd6 : (!(some l6 : St).isNone && decide (left (some l6) = 0)) = true := by simp [left, hz6]
                      have HK1 := Lib.hid (show ∀ k0, Calls Try.prog 28 #[.pointer (some ⟨g, 0, none⟩)] (w6.drewN k0) fun e w' => e = .returned (.bool false) ∧ ∃ m, w' = w6.drewN m from fun k0 => quiet_left (rbad_any g _ _ (HBR6.out.drewN k0)))
                      have HK2 := Lib.hid (show ∀ k0, Calls Try.prog 29 #[.pointer (some ⟨g, 0, none⟩)] (w6.drewN k0) fun e w' => e = .returned (.int .i64 (l6.length : Nat)) ∧ ∃ m, w' = w6.drewN m from fun k0 => quiet_left (rleft_any g _ _ (HBR6.out.drewN k0)))
                      have HK3 := Lib.hid (show ∀ k0, Calls Try.prog 30 #[.pointer (some ⟨w4.heap.size, 0, none⟩)] (w6.drewN k0) fun e w' => e = .returned (.int .i64 (l6.length : Nat)) ∧ ∃ m, w' = w6.drewN m from fun k0 => quiet_left (refleft_any w4.heap.size _ _ (HRR6.out.drewN k0)))
                      have HK4 := Lib.hid (show ∀ k0, Calls Try.prog 31 #[.pointer (some ⟨g, 0, none⟩)] (w6.drewN k0) fun e w' => e = .returned (.bool true) ∧ ∃ m, w' = w6.drewN m from fun k0 => quiet_left (by have h := rdone_any g _ _ (HBR6.out.drewN k0); rw [hd6] at h; exact h))
                      have hy6 : ((l6.length : Int) == 0) = true := by rw [hz6]; rfl
                      clear hd6
                      have HZ6 := Lib.hid hz6
                      clear hz6
                      go_quiet (first | (go_at_call 28; exact HK1.out _) | (go_at_call 29; exact HK2.out _) | (go_at_call 30; exact HK3.out _) | (go_at_call 31; exact HK4.out _))
                      go_wp2
                      go_roundw
                      case rel => exact ⟨k + 1, _, by omega, by go_num, HBR6.out.drewN nq, HRR6.out.drewN nq, below_drewN HB6.out nq⟩
                      case measure => simp [intOf]; omega
                    · have hd6 : (!(some l6 : St).isNone && decide (left (some l6) = 0)) = false := by simp [left]; intro h; subst h; simp at hz6
                      have HK1 := Lib.hid (show ∀ k0, Calls Try.prog 28 #[.pointer (some ⟨g, 0, none⟩)] (w6.drewN k0) fun e w' => e = .returned (.bool false) ∧ ∃ m, w' = w6.drewN m from fun k0 => quiet_left (rbad_any g _ _ (HBR6.out.drewN k0)))
                      have HK2 := Lib.hid (show ∀ k0, Calls Try.prog 29 #[.pointer (some ⟨g, 0, none⟩)] (w6.drewN k0) fun e w' => e = .returned (.int .i64 (l6.length : Nat)) ∧ ∃ m, w' = w6.drewN m from fun k0 => quiet_left (rleft_any g _ _ (HBR6.out.drewN k0)))
                      have HK3 := Lib.hid (show ∀ k0, Calls Try.prog 30 #[.pointer (some ⟨w4.heap.size, 0, none⟩)] (w6.drewN k0) fun e w' => e = .returned (.int .i64 (l6.length : Nat)) ∧ ∃ m, w' = w6.drewN m from fun k0 => quiet_left (refleft_any w4.heap.size _ _ (HRR6.out.drewN k0)))
                      have HK4 := Lib.hid (show ∀ k0, Calls Try.prog 31 #[.pointer (some ⟨g, 0, none⟩)] (w6.drewN k0) fun e w' => e = .returned (.bool false) ∧ ∃ m, w' = w6.drewN m from fun k0 => quiet_left (by have h := rdone_any g _ _ (HBR6.out.drewN k0); rw [hd6] at h; exact h))
                      have hy6 : ((l6.length : Int) == 0) = false := by simpa using (show (l6.length : Int) ≠ 0 by omega)
                      clear hd6
                      go_quiet (first | (go_at_call 28; exact HK1.out _) | (go_at_call 29; exact HK2.out _) | (go_at_call 30; exact HK3.out _) | (go_at_call 31; exact HK4.out _))
                      go_wp2
                      go_roundw
                      case rel => exact ⟨k + 1, _, by omega, by go_num, HBR6.out.drewN nq, HRR6.out.drewN nq, below_drewN HB6.out nq⟩
                      case measure => simp [intOf]; omega
                · have e0 : (q == 0) = false := by simpa using h0
                  have e1 : (q == 1) = false := by simpa using h1
                  have e2 : (q == 2) = false := by simpa using h2
                  have e3 : (q == 3) = false := by simpa using h3
                  have hbr6 := hbr
                  have hrr6 := hrr
                  have b6 := hbel
                  have HDUM := Lib.hid (rfl : wr = wr)
                  obtain ⟨w6, hw6⟩ : ∃ w6, wr = w6 := ⟨_, rfl⟩
                  subst hw6
                  generalize s = s6 at hbr6 hrr6
                  clear hbr hrr
                  go_wp2
                  have HBR6 := Lib.hid hbr6
                  have HRR6 := Lib.hid hrr6
                  have HB6 := Lib.hid b6
                  obtain ⟨A6, n6, c6, l6, _, d0, d1, _, _, _, _, _, _, _, _, hl6, hn6⟩ := hrr6.open_
                  clear hc
                  cases s6 with
                  | none =>
                    clear hl6 hn6 hbr6 hrr6 b6
                    have HK1 := Lib.hid (show ∀ k0, Calls Try.prog 28 #[.pointer (some ⟨g, 0, none⟩)] (wr.drewN k0) fun e w' => e = .returned (.bool true) ∧ ∃ m, w' = wr.drewN m from fun k0 => quiet_left (rbad_any g _ _ (HBR6.out.drewN k0)))
                    have HK2 := Lib.hid (show ∀ k0, Calls Try.prog 29 #[.pointer (some ⟨g, 0, none⟩)] (wr.drewN k0) fun e w' => e = .returned (.int .i64 0) ∧ ∃ m, w' = wr.drewN m from fun k0 => quiet_left (rleft_any g _ _ (HBR6.out.drewN k0)))
                    have HK3 := Lib.hid (show ∀ k0, Calls Try.prog 30 #[.pointer (some ⟨w4.heap.size, 0, none⟩)] (wr.drewN k0) fun e w' => e = .returned (.int .i64 0) ∧ ∃ m, w' = wr.drewN m from fun k0 => quiet_left (refleft_any w4.heap.size _ _ (HRR6.out.drewN k0)))
                    have HK4 := Lib.hid (show ∀ k0, Calls Try.prog 31 #[.pointer (some ⟨g, 0, none⟩)] (wr.drewN k0) fun e w' => e = .returned (.bool false) ∧ ∃ m, w' = wr.drewN m from fun k0 => quiet_left (rdone_any g _ _ (HBR6.out.drewN k0)))
                    go_quiet (first | (go_at_call 28; exact HK1.out _) | (go_at_call 29; exact HK2.out _) | (go_at_call 30; exact HK3.out _) | (go_at_call 31; exact HK4.out _))
                    go_wp2
                    go_roundw
                    case rel => exact ⟨k + 1, _, by omega, by go_num, HBR6.out.drewN nq, HRR6.out.drewN nq, below_drewN HB6.out nq⟩
                    case measure => simp [intOf]; omega
                  | some l7 =>
                    obtain rfl : l6 = l7 := hl6 l7 rfl
                    subst hn6
                    clear hl6 hbr6 hrr6 b6
                    rcases Nat.eq_zero_or_pos l6.length with hz6 | hz6
                    · have hd6 : (!(some l6 : St).isNone && decide (left (some l6) = 0)) = true := by simp [left, hz6]
                      have HK1 := Lib.hid (show ∀ k0, Calls Try.prog 28 #[.pointer (some ⟨g, 0, none⟩)] (wr.drewN k0) fun e w' => e = .returned (.bool false) ∧ ∃ m, w' = wr.drewN m from fun k0 => quiet_left (rbad_any g _ _ (HBR6.out.drewN k0)))
                      have HK2 := Lib.hid (show ∀ k0, Calls Try.prog 29 #[.pointer (some ⟨g, 0, none⟩)] (wr.drewN k0) fun e w' => e = .returned (.int .i64 (l6.length : Nat)) ∧ ∃ m, w' = wr.drewN m from fun k0 => quiet_left (rleft_any g _ _ (HBR6.out.drewN k0)))
                      have HK3 := Lib.hid (show ∀ k0, Calls Try.prog 30 #[.pointer (some ⟨w4.heap.size, 0, none⟩)] (wr.drewN k0) fun e w' => e = .returned (.int .i64 (l6.length : Nat)) ∧ ∃ m, w' = wr.drewN m from fun k0 => quiet_left (refleft_any w4.heap.size _ _ (HRR6.out.drewN k0)))
                      have HK4 := Lib.hid (show ∀ k0, Calls Try.prog 31 #[.pointer (some ⟨g, 0, none⟩)] (wr.drewN k0) fun e w' => e = .returned (.bool true) ∧ ∃ m, w' = wr.drewN m from fun k0 => quiet_left (by have h := rdone_any g _ _ (HBR6.out.drewN k0); rw [hd6] at h; exact h))
                      have hy6 : ((l6.length : Int) == 0) = true := by rw [hz6]; rfl
                      clear hd6
                      have HZ6 := Lib.hid hz6
                      clear hz6
                      go_quiet (first | (go_at_call 28; exact HK1.out _) | (go_at_call 29; exact HK2.out _) | (go_at_call 30; exact HK3.out _) | (go_at_call 31; exact HK4.out _))
                      go_wp2
                      go_roundw
                      case rel => exact ⟨k + 1, _, by omega, by go_num, HBR6.out.drewN nq, HRR6.out.drewN nq, below_drewN HB6.out nq⟩
                      case measure => simp [intOf]; omega
                    · have hd6 : (!(some l6 : St).isNone && decide (left (some l6) = 0)) = false := by simp [left]; intro h; subst h; simp at hz6
                      have HK1 := Lib.hid (show ∀ k0, Calls Try.prog 28 #[.pointer (some ⟨g, 0, none⟩)] (wr.drewN k0) fun e w' => e = .returned (.bool false) ∧ ∃ m, w' = wr.drewN m from fun k0 => quiet_left (rbad_any g _ _ (HBR6.out.drewN k0)))
                      have HK2 := Lib.hid (show ∀ k0, Calls Try.prog 29 #[.pointer (some ⟨g, 0, none⟩)] (wr.drewN k0) fun e w' => e = .returned (.int .i64 (l6.length : Nat)) ∧ ∃ m, w' = wr.drewN m from fun k0 => quiet_left (rleft_any g _ _ (HBR6.out.drewN k0)))
                      have HK3 := Lib.hid (show ∀ k0, Calls Try.prog 30 #[.pointer (some ⟨w4.heap.size, 0, none⟩)] (wr.drewN k0) fun e w' => e = .returned (.int .i64 (l6.length : Nat)) ∧ ∃ m, w' = wr.drewN m from fun k0 => quiet_left (refleft_any w4.heap.size _ _ (HRR6.out.drewN k0)))
                      have HK4 := Lib.hid (show ∀ k0, Calls Try.prog 31 #[.pointer (some ⟨g, 0, none⟩)] (wr.drewN k0) fun e w' => e = .returned (.bool false) ∧ ∃ m, w' = wr.drewN m from fun k0 => quiet_left (by have h := rdone_any g _ _ (HBR6.out.drewN k0); rw [hd6] at h; exact h))
                      have hy6 : ((l6.length : Int) == 0) = false := by simpa using (show (l6.length : Int) ≠ 0 by omega)
                      clear hd6
                      go_quiet (first | (go_at_call 28; exact HK1.out _) | (go_at_call 29; exact HK2.out _) | (go_at_call 30; exact HK3.out _) | (go_at_call 31; exact HK4.out _))
                      go_wp2
                      go_roundw
                      case rel => exact ⟨k + 1, _, by omega, by go_num, HBR6.out.drewN nq, HRR6.out.drewN nq, below_drewN HB6.out nq⟩
                      case measure => simp [intOf]; omega
        · have hkn : k = zs.length := by omega
          have ho2 := (own2.below hbel (Nat.le_refl _))
          have hrw := (hr.below hball (Nat.le_refl _))
          have HKN := Lib.hid hkn
          clear hr hr' own2 hbr hrr hkn
          go_wp2_with fail
          refine (sameBytes_below _ _ _ _ _ l _ _ _ ho2 hrw (by omega)).mono ?_
          rintro e w6 ⟨rfl, g6⟩
          go_wp2
          go_ret
          exact ⟨rfl, hball.trans (g6.mono (Nat.le_trans z2 hbs))⟩

section
open Go.ChangeShapes Go.WideShapes Go.ChangeAt
open Go.ChangeMaps (open_string shut_string)
set_option linter.unusedVariables false
set_option maxRecDepth 100000 in
theorem bitsReads_lifted (os : Os) (started : os.Started) (H : Type) (enc : TypeId × Value → H) :
    ReturnsInHanded {} Try.checked os 4 .any (Rows.bitsReadsSpec.pre6 enc Try.prog Try.f4 Rows.bitsReadsRow.domain false) (Rows.bitsReadsSpec.post enc Try.prog Try.f4 false true false false) := by
  refine returnsInHanded_of_change (C := Try.checked) own started (by kernel_rfl) Try.func4
    (ChangeSpec.witness6 (enc := enc) (C := Try.checked) false ⟨#[], #[.slice none 0 0, .slice none 0 0], []⟩ 8 (by kernel_rfl) (by kernel_rfl) (by kernel_rfl) (by kernel_rfl)) ?_
  intro W base args ds gs before hval0 hW hcnd _
  have hval : ∀ (j : Nat) t v, Try.f4.params[j]? = some t → args[j]? = some v → Value.okWide Try.prog W .any base t v := hval0
  have hW' := hW
  obtain ⟨p, q, hA0, hV, rfl, hfz, hnd⟩ := hW
  have hA : DataW.TrodAll enc Try.prog W 0 (fun _ => true) true Try.f4.params.toList args.toList ds p := hA0
  rw [Try.params4] at hA hval
  obtain ⟨v0, vs0, d0, ds0, p0, q0, hargs, rfl, rfl, h0, r0⟩ := trodAll_cons hA
  obtain ⟨v1, vs1, d1, ds1, p1, q1, rfl, rfl, rfl, h1, r1⟩ := trodAll_cons r0
  obtain ⟨rfl, rfl, rfl⟩ := trodAll_nil r1
  obtain rfl : args = #[v0, v1] := by cases args; simp_all
  obtain ⟨rfl, rfl⟩ := trodVars_none hV
  have k0 := h0
  have lt0 : ∀ x ∈ p0, x.block < W.heap.size := by obtain ⟨m, hm⟩ := k0; exact DataW.trod_lt m _ _ _ hm
  have k1 := h1
  have lt1 : ∀ x ∈ p1, x.block < W.heap.size := by obtain ⟨m, hm⟩ := k1; exact DataW.trod_lt m _ _ _ hm
  obtain ⟨a0, len0, cap0, rfl⟩ := okWide_slice Try.underlying25 (hval 0 25 v0 rfl rfl)
  obtain ⟨z0, r0x, w0, e0, l0, m0⟩ := rd_of_ints Try.underlying25 Try.underlying5 (by kernel_rfl) h0
  obtain ⟨a1, len1, cap1, rfl⟩ := okWide_slice Try.underlying30 (hval 1 30 v1 rfl rfl)
  obtain ⟨z1, r1x, w1, e1, l1, m1⟩ := rd_of_ints Try.underlying30 Try.underlying3 (by kernel_rfl) h1
  clear hA0 hval0
  refine (bitsReads_walk a0 len0 cap0 z0 a1 len1 cap1 z1 W r0x w0 e0 l0 m0 r1x w1 e1 l1 m1).mono fun e W' ⟨he, bel⟩ => ?_
  subst he
  exact ⟨_, rfl, _, _, _, [], _, [], hW', trodAll_mk1 (shut_bool Try.underlying4 _), (trodAll_cons_mk (Below.trod laidOut (by kernel_rfl) (of_decide_eq_true (by kernel_rfl)) k0 bel lt0) (trodAll_cons_mk (Below.trod laidOut (by kernel_rfl) (of_decide_eq_true (by kernel_rfl)) k1 bel lt1) trodAll_mk0)), rfl, bel.frame _, fun h => by cases h⟩

theorem bitsReads_over : Rows.bitsReadsRow.holds Try.pinned (OpenSpec.ofChange Rows.bitsReadsSpec) :=
  OpenClaim.holds_of_wide 4 Try.f4 rfl rfl rfl rfl rfl rfl rfl ⟨rfl, rfl, rfl, rfl, rfl⟩ rfl rfl rfl rfl rfl (by kernel_rfl) Try.func4 (by kernel_rfl)
    (of_decide_eq_true (by kernel_rfl)) (by unfold Func.isWrapper; first | (rw [if_pos (by decide +kernel)]; kernel_rfl) | (rw [if_neg (by decide +kernel)]; exact ⟨rfl, rfl⟩))
    (fun os started H enc _ => bitsReads_lifted os started H enc)

theorem bitsReads_holds : Rows.BitsReadsSaid := bitsReads_over
end
#print axioms bitsReads_holds
end Go.Proofs.Ytokpealeohoagaa
