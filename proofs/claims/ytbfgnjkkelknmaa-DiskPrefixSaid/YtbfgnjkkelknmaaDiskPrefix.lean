/-
  DiskPrefix returns true for every row of calls and every number, and leaves them as they were: a crash that keeps so many writes leaves what those writes alone would, flushed.
  No condition but the reach of the statement's form (a slice that is read takes fewer than 2^47 bytes).
-/
import Derived.Test.YtbfgnjkkelknmaaLift
namespace Go.Proofs.Ytbfgnjkkelknmaa
open Go.RowKit Go.Lib

theorem Live.other {w0 w w' : World} {g : Nat} {F F2 : Nat → Prop} {s : DS} (h : Live w0 w g F2 s) (hc : Chg F w w') (hd : ∀ k, F2 k → ¬ F k) (lo : ∀ k, F k → w0.heap.size ≤ k) : Live w0 w' g F2 s :=
  ⟨h.d.chg hc hd, h.lo, h.b.trans (hc.below lo h.b.size)⟩
theorem dis_l {w w' : World} {F F2 : Nat → Prop} (hd : ∀ k, F2 k → ¬ F k) (hf : ∀ k, F2 k → k < w.heap.size) : ∀ k, F2 k → ¬ Ext F w w' k := fun k h2 h => h.elim (hd k h2) fun h => by have := hf k h2; omega
theorem dis_r {w w' : World} {F F2 : Nat → Prop} (hd : ∀ k, F2 k → ¬ F k) (hf : ∀ k, F k → k < w.heap.size) : ∀ k, Ext F2 w w' k → ¬ F k := fun k h2 h => h2.elim (fun h2 => hd k h2 h) fun h2 => by have := hf k h; omega
theorem tear_none (old new : List Int) : tear old new 0 = old := by simp [tear]
theorem set_same {α : Type} (l : List α) (i : Nat) (d : α) : l.set i (l.getD i d) = l := by
  apply List.ext_getElem?
  intro q
  by_cases hq : q = i
  · subst hq
    by_cases h : q < l.length
    · rw [List.getElem?_set_self h, getD_lt h, List.getElem?_eq_getElem h]
    · rw [List.getElem?_eq_none (by simp; omega), List.getElem?_eq_none (by omega)]
  · rw [List.getElem?_set_ne (Ne.symm hq)]
theorem crash_zero (s : DS) (keep : Int) : s.crash keep 0 = ⟨lay s.last (s.wr.take (clampN keep s.wr.length)), []⟩ := by
  by_cases h : clampN keep s.wr.length < s.wr.length
  · rw [crash_at rfl h]
    rw [show clampN 0 64 = 0 from rfl, tear_none, set_same]
  · exact crash_all rfl h
theorem try_ok {s : DS} {k : Int} {b : List Int} (h : (0 ≤ k ∧ k < s.last.length) ∧ b.length = 64) : s.tryWrite k b = (0, s.write k.toNat b) := by unfold DS.tryWrite; rw [if_pos h.1, if_pos h.2]
theorem try_no {s : DS} {k : Int} {b : List Int} (h : ¬ ((0 ≤ k ∧ k < s.last.length) ∧ b.length = 64)) : ∃ e, s.tryWrite k b = (e, s) ∧ (e == 0) = false ∧ ¬ e = 0 := by
  unfold DS.tryWrite
  by_cases h1 : 0 ≤ k ∧ k < s.last.length
  · rw [if_pos h1, if_neg fun h2 => h ⟨h1, h2⟩]; exact ⟨41, rfl, rfl, by omega⟩
  · rw [if_neg h1]; exact ⟨40, rfl, rfl, by omega⟩

theorem write_ok {w : World} {g : Nat} {F : Nat → Prop} {s : DS} (h : DiskAt w g F s) (k : Int) (A : Option Addr) (n c : Nat) (b : List Int) (hr : Rd w w.heap.size A n (cells b)) (few : s.wr.length < 1000000) (hok : (0 ≤ k ∧ k < s.last.length) ∧ b.length = 64) :
    Calls Try.prog 19 #[.pointer (some ⟨g, 0, none⟩), .int .i64 k, .slice A n c] w fun e w' => e = .returned (.int .i64 0) ∧ DiskAt w' g (Ext F w w') (s.write k.toNat b) ∧ Chg F w w' :=
  (write_any h k A n c b hr few).mono fun e w' ⟨h1, h2, h3⟩ => by rw [try_ok hok] at h1 h2; exact ⟨h1, h2, h3⟩
theorem write_bad {w : World} {g : Nat} {F : Nat → Prop} {s : DS} (h : DiskAt w g F s) (k : Int) (A : Option Addr) (n c : Nat) (b : List Int) (hr : Rd w w.heap.size A n (cells b)) (few : s.wr.length < 1000000) (hno : ¬ ((0 ≤ k ∧ k < s.last.length) ∧ b.length = 64)) :
    Calls Try.prog 19 #[.pointer (some ⟨g, 0, none⟩), .int .i64 k, .slice A n c] w fun e w' => ∃ q : Int, e = .returned (.int .i64 q) ∧ (q == 0) = false ∧ ¬ q = 0 ∧ DiskAt w' g (Ext F w w') s ∧ Chg F w w' := by
  obtain ⟨q, h1, h2, h3⟩ := try_no hno
  exact (write_any h k A n c b hr few).mono fun e w' ⟨h4, h5, h6⟩ => by rw [h1] at h4 h5; exact ⟨q, h4, h2, h3, h5, h6⟩

/-- the same, the first K writes alone -/
def front (s : DS) (K : Nat) : DS := ⟨s.last, s.wr.take K⟩
theorem front_few (s : DS) (K : Nat) : (front s K).wr.length ≤ s.wr.length := by simp [front]; omega

theorem front_in {s : DS} {K m : Nat} {b : List Int} (h : s.wr.length < K) : front (s.write m b) K = (front s K).write m b := by
  unfold front DS.write
  rw [List.take_of_length_le (show s.wr.length ≤ K by omega)]
  simp only
  rw [List.take_of_length_le (show (s.wr ++ [(m, b)]).length ≤ K by simp; omega)]
theorem front_out {s : DS} {K m : Nat} {b : List Int} (h : ¬ s.wr.length < K) : front (s.write m b) K = front s K := by
  unfold front DS.write
  simp only
  rw [List.take_append_of_le_length (by omega)]
theorem take_clamp {α : Type} (l : List α) (K : Nat) : l.take (clampN (K : Int) l.length) = l.take K := by
  rw [List.take_eq_take_iff]
  unfold clampN; omega

def PfRel (w0 : World) (ga gb : Nat) (cl : List Cl) (K : Nat) (s0 : DS) (m i : Value) (wr : World) : Prop :=
  ∃ (k : Nat) (Fa Fb : Nat → Prop), k ≤ cl.length ∧ i = .int .i64 k ∧ m = .int .i64 (runW s0 (cl.take k)).wr.length ∧ Live w0 wr ga Fa (runW s0 (cl.take k)) ∧ Live w0 wr gb Fb (front (runW s0 (cl.take k)) K) ∧ (∀ q, Fa q → ¬ Fb q)

set_option maxRecDepth 100000 in
set_option maxHeartbeats 6400000 in
theorem diskPrefix_walk (A : Option Addr) (c : Nat) (cl : List Cl) (keep : Int) (w : World) (h : CallsIn w w.heap.size A cl) (_hlc : cl.length ≤ c) (hcm : c ≤ maxLen) (_b1 : -9223372036854775808 ≤ keep ∧ keep ≤ 9223372036854775807) :
    Calls Try.prog 6 #[.slice A cl.length c, .int .i64 keep] w (YesBelow w) := by
  have HC := Lib.hid h
  clear h
  go_enter Try.func6, Try.ntmps6
  go_wp2_with fail
  refine (alive_any w).mono ?_
  rintro e w1 ⟨rfl, h1⟩
  have HA := Lib.hid h1
  clear h1
  go_wp2_with fail
  refine (great_any A c cl w1 _ (HC.out.below HA.out (Nat.le_refl _)) (by omega)).mono ?_
  rintro e w1' ⟨rfl, hgr⟩
  rcases hgr with rfl | ⟨rfl, h200, h20⟩
  · go_wp2
    go_ret
    exact ⟨rfl, HA.out⟩
  · by_cases hneg : keep < 0
    · go_wp2
      go_ret
      exact ⟨rfl, HA.out⟩
    · obtain ⟨K, rfl⟩ : ∃ K : Nat, keep = K := ⟨keep.toNat, by omega⟩
      go_wp2_with fail
      refine (new_any w1 6 (by omega) (by omega)).mono ?_
      rintro e w2 ⟨ga, rfl, hd, hb⟩
      have H2 := Lib.hid (Live.new HA.out hd hb)
      clear hd hb
      go_wp2_with fail
      refine (new_any w2 6 (by omega) (by omega)).mono ?_
      rintro e w3 ⟨gb, rfl, hd, hb⟩
      have H3 := Lib.hid (And.intro (H2.out.below hb) (And.intro (Live.new H2.out.b hd hb) (show ∀ q, Ext Non w1 w2 q → ¬ Ext Non w2 w3 q from fun q h1 h2 => by
        have := H2.out.d.foot q h1
        rcases h2 with h2 | h2
        · exact h2.elim
        · omega)))
      clear hd hb
      go_wp2_with fail
      go_loopw [9, 10] (fun m i wr => PfRel w ga gb cl K ⟨secs [] 6, []⟩ m i wr) (fun _ i _ => cl.length - (intOf i).toNat)
      case atStart => exact ⟨0, _, _, by omega, rfl, rfl, by simpa [runW] using H3.out.1, by simpa [runW, front] using H3.out.2.1, H3.out.2.2⟩
      case round =>
        obtain ⟨k, Fa, Fb, hk, rfl, rfl, hla, hlb, hdis⟩ := hrel
        obtain ⟨s, hs⟩ : ∃ s, s = runW ⟨secs [] 6, []⟩ (cl.take k) := ⟨_, rfl⟩
        have few : s.wr.length ≤ 200 := by
          have := runW_few ⟨secs [] 6, []⟩ (cl.take k)
          rw [← hs] at this
          simp only [List.length_take, List.length_nil] at this
          omega
        rw [← hs] at hla hlb
        by_cases hlt : k < cl.length
        · have hci := HC.out.below hla.b (Nat.le_refl _)
          obtain ⟨ad, rfl, _, c0, c1, c2, c3⟩ := hci.at_ hlt
          have hn := HC.out.num cl[k] (List.getElem_mem hlt)
          obtain ⟨x, hx⟩ : ∃ x, x = cl[k]'hlt := ⟨_, rfl⟩
          rw [← hx] at c0 c1 c2 c3 hn
          have hk0 : (0 : Int) ≤ (k : Int) := Int.natCast_nonneg _
          have hk1 : (k : Int) < (cl.length : Int) := by omega
          have HX := Lib.hid (And.intro hx (And.intro hla (And.intro hlb (And.intro hdis (And.intro (hci.rd x (by rw [hx]; exact List.getElem_mem hlt)) (And.intro hs hn))))))
          clear hx hla hlb hdis hn hci
          by_cases hw : x.what = 1
          · have HW := Lib.hid hw
            rw [hw] at c0
            clear hw
            rw [← hs]
            clear hs
            go_wp2_with fail
            go_still_tail 11, (by kernel_rfl)
            change wpList _ _ _ _ _ wr.drew
            by_cases hok : (0 ≤ x.at' ∧ x.at' < s.last.length) ∧ x.data.length = 64
            · have HOK := Lib.hid hok
              clear hok
              have hn0 : (s.wr.length : Int) ≤ 200 := by omega
              by_cases hnK : s.wr.length < K
              · have hnK1 : (s.wr.length : Int) < (K : Int) := by omega
                go_wp2_with (go_at_call 19; refine (write_ok (show DiskAt wr.drew ga Fa s from HX.out.2.1.d) x.at' x.A x.n x.c x.data (HX.out.2.2.2.2.1.more HX.out.2.1.b.size).drew (by omega) HOK.out).mono ?_; rintro e w4 ⟨rfl, hd4, hc4⟩)
                have la4 := HX.out.2.1.drew.step hd4 hc4
                have lb4 := HX.out.2.2.1.drew.other hc4 (fun q hb ha => HX.out.2.2.2.1 q ha hb) HX.out.2.1.lo
                have dis4 : ∀ q, Ext Fa wr.drew w4 q → ¬ Fb q := dis_r HX.out.2.2.2.1 HX.out.2.2.1.d.foot
                have hci4 := HC.out.below la4.b (Nat.le_refl _)
                obtain ⟨ad4, e4, _, d0, d1, d2, d3⟩ := hci4.at_ hlt
                obtain rfl := Option.some.inj e4
                rw [← HX.out.1] at d0 d1 d2 d3
                have hrun : runW ⟨secs [] 6, []⟩ (cl.take (k + 1)) = s.write x.at'.toNat x.data := by
                  rw [runW_next hlt, ← HX.out.1, stepW, if_pos HW.out, ← HX.out.2.2.2.2.2.1, try_ok HOK.out]
                have H4 := Lib.hid (And.intro la4 (And.intro lb4 (And.intro dis4 (And.intro hrun (hci4.rd x (by rw [HX.out.1]; exact List.getElem_mem hlt))))))
                clear hd4 hc4 la4 lb4 dis4 hci4 hrun c0 c1 c2 c3
                go_wp2_with fail
                go_still_tail 11, (by kernel_rfl)
                change wpList _ _ _ _ _ w4.drew
                have few5 := front_few s K
                go_wp2_with (go_at_call 19; refine (write_ok (show DiskAt w4.drew gb Fb (front s K) from H4.out.2.1.d) x.at' x.A x.n x.c x.data (H4.out.2.2.2.2.more H4.out.1.b.size).drew (by omega) HOK.out).mono ?_; rintro e w5 ⟨rfl, hd5, hc5⟩)
                have HL : Hid (PfRel w ga gb cl K ⟨secs [] 6, []⟩ (.int .i64 ((s.wr.length : Int) + 1)) (.int .i64 ((k : Int) + 1)) w5) := by
                  refine Lib.hid ⟨k + 1, Ext Fa wr.drew w4, Ext Fb w4.drew w5, by omega, by go_num, ?_, ?_, ?_, dis_l H4.out.2.2.1 H4.out.1.d.foot⟩
                  · rw [H4.out.2.2.2.1]; simp [DS.write]
                  · rw [H4.out.2.2.2.1]; exact H4.out.1.drew.other hc5 H4.out.2.2.1 H4.out.2.1.lo
                  · rw [H4.out.2.2.2.1, front_in hnK]; exact H4.out.2.1.drew.step hd5 hc5
                clear hd5 hc5
                go_wp2
                go_roundw
                case rel => exact HL.out
                case measure => simp [intOf]; omega
              · have hnK1 : ¬ ((s.wr.length : Int) < (K : Int)) := by omega
                go_wp2_with (go_at_call 19; refine (write_ok (show DiskAt wr.drew ga Fa s from HX.out.2.1.d) x.at' x.A x.n x.c x.data (HX.out.2.2.2.2.1.more HX.out.2.1.b.size).drew (by omega) HOK.out).mono ?_; rintro e w4 ⟨rfl, hd4, hc4⟩)
                have la4 := HX.out.2.1.drew.step hd4 hc4
                have lb4 := HX.out.2.2.1.drew.other hc4 (fun q hb ha => HX.out.2.2.2.1 q ha hb) HX.out.2.1.lo
                have dis4 : ∀ q, Ext Fa wr.drew w4 q → ¬ Fb q := dis_r HX.out.2.2.2.1 HX.out.2.2.1.d.foot
                have hci4 := HC.out.below la4.b (Nat.le_refl _)
                obtain ⟨ad4, e4, _, d0, d1, d2, d3⟩ := hci4.at_ hlt
                obtain rfl := Option.some.inj e4
                rw [← HX.out.1] at d0 d1 d2 d3
                have hrun : runW ⟨secs [] 6, []⟩ (cl.take (k + 1)) = s.write x.at'.toNat x.data := by
                  rw [runW_next hlt, ← HX.out.1, stepW, if_pos HW.out, ← HX.out.2.2.2.2.2.1, try_ok HOK.out]
                have H4 := Lib.hid (And.intro la4 (And.intro lb4 (And.intro dis4 (And.intro hrun (hci4.rd x (by rw [HX.out.1]; exact List.getElem_mem hlt))))))
                clear hd4 hc4 la4 lb4 dis4 hci4 hrun c0 c1 c2 c3
                have HL : Hid (PfRel w ga gb cl K ⟨secs [] 6, []⟩ (.int .i64 ((s.wr.length : Int) + 1)) (.int .i64 ((k : Int) + 1)) w4) := by
                  refine Lib.hid ⟨k + 1, Ext Fa wr.drew w4, Fb, by omega, by go_num, ?_, ?_, ?_, H4.out.2.2.1⟩
                  · rw [H4.out.2.2.2.1]; simp [DS.write]
                  · rw [H4.out.2.2.2.1]; exact H4.out.1
                  · rw [H4.out.2.2.2.1, front_out hnK]; exact H4.out.2.1
                go_wp2
                go_roundw
                case rel => exact HL.out
                case measure => simp [intOf]; omega
            · have HOK := Lib.hid hok
              clear hok
              go_wp2_with (go_at_call 19; refine (write_bad (show DiskAt wr.drew ga Fa s from HX.out.2.1.d) x.at' x.A x.n x.c x.data (HX.out.2.2.2.2.1.more HX.out.2.1.b.size).drew (by omega) HOK.out).mono ?_; rintro e w4 ⟨q4, rfl, hq4, hq5, hd4, hc4⟩)
              have HL : Hid (PfRel w ga gb cl K ⟨secs [] 6, []⟩ (.int .i64 (s.wr.length : Int)) (.int .i64 ((k : Int) + 1)) w4) := by
                have hrun : runW ⟨secs [] 6, []⟩ (cl.take (k + 1)) = s := by
                  obtain ⟨e0, h0, _⟩ := try_no HOK.out
                  rw [runW_next hlt, ← HX.out.1, stepW, if_pos HW.out, ← HX.out.2.2.2.2.2.1, h0]
                refine Lib.hid ⟨k + 1, Ext Fa wr.drew w4, Fb, by omega, by go_num, by rw [hrun], ?_, ?_, dis_r HX.out.2.2.2.1 HX.out.2.2.1.d.foot⟩
                · rw [hrun]; exact HX.out.2.1.drew.step hd4 hc4
                · rw [hrun]; exact HX.out.2.2.1.drew.other hc4 (fun q hb ha => HX.out.2.2.2.1 q ha hb) HX.out.2.1.lo
              clear hd4 hc4
              go_wp2
              go_roundw
              case rel => exact HL.out
              case measure => simp [intOf]; omega
          · have HL : Hid (PfRel w ga gb cl K ⟨secs [] 6, []⟩ (.int .i64 (runW ⟨secs [] 6, []⟩ (cl.take k)).wr.length) (.int .i64 ((k : Int) + 1)) wr) := by
              have e1 : runW ⟨secs [] 6, []⟩ (cl.take (k + 1)) = s := by rw [runW_next hlt, ← HX.out.1, stepW, if_neg hw, hs]
              refine Lib.hid ⟨k + 1, Fa, Fb, by omega, by go_num, by rw [e1, hs], ?_, ?_, HX.out.2.2.2.1⟩
              · rw [e1]; exact HX.out.2.1
              · rw [e1]; exact HX.out.2.2.1
            clear hs
            go_wp2
            go_roundw
            case rel => exact HL.out
            case measure => simp [intOf]; omega
        · have hkn : k = cl.length := by omega
          have hok := hla.d.ok
          obtain ⟨X, hX⟩ : ∃ X, X = (lay s.last (s.wr.take K)).flatten := ⟨_, rfl⟩
          have HX := Lib.hid (And.intro hla (And.intro hlb (And.intro hdis (And.intro hok hX))))
          clear hla hlb hdis hok hs hkn H2 H3 hX
          go_wp2_with fail
          refine (crash_any HX.out.1.d (K : Int) 0).mono ?_
          rw [crash_zero, take_clamp]
          rintro e wa ⟨rfl, hda, hca⟩
          have HA2 := Lib.hid (And.intro (HX.out.1.step hda hca) (And.intro (HX.out.2.1.other hca (fun q hb ha => HX.out.2.2.1 q ha hb) HX.out.1.lo) (dis_r (w' := wa) HX.out.2.2.1 HX.out.2.1.d.foot)))
          clear hda hca
          go_wp2_with fail
          refine (flush_any HA2.out.2.1.d).mono ?_
          rintro e wb ⟨rfl, hdb, hcb⟩
          have HB2 := Lib.hid (And.intro (HA2.out.1.other hcb HA2.out.2.2 HA2.out.2.1.lo) (HA2.out.2.1.step hdb hcb))
          clear hdb hcb
          go_wp2_with fail
          refine (image_any HB2.out.1.d).mono ?_
          rw [show (DS.mk (lay s.last (s.wr.take K)) []).last.flatten = X from HX.out.2.2.2.2.symm]
          rintro e wc ⟨g6, rfl, hb6, _, hl6⟩
          have HC2 := Lib.hid (And.intro (HB2.out.2.below hl6) (And.intro hb6 (HB2.out.1.below hl6).b))
          clear hb6 hl6
          go_wp2_with fail
          refine (image_any HC2.out.1.d).mono ?_
          rw [show (front s K).flush.last.flatten = X from HX.out.2.2.2.2.symm]
          rintro e wd ⟨g7, rfl, hb7, _, hl7⟩
          have h67 : Blk wd g6 5 (cells X).toArray := (hl7.block g6 HC2.out.2.1.lt).trans HC2.out.2.1
          have hfl : X.length ≤ 140000000000000 := by
            have h1 := rows_len (cells_all _ (lay_ok HX.out.2.2.2.1 K))
            rw [rows_flat, cells_len, List.length_map, lay_len, ← HX.out.2.2.2.2] at h1
            have := HX.out.2.2.2.1.le
            omega
          have HD2 := Lib.hid (And.intro h67 (And.intro hb7 (And.intro hfl (HC2.out.1.below hl7).b)))
          clear hb7 hl7 h67 hfl
          go_wp2_with fail
          refine (sameBytes_below _ _ _ _ _ X _ _ _ (HD2.out.1.rd (cells_len _)) (HD2.out.2.1.rd (cells_len _)) HD2.out.2.2.1).mono ?_
          rintro e we ⟨rfl, h9⟩
          have HE := Lib.hid (HD2.out.2.2.2.trans (h9.mono HD2.out.2.2.2.size))
          clear h9
          go_wp2
          go_ret
          exact ⟨rfl, HE.out⟩

section
open Go.ChangeShapes Go.WideShapes Go.ChangeAt
open Go.ChangeMaps (open_string shut_string)
set_option linter.unusedVariables false
set_option maxRecDepth 100000 in
theorem diskPrefix_lifted (os : Os) (started : os.Started) (H : Type) (enc : TypeId × Value → H) :
    ReturnsInHanded {} Try.checked os 6 .any (Rows.diskPrefixSpec.pre6 enc Try.prog Try.f6 Rows.diskPrefixRow.domain false) (Rows.diskPrefixSpec.post enc Try.prog Try.f6 false true false false) := by
  refine returnsInHanded_of_change_sized (C := Try.checked) own started (by kernel_rfl) Try.func6
    (ChangeSpec.witness6 (enc := enc) (C := Try.checked) false ⟨#[], #[.slice none 0 0, .int .i64 0], []⟩ 8 (by kernel_rfl) (by kernel_rfl) (by kernel_rfl) (by kernel_rfl)) ?_
  intro W base args ds gs before hval0 hW hcnd hsz _
  have hval : ∀ (j : Nat) t v, Try.f6.params[j]? = some t → args[j]? = some v → Value.okWide Try.prog W .any base t v := hval0
  have hW' := hW
  obtain ⟨p, q, hA0, hV, rfl, hfz, hnd⟩ := hW
  have hA : DataW.TrodAll enc Try.prog W 0 (fun _ => true) true Try.f6.params.toList args.toList ds p := hA0
  rw [Try.params6] at hA hval
  obtain ⟨v0, vs0, d0, ds0, p0, q0, hargs, rfl, rfl, h0, r0⟩ := trodAll_cons hA
  obtain ⟨v1, vs1, d1, ds1, p1, q1, rfl, rfl, rfl, h1, r1⟩ := trodAll_cons r0
  obtain ⟨rfl, rfl, rfl⟩ := trodAll_nil r1
  obtain rfl : args = #[v0, v1] := by cases args; simp_all
  obtain ⟨rfl, rfl⟩ := trodVars_none hV
  have k0 := h0
  have lt0 : ∀ x ∈ p0, x.block < W.heap.size := by obtain ⟨m, hm⟩ := k0; exact DataW.trod_lt m _ _ _ hm
  have k1 := h1
  have lt1 : ∀ x ∈ p1, x.block < W.heap.size := by obtain ⟨m, hm⟩ := k1; exact DataW.trod_lt m _ _ _ hm
  obtain ⟨a0, len0, cap0, rfl⟩ := okWide_slice Try.underlying22 (hval 0 22 v0 rfl rfl)
  obtain ⟨z0, rfl, l0, m0, o0, q0x, r0x⟩ := rd_of_calls Try.underlying22 Try.underlying35 (by kernel_rfl) ⟨rfl, by kernel_rfl, Try.underlying3⟩ ⟨rfl, by kernel_rfl, Try.underlying3⟩ ⟨rfl, by kernel_rfl, Try.underlying3⟩ ⟨rfl, by kernel_rfl, Try.underlying33⟩ Try.underlying5 (by kernel_rfl) (by kernel_rfl) h0
  have c0x := CallsIn.of o0 q0x r0x (fun y hy => by have := List.all_eq_true.1 hsz _ (DataW.weights_mem_each (j := 0) (t := 22) rfl rfl y hy); simpa using this)
  obtain ⟨a1, rfl, rfl, rfl, w1⟩ := open_int Try.underlying3 (hval 1 3 v1 rfl rfl) h1
  clear hA0 hval0
  refine (diskPrefix_walk a0 cap0 z0 a1 W c0x l0 m0 (bounds_i64 w1)).mono fun e W' ⟨he, bel⟩ => ?_
  subst he
  exact ⟨_, rfl, _, _, _, [], _, [], hW', trodAll_mk1 (shut_bool Try.underlying4 _), (trodAll_cons_mk (Below.trod laidOut (by kernel_rfl) (of_decide_eq_true (by kernel_rfl)) k0 bel lt0) (trodAll_cons_mk (Below.trod laidOut (by kernel_rfl) (of_decide_eq_true (by kernel_rfl)) k1 bel lt1) trodAll_mk0)), rfl, bel.frame _, fun h => by cases h⟩

theorem diskPrefix_over : Rows.diskPrefixRow.holds Try.pinned (OpenSpec.ofChange Rows.diskPrefixSpec) :=
  OpenClaim.holds_of_wide 6 Try.f6 rfl rfl rfl rfl rfl rfl rfl ⟨rfl, rfl, rfl, rfl, rfl⟩ rfl rfl rfl rfl rfl (by kernel_rfl) Try.func6 (by kernel_rfl)
    (of_decide_eq_true (by kernel_rfl)) (by unfold Func.isWrapper; first | (rw [if_pos (by decide +kernel)]; kernel_rfl) | (rw [if_neg (by decide +kernel)]; exact ⟨rfl, rfl⟩))
    (fun os started H enc _ => diskPrefix_lifted os started H enc)

theorem diskPrefix_holds : Rows.DiskPrefixSaid := diskPrefix_over
end
#print axioms diskPrefix_holds
end Go.Proofs.Ytbfgnjkkelknmaa
