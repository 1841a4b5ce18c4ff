/-
  The landed modes: conflicts, Conflict, Covers, fewer.
-/
import Derived.Test.YtbkffcopahiilaaMoA
namespace Go.Proofs.Ytbkffcopahiilaa
open Go.RowKit Go.Lib

theorem rd_lit (w : World) (l : List Int) (cs : Array Value) (hcs : cs.toList = l.map fun x => .int .i64 x) : Rd (w.alloc (.cells cs 3)) (w.alloc (.cells cs 3)).heap.size (some ⟨w.heap.size, 0, none⟩) l.length (l.map fun x => .int .i64 x) :=
  ⟨by simp, fun _ => ⟨_, rfl, by simp, fun j u hu => by
    rw [← hcs] at hu
    have h := World.news_of_block (w := w.alloc (.cells cs 3)) (heap_alloc_new w _) j u hu
    exact h⟩⟩
/-- what a mode conflicts with, as bits -/
def cB (m : Int) : Nat := bitsN (rowM m) 0
set_option maxRecDepth 100000 in
set_option maxHeartbeats 12800000 in
theorem conflicts_any (m : Int) (w : World) : Says Try.prog 20 #[.int .i64 m] w (.int .u64 (cB m : Nat)) := by
  have HC := Lib.hid (show ∀ (l : List Int) (A : Option Addr) (n c : Nat) (w : World), n = l.length → l.length ≤ 8 → Rd w w.heap.size A n (l.map fun x => .int .i64 x) → Says Try.prog 21 #[.slice A n c] w (.int .u64 (bitsN l 0 : Nat)) from asBits_any)
  by_cases h1 : m = 1
  · subst h1
    go_enter Try.func20, Try.ntmps20
    go_wp2_with (go_at_call 21; refine (HC.out [6, 8] _ _ _ _ rfl (by decide) (rd_lit _ [6, 8] _ rfl)).mono ?_; rintro e w1 ⟨rfl, hb⟩; have HB := Lib.hid (((Below.refl _ w).alloc (Nat.le_refl _) _).trans (hb.mono (by simp))); clear hb)
    go_ret
    exact ⟨rfl, HB.out⟩
  by_cases h2 : m = 2
  · subst h2
    go_enter Try.func20, Try.ntmps20
    go_wp2_with (go_at_call 21; refine (HC.out [3, 5, 6, 8] _ _ _ _ rfl (by decide) (rd_lit _ [3, 5, 6, 8] _ rfl)).mono ?_; rintro e w1 ⟨rfl, hb⟩; have HB := Lib.hid (((Below.refl _ w).alloc (Nat.le_refl _) _).trans (hb.mono (by simp))); clear hb)
    go_ret
    exact ⟨rfl, HB.out⟩
  by_cases h3 : m = 3
  · subst h3
    go_enter Try.func20, Try.ntmps20
    go_wp2_with (go_at_call 21; refine (HC.out [2, 5, 6, 8] _ _ _ _ rfl (by decide) (rd_lit _ [2, 5, 6, 8] _ rfl)).mono ?_; rintro e w1 ⟨rfl, hb⟩; have HB := Lib.hid (((Below.refl _ w).alloc (Nat.le_refl _) _).trans (hb.mono (by simp))); clear hb)
    go_ret
    exact ⟨rfl, HB.out⟩
  by_cases h4 : m = 4
  · subst h4
    go_enter Try.func20, Try.ntmps20
    go_wp2_with (go_at_call 21; refine (HC.out [4, 6, 8] _ _ _ _ rfl (by decide) (rd_lit _ [4, 6, 8] _ rfl)).mono ?_; rintro e w1 ⟨rfl, hb⟩; have HB := Lib.hid (((Below.refl _ w).alloc (Nat.le_refl _) _).trans (hb.mono (by simp))); clear hb)
    go_ret
    exact ⟨rfl, HB.out⟩
  by_cases h5 : m = 5
  · subst h5
    go_enter Try.func20, Try.ntmps20
    go_wp2_with (go_at_call 21; refine (HC.out [2, 3, 5, 6, 8] _ _ _ _ rfl (by decide) (rd_lit _ [2, 3, 5, 6, 8] _ rfl)).mono ?_; rintro e w1 ⟨rfl, hb⟩; have HB := Lib.hid (((Below.refl _ w).alloc (Nat.le_refl _) _).trans (hb.mono (by simp))); clear hb)
    go_ret
    exact ⟨rfl, HB.out⟩
  by_cases h6 : m = 6
  · subst h6
    go_enter Try.func20, Try.ntmps20
    go_wp2_with (go_at_call 21; refine (HC.out [1, 2, 3, 4, 5, 6, 8] _ _ _ _ rfl (by decide) (rd_lit _ [1, 2, 3, 4, 5, 6, 8] _ rfl)).mono ?_; rintro e w1 ⟨rfl, hb⟩; have HB := Lib.hid (((Below.refl _ w).alloc (Nat.le_refl _) _).trans (hb.mono (by simp))); clear hb)
    go_ret
    exact ⟨rfl, HB.out⟩
  by_cases h7 : m = 7
  · subst h7
    go_enter Try.func20, Try.ntmps20
    go_wp2_with (go_at_call 21; refine (HC.out [8] _ _ _ _ rfl (by decide) (rd_lit _ [8] _ rfl)).mono ?_; rintro e w1 ⟨rfl, hb⟩; have HB := Lib.hid (((Below.refl _ w).alloc (Nat.le_refl _) _).trans (hb.mono (by simp))); clear hb)
    go_ret
    exact ⟨rfl, HB.out⟩
  by_cases h8 : m = 8
  · subst h8
    go_enter Try.func20, Try.ntmps20
    go_wp2_with (go_at_call 21; refine (HC.out [1, 2, 3, 4, 5, 6, 7, 8] _ _ _ _ rfl (by decide) (rd_lit _ [1, 2, 3, 4, 5, 6, 7, 8] _ rfl)).mono ?_; rintro e w1 ⟨rfl, hb⟩; have HB := Lib.hid (((Below.refl _ w).alloc (Nat.le_refl _) _).trans (hb.mono (by simp))); clear hb)
    go_ret
    exact ⟨rfl, HB.out⟩
  have hr : rowM m = [] := by
    unfold rowM
    rw [if_neg h1, if_neg h2, if_neg h3, if_neg h4, if_neg h5, if_neg h6, if_neg h7, if_neg h8]
  have HR := Lib.hid (show cB m = bitsN [] 0 by unfold cB; rw [hr])
  have q1 : (m == 1) = false := by simp [h1]
  have q2 : (m == 2) = false := by simp [h2]
  have q3 : (m == 3) = false := by simp [h3]
  have q4 : (m == 4) = false := by simp [h4]
  have q5 : (m == 5) = false := by simp [h5]
  have q6 : (m == 6) = false := by simp [h6]
  have q7 : (m == 7) = false := by simp [h7]
  have q8 : (m == 8) = false := by simp [h8]
  clear hr
  go_enter Try.func20, Try.ntmps20
  go_wp2_with (go_at_call 21; refine (HC.out [] _ _ _ _ rfl (by decide) Rd.empty).mono ?_; rintro e w1 ⟨rfl, hb⟩; have HB := Lib.hid hb; clear hb)
  go_ret
  exact ⟨by rw [HR.out]; rfl, HB.out⟩
theorem cB_out {m : Int} (h : rgB m = false) : cB m = 0 := by unfold cB; rw [row_out h]; rfl
theorem cB_one0 : ∀ b ∈ dom, bitsN [b] 0 = 2 ^ b.toNat := by decide +kernel
theorem bit_out {m : Int} (h : rgB m = false) : bitsN [m] 0 = 0 := by unfold bitsN; simp [bitN, h]
theorem conf_bits0 : ∀ a ∈ dom, ∀ b ∈ dom, (bits .and .u64 (cB a : Nat) (bitsN [b] 0 : Nat) != 0) = cfB a b := by decide +kernel
theorem and_0_0 : ∀ b ∈ dom, (bits .and .u64 ((0 : Nat) : Int) (bitsN [b] 0 : Nat) != 0) = false := by decide +kernel
theorem and_0_1 : ∀ a ∈ dom, (bits .and .u64 (cB a : Nat) ((0 : Nat) : Int) != 0) = false := by decide +kernel
theorem and_00 : (bits .and .u64 ((0 : Nat) : Int) ((0 : Nat) : Int) != 0) = false := by decide +kernel
theorem conf_bits (a b : Int) : (bits .and .u64 (cB a : Nat) (bitsN [b] 0 : Nat) != 0) = cfB a b := by
  cases ha : rgB a with
  | true =>
    cases hb : rgB b with
    | true => exact conf_bits0 a (rg_dom ha) b (rg_dom hb)
    | false =>
      rw [bit_out hb, and_0_1 a (rg_dom ha)]
      cases h : cfB a b with
      | false => rfl
      | true => rw [cf_r h] at hb; cases hb
  | false =>
    have h0 : cfB a b = false := by
      cases h : cfB a b with
      | false => rfl
      | true => rw [cf_l h] at ha; cases ha
    rw [cB_out ha, h0]
    cases hb : rgB b with
    | true => exact and_0_0 b (rg_dom hb)
    | false => rw [bit_out hb]; exact and_00
theorem cov_bits0 : ∀ a ∈ dom, ∀ b ∈ dom, (bits .andNot .u64 (cB b : Nat) (cB a : Nat) == 0) = cvN a b 8 := by decide +kernel
set_option maxRecDepth 100000 in
set_option maxHeartbeats 3200000 in
theorem conflict_any (a b : Int) (w : World) : Says Try.prog 10 #[.int .i64 a, .int .i64 b] w (.bool (cfB a b)) := by
  have HC := Lib.hid (And.intro conflicts_any (show ∀ (l : List Int) (A : Option Addr) (n c : Nat) (w : World), n = l.length → l.length ≤ 8 → Rd w w.heap.size A n (l.map fun x => .int .i64 x) → Says Try.prog 21 #[.slice A n c] w (.int .u64 (bitsN l 0 : Nat)) from asBits_any))
  obtain ⟨p, hp⟩ : ∃ p, p = cB a := ⟨_, rfl⟩
  obtain ⟨q, hq⟩ : ∃ q, q = bitsN [b] 0 := ⟨_, rfl⟩
  have hh := conf_bits a b
  rw [← hp, ← hq] at hh
  have H := Lib.hid (And.intro hp (And.intro hq hh))
  clear hp hq hh
  go_enter Try.func10, Try.ntmps10
  go_wp2_with (first
    | (go_at_call 20; refine (HC.out.1 _ _).mono ?_; rw [← H.out.1]; rintro e w1 ⟨rfl, hb⟩; have HB := Lib.hid hb; clear hb)
    | (go_at_call 21; refine (HC.out.2 [b] _ _ _ _ rfl (by simp) (rd_lit _ [b] _ rfl)).mono ?_; rw [← H.out.2.1]; rintro e w2 ⟨rfl, hb⟩; have HB2 := Lib.hid (HB.out.trans (((Below.refl _ w1).alloc (Nat.le_refl _) _ |>.trans (hb.mono (by simp))).mono HB.out.size)); clear hb))
  go_ret
  exact ⟨by rw [← H.out.2.2]; rfl, HB2.out⟩
end Go.Proofs.Ytbkffcopahiilaa
