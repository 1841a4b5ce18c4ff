/-
  The contract of Format.
-/
import Derived.Test.YtehghjakggdnpaaWLead
namespace Go.Proofs.Ytehghjakggdnpaa
open Go.RowKit Go.Lib

theorem nextStamp_w {w : World} {g : Nat} {F : Nat → Prop} {s : DS} (N : Int) (hN : N = great4 s.cur 2 (2 * s.half) + 1) (h : DiskAt w g F s) (hb : AllBytes s.cur) (h2 : 2 ≤ s.last.length) :
    Calls Try.prog 38 #[.pointer (some ⟨g, 0, none⟩)] w fun e w' => e = .returned (.int .i64 N) ∧ Below w.heap.size w w' := by
  subst hN
  exact nextStamp_any h hb h2

/-- a log of the call's own, on a disk of its own -/
structure WLive (w0 w : World) (g l : Nat) (F : Nat → Prop) (s : DS) (gen area used next : Int) : Prop where
  d : DiskAt w g F s
  lg : LogAt w l g gen area used next
  nf : ¬ F l
  lo : ∀ k, F k → w0.heap.size ≤ k
  lol : w0.heap.size ≤ l
  b : Below w0.heap.size w0 w

/-- what Format answers where it is well -/
def FormRet (w0 : World) (g : Nat) (s : DS) (gen next : Int) (e : Ending) (w' : World) : Prop :=
  ∃ l F, e = .returned (.tuple #[.pointer (some ⟨l, 0, none⟩), .int .i64 0]) ∧ WLive w0 w' g l F s gen 0 0 next

set_option maxRecDepth 100000 in
set_option maxHeartbeats 1600000 in
theorem format_any {w0 w : World} {g : Nat} {F : Nat → Prop} {s : DS} (h : DiskAt w g F s) (lo : ∀ k, F k → w0.heap.size ≤ k) (b0 : Below w0.heap.size w0 w) (hb : AllBytes s.cur) (h10 : 10 ≤ s.last.length) (few : s.wr.length < 1000000)
    (gen next : Int) (hgen : gen = great4 s.cur 0 2) (hnext : next = great4 s.cur 2 (2 * s.half) + 1) (hg : gen + 1 < 2147483648) (hx : next < 2147483648) :
    Calls Try.prog 12 #[.pointer (some ⟨g, 0, none⟩)] w (FormRet w0 g (s.write ((gen + 1) % 2).toNat (headB (gen + 1) 0 next)).flush (gen + 1) next) := by
  have hle := h.ok.le
  have hgb := great4_bd hb 0 2
  have hxb := great4_bd hb 2 (2 * s.half)
  rw [← hgen] at hgb
  have hxb2 : 1 ≤ next := by omega
  have H := Lib.hid (And.intro h (And.intro hb (And.intro hgen (And.intro hnext (And.intro lo b0)))))
  have h10i : (10 : Int) ≤ (s.last.length : Int) := by omega
  clear h hb hgen hnext lo b0 hxb
  go_enter Try.func12, Try.ntmps12
  go_wp2_with fail
  refine (size_any H.out.1).mono ?_
  rintro e w' ⟨rfl, rfl⟩
  go_wp2_with fail
  refine (greatest_at H.out.1 H.out.2.1 0 2 0 2 rfl rfl (by omega) (by omega) gen H.out.2.2.1.symm).mono ?_
  rintro e w1 ⟨rfl, hl1⟩
  have HL1 := Lib.hid hl1
  clear hl1
  go_wp2_with fail
  refine (nextStamp_w next H.out.2.2.2.1 (H.out.1.below HL1.out) H.out.2.1 (by omega)).mono ?_
  rintro e w2 ⟨rfl, hl2⟩
  have HL2 := Lib.hid (HL1.out.trans (hl2.mono HL1.out.size))
  clear hl2
  go_wp2_with fail
  obtain ⟨w3, hw3⟩ : ∃ w3, w3 = w2.alloc (.cells #[.pointer (some ⟨g, 0, none⟩), .int .i64 gen, .int .i64 0, .int .i64 0, .int .i64 next] 71) := ⟨_, rfl⟩
  have hlg3 : LogAt w3 w2.heap.size g gen 0 0 next := by rw [hw3]; exact Blk.new _ _ _
  have hl3 : Below w.heap.size w w3 := by rw [hw3]; exact HL2.out.alloc HL2.out.size _
  have sz3 : w3.heap.size = w2.heap.size + 1 := by rw [hw3]; exact World.size_alloc _ _
  rw [← hw3]
  clear hw3
  obtain ⟨c0, c1, c2, c3, c4⟩ := hlg3.c
  have hnf : ¬ F w2.heap.size := fun e => by
    have h1 := H.out.1.foot _ e
    have h2 := HL2.out.size
    omega
  have H3 := Lib.hid (And.intro hlg3 (And.intro (H.out.1.below hl3) (And.intro hl3 sz3)))
  clear hlg3 hl3 sz3
  refine (isLast_any H3.out.1 ⟨by omega, by omega⟩).mono ?_
  rw [decide_eq_false (by omega)]
  rintro e w3' ⟨rfl, rfl⟩
  go_wp2_with fail
  refine (lead_any H3.out.2.1 H3.out.1 hnf ⟨by omega, by omega⟩ 0 next (by omega) ⟨by omega, by omega⟩ few (by omega)).mono ?_
  rintro e w4 ⟨rfl, hd4, hlg4, hc4⟩
  have h2 := HL2.out.size
  have H4 := Lib.hid (show FormRet w0 g (s.write ((gen + 1) % 2).toNat (headB (gen + 1) 0 next)).flush (gen + 1) next (.returned (.tuple #[.pointer (some ⟨w2.heap.size, 0, none⟩), .int .i64 0])) w4 from by
    have s0 := H.out.2.2.2.2.2.size
    refine ⟨w2.heap.size, Ext F w3 w4, rfl, hd4, hlg4, ?_, ?_, by omega, ?_⟩
    · rintro (h | h)
      · exact hnf h
      · have := H3.out.2.2.2; omega
    · rintro k (h | h)
      · exact H.out.2.2.2.2.1 k h
      · have := H3.out.2.2.2; omega
    · refine (H.out.2.2.2.2.2.trans (H3.out.2.2.1.mono s0)).trans (hc4.below ?_ (by have := H3.out.2.2.2; omega))
      rintro k (h | h)
      · exact H.out.2.2.2.2.1 k h
      · omega)
  clear hd4 hlg4 hc4
  go_wp2
  go_ret2
  exact H4.out
end Go.Proofs.Ytehghjakggdnpaa
