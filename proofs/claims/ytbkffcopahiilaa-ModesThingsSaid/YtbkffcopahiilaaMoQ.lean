/-
  ModesThings over the contract. A region that draws its order and calls functions that make memory, walked once.
-/
import Derived.Test.YtbkffcopahiilaaMoY
namespace Go.Proofs.Ytbkffcopahiilaa
open Go.RowKit Go.Lib

/-- a world in which all that lay in w is as it was -/
structure BelowBy (w : World) where
  w' : World
  h : Below w.heap.size w w'
instance (w : World) : Inhabited (BelowBy w) := ⟨⟨w, Below.refl _ _⟩⟩
theorem wp_region_below {P : Program} {id : Nat} {Q : Exit → Act → World → Prop} {a : Act} {w : World} {l : List Oper} (hm : P.follows .mixedOrders = true) (hB : Region.lexB .any l.toArray = true)
    (h : wpQuiet P l.toArray (fun w' => ∃ p : BelowBy w, w' = p.w') (fun a' => ∀ w', (∃ p : BelowBy w, w' = p.w') → Q .normal a' w') l a) : (Code.region id l.toArray true).wp P Q a w :=
  wp_region_quiet (C := fun w' => ∃ p : BelowBy w, w' = p.w') hm hB ⟨⟨w.drew, (Below.refl _ _).drew⟩, rfl⟩ (by simpa using h)
theorem calls_below {P : Program} {f : FuncId} {args : Array Value} {w : World} {p : BelowBy w} {v : Value} (h : Calls P f args p.w' fun e w' => e = .returned v ∧ Below p.w'.heap.size p.w' w') :
    Calls P f args p.w' fun e w'' => e = .returned v ∧ ∃ q : BelowBy w, w'' = q.w' :=
  h.mono fun _ w' ⟨he, hb⟩ => ⟨he, ⟨w', p.h.trans (hb.mono p.h.size)⟩, rfl⟩
theorem BelowBy.cell {w : World} {a : Addr} {v : Value} (h : w.cell? a = some v) (p : BelowBy w) : p.w'.cell? a = some v := (p.h.cell (World.block_lt_of_cell? _ _ h)).trans h
theorem neqTh (x : Th) (w : World) : (binOp .neq 27 (.agg #[.int .i64 x.k, .string x.t, .string x.y]) (.agg #[.int .i64 x.k, .string x.t, .string x.y])).run Try.prog w = .ok (.bool false) w := by
  have u3 := Try.underlying3
  have a3 := Try.isAgg3
  have z3 := Try.sizeOf3
  have u9 := Try.underlying9
  have a9 := Try.isAgg9
  have z9 := Try.sizeOf9
  have hS : Try.prog.underlying 27 = some (.struct (Try.prog.fieldsOf 27)) := by kernel_rfl
  have hp : Try.prog.stoodInHeld 27 = false := by kernel_rfl
  rw [run_neq_struct, show (10000 : Nat) = 9999 + 1 from rfl, run_equalIn_agg w 9999 27 _ _ hS hp]
  simp only [Program.fieldsOf, Try.underlying27]
  have hs := str_beq x.t x.t
  have hs2 := str_beq x.y x.y
  go_simp
theorem below_dN {C : Nat} {w w' : World} (h : Below C w w') (d : Nat) : Below C w (w'.drewN d) := ⟨h.os, h.tape, h.output, h.size, h.block⟩
/-- the thing in its block, and two lists of what is above it -/
structure Mt (w0 w : World) (b : Nat) (x : Th) (A A' : Option Addr) : Prop where
  g : Tg w b x
  lt : b < w.heap.size
  r : RowG thC 3 w w.heap.size A (abT x)
  r' : RowG thC 3 w w.heap.size A' (abT x)
  low : Below w0.heap.size w0 w
theorem Mt.below {w0 w w' : World} {b : Nat} {x : Th} {A A' : Option Addr} (h : Mt w0 w b x A A') (hb : Below w.heap.size w w') : Mt w0 w' b x A A' :=
  ⟨h.g.below hb h.lt, Nat.lt_of_lt_of_le h.lt hb.size, (h.r.below hb (Nat.le_refl _)).more hb.size, (h.r'.below hb (Nat.le_refl _)).more hb.size, h.low.trans (hb.mono h.low.size)⟩
set_option maxRecDepth 100000 in
set_option maxHeartbeats 12800000 in
theorem mthings_walk (I : Impl) (x : Th) (w : World) (hx : x.In) : Says Try.prog 4 #[thV x] w (.bool true) := by
  have hm : Try.prog.follows .mixedOrders = true := by kernel_rfl
  obtain ⟨w1, hw1⟩ : ∃ w1, w1 = w.alloc (.cells #[.int .i64 x.k, .string x.t, .string x.y] 27) := ⟨_, rfl⟩
  obtain ⟨hT, hB⟩ := tg_new w x
  rw [← hw1] at hT hB
  have hs1 : w1.heap.size = w.heap.size + 1 := by rw [hw1]; simp
  obtain ⟨b, hb⟩ : ∃ b, b = w.heap.size := ⟨_, rfl⟩
  rw [← hb] at hT
  have HI := Lib.hid I
  have HA := Lib.hid fun (w : World) => alive10_any I w
  have HX := Lib.hid hx
  have HW := Lib.hid (And.intro hw1 hb)
  have H1 := Lib.hid (And.intro hT (And.intro hB (show b < w1.heap.size by omega)))
  clear hw1 hs1 hT hB I hx
  go_enter Try.func4, Try.ntmps4
  go_upto_region 1 with fail
  rw [← hb, ← HW.out.1]; clear hb
  go_upto_region 3 with (go_at_call 8; refine (HA.out _).mono ?_; rintro e w2 ⟨rfl, hb2⟩; have H2 := Lib.hid (show Tg w2 b x ∧ Below w.heap.size w w2 ∧ b < w2.heap.size from ⟨H1.out.1.below hb2 H1.out.2.2, H1.out.2.1.trans (hb2.mono H1.out.2.1.size), Nat.lt_of_lt_of_le H1.out.2.2 hb2.size⟩); clear hb2)
  have c0 := H2.out.1.k
  have c1 := H2.out.1.t
  have c2 := H2.out.1.y
  go_upto_region 4 with (go_at_call 16; refine (HI.out.above x _ HX.out).mono ?_; rintro e w3 ⟨A, n, c, rfl, hn, _, hrow, hb3⟩; have H3 := Lib.hid (show Tg w3 b x ∧ Below w.heap.size w w3 ∧ b < w3.heap.size ∧ n = (abT x).length ∧ RowG thC 3 w3 w3.heap.size A (abT x) from ⟨H2.out.1.below hb3 H2.out.2.2, H2.out.2.1.trans (hb3.mono H2.out.2.1.size), Nat.lt_of_lt_of_le H2.out.2.2 hb3.size, hn, hrow⟩); clear hb3 hn hrow)
  clear c0 c1 c2
  have c0 := H3.out.1.k
  have c1 := H3.out.1.t
  have c2 := H3.out.1.y
  go_upto_region 5 with (go_at_call 17; refine (rabove_any x _).mono ?_; rintro e w4 ⟨A', n', c', rfl, hn', _, hrow', hb4⟩; have H4 := Lib.hid (And.intro hn' (Mt.mk (H3.out.1.below hb4 H3.out.2.2.1) (Nat.lt_of_lt_of_le H3.out.2.2.1 hb4.size) ((H3.out.2.2.2.2.below hb4 (Nat.le_refl _)).more hb4.size) hrow' (H3.out.2.1.trans (hb4.mono H3.out.2.1.size)))); clear hb4 hn' hrow')
  clear c0 c1 c2
  obtain ⟨q, hq⟩ : ∃ q, q = (abT x).length := ⟨_, rfl⟩
  have hq2 : q ≤ 2 := by rw [hq]; exact abT_len x
  obtain rfl : n = q := by rw [hq]; exact H3.out.2.2.2.1
  obtain rfl : n' = n := by rw [hq]; exact H4.out.1
  have HQ := Lib.hid hq
  clear hq
  have c0 := BelowBy.cell H4.out.2.g.k
  have c1 := BelowBy.cell H4.out.2.g.t
  have c2 := BelowBy.cell H4.out.2.g.y
  obtain ⟨u, hu⟩ : ∃ u, u = fitsB x := ⟨_, rfl⟩
  have HU := Lib.hid hu
  clear hu
  refine wp_region_below hm (by kernel_rfl) ?_
  repeat (quiet_step (first
    | (go_at_call 18; exact calls_below ((HI.out.fits x _ HX.out).to (congrArg Value.bool HU.out.symm)))
    | (go_at_call 19; exact calls_below ((rfits_any x _).to (congrArg Value.bool HU.out.symm)))))
  refine wpQuiet_nil ?_
  intro wz hw'
  obtain ⟨p, hw''⟩ := hw'
  obtain ⟨w5, hw5⟩ : ∃ w5, w5 = p.w' := ⟨_, rfl⟩
  have H5 := Lib.hid (show Mt w w5 b x A A' by rw [hw5]; exact H4.out.2.below p.h)
  rw [← hw5] at hw''
  subst hw''
  clear c0 c1 c2 hw5
  have hn0 : (0 : Int) ≤ (n' : Int) := Int.natCast_nonneg _
  go_wp2_with fail
  go_loopw [5] (fun i wr => ∃ k d : Nat, k ≤ n' ∧ i = .int .i64 k ∧ wr = wz.drewN d) (fun i _ => n' - (intOf i).toNat)
  case atStart => exact ⟨0, 0, by omega, rfl, rfl⟩
  case round =>
    obtain ⟨k, d, hk, rfl, hw⟩ := hrel
    have HW2 := Lib.hid hw
    have hk0 : (0 : Int) ≤ (k : Int) := Int.natCast_nonneg _
    by_cases hlt : k < n'
    · have hk1 : (k : Int) < (n' : Int) := by omega
      have hkl : k < (abT x).length := by rw [← HQ.out]; exact hlt
      obtain ⟨ad, rfl, _, a0, a1, a2⟩ := th_at H5.out.r hkl
      obtain ⟨ad', rfl, _, b0, b1, b2⟩ := th_at H5.out.r' hkl
      have hcw : ∀ a, wr.cell? a = wz.cell? a := fun a => by rw [hw]; rfl
      have f0 := (hcw _).trans a0
      have f1 := (hcw _).trans a1
      have f2 := (hcw _).trans a2
      have g0 := (hcw _).trans b0
      have g1 := (hcw _).trans b1
      have g2 := (hcw _).trans b2
      obtain ⟨y, hy⟩ : ∃ y, y = (abT x)[k] := ⟨_, rfl⟩
      rw [← hy] at f0 f1 f2 g0 g1 g2
      have hne := neqTh y
      clear hw a0 a1 a2 b0 b1 b2 hcw hy
      go_wp2_with fail
      go_quiet (fail)
      go_wp2_with fail
      go_roundw
      case rel => exact ⟨k + 1, _, by omega, by go_num, by rw [HW2.out]; exact World.drewN_drewN _ _ _⟩
      case measure => simp [intOf]; omega
    · have hkn : ¬ ((k : Int) < (n' : Int)) := by omega
      have hb : Below w.heap.size w wr := by rw [hw]; exact below_dN H5.out.low _
      have HB := Lib.hid hb
      clear hw hb
      go_wp2_with fail
      go_ret
      exact ⟨rfl, HB.out⟩
end Go.Proofs.Ytbkffcopahiilaa
