/-
  PageOrder returns true for all rows of calls: in whatever order slots were put, the page is the same; the calls that are handed in are left as they were.
  No condition but the reach of the statement's form; the listed variables are tied by the card.
-/
import Derived.Deep.RegionHeld3
import Derived.Test.YtmgjoogfhkfooaaDoorPMap
import Derived.Test.YtmgjoogfhkfooaaDoorTie
import Derived.Test.YtmgjoogfhkfooaaDoorCards
import Derived.Lay
import Derived.MakeChecks
import Derived.JoinedOf
import Derived.Stop.Joined
import Derived.HandedShaped
namespace Go.Proofs.YtmgjoogfhkfooaaDoor
open Go.RowKit Go.Lib

/-- the slots seen so far -/
structure Seen (cl : List Cl) (k : Nat) (f : Int → Option Value) : Prop where
  two : ∀ x, f x = none ∨ f x = some (.bool true)
  all : ∀ j (hj : j < cl.length), j < k → f cl[j].slot = some (.bool true)
  apart : ∀ i j (hi : i < cl.length) (hj : j < cl.length), i < k → j < k → i ≠ j → cl[i].slot ≠ cl[j].slot
theorem Seen.step {cl : List Cl} {k : Nat} {f : Int → Option Value} (h : Seen cl k f) (hk : k < cl.length) (hn : f cl[k].slot = none) : Seen cl (k + 1) (fun x => if x = cl[k].slot then some (.bool true) else f x) := by
  have hne : ∀ j (hj : j < cl.length), j < k → cl[j].slot ≠ cl[k].slot := fun j hj hjk e => by
    have := h.all j hj hjk
    rw [e, hn] at this
    cases this
  refine ⟨fun x => ?_, fun j hj hjk => ?_, fun i j hi hj hik hjk hij => ?_⟩
  · split
    · exact .inr rfl
    · exact h.two x
  · split
    · rfl
    · rename_i he
      rcases Nat.lt_or_ge j k with h1 | h1
      · exact h.all j hj h1
      · exact absurd (by congr 1; simp only [show j = k by omega]) he
  · rcases Nat.lt_or_ge i k with h1 | h1
    · rcases Nat.lt_or_ge j k with h2 | h2
      · exact h.apart i j hi hj h1 h2 hij
      · simp only [show j = k by omega]
        exact hne i hi h1
    · have e : i = k := by omega
      simp only [e]
      exact fun e2 => hne j hj (by omega) e2.symm
def OrRel1 (w3 : World) (cl : List Cl) (i : Value) (wr : World) : Prop :=
  ∃ (k : Nat) (f : Int → Option Value), k ≤ cl.length ∧ i = .int .i64 k ∧ IMap Tryd.prog 3 wr w3.heap.size k f ∧ Seen cl k f ∧ Below w3.heap.size w3 wr
def OrRel2 (w : World) (cl : List Cl) (p q i : Value) (wr : World) : Prop :=
  ∃ (k : Nat) (A1 : Option Addr) (c1 : Nat) (l1 : List Int) (s1 : List Slot) (A2 : Option Addr) (c2 : Nat) (l2 : List Int) (s2 : List Slot), k ≤ cl.length ∧ i = .int .i64 k ∧ p = .slice A1 256 c1 ∧ q = .slice A2 256 c2 ∧
    PgV w wr A1 c1 l1 s1 ∧ PgV w wr A2 c2 l2 s2 ∧ Has cl (fun i => i < k) s1 ∧ Has cl (fun i => cl.length ≤ i + k) s2
/-- Put's answer, both ways in one -/
def PutIs (w0 w' : World) (s : List Slot) (k : Int) (b : List Int) (A' : Option Addr) (m c' : Nat) (ok : Bool) : Prop :=
  ok = true → m = 256 ∧ 0 ≤ k ∧ ∃ l, PgV w0 w' A' c' l (setP s k.toNat (some b))
theorem put_q {w0 w : World} {A : Option Addr} {c : Nat} {l : List Int} {s : List Slot} (h : PgV w0 w A c l s) (k : Int) (A2 : Option Addr) (n2 c2 : Nat) (b : List Int) (h2 : Rd w w.heap.size A2 n2 (cells b)) (hb : IsBytes b) :
    Calls Tryd.prog 15 #[.slice A 256 c, .int .i64 k, .slice A2 n2 c2] w fun e w' => ∃ (ok : Bool) (A' : Option Addr) (m c' : Nat), e = .returned (.tuple #[.slice A' m c', .bool ok]) ∧ Below w.heap.size w w' ∧ PutIs w0 w' s k b A' m c' ok := by
  refine (put_pgv h k A2 n2 c2 b h2 hb).mono ?_
  rintro e w' (⟨A5, c5, _, rfl, hb5⟩ | ⟨A5, c5, l5, hs0, hs1, _, rfl, hv5, hb5⟩)
  · exact ⟨false, A5, 0, c5, rfl, hb5, fun h => by cases h⟩
  · exact ⟨true, A5, 256, c5, rfl, hb5, fun _ => ⟨rfl, hs0, l5, hv5⟩⟩
/-- a call's slot and bytes lie where they lay -/
def CellsOf (a : Addr) (x : Cl) (w : World) : Prop := w.cell? ⟨a.block, a.off + 1, none⟩ = some (.int .i64 x.slot) ∧ w.cell? ⟨a.block, a.off + 2, none⟩ = some (.slice x.A x.n x.c)
theorem CellsOf.below {a : Addr} {x : Cl} {w w' : World} (h : CellsOf a x w) (hb : Below w.heap.size w w') : CellsOf a x w' :=
  ⟨(hb.cell (p := ⟨a.block, a.off + 1, none⟩) (World.block_lt_of_cell? _ _ h.1)).trans h.1, (hb.cell (p := ⟨a.block, a.off + 2, none⟩) (World.block_lt_of_cell? _ _ h.2)).trans h.2⟩
theorem zero_bool (w : World) : (zeroValue 4).run Tryd.prog w = .ok (.bool false) w := by
  cases hi : Tryd.prog.info? 4 with
  | none => exact absurd hi (by decide +kernel)
  | some i =>
    have h : (Tryd.prog.info? 4).map (·.zero) = some (some (.bool false)) := by kernel_rfl
    rw [hi] at h
    simp [zeroValue, typeInfo, hi, Option.some.inj h]

set_option maxRecDepth 100000 in
set_option maxHeartbeats 6400000 in
theorem pageOrder_walk (A : Option Addr) (c : Nat) (cl : List Cl) (w : World) (hc : CallsIn w w.heap.size A cl) (hl : cl.length ≤ c) (hm : c ≤ maxLen) :
    Calls Tryd.prog 7 #[.slice A cl.length c] w (YesB w) := by
  have HC := Lib.hid hc
  have HL := Lib.hid (Nat.le_trans hl hm)
  clear hc hl hm
  have hmm := @run_makeMap Tryd.prog
  go_enter Tryd.func7, Tryd.ntmps7
  go_wp2_with fail
  refine (alive_any w).mono ?_
  rintro e w1 ⟨rfl, h1⟩
  have HA := Lib.hid h1
  clear h1
  go_wp2_with fail
  refine (great_any A c cl w1 w.heap.size (HC.out.below HA.out (Nat.le_refl _)) HL.out).mono ?_
  rintro e w2 ⟨rfl, rfl | ⟨rfl, hfew, hsmall⟩⟩
  · go_wp2
    go_ret
    exact ⟨rfl, HA.out⟩
  clear hsmall
  go_wp2_with fail
  refine (new_any w1).mono ?_
  rintro e w2 ⟨g, rfl, hk, hg, hb⟩
  have H2 := Lib.hid (PgV.new HA.out hk hb)
  clear hk hg hb
  go_wp2_with fail
  refine (new_any w2).mono ?_
  rintro e w3 ⟨g', rfl, hk, hg, hb⟩
  have H3 := Lib.hid (And.intro (H2.out.below hb) (PgV.new H2.out.b hk hb))
  clear hk hg hb
  go_wp2_with fail
  go_loopw [6] (fun i wr => OrRel1 w3 cl i wr) (fun i _ => cl.length - (intOf i).toNat)
  case atStart => exact ⟨0, _, by omega, rfl, IMap.made w3, ⟨fun _ => .inl rfl, fun _ _ h => absurd h (by omega), fun _ _ _ _ h => absurd h (by omega)⟩, (Below.refl _ _).alloc (Nat.le_refl _) _⟩
  case round =>
    obtain ⟨k, f, hk, rfl, him, hseen, hbel⟩ := hrel
    have hk0 : (0 : Int) ≤ (k : Int) := Int.natCast_nonneg _
    have HS := Lib.hid hseen
    have HB := Lib.hid hbel
    have HI := Lib.hid him
    clear hseen hbel him
    by_cases hlt : k < cl.length
    · have HCW := Lib.hid ((HC.out.below (H3.out.1.b.trans (HB.out.mono H3.out.1.b.size)) (Nat.le_refl _)))
      obtain ⟨ad, rfl, _, d0, d1, d2⟩ := HCW.out.at_ hlt
      have hwf := WalkArith.wf_i64 (HCW.out.num cl[k] (List.getElem_mem hlt)).2.2.2.2
      obtain ⟨sl, hsl⟩ : ∃ sl, sl = cl[k].slot := ⟨_, rfl⟩
      rw [← hsl] at d1 hwf
      have hget := HI.out.get Tryd.underlying3 Tryd.underlying42 (zero_bool wr) sl hwf
      have HSL := Lib.hid hsl
      have HWF := Lib.hid hwf
      clear hsl hwf
      rcases HS.out.two sl with hf | hf
      · rw [hf] at hget
        have hget' : (Instr.lookup 42 (Value.map (some w3.heap.size)) (Value.int IntKind.i64 sl) false).run Tryd.prog wr = .ok (.bool false) wr := hget
        have HF := Lib.hid hf
        clear hget hf
        go_wp2_with (refine wpList_store_imap rfl _ _ _ rfl Tryd.underlying3 Tryd.underlying42 rfl HI.out ?k1 sl rfl HWF.out _ rfl ?_)
        case k1 => unfold maxLen; omega
        intro w4 him4 hgr
        have hb4 : Below w3.heap.size wr w4 := (Below.refl _ _).grown hgr HB.out.size (fun k hk => by cases hk; exact Nat.le_refl _)
        have HN := Lib.hid (show OrRel1 w3 cl (.int .i64 ((k : Int) + 1)) w4 from ⟨k + 1, _, by omega, by simp, him4, by rw [HSL.out]; exact HS.out.step hlt (by rw [← HSL.out]; exact HF.out), HB.out.trans hb4⟩)
        clear him4 hgr hb4
        go_wp2
        go_roundw
        case rel => exact HN.out
        case measure => simp [intOf]; omega
      · rw [hf] at hget
        have hget' : (Instr.lookup 42 (Value.map (some w3.heap.size)) (Value.int IntKind.i64 sl) false).run Tryd.prog wr = .ok (.bool true) wr := hget
        have HY := Lib.hid (H3.out.1.b.trans (HB.out.mono H3.out.1.b.size))
        clear hget hf
        go_wp2
        go_ret
        exact ⟨rfl, HY.out⟩
    · obtain rfl : k = cl.length := by omega
      have HAP := Lib.hid HS.out.apart
      have H5 := Lib.hid (And.intro (H3.out.1.below HB.out) (H3.out.2.below HB.out))
      clear hk
      go_wp2_with fail
      go_loopw [3, 4, 7] (fun p q i wr => OrRel2 w cl p q i wr) (fun _ _ i _ => cl.length - (intOf i).toNat)
      case atStart => exact ⟨0, _, _, _, _, _, _, _, _, by omega, rfl, rfl, rfl, H5.out.1, H5.out.2, (Has.nil cl).mono (fun i hi => ⟨fun h => h.elim, fun h => absurd h (by omega)⟩), (Has.nil cl).mono (fun i hi => ⟨fun h => h.elim, fun h => absurd h (by omega)⟩)⟩
      case round =>
        obtain ⟨k, A1, c1, l1, s1, A2, c2, l2, s2, hk, rfl, rfl, rfl, hv1, hv2, hh1, hh2⟩ := hrel
        have HV := Lib.hid (And.intro hv1 hv2)
        have HH := Lib.hid (And.intro hh1 hh2)
        have hk0 : (0 : Int) ≤ (k : Int) := Int.natCast_nonneg _
        clear hv1 hv2 hh1 hh2
        by_cases hlt : k < cl.length
        · have HCW := Lib.hid ((HC.out.below HV.out.1.b (Nat.le_refl _)))
          obtain ⟨m, hm⟩ : ∃ m : Nat, m = cl.length - 1 - k := ⟨_, rfl⟩
          have hml : m < cl.length := by omega
          have hmi : (cl.length : Int) - 1 - (k : Int) = (m : Int) := by omega
          have hm0 : (0 : Int) ≤ (m : Int) := Int.natCast_nonneg _
          have hw1 : IntKind.i64.wrap ((cl.length : Int) - 1) = (cl.length : Int) - 1 := by rw [IntKind.wrap_i64]; omega
          have hw2 : IntKind.i64.wrap (m : Int) = (m : Int) := by rw [IntKind.wrap_i64]; omega
          obtain ⟨ad, rfl, had, d0, d1, d2⟩ := HCW.out.at_ hlt
          have hrd := (HCW.out.rd cl[k] (List.getElem_mem hlt)).more HV.out.1.b.size
          have HN := Lib.hid (HCW.out.num cl[k] (List.getElem_mem hlt))
          obtain ⟨x, hx⟩ : ∃ x, x = cl[k] := ⟨_, rfl⟩
          rw [← hx] at d0 d1 d2 hrd HN
          have HX := Lib.hid hx
          have HRD := Lib.hid hrd
          have HM := Lib.hid hm
          clear hrd hx hm
          have HE := Lib.hid (show CellsOf (ad.add (k * 3)) x wr from ⟨d1, d2⟩)
          clear d0
          go_wp2_with fail
          go_region_held3 (fun w' => w'.cell? ⟨(ad.add (k * 3)).block, (ad.add (k * 3)).off + 1, none⟩ = some (.int .i64 x.slot) ∧ w'.cell? ⟨(ad.add (k * 3)).block, (ad.add (k * 3)).off + 2, none⟩ = some (.slice x.A x.n x.c))
            (first | exact HE5.out | exact ⟨d1, d2⟩ | exact HE.out | go_keep)
            (first | (go_at_call 15; refine (put_q (HV.out.1.below ((Below.refl _ wr).drew)) x.slot x.A x.n x.c x.data HRD.out HN.out.1).mono ?_; rintro e w5 ⟨ok, A5, m5, c5, rfl, hb5, hput5⟩; have hb5' : Below wr.heap.size wr w5 := ((Below.refl wr.heap.size wr).drew).trans hb5; have HE5 := Lib.hid (HE.out.below hb5')))
          have HV5 := Lib.hid (And.intro (HV.out.1.below hb5') (HV.out.2.below hb5'))
          have HC5 := Lib.hid (HCW.out.below hb5' (HV.out.1.b.size))
          have HPT := Lib.hid hput5
          clear hb5 hb5' hput5 d1 d2
          obtain ⟨ad', e9, _, e0, e1, e2⟩ := HC5.out.at_ hml
          obtain rfl := Option.some.inj e9
          have hrd := (HC5.out.rd cl[m] (List.getElem_mem hml)).more HV5.out.1.b.size
          have HN5 := Lib.hid (HC5.out.num cl[m] (List.getElem_mem hml))
          obtain ⟨y, hy⟩ : ∃ y, y = cl[m] := ⟨_, rfl⟩
          rw [← hy] at e0 e1 e2 hrd HN5
          have HY := Lib.hid hy
          have HRD5 := Lib.hid hrd
          have HEY := Lib.hid (show CellsOf (ad.add (m * 3)) y w5 from ⟨e1, e2⟩)
          clear hy hrd e0 e9
          go_wp2_with fail
          go_region_held3 (fun w' => w'.cell? ⟨(ad.add (m * 3)).block, (ad.add (m * 3)).off + 1, none⟩ = some (.int .i64 y.slot) ∧ w'.cell? ⟨(ad.add (m * 3)).block, (ad.add (m * 3)).off + 2, none⟩ = some (.slice y.A y.n y.c))
            (first | exact HE6.out | exact ⟨e1, e2⟩ | exact HEY.out | go_keep)
            (first | (go_at_call 15; refine (put_q (HV5.out.2.below ((Below.refl _ w5).drew)) y.slot y.A y.n y.c y.data HRD5.out HN5.out.1).mono ?_; rintro e w6 ⟨ok6, A6, m6, c6, rfl, hb6, hput6⟩; have hb6' : Below w5.heap.size w5 w6 := ((Below.refl w5.heap.size w5).drew).trans hb6; have HE6 := Lib.hid (HEY.out.below hb6')))
          have HB6 := Lib.hid (HV5.out.1.below hb6')
          have HB5T := Lib.hid hb6'
          have HPT6 := Lib.hid hput6
          clear hb6 hb6' hput6 e1 e2
          cases ok with
          | false =>
            go_wp2
            go_ret
            exact ⟨rfl, HB6.out.b⟩
          | true =>
            cases ok6 with
            | false =>
              go_wp2
              go_ret
              exact ⟨rfl, HB6.out.b⟩
            | true =>
              obtain ⟨rfl, hs0, l5, hv5⟩ := HPT.out rfl
              obtain ⟨rfl, ht0, l6, hv6⟩ := HPT6.out rfl
              have h1 := hs0
              rw [HX.out] at h1
              have h2 := ht0
              rw [HY.out] at h2
              have hh1 := HH.out.1.put hlt h1 (fun i hi hI => HAP.out i k hi hlt hi hlt (by omega))
              have hh2 := HH.out.2.put hml h2 (fun i hi hI => HAP.out i m hi hml hi hml (by have := HM.out; omega))
              rw [← HX.out] at hh1
              rw [← HY.out] at hh2
              have HF := Lib.hid (show OrRel2 w cl (.slice A5 256 c5) (.slice A6 256 c6) (.int .i64 ((k : Int) + 1)) w6 from
                ⟨k + 1, A5, c5, l5, _, A6, c6, l6, _, by omega, by simp, rfl, rfl, hv5.below HB5T.out, hv6, hh1.mono fun i hi => by omega, hh2.mono fun i hi => by have := HM.out; omega⟩)
              clear hh1 hh2 hs0 ht0 h1 h2 hv5 hv6
              go_wp2
              go_roundw
              case rel => exact HF.out
              case measure => simp [intOf]; omega
        · obtain rfl : k = cl.length := by omega
          have hs : s1 = s2 := (HH.out.1.mono fun i hi => ⟨fun _ => trivial, fun _ => hi⟩).same (HH.out.2.mono fun i hi => ⟨fun _ => trivial, fun _ => by omega⟩) HV.out.1.pg.trim HV.out.2.pg.trim
          have HSE := Lib.hid (same_any A1 A2 256 256 c1 c2 l1 l2 _ HV.out.1.sl.rd HV.out.2.sl.rd (by omega))
          rw [decide_eq_true (show l1 = l2 by rw [HV.out.1.pg.img, HV.out.2.pg.img, hs])] at HSE
          clear hs
          go_wp2_with fail
          refine HSE.out.mono ?_
          rintro e w6 ⟨rfl, hb6⟩
          have HB6 := Lib.hid (HV.out.1.b.trans (hb6.mono HV.out.1.b.size))
          clear hb6
          go_wp2
          go_ret
          exact ⟨rfl, HB6.out⟩

section
open Go.ChangeShapes Go.WideShapes Go.ChangeAt
open Go.ChangeMaps (open_string shut_string)
set_option linter.unusedVariables false
set_option maxRecDepth 100000 in
theorem pageOrder_lifted (os : Os) (started : os.Started) (H : Type) (enc : TypeId × Value → H) :
    ReturnsInHanded {} Tryd.checked os 7 .any (fun w args => (Rows.pageOrderSpec.pre enc Tryd.prog Tryd.f7 Rows.pageOrderRow.domain false w args ∧ laidMetH Tryd.prog Rows.pageOrderRow.laid w) ∧ sizedMet enc Tryd.prog Tryd.f7 (OpenSpec.ofChange Rows.pageOrderSpec) false w args)
      (Rows.pageOrderSpec.post enc Tryd.prog Tryd.f7 false true false false) := by
  refine returnsInHanded_of_change_and (C := Tryd.checked) (X := fun w _ => laidMetH Tryd.prog Rows.pageOrderRow.laid w) (fun _ _ _ hh h => h.of_heap hh) own started (by kernel_rfl) Tryd.func7
    (ChangeSpec.witness_shaped (enc := enc) (C := Tryd.checked) (os := os) (X := fun w _ => laidMetH Tryd.prog Rows.pageOrderRow.laid w) false (World.laidAll Tryd.prog os Rows.pageOrderRow.laid) #[.slice none 0 0] 8 (World.laidAll_os _ _ _)
      (World.shaped_of_ZipB (by kernel_rfl) (by kernel_rfl)) (by kernel_rfl) (by kernel_rfl) (by kernel_rfl)
      (by rw [MakeChecks.laidMetH_plain _ _ _ (by kernel_rfl)]; exact laidMet_laidAll _ (by kernel_rfl) (by kernel_rfl))) ?_
  intro W base args ds gs before hval0 hW hcnd hsz hL _
  have hval : ∀ (j : Nat) t v, Tryd.f7.params[j]? = some t → args[j]? = some v → Value.okWide Tryd.prog W .any base t v := hval0
  have hW' := hW
  obtain ⟨p, q, hA0, hV, rfl, hfz, hnd⟩ := hW
  have hA : DataW.TrodAll enc Tryd.prog W 0 (fun _ => true) true Tryd.f7.params.toList args.toList ds p := hA0
  rw [Tryd.params7] at hA hval
  obtain ⟨v0, vs0, d0, ds0, p0, q0, hargs, rfl, rfl, h0, r0⟩ := trodAll_cons hA
  obtain ⟨rfl, rfl, rfl⟩ := trodAll_nil r0
  obtain rfl : args = #[v0] := by cases args; simp_all
  obtain ⟨rfl, rfl⟩ := trodVars_none hV
  have k0 := h0
  have lt0 : ∀ x ∈ p0, x.block < W.heap.size := by obtain ⟨m, hm⟩ := k0; exact DataW.trod_lt m _ _ _ hm
  obtain ⟨a0, len0, cap0, rfl⟩ := okWide_slice Tryd.underlying27 (hval 0 27 v0 rfl rfl)
  obtain ⟨z0, rfl, l0, m0, o0, q0x, r0x⟩ := rd_of_calls Tryd.underlying27 Tryd.underlying31 (by kernel_rfl) ⟨rfl, by kernel_rfl, Tryd.underlying3⟩ ⟨rfl, by kernel_rfl, Tryd.underlying3⟩ ⟨rfl, by kernel_rfl, Tryd.underlying22⟩ Tryd.underlying5 (by kernel_rfl) h0
  clear hA0 hval0
  refine (pageOrder_walk a0 cap0 z0 W (CallsIn.of o0 q0x r0x) l0 m0).mono fun e W' ⟨he, bel⟩ => ?_
  subst he
  exact ⟨_, rfl, _, _, _, [], _, [], hW', trodAll_mk1 (shut_bool Tryd.underlying4 _), (trodAll_cons_mk (Below.trod laidOut (by kernel_rfl) (of_decide_eq_true (by kernel_rfl)) k0 bel lt0) trodAll_mk0), rfl, bel.frame _, fun h => by cases h⟩

theorem pageOrder_over : Rows.pageOrderRow.holds Tryd.pinned (OpenSpec.ofChange Rows.pageOrderSpec) :=
  OpenClaim.holds_of_wide 7 Tryd.f7 rfl rfl rfl rfl rfl rfl rfl ⟨rfl, rfl, rfl, rfl, rfl⟩ rfl rfl rfl rfl rfl (by kernel_rfl) Tryd.func7 (by kernel_rfl)
    (of_decide_eq_true (by kernel_rfl)) (by unfold Func.isWrapper; first | (rw [if_pos (by decide +kernel)]; kernel_rfl) | (rw [if_neg (by decide +kernel)]; exact ⟨rfl, rfl⟩))
    (fun os started H enc _ => pageOrder_lifted os started H enc)

theorem pageOrder_card : Rows.PageOrderCardSaid :=
  Claim7.holds_tied_plain_at .later [] [.data, .pinned] true _ false
    pageOrder_over (fun _ h => by cases h) (by kernel_rfl) (fun _ h => by cases h) pageOrder_row_tie rfl ⟨rfl, rfl⟩ (by kernel_rfl) rfl
    (fun f fn hf hfn => by
      obtain rfl : f = 7 := Option.some.inj ((show Tryd.prog.funcNamed Rows.pageOrderRow.func = some 7 by kernel_rfl).symm.trans hf) |>.symm
      obtain rfl : fn = Tryd.f7 := (Option.some.inj (Tryd.func7.symm.trans hfn)).symm
      have hall : (Tryd.f7.params.toList.all fun t => !Tryd.prog.wantsStandIn t) = true := by kernel_rfl
      exact ⟨by kernel_rfl, fun j t ht => by
        have h1 := List.all_eq_true.1 hall t (List.mem_of_getElem? (by simpa using ht))
        show Tryd.prog.wantsStandIn t = false
        simpa using h1⟩)
    (by kernel_rfl)
end
#print axioms pageOrder_card
end Go.Proofs.YtmgjoogfhkfooaaDoor
