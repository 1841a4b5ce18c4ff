/-
  ValueRows returns true for all rows, columns and bytes: RightRow, OrderRows, FitsRow, Encode and Decode answer what the document says; what is handed in is left as it was.
  No condition but the reach of the statement's form; the listed variables are tied by the card.
-/
import Derived.Test.YtkdcnkadngbccaaGreatDoorLiftZ
import Derived.Test.YtkdcnkadngbccaaGreatDoorTie
import Derived.Test.YtkdcnkadngbccaaGreatDoorCards
import Derived.Lay
import Derived.MakeChecks
import Derived.JoinedOf
import Derived.Stop.Joined
import Derived.HandedShaped
namespace Go.Proofs.YtkdcnkadngbccaaGreatDoor
open Go.RowKit Go.Lib

set_option maxRecDepth 100000 in
set_option maxHeartbeats 12800000 in
theorem valueRows_walk (A : Option Addr) (c : Nat) (xs : List Va) (A' : Option Addr) (c' : Nat) (ys : List Va) (A'' : Option Addr) (c'' : Nat) (cs : List Co) (Ab : Option Addr) (nb cb : Nat) (l : List Int) (w : World)
    (hr : RowIn w w.heap.size A xs) (hi : ∀ x ∈ xs, x.In) (hl : xs.length ≤ c) (hm : c ≤ maxLen) (hr' : RowIn w w.heap.size A' ys) (_hi' : ∀ x ∈ ys, x.In) (hl' : ys.length ≤ c') (hm' : c' ≤ maxLen)
    (hr'' : ColIn w w.heap.size A'' cs) (_hi'' : ∀ x ∈ cs, True) (_hl'' : cs.length ≤ c'') (_hm'' : c'' ≤ maxLen)
    (hrb : Rd w w.heap.size Ab nb (l.map (Value.int .u8))) (hwf : ∀ z ∈ l, (Lit.int .u8 z).wf = true) (hnb : l.length = nb) (_hlb : nb ≤ cb) (_hmb : cb ≤ maxLen) :
    Calls Tryz.prog 3 #[.slice A xs.length c, .slice A' ys.length c', .slice A'' cs.length c'', .slice Ab nb cb] w (YesB w) := by
  subst hnb
  have HI := Lib.hid hi
  have HL := Lib.hid (And.intro (Nat.le_trans hl hm) (Nat.le_trans hl' hm'))
  have HBB := Lib.hid (isBytes_of_wf hwf)
  have H0 := Lib.hid (show ZA w w [(A, xs), (A', ys)] [(Ab, l)] A'' cs from ⟨fun p hp => by
    rcases List.mem_cons.1 hp with rfl | hp
    · exact hr
    · rw [List.mem_singleton.1 hp]; exact hr', fun p hp => by rw [List.mem_singleton.1 hp]; exact hrb, hr'', Below.refl _ _⟩)
  clear hi hl hm hl' hm' hr hr' hr'' hrb hwf _hi' _hi'' _hl'' _hm'' _hlb _hmb
  go_enter Tryz.func3, Tryz.ntmps3
  go_wp2_with fail
  refine (alive_any w).mono ?_
  rintro e w1 ⟨rfl, h1⟩
  have H1 := Lib.hid (H0.out.step h1)
  clear h1
  go_wp2_with fail
  refine (long_any A c xs w1 _ (H1.out.rows (A, xs) (by simp)) HL.out.1).mono ?_
  rintro e w2 ⟨rfl, rfl | ⟨rfl, hn⟩⟩
  · go_wp2_with fail
    go_wp2
    go_ret
    exact ⟨rfl, H1.out.bel⟩
  go_wp2_with fail
  refine (long_any A' c' ys _ _ (H1.out.rows (A', ys) (by simp)) HL.out.2).mono ?_
  rintro e w2 ⟨rfl, rfl | ⟨rfl, hn'⟩⟩
  · go_wp2_with fail
    go_wp2
    go_ret
    exact ⟨rfl, H1.out.bel⟩
  have HN := Lib.hid (And.intro hn hn')
  clear hn hn'
  by_cases h3 : 100 < cs.length
  · have h3i : (100 : Int) < (cs.length : Int) := by omega
    go_wp2_with fail
    go_wp2
    go_ret
    exact ⟨rfl, H1.out.bel⟩
  have h3i : ¬ (100 : Int) < (cs.length : Int) := by omega
  by_cases h4 : 1000 < l.length
  · have h4i : (1000 : Int) < (l.length : Int) := by omega
    go_wp2_with fail
    go_wp2
    go_ret
    exact ⟨rfl, H1.out.bel⟩
  have h4i : ¬ (1000 : Int) < (l.length : Int) := by omega
  have HOK := Lib.hid (show ∀ x ∈ xs, VaOk x from fun x hx => ⟨(HI.out x hx).1, (HI.out x hx).2.1, by have := HN.out.1.2 x hx; omega⟩)
  go_wp2_with fail
  refine (copyRow_any A c xs w1 (H1.out.rows (A, xs) (by simp)) (by have := HN.out.1.1; omega)).mono ?_
  rintro e w3 ⟨v3, rfl, hown3, hb3⟩
  obtain ⟨A1, c1, rfl, _, _⟩ := own3_shape hown3
  have H3 := Lib.hid ((H1.out.step hb3).add (RowIn.of_own hown3))
  clear hown3 hb3
  go_wp2_with fail
  refine (encode_any A1 c1 xs w3 (H3.out.rows (A1, xs) (by simp)) HL.out.1 HOK.out).mono ?_
  intro e w4 he4
  obtain ⟨A4, c4, rfl, hrd4, hb4⟩ := he4.flat
  have H4 := Lib.hid ((H3.out.step hb4).addB hrd4)
  clear he4 hrd4 hb4
  go_wp2_with fail
  refine (refEncode_any A c xs w4 (H4.out.rows (A, xs) (by simp)) HL.out.1 HOK.out).mono ?_
  intro e w5 he5
  obtain ⟨A5, c5, rfl, hrd5, hb5⟩ := he5.flat
  have H5 := Lib.hid ((H4.out.step hb5).addB hrd5)
  clear he5 hrd5 hb5
  have hel := encO_len HOK.out
  obtain ⟨x, hx⟩ : ∃ x, x = encO xs := ⟨_, rfl⟩
  rw [← hx] at hel H5 ⊢
  clear hx
  go_wp2_with fail
  refine (decode_any Ab cb l w5 (H5.out.bs (Ab, l) (by simp)) HBB.out (by omega)).mono ?_
  intro e w6 he6
  obtain ⟨A6, c6, rfl, hrow6, hb6, _⟩ := he6.flat
  have H6 := Lib.hid ((H5.out.step hb6).add hrow6)
  clear he6 hrow6 hb6
  go_wp2_with fail
  refine (refDecode_any Ab cb l w6 (H6.out.bs (Ab, l) (by simp)) HBB.out (by omega)).mono ?_
  intro e w7 he7
  obtain ⟨A7, c7, rfl, hrow7, hb7, hd8⟩ := he7.flat
  have H7 := Lib.hid ((H6.out.step hb7).add hrow7)
  clear he7 hrow7 hb7
  obtain ⟨ds, hds⟩ : ∃ ds, ds = decO l := ⟨_, rfl⟩
  obtain ⟨db, hdb⟩ : ∃ db, db = decOk l := ⟨_, rfl⟩
  obtain ⟨p, hp⟩ : ∃ p, p = rightR xs := ⟨_, rfl⟩
  rw [← hds] at hd8 H7 ⊢
  rw [← hdb, ← hp]
  have HP := Lib.hid hp
  have hpp : (p == p) = true := by simp
  have hdd : (db == db) = true := by simp
  clear hds hdb hp
  go_wp2_with fail
  refine (rightRow_any A1 c1 xs w7 (H7.out.rows (A1, xs) (by simp)) HL.out.1).mono ?_
  rw [← HP.out]
  rintro e w8 ⟨rfl, hb8⟩
  have H8 := Lib.hid (H7.out.step hb8)
  clear hb8
  go_wp2_with fail
  refine (refRightRow_any A c xs w8 (H8.out.rows (A, xs) (by simp)) HL.out.1).mono ?_
  rw [← HP.out]
  rintro e w9 ⟨rfl, hb9⟩
  have H9 := Lib.hid (H8.out.step hb9)
  clear hb9
  go_wp2_with fail
  refine (orderRows_any A1 A' c1 c' xs ys w9 (H9.out.rows (A1, xs) (by simp)) (H9.out.rows (A', ys) (by simp)) HL.out.1 HL.out.2).mono ?_
  obtain ⟨z, hz⟩ : ∃ z, z = ordR xs ys := ⟨_, rfl⟩
  rw [← hz]
  have HZ := Lib.hid hz
  have hzz : (z == z) = true := by simp
  clear hz
  rintro e w10 ⟨rfl, hb10⟩
  have H10 := Lib.hid (H9.out.step hb10)
  clear hb10
  go_wp2_with fail
  refine (refOrderRows_any A A' c c' xs ys w10 (H10.out.rows (A, xs) (by simp)) (H10.out.rows (A', ys) (by simp)) (by have := HN.out.1.1; omega) (by have := HN.out.2.1; omega) (fun x hx => by have := HN.out.1.2 x hx; omega) (fun x hx => by have := HN.out.2.2 x hx; omega)).mono ?_
  rw [← HZ.out]
  rintro e w11 ⟨rfl, hb11⟩
  have H11 := Lib.hid (H10.out.step hb11)
  clear hb11
  go_wp2_with fail
  refine (fitsRow_any A1 A'' c1 c'' xs cs w11 (H11.out.rows (A1, xs) (by simp)) H11.out.cols (by have := HN.out.1.1; omega) (by omega)).mono ?_
  obtain ⟨f, hf⟩ : ∃ f, f = fitsR xs cs := ⟨_, rfl⟩
  rw [← hf]
  have HF := Lib.hid hf
  have hff : (f == f) = true := by simp
  clear hf
  rintro e w12 ⟨rfl, hb12⟩
  have H12 := Lib.hid (H11.out.step hb12)
  clear hb12
  go_wp2_with fail
  refine (refFitsRow_any A A'' c c'' xs cs w12 (H12.out.rows (A, xs) (by simp)) H12.out.cols (by have := HN.out.1.1; omega) (by omega)).mono ?_
  rw [← HF.out]
  rintro e w13 ⟨rfl, hb13⟩
  have H13 := Lib.hid (H12.out.step hb13)
  clear hb13
  go_wp2_with fail
  refine (sameBytes_yes A4 A5 x.length c4 c5 x w13 _ _ (H13.out.bs (A4, x) (by simp)) (H13.out.bs (A5, x) (by simp)) (by omega)).mono ?_
  rintro e w14 ⟨rfl, d, hw14⟩
  have H14 := Lib.hid (show ZA w w14 _ _ A'' cs by rw [hw14]; exact H13.out.draws d)
  clear hw14
  go_wp2_with fail
  refine (sameRow_any A6 A7 c6 c7 ds ds w14 _ _ (H14.out.rows (A6, ds) (by simp)) (H14.out.rows (A7, ds) (by simp)) (by unfold maxLen; omega)).mono ?_
  rw [decide_eq_true rfl]
  rintro e w15 ⟨rfl, d, hw15⟩
  have H15 := Lib.hid (show ZA w w15 _ _ A'' cs by rw [hw15]; exact H14.out.draws d)
  clear hw15
  go_wp2_with fail
  refine (sameRow_any A1 A c1 c xs xs w15 _ _ (H15.out.rows (A1, xs) (by simp)) (H15.out.rows (A, xs) (by simp)) HL.out.1).mono ?_
  rw [decide_eq_true rfl]
  rintro e w16 ⟨rfl, d, hw16⟩
  have H16 := Lib.hid (show ZA w w16 _ _ A'' cs by rw [hw16]; exact H15.out.draws d)
  clear hw16
  go_wp2
  go_ret
  exact ⟨rfl, H16.out.bel⟩

section
open Go.ChangeShapes Go.WideShapes Go.ChangeAt
open Go.ChangeMaps (open_string shut_string)
set_option linter.unusedVariables false
set_option maxRecDepth 100000 in
theorem valueRows_lifted (os : Os) (started : os.Started) (H : Type) (enc : TypeId × Value → H) :
    ReturnsInHanded {} Tryz.checked os 3 .any (fun w args => (Rows.valueRowsSpec.pre enc Tryz.prog Tryz.f3 Rows.valueRowsRow.domain false w args ∧ laidMetH Tryz.prog Rows.valueRowsRow.laid w) ∧ sizedMet enc Tryz.prog Tryz.f3 (OpenSpec.ofChange Rows.valueRowsSpec) false w args)
      (Rows.valueRowsSpec.post enc Tryz.prog Tryz.f3 false true false false) := by
  refine returnsInHanded_of_change_and (C := Tryz.checked) (X := fun w _ => laidMetH Tryz.prog Rows.valueRowsRow.laid w) (fun _ _ _ hh h => h.of_heap hh) own started (by kernel_rfl) Tryz.func3
    (ChangeSpec.witness_shaped (enc := enc) (C := Tryz.checked) (os := os) (X := fun w _ => laidMetH Tryz.prog Rows.valueRowsRow.laid w) false (World.laidAll Tryz.prog os Rows.valueRowsRow.laid) #[.slice none 0 0, .slice none 0 0, .slice none 0 0, .slice none 0 0] 8 (World.laidAll_os _ _ _)
      (World.shaped_of_ZipB (by kernel_rfl) (by kernel_rfl)) (by kernel_rfl) (by kernel_rfl) (by kernel_rfl)
      (by rw [MakeChecks.laidMetH_plain _ _ _ (by kernel_rfl)]; exact laidMet_laidAll _ (by kernel_rfl) (by kernel_rfl))) ?_
  intro W base args ds gs before hval0 hW hcnd hsz hL _
  have hval : ∀ (j : Nat) t v, Tryz.f3.params[j]? = some t → args[j]? = some v → Value.okWide Tryz.prog W .any base t v := hval0
  have hW' := hW
  obtain ⟨p, q, hA0, hV, rfl, hfz, hnd⟩ := hW
  have hA : DataW.TrodAll enc Tryz.prog W 0 (fun _ => true) true Tryz.f3.params.toList args.toList ds p := hA0
  rw [Tryz.params3] at hA hval
  obtain ⟨v0, vs0, d0, ds0, p0, q0, hargs, rfl, rfl, h0, r0⟩ := trodAll_cons hA
  obtain ⟨v1, vs1, d1, ds1, p1, q1, rfl, rfl, rfl, h1, r1⟩ := trodAll_cons r0
  obtain ⟨v2, vs2, d2, ds2, p2, q2, rfl, rfl, rfl, h2, r2⟩ := trodAll_cons r1
  obtain ⟨v3, vs3, d3, ds3, p3, q3, rfl, rfl, rfl, h3, r3⟩ := trodAll_cons r2
  obtain ⟨rfl, rfl, rfl⟩ := trodAll_nil r3
  obtain rfl : args = #[v0, v1, v2, v3] := by cases args; simp_all
  obtain ⟨rfl, rfl⟩ := trodVars_none hV
  have k0 := h0
  have lt0 : ∀ x ∈ p0, x.block < W.heap.size := by obtain ⟨m, hm⟩ := k0; exact DataW.trod_lt m _ _ _ hm
  have k1 := h1
  have lt1 : ∀ x ∈ p1, x.block < W.heap.size := by obtain ⟨m, hm⟩ := k1; exact DataW.trod_lt m _ _ _ hm
  have k2 := h2
  have lt2 : ∀ x ∈ p2, x.block < W.heap.size := by obtain ⟨m, hm⟩ := k2; exact DataW.trod_lt m _ _ _ hm
  have k3 := h3
  have lt3 : ∀ x ∈ p3, x.block < W.heap.size := by obtain ⟨m, hm⟩ := k3; exact DataW.trod_lt m _ _ _ hm
  obtain ⟨a0, len0, cap0, rfl⟩ := okWide_slice Tryz.underlying23 (hval 0 23 v0 rfl rfl)
  obtain ⟨z0, rfl, l0, m0, i0x, r0x⟩ := rd_of_rows Tryz.underlying23 Tryz.underlying40 (by kernel_rfl) ⟨rfl, by kernel_rfl, Tryz.underlying3⟩ ⟨rfl, by kernel_rfl, Tryz.underlying3⟩ ⟨rfl, by kernel_rfl, Tryz.underlying9⟩ h0
  obtain ⟨a1, len1, cap1, rfl⟩ := okWide_slice Tryz.underlying23 (hval 1 23 v1 rfl rfl)
  obtain ⟨z1, rfl, l1, m1, i1x, r1x⟩ := rd_of_rows Tryz.underlying23 Tryz.underlying40 (by kernel_rfl) ⟨rfl, by kernel_rfl, Tryz.underlying3⟩ ⟨rfl, by kernel_rfl, Tryz.underlying3⟩ ⟨rfl, by kernel_rfl, Tryz.underlying9⟩ h1
  obtain ⟨a2, len2, cap2, rfl⟩ := okWide_slice Tryz.underlying24 (hval 2 24 v2 rfl rfl)
  obtain ⟨z2, rfl, l2, m2, i2x, r2x⟩ := rd_of_cols Tryz.underlying24 Tryz.underlying64 (by kernel_rfl) ⟨rfl, by kernel_rfl, Tryz.underlying9⟩ ⟨rfl, by kernel_rfl, Tryz.underlying3⟩ ⟨rfl, by kernel_rfl, Tryz.underlying4⟩ h2
  obtain ⟨a3, len3, cap3, rfl⟩ := okWide_slice Tryz.underlying25 (hval 3 25 v3 rfl rfl)
  obtain ⟨z3, r3x, w3, e3, l3, m3⟩ := rd_of_ints Tryz.underlying25 Tryz.underlying5 (by kernel_rfl) h3
  clear hA0 hval0
  refine (valueRows_walk a0 cap0 z0 a1 cap1 z1 a2 cap2 z2 a3 len3 cap3 z3 W r0x i0x l0 m0 r1x i1x l1 m1 r2x i2x l2 m2 r3x w3 e3 l3 m3).mono fun e W' ⟨he, bel⟩ => ?_
  subst he
  exact ⟨_, rfl, _, _, _, [], _, [], hW', trodAll_mk1 (shut_bool Tryz.underlying4 _), (trodAll_cons_mk (Below.trod laidOut (by kernel_rfl) (of_decide_eq_true (by kernel_rfl)) k0 bel lt0) (trodAll_cons_mk (Below.trod laidOut (by kernel_rfl) (of_decide_eq_true (by kernel_rfl)) k1 bel lt1) (trodAll_cons_mk (Below.trod laidOut (by kernel_rfl) (of_decide_eq_true (by kernel_rfl)) k2 bel lt2) (trodAll_cons_mk (Below.trod laidOut (by kernel_rfl) (of_decide_eq_true (by kernel_rfl)) k3 bel lt3) trodAll_mk0)))), rfl, bel.frame _, fun h => by cases h⟩

theorem valueRows_over : Rows.valueRowsRow.holds Tryz.pinned (OpenSpec.ofChange Rows.valueRowsSpec) :=
  OpenClaim.holds_of_wide 3 Tryz.f3 rfl rfl rfl rfl rfl rfl rfl ⟨rfl, rfl, rfl, rfl, rfl⟩ rfl rfl rfl rfl rfl (by kernel_rfl) Tryz.func3 (by kernel_rfl)
    (of_decide_eq_true (by kernel_rfl)) (by unfold Func.isWrapper; first | (rw [if_pos (by decide +kernel)]; kernel_rfl) | (rw [if_neg (by decide +kernel)]; exact ⟨rfl, rfl⟩))
    (fun os started H enc _ => valueRows_lifted os started H enc)

theorem valueRows_card : Rows.ValueRowsCardSaid :=
  Claim7.holds_tied_plain_at .later [] [.data, .data, .data, .sentinel, .sentinel] true _ true
    valueRows_over (fun _ h => by cases h) (by kernel_rfl) (fun _ h => by cases h) valueRows_row_tie rfl ⟨rfl, rfl⟩ (by kernel_rfl) rfl
    (fun f fn hf hfn => by
      obtain rfl : f = 3 := Option.some.inj ((show Tryz.prog.funcNamed Rows.valueRowsRow.func = some 3 by kernel_rfl).symm.trans hf) |>.symm
      obtain rfl : fn = Tryz.f3 := (Option.some.inj (Tryz.func3.symm.trans hfn)).symm
      have hall : (Tryz.f3.params.toList.all fun t => !Tryz.prog.wantsStandIn t) = true := by kernel_rfl
      exact ⟨by kernel_rfl, fun j t ht => by
        have h1 := List.all_eq_true.1 hall t (List.mem_of_getElem? (by simpa using ht))
        show Tryz.prog.wantsStandIn t = false
        simpa using h1⟩)
    (by kernel_rfl)
end
#print axioms valueRows_card
end Go.Proofs.YtkdcnkadngbccaaGreatDoor
