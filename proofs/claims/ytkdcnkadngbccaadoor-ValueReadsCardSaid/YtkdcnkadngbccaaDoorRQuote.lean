/-
  The document's own Read of a text in quotes, and of every text.
-/
import Derived.Test.YtkdcnkadngbccaaDoorRRead
import Derived.Test.YtkdcnkadngbccaaDoorCmpV
namespace Go.Proofs.YtkdcnkadngbccaaDoor
open Go.RowKit Go.Lib

theorem drewN1 {B : Nat} {w0 w : World} (h : Below B w0 w) (n : Nat) : Below B w0 (w.drewN n) := h.trans ⟨rfl, rfl, rfl, Nat.le_refl _, fun _ _ => rfl⟩
/-- what holds at the head of the loop -/
def RdRel (W : World) (m : List Int) (v i : Value) (wr : World) : Prop :=
  ∃ (k : Nat) (done : List Int), 1 ≤ k ∧ k ≤ m.length ∧ i = .int .i64 k ∧ done.length ≤ k ∧ IsBytes done ∧ decF (m.drop 1) = (decF (m.drop k)).map (done ++ ·) ∧ wr.ownsRow W.heap.size 5 1 v done.length (cells done) ∧ Below W.heap.size W wr
theorem RdRel.step {w wr w1 : World} {m done : List Int} {k k' : Nat} {v v' : Value} {i : Value} {n : Nat} {x : Int} (h1 : 1 ≤ k') (hk : k' ≤ m.length) (hi : i = .int .i64 k') (hkk : k + 1 ≤ k') (hd : done.length ≤ k) (hib : IsBytes done) (hx : IsBytes [x])
    (he : decF (m.drop 1) = (decF (m.drop k)).map (done ++ ·)) (hu : decF (m.drop k) = (decF (m.drop k')).map (x :: ·)) (hown : wr.ownsRow w.heap.size 5 1 v done.length (cells done)) (hb : Below w.heap.size w wr) (o : Obj) (hn : n = done.length + 1)
    (hown1 : w1.ownsRow w.heap.size 5 1 v' n (cells done ++ [.int .u8 x])) (hgr : (wr.alloc o).grownBy w1 v.ownBlock) : RdRel w m v' i w1 := by
  refine ⟨k', done ++ [x], h1, hk, hi, by simp; omega, ?_, ?_, ?_, (hb.alloc hb.size o).trans (below_own (hown.alloc o) hgr (by have := hb.size; simp; omega))⟩
  · intro b hb
    rcases List.mem_append.1 hb with h | h
    · exact hib b h
    · exact hx b h
  · rw [he, hu, Option.map_map]
    congr 1
    funext r
    simp
  · have e1 : (done ++ [x]).length = n := by rw [hn]; simp
    have e2 : cells (done ++ [x]) = cells done ++ [.int .u8 x] := by simp [cells]
    rw [e1, e2]; exact hown1

set_option maxRecDepth 100000 in
set_option maxHeartbeats 6400000 in
theorem refRead_quote (s : ByteArray) (w : World) (hs : s.size ≤ 1000) (n1 : s ≠ ⟨#[110, 117, 108, 108]⟩) (n2 : s ≠ ⟨#[102, 97, 108, 115, 101]⟩) (n3 : s ≠ ⟨#[116, 114, 117, 101]⟩) (hq2 : 2 ≤ s.size) (h34 : (bytes s).head? = some 34) (h34b : (bytes s).getLast? = some 34) :
    Calls Tryd.prog 21 #[.string s] w (ReadRet (meantV s).k (meantV s).n (meantV s).s (readOk s) w) := by
  obtain ⟨i0, hi, hz0, hz1, hz2⟩ := info_parts Tryd.info5
  have en1 := str_no (m := [110, 117, 108, 108]) n1 (by rw [ByteArray.toList_eq])
  have en2 := str_no (m := [102, 97, 108, 115, 101]) n2 (by rw [ByteArray.toList_eq])
  have en3 := str_no (m := [116, 114, 117, 101]) n3 (by rw [ByteArray.toList_eq])
  have a0 : (s[0]'(by omega)).toNat = 34 := by rw [bytes_head (by omega)] at h34; have := Option.some.inj h34; omega
  have a1 : (s[s.size - 1]'(by omega)).toNat = 34 := by rw [bytes_last (by omega)] at h34b; have := Option.some.inj h34b; omega
  have hge : (2 : Int) ≤ (s.size : Int) := by omega
  obtain ⟨m, hm⟩ : ∃ m, m = (bytes s).take ((bytes s).length - 1) := ⟨_, rfl⟩
  have hml : m.length = s.size - 1 := by rw [hm, List.length_take, bytes_len]; omega
  have hmi : ∀ (k : Nat) (i : Int) (_ : i = k) (h : k < m.length) (w : World), (Instr.index 9 (.string s) (.int .i64 i)).run Tryd.prog w = .ok (.int .u8 (m[k])) w := by
    intro k i e h w
    have hk : k < (bytes s).length := by rw [bytes_len]; omega
    have e2 : m[k] = (bytes s)[k] := by simp only [hm, List.getElem_take]
    rw [e2]
    exact str_index s k i e hk w
  have hmb : ∀ (k : Nat) (h : k < m.length), 0 ≤ m[k] ∧ m[k] ≤ 255 := by
    intro k h
    have hk : k < (bytes s).length := by rw [bytes_len]; omega
    have e2 : m[k] = (bytes s)[k] := by simp only [hm, List.getElem_take]
    have := bytes_is s m[k] (by rw [e2]; exact List.getElem_mem _)
    omega
  have HM := Lib.hid (And.intro hm (And.intro hmi hmb))
  have H34 := Lib.hid h34
  have hsub : IntKind.i64.wrap ((s.size : Int) - 1) = (s.size : Int) - 1 := IntWalk.i64_in _ (by omega)
  clear hm hmi hmb h34 h34b n1 n2 n3
  go_enter Tryd.func21, Tryd.ntmps21
  go_wp2_with fail
  have hzb := (Blk.new w 23 #[.int .i64 0, .int .i64 0, .string ⟨#[]⟩]).alloc (.cells #[.int .i64 3, .int .i64 0, .string ⟨#[]⟩] 23)
  have hkb := Blk.new (w.alloc (.cells #[.int .i64 0, .int .i64 0, .string ⟨#[]⟩] 23)) 23 #[.int .i64 3, .int .i64 0, .string ⟨#[]⟩]
  rw [show (w.alloc (.cells #[.int .i64 0, .int .i64 0, .string ⟨#[]⟩] 23)).heap.size = w.heap.size + 1 by simp] at hkb
  have hbb := ((Below.refl w.heap.size w).alloc (Nat.le_refl _) (.cells #[.int .i64 0, .int .i64 0, .string ⟨#[]⟩] 23)).alloc (by simp) (.cells #[.int .i64 3, .int .i64 0, .string ⟨#[]⟩] 23)
  obtain ⟨W, hW⟩ : ∃ W, W = (w.alloc (.cells #[.int .i64 0, .int .i64 0, .string ⟨#[]⟩] 23)).alloc (.cells #[.int .i64 3, .int .i64 0, .string ⟨#[]⟩] 23) := ⟨_, rfl⟩
  rw [← hW] at hzb hkb hbb
  have HW := Lib.hid (And.intro hzb (And.intro hkb hbb))
  have hWs : w.heap.size + 1 + 1 = W.heap.size := by rw [hW]; simp
  have HWS := Lib.hid hWs
  have HWE := Lib.hid hW
  rw [← hW]
  clear hzb hkb hbb hW hWs
  go_loopw [5, 6] (fun v i wr => RdRel W m v i wr) (fun _ i _ => s.size + 2 - (Lib.intOf i).toNat)
  case atStart =>
    rw [HWS.out]
    exact ⟨1, [], by omega, by omega, rfl, by simp, (by intro b hb; cases hb), by simp, by simpa [cells] using World.ownsRow_lit (base := W.heap.size) (size := 1) (e := 5) W #[] 0 (Nat.le_refl _) (by simp [maxLen]) (by simp), (Below.refl _ _).alloc (Nat.le_refl _) _⟩
  case round =>
    obtain ⟨k, done, hk1, hk2, rfl, hd, hib, he, hown, hb⟩ := hrel
    have hk0 : (0 : Int) ≤ (k : Int) := Int.natCast_nonneg _
    have hsz := hb.size
    have HZR := Lib.hid (HW.out.1.below hb HW.out.1.lt)
    have HKR := Lib.hid (HW.out.2.1.below hb HW.out.2.1.lt)
    have HBR := Lib.hid (HW.out.2.2.trans (hb.mono HW.out.2.2.size))
    by_cases hlt : k < m.length
    · have hlt1 : (k : Int) < (s.size : Int) - 1 := by omega
      have ix0 := HM.out.2.1 k k rfl hlt
      have hab := HM.out.2.2 k hlt
      obtain ⟨a, ha⟩ : ∃ a, a = m[k]'hlt := ⟨_, rfl⟩
      rw [← ha] at ix0 hab
      by_cases h92 : a = 92
      · subst h92
        have hw2 : IntKind.i64.wrap ((k : Int) + 2) = (k : Int) + 2 := IntWalk.i64_in _ (by omega)
        by_cases hlt2 : k + 2 < m.length
        · have hg2 : ¬ (s.size : Int) - 1 ≤ (k : Int) + 2 := by omega
          have hd3 : decide ((s.size : Int) - 1 ≤ (k : Int) + 2) = false := by simp; omega
          have hw1 : IntKind.i64.wrap ((k : Int) + 1) = (k : Int) + 1 := IntWalk.i64_in _ (by omega)
          have hw3 : IntKind.i64.wrap ((k : Int) + 2 + 1) = (k : Int) + 3 := by rw [show (k : Int) + 2 + 1 = (k : Int) + 3 by omega]; exact IntWalk.i64_in _ (by omega)
          have hu := dec_esc hlt2 ha.symm
          have ix1 := HM.out.2.1 (k + 1) ((k : Int) + 1) (by omega) (by omega)
          have ix2 := HM.out.2.1 (k + 2) ((k : Int) + 2) (by omega) (by omega)
          obtain ⟨b, hb'⟩ : ∃ b, b = m[k + 1]'(by omega) := ⟨_, rfl⟩
          obtain ⟨c, hc'⟩ : ∃ c, c = m[k + 2]'(by omega) := ⟨_, rfl⟩
          rw [← hb'] at ix1 hu
          rw [← hc'] at ix2 hu
          have HC1 := Lib.hid (place_any b)
          have HC2 := Lib.hid (place_any c)
          have hpb := plc_bd b
          have hqb := plc_bd c
          obtain ⟨p, hp⟩ : ∃ p, p = plc b := ⟨_, rfl⟩
          obtain ⟨q, hq⟩ : ∃ q, q = plc c := ⟨_, rfl⟩
          rw [← hp] at HC1 hpb hu
          rw [← hq] at HC2 hqb hu
          have hm1 : IntKind.i64.wrap (p * 16) = p * 16 := IntWalk.i64_in _ (by omega)
          have hm2 : IntKind.i64.wrap (p * 16 + q) = p * 16 + q := IntWalk.i64_in _ (by omega)
          have hm3 : IntKind.u8.wrap (p * 16 + q) = (p * 16 + q) % 256 := by rw [IntKind.wrap_u8]
          have HQ := Lib.hid (And.intro hown (And.intro hb (And.intro he (And.intro hd (And.intro hu hib)))))
          have HA := Lib.hid (And.intro ha (And.intro hb' (And.intro hc' (And.intro hp hq))))
          clear hown hb he hd hu ha hb' hc' hp hq hib
          go_wp2_with fail
          go_quiet (first | (go_at_call 42; first | (with_reducible exact Calls.quiet_of_same (HC1.out _)) | (with_reducible exact Calls.quiet_of_same (HC2.out _))))
          go_wp2_with fail
          refine (HC1.out _).mono ?_
          rintro e w5 ⟨rfl, hw5⟩
          obtain rfl := hw5
          by_cases hp0 : p < 0
          · have HNO := Lib.hid (quote_none H34.out (show decF (((bytes s).take ((bytes s).length - 1)).drop 1) = none by rw [← HM.out.1, HQ.out.2.2.1, HQ.out.2.2.2.2.1, if_pos (.inl hp0)]; rfl))
            have z0 := (HZR.out.drewN nq).cell 0
            have z1 := (HZR.out.drewN nq).cell 1
            have z2 := (HZR.out.drewN nq).cell 2
            simp only [List.getElem?_toArray, List.getElem?_cons_zero, List.getElem?_cons_succ] at z0 z1 z2
            have y0 := (HZR.out.drewN nq).frozen 0
            have y1 := (HZR.out.drewN nq).frozen 1
            have y2 := (HZR.out.drewN nq).frozen 2
            have HF := Lib.hid ((((HZR.out.drewN nq).put 0 (.int .i64 0)).put 1 (.int .i64 0)).put 2 (.string ⟨#[]⟩))
            have HBF := Lib.hid ((((drewN1 HBR.out nq).setCell (p := ⟨w.heap.size, 0, none⟩) (Nat.le_refl _) (.int .i64 0)).setCell (p := ⟨w.heap.size, 1, none⟩) (Nat.le_refl _) (.int .i64 0)).setCell (p := ⟨w.heap.size, 2, none⟩) (Nat.le_refl _) (.string ⟨#[]⟩))
            go_wp2
            have f0 := HF.out.cell 0
            have f1 := HF.out.cell 1
            have f2 := HF.out.cell 2
            simp at f0 f1 f2
            refine bodyPost_ret (by rw [results_cell_tmp rfl]; go_simp; exact rfl) rfl ?_
            exact ⟨HBF.out, by rw [HNO.out]; rfl⟩
          · by_cases hq0 : q < 0
            · have HNO := Lib.hid (quote_none H34.out (show decF (((bytes s).take ((bytes s).length - 1)).drop 1) = none by rw [← HM.out.1, HQ.out.2.2.1, HQ.out.2.2.2.2.1, if_pos (.inr hq0)]; rfl))
              go_wp2_with fail
              refine (HC2.out _).mono ?_
              rintro e w5 ⟨rfl, hw5⟩
              obtain rfl := hw5
              have z0 := (HZR.out.drewN nq).cell 0
              have z1 := (HZR.out.drewN nq).cell 1
              have z2 := (HZR.out.drewN nq).cell 2
              simp only [List.getElem?_toArray, List.getElem?_cons_zero, List.getElem?_cons_succ] at z0 z1 z2
              have y0 := (HZR.out.drewN nq).frozen 0
              have y1 := (HZR.out.drewN nq).frozen 1
              have y2 := (HZR.out.drewN nq).frozen 2
              have HF := Lib.hid ((((HZR.out.drewN nq).put 0 (.int .i64 0)).put 1 (.int .i64 0)).put 2 (.string ⟨#[]⟩))
              have HBF := Lib.hid ((((drewN1 HBR.out nq).setCell (p := ⟨w.heap.size, 0, none⟩) (Nat.le_refl _) (.int .i64 0)).setCell (p := ⟨w.heap.size, 1, none⟩) (Nat.le_refl _) (.int .i64 0)).setCell (p := ⟨w.heap.size, 2, none⟩) (Nat.le_refl _) (.string ⟨#[]⟩))
              go_wp2
              have f0 := HF.out.cell 0
              have f1 := HF.out.cell 1
              have f2 := HF.out.cell 2
              simp at f0 f1 f2
              refine bodyPost_ret (by rw [results_cell_tmp rfl]; go_simp; exact rfl) rfl ?_
              exact ⟨HBF.out, by rw [HNO.out]; rfl⟩
            · go_wp2_with fail
              refine (HC2.out _).mono ?_
              rintro e w5 ⟨rfl, hw5⟩
              obtain rfl := hw5
              go_wp2_with (at_builtin; go_loud (refine wpList_append_own _ rfl (.tmp 80) (.tmp 83) 41 rfl W.heap.size 5 i0 (.int .u8 0) 1 1 Tryd.underlying41 hi hz0 hz1 hz2 rfl (by decide) _ _ _ rfl (HQ.out.1.alloc _) ⟨(wr.drewN nq).heap.size, 0, none⟩ 1 1 [.int .u8 ((p * 16 + q) % 256)] rfl rfl (cell_one_new _ _ _) ?e2 ?e3 ?e4 ?e5 ?_))
              case e2 => first | rfl | (intro u hu; simp at hu; subst hu; rfl)
              case e3 => have := HQ.out.2.2.2.1; simp [maxLen]; omega
              case e4 => have := HQ.out.2.2.2.1; simp only [Nat.mul_one]; omega
              case e5 => first | omega | (simp; omega)
              intro v' w1 hown1 hgrow _
              have hfin := Lib.hid (RdRel.step (k := k) (k' := k + 3) (i := .int .i64 ((k : Int) + 3)) (by omega) (by omega) (by go_num) (by omega) HQ.out.2.2.2.1 HQ.out.2.2.2.2.2 (by intro b hb; simp at hb; omega) HQ.out.2.2.1 (HQ.out.2.2.2.2.1.trans (if_neg (by omega))) HQ.out.1 HQ.out.2.1 _ rfl hown1 ⟨hgrow.os, hgrow.tape, hgrow.output, hgrow.size, hgrow.block⟩)
              clear hown1 hgrow
              go_wp2
              go_roundw
              case rel => exact hfin.out
              case measure => simp [Lib.intOf]; omega
        · have hg2 : (s.size : Int) - 1 ≤ (k : Int) + 2 := by omega
          have hd3 : decide ((s.size : Int) - 1 ≤ (k : Int) + 2) = true := by simp [hg2]
          have HNO := Lib.hid (quote_none H34.out (show decF (((bytes s).take ((bytes s).length - 1)).drop 1) = none by rw [← HM.out.1, he, dec_short hlt ha.symm (by omega)]; rfl))
          clear hown hb he hd ha hib
          have z0 := (HZR.out).cell 0
          have z1 := (HZR.out).cell 1
          have z2 := (HZR.out).cell 2
          simp only [List.getElem?_toArray, List.getElem?_cons_zero, List.getElem?_cons_succ] at z0 z1 z2
          have y0 := (HZR.out).frozen 0
          have y1 := (HZR.out).frozen 1
          have y2 := (HZR.out).frozen 2
          have HF := Lib.hid ((((HZR.out).put 0 (.int .i64 0)).put 1 (.int .i64 0)).put 2 (.string ⟨#[]⟩))
          have HBF := Lib.hid ((((HBR.out).setCell (p := ⟨w.heap.size, 0, none⟩) (Nat.le_refl _) (.int .i64 0)).setCell (p := ⟨w.heap.size, 1, none⟩) (Nat.le_refl _) (.int .i64 0)).setCell (p := ⟨w.heap.size, 2, none⟩) (Nat.le_refl _) (.string ⟨#[]⟩))
          go_wp2
          have f0 := HF.out.cell 0
          have f1 := HF.out.cell 1
          have f2 := HF.out.cell 2
          simp at f0 f1 f2
          refine bodyPost_ret (by rw [results_cell_tmp rfl]; go_simp; exact rfl) rfl ?_
          exact ⟨HBF.out, by rw [HNO.out]; rfl⟩
      · have hd92 : (a != 92) = true := by simp [h92]
        have hu := dec_plain hlt (by rw [← ha]; exact h92)
        rw [← ha] at hu
        have HQ := Lib.hid (And.intro hown (And.intro hb (And.intro he (And.intro hd (And.intro hu hib)))))
        have HA := Lib.hid ha
        clear hown hb he hd hu ha h92 hib
        go_wp2_with (at_builtin; go_loud (refine wpList_append_own _ rfl (.tmp 40) (.tmp 44) 41 rfl W.heap.size 5 i0 (.int .u8 0) 1 1 Tryd.underlying41 hi hz0 hz1 hz2 rfl (by decide) _ _ _ rfl (HQ.out.1.alloc _) ⟨wr.heap.size, 0, none⟩ 1 1 [.int .u8 a] rfl rfl (cell_one_new _ _ _) ?c2 ?c3 ?c4 ?c5 ?_))
        case c2 => first | rfl | (intro u hu; simp at hu; subst hu; rfl)
        case c3 => have := HQ.out.2.2.2.1; simp [maxLen]; omega
        case c4 => have := HQ.out.2.2.2.1; simp only [Nat.mul_one]; omega
        case c5 => first | omega | (simp; omega)
        intro v' w1 hown1 hgrow _
        have hfin := Lib.hid (RdRel.step (k := k) (k' := k + 1) (i := .int .i64 ((k : Int) + 1)) (by omega) (by omega) (by go_num) (by omega) HQ.out.2.2.2.1 HQ.out.2.2.2.2.2 (by intro b hb; simp at hb; omega) HQ.out.2.2.1 HQ.out.2.2.2.2.1 HQ.out.1 HQ.out.2.1 _ rfl hown1 hgrow)
        clear hown1 hgrow
        go_wp2
        go_roundw
        case rel => exact hfin.out
        case measure => simp [Lib.intOf]; omega
    · have hlt1 : ¬ (k : Int) < (s.size : Int) - 1 := by omega
      have hkk : m.drop k = [] := List.drop_eq_nil_of_le (by omega)
      rw [hkk] at he
      have hdec : decF (((bytes s).take ((bytes s).length - 1)).drop 1) = some done := by rw [← HM.out.1, he]; simp [decF]
      have HD := Lib.hid (quote_some H34.out hdec hib (by omega))
      obtain ⟨A2, c2, rfl, _, _⟩ := own_shape hown
      have hst := run_strw (P := Tryd.prog) wr 41 9 5 A2 _ c2 _ done Tryd.underlying41 Tryd.underlying5 Tryd.underlying9 (Rd.of_own hown)
      obtain ⟨U, hU⟩ : ∃ U, mkStr done = U := ⟨_, rfl⟩
      rw [hU] at hst HD
      clear hb he hd hown hdec hib hkk hU
      have k0 := HKR.out.cell 0
      have k1 := HKR.out.cell 1
      have k2 := HKR.out.cell 2
      simp only [List.getElem?_toArray, List.getElem?_cons_zero, List.getElem?_cons_succ] at k0 k1 k2
      have j2 := HKR.out.frozen 2
      have HK2 := Lib.hid (HKR.out.put 2 (.string U))
      have g0 := HK2.out.cell 0
      have g1 := HK2.out.cell 1
      have g2 := HK2.out.cell 2
      simp at g0 g1 g2
      have hpos0 : (0 : Int) < (s.size : Int) := by omega
      have h20 : (s.size : Int) ≤ 20 ∨ ¬ (s.size : Int) ≤ 20 := by omega
      rcases h20 with h20 | h20
      all_goals
        go_wp2_with fail
        have hz1 := HZR.out.far (p := ⟨w.heap.size + 1, 2, none⟩) (by show w.heap.size ≠ w.heap.size + 1; omega) (.string U)
        have hk1 : Blk (wr.setCell ⟨w.heap.size + 1, 2, none⟩ (.string U)) (w.heap.size + 1) 23 #[.int .i64 3, .int .i64 0, .string U] := by have := HK2.out; simpa using this
        have hb1 := HBR.out.setCell (p := ⟨w.heap.size + 1, 2, none⟩) (by show w.heap.size ≤ w.heap.size + 1; omega) (.string U)
        clear k0 k1 k2 j2 g0 g1 g2 HK2 hst
        obtain ⟨W2, hW2⟩ : ∃ W2, W2 = wr.setCell ⟨w.heap.size + 1, 2, none⟩ (.string U) := ⟨_, rfl⟩
        rw [← hW2] at hz1 hk1 hb1 ⊢
        clear hW2
        obtain ⟨T, hT⟩ : ∃ T, showVa ⟨3, 0, U⟩ = T := ⟨_, rfl⟩
        have HC := Lib.hid (HD.out)
        rw [hT] at HC
        refine (refShow_any ⟨3, 0, U⟩ _ (by simp) (by simp)).mono ?_
        rw [hT]
        rintro e w2 ⟨rfl, hb2⟩
        have HZ := Lib.hid (hz1.below hb2 hz1.lt)
        have HK := Lib.hid (hk1.below hb2 hk1.lt)
        have HB := Lib.hid (hb1.trans (hb2.mono hb1.size))
        clear hT hz1 hk1 hb1 hb2
        have hse := str_eq T s
        have c0 := HK.out.cell 0
        have c1 := HK.out.cell 1
        have c2 := HK.out.cell 2
        have z0 := HZ.out.cell 0
        have z1 := HZ.out.cell 1
        have z2 := HZ.out.cell 2
        simp only [List.getElem?_toArray, List.getElem?_cons_zero, List.getElem?_cons_succ] at z0 z1 z2 c0 c1 c2
        have y0 := HZ.out.frozen 0
        have y1 := HZ.out.frozen 1
        have y2 := HZ.out.frozen 2
        by_cases hr : readOk s = true
        · rw [HC.out.1, hr] at hse
          have HR := Lib.hid (And.intro hr (HC.out.2 hr))
          have HF := Lib.hid (((HZ.out.put 0 (.int .i64 3)).put 1 (.int .i64 0)).put 2 (.string U))
          have HBF := Lib.hid (((HB.out.setCell (p := ⟨w.heap.size, 0, none⟩) (Nat.le_refl _) (.int .i64 3)).setCell (p := ⟨w.heap.size, 1, none⟩) (Nat.le_refl _) (.int .i64 0)).setCell (p := ⟨w.heap.size, 2, none⟩) (Nat.le_refl _) (.string U))
          clear hr
          go_wp2
          have f0 := HF.out.cell 0
          have f1 := HF.out.cell 1
          have f2 := HF.out.cell 2
          simp at f0 f1 f2
          refine bodyPost_ret (by rw [results_cell_tmp rfl]; go_simp; exact rfl) rfl ?_
          exact ⟨HBF.out, by rw [HR.out.1, HR.out.2]; rfl⟩
        · have hr' : readOk s = false := by simpa using hr
          rw [HC.out.1, hr'] at hse
          have HR := Lib.hid hr'
          have HF := Lib.hid (((HZ.out.put 0 (.int .i64 0)).put 1 (.int .i64 0)).put 2 (.string ⟨#[]⟩))
          have HBF := Lib.hid (((HB.out.setCell (p := ⟨w.heap.size, 0, none⟩) (Nat.le_refl _) (.int .i64 0)).setCell (p := ⟨w.heap.size, 1, none⟩) (Nat.le_refl _) (.int .i64 0)).setCell (p := ⟨w.heap.size, 2, none⟩) (Nat.le_refl _) (.string ⟨#[]⟩))
          clear hr hr'
          go_wp2
          have f0 := HF.out.cell 0
          have f1 := HF.out.cell 1
          have f2 := HF.out.cell 2
          simp at f0 f1 f2
          refine bodyPost_ret (by rw [results_cell_tmp rfl]; go_simp; exact rfl) rfl ?_
          exact ⟨HBF.out, by rw [HR.out]; rfl⟩

theorem refRead_any (s : ByteArray) (w : World) (hs : s.size ≤ 1000) :
    Calls Tryd.prog 21 #[.string s] w (ReadRet (meantV s).k (meantV s).n (meantV s).s (readOk s) w) := by
  by_cases n1 : s = ⟨#[110, 117, 108, 108]⟩
  · exact refRead_word s w (.inl n1)
  by_cases n2 : s = ⟨#[102, 97, 108, 115, 101]⟩
  · exact refRead_word s w (.inr (.inl n2))
  by_cases n3 : s = ⟨#[116, 114, 117, 101]⟩
  · exact refRead_word s w (.inr (.inr n3))
  by_cases hq : 2 ≤ s.size ∧ (bytes s).head? = some 34 ∧ (bytes s).getLast? = some 34
  · exact refRead_quote s w hs n1 n2 n3 hq.1 hq.2.1 hq.2.2
  · exact refRead_plain s w hs n1 n2 n3 hq
end Go.Proofs.YtkdcnkadngbccaaDoor
