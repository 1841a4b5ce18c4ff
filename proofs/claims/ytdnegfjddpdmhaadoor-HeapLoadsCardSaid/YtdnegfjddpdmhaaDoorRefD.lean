/-
  The document's own page: Put, Add, Cut.
-/
import Derived.Test.YtdnegfjddpdmhaaDoorRefC
import Derived.WalkSpells
namespace Go.Proofs.YtdnegfjddpdmhaaDoor
open Go.RowKit Go.Lib

def rputP (s : List Slot) (k : Int) (b : List Int) : Option (List Int) := if 0 ≤ k ∧ k ≤ 250 then bytesP (trimP (setP s k.toNat (some b))) else none
def rcutP (s : List Slot) (k : Int) : Option (List Int) := if takenP s k then bytesP (trimP (setP s k.toNat none)) else none
theorem rput_put {s : List Slot} (h : Fit s) (ht : TrimP s) (k : Int) {b : List Int} (hb : IsBytes b) : rputP s k b = putP (some s) k b := by
  unfold rputP
  simp only [putP]
  by_cases hk : 0 ≤ k ∧ k ≤ 250
  · have e : roomI s k = roomP s k.toNat := by rw [roomI, if_neg (by omega)]
    rw [if_pos hk, trim_id (set_trim ht), e]
    unfold bytesP
    by_cases hr : (b.length : Int) ≤ roomP s k.toNat
    · rw [if_pos (fit_can (set_fit h hb hr)), if_pos hr]
    · rw [if_neg hr, if_neg]
      intro hc
      refine hr (set_room (can_fit hc fun o ho => ?_))
      rcases set_mem ho with h1 | rfl | rfl
      · exact h.byt o h1
      · exact .nil
      · exact hb
  · have e : roomI s k = -1 := by rw [roomI, if_pos (by omega)]
    rw [if_neg hk, e, if_neg (by omega)]
theorem rcut_cut {s : List Slot} (h : Fit s) (k : Int) : rcutP s k = cutP (some s) k := by
  unfold rcutP
  simp only [cutP]
  split
  · rename_i ht
    obtain ⟨j, rfl, b, hj⟩ := taken_some ht
    have hjl : j < s.length := (List.getElem?_eq_some_iff.1 hj).1
    unfold bytesP
    rw [if_pos (fit_can (trim_fit (cut_fit h (by simpa using hjl))))]
  · rfl

theorem q22n (w : World) (a : Option Addr) (n c n' c' : Nat) : (binOp .neq 33 (.slice a n c) (.slice none n' c')).run Tryd.prog w = .ok (.bool (!a.isNone)) w := run_neq_slice_nil_any w _ _ a n c n' c' Tryd.underlying33
theorem splice_whole {α : Type} (L cs : List α) (h : L.length = cs.length) : splice L 0 cs = cs := by
  unfold splice
  rw [List.take_zero, List.nil_append, Nat.zero_add, List.drop_eq_nil_of_le (by omega), List.append_nil]

def raddK (s : List Slot) (b : List Int) : Nat := if (rputP s (ffP s) b).isSome then ffP s else 0
theorem ad_false {s : List Slot} {b : List Int} {w w' : World} (h : (rputP s (ffP s) b).isSome = false) (hb : Below w.heap.size w w') : AdRet (rputP s (ffP s) b) (raddK s b) w (.returned (.tuple #[.slice none 0 0, .int .i64 0, .bool false])) w' := by
  refine ad_no (by simpa using h) ?_ hb
  unfold raddK
  rw [h]
  rfl
theorem ad_true {s : List Slot} {b : List Int} {w w1 w' : World} {v : Value} {k : Nat} (h : (rputP s (ffP s) b).isSome = true) (hk : ffP s = k) (hb : Below w.heap.size w w1) (hown : w'.ownsRow w1.heap.size 5 1 v ((rputP s (ffP s) b).getD []).length (cells ((rputP s (ffP s) b).getD []))) (hb2 : Below w1.heap.size w1 w') :
    AdRet (rputP s (ffP s) b) (raddK s b) w (.returned (.tuple #[v, .int .i64 k, .bool true])) w' := by
  refine ⟨v, ?_, own_base hown hb.size, hb.trans (hb2.mono hb.size)⟩
  unfold raddK
  rw [h, hk]
  rfl
def FfRel (s : List Slot) (i : Value) : Prop := ∃ k : Nat, k ≤ ffP s ∧ i = .int .i64 k
theorem ff_next {s : List Slot} : ∀ {k : Nat} {o : Slot}, s[k]? = some o → k ≤ ffP s → (o = none → ffP s = k) ∧ (o ≠ none → k + 1 ≤ ffP s) := by
  induction s with
  | nil => intro k o h; simp at h
  | cons x s ih =>
    intro k o h hk
    rw [ffP] at hk ⊢
    split at hk
    · rename_i hx
      obtain rfl : k = 0 := by omega
      obtain rfl : x = o := by simpa using h
      rw [if_pos hx]
      exact ⟨fun _ => rfl, fun hn => absurd hx hn⟩
    · rename_i hx
      rw [if_neg hx]
      match k with
      | 0 =>
        obtain rfl : x = o := by simpa using h
        exact ⟨fun hn => absurd hn hx, fun _ => by omega⟩
      | k + 1 =>
        obtain ⟨h1, h2⟩ := ih (k := k) (o := o) (by simpa using h) (by omega)
        exact ⟨fun hn => by rw [h1 hn], fun hn => by have := h2 hn; omega⟩
theorem ff_end {s : List Slot} {k : Nat} (h : s.length ≤ k) (hk : k ≤ ffP s) : ffP s = k := by have := ff_le s; omega

section
variable (w : World) (A : Option Addr) (n c : Nat) (xs : List Sv) (h : PgR w A n c xs) (hn : n ≤ 300)
include h hn

set_option maxRecDepth 100000 in
set_option maxHeartbeats 3200000 in
theorem refPut_any (k : Int) (A2 : Option Addr) (n2 c2 : Nat) (b : List Int) (h2 : Rd w w.heap.size A2 n2 (cells b)) (hb : IsBytes b) (hn2 : n2 ≤ 100000) :
    Calls Tryd.prog 61 #[.agg #[.slice A n c], .int .i64 k, .slice A2 n2 c2] w (BsRet (rputP (slotsOf xs) k b) w) := by
  have hba := (Below.refl w.heap.size w).alloc (Nat.le_refl _) (.cells #[.slice A n c] 70)
  have HB := Lib.hid hba
  have HBX := Lib.hid (Blk.new w 70 #[.slice A n c])
  have H1 := Lib.hid (h.below hba)
  have HR1 := Lib.hid ((h2.below hba (Nat.le_refl _)).more hba.size)
  have HBL := Lib.hid (show b.length = n2 by have := h2.1; rwa [cells_len] at this)
  have HBB := Lib.hid hb
  clear hba h h2 hb
  by_cases h0 : k < 0
  · have HF := Lib.hid (show rputP (slotsOf xs) k b = none by unfold rputP; rw [if_neg (by omega)])
    go_enter Tryd.func61, Tryd.ntmps61
    go_wp2
    go_ret2
    exact bs_no HF.out HB.out
  by_cases h1 : 250 < k
  · have HF := Lib.hid (show rputP (slotsOf xs) k b = none by unfold rputP; rw [if_neg (by omega)])
    go_enter Tryd.func61, Tryd.ntmps61
    go_wp2
    go_ret2
    exact bs_no HF.out HB.out
  obtain ⟨j, rfl⟩ : ∃ j : Nat, k = (j : Int) := ⟨k.toNat, by omega⟩
  have hj : j ≤ 250 := by omega
  have HF := Lib.hid (show rputP (slotsOf xs) (j : Int) b = bytesP (trimP (setP (slotsOf xs) j (some b))) by unfold rputP; rw [if_pos (by omega), Int.toNat_natCast])
  have hmk : ∀ w : World, (Instr.makeSlice 33 (.int .i64 (n2 : Int)) (.int .i64 (n2 : Int))).run Tryd.prog w = .ok (.slice (some ⟨w.heap.size, 0, none⟩) n2 n2) (w.alloc (.cells (cells (List.replicate n2 0)).toArray 5)) := fun w => make_zeros w n2 _ rfl hn2
  obtain ⟨w1, hw1⟩ : ∃ w1, w1 = w.alloc (.cells #[.slice A n c] 70) := ⟨_, rfl⟩
  rw [← hw1] at HB H1 HR1 HBX
  have HW1 := Lib.hid hw1
  have hb2 := (Below.refl w1.heap.size w1).alloc (Nat.le_refl _) (.cells (cells (List.replicate n2 0)).toArray 5)
  have HG := Lib.hid (Blk.new w1 5 (cells (List.replicate n2 0)).toArray)
  have HR2 := Lib.hid ((HR1.out.below hb2 (Nat.le_refl _)))
  have HB2 := Lib.hid hb2
  clear hw1 hb2
  go_enter Tryd.func61, Tryd.ntmps61
  go_upto_region 1 with (fail)
  rw [← HW1.out]
  go_wp2_with (refine wpList_copy_splice rfl (.tmp 18) (.tmp 19) 33 33 rfl 5 Tryd.underlying33 Tryd.dksize5 _ _ _ _ _ _ rfl rfl w1.heap.size 0 (cells (List.replicate n2 0)) 5 HG.out (cells b) ?k1 ?k2 ?k3 (cells_one _) w1.heap.size w1 HB2.out (Nat.le_refl _) ?_)
  case k1 => rw [cells_len, HBL.out]
  case k2 =>
    intro h0
    obtain ⟨ad, e1, _, hcc⟩ := HR2.out.2 (by rw [cells_len, HBL.out] at h0; exact h0)
    first | exact ⟨rfl, ad, e1, fun i v hv => hcc i v hv⟩ | exact ⟨ad, e1, fun i v hv => hcc i v hv⟩
  case k3 => rw [cells_len, cells_len, List.length_replicate, HBL.out]; omega
  intro w2 hg2 hb2
  have hg2' : Blk w2 w1.heap.size 5 (cells b).toArray := by
    have h := hg2.out
    rw [splice_whole _ _ (by rw [cells_len, cells_len, List.length_replicate, HBL.out])] at h
    exact h
  have hown : w2.ownsRow w1.heap.size 5 1 (.slice (some ⟨w1.heap.size, 0, none⟩) n2 n2) n2 (cells b) := by
    have h := own_blk (base := w1.heap.size) hg2' (Nat.le_refl _) (by rw [HBL.out]; unfold maxLen; omega)
    rwa [HBL.out] at h
  have hyok : (Sv.mk (some ⟨w1.heap.size, 0, none⟩) n2 n2 (some b)).Ok w2 := ⟨⟨_, rfl⟩, Rd.of_own hown, HBB.out, HBL.out, Nat.le_refl _, by unfold maxLen; show n2 ≤ _; omega⟩
  have HWI := Lib.hid (refWith_any w2 A n c xs (H1.out.below hb2) hn j (by omega) (Sv.mk (some ⟨w1.heap.size, 0, none⟩) n2 n2 (some b)) hyok)
  have HB2' := Lib.hid (HB.out.trans (hb2.mono HB.out.size))
  have hbx2 := (HBX.out.below hb2 HBX.out.lt)
  have hcx2 : w2.cell? ⟨w.heap.size, 0, none⟩ = some (.slice A n c) := by rw [hbx2.cell]; rfl
  clear hg2 hg2' hown hyok hb2 hbx2
  go_wp2_with fail
  refine HWI.out.mono ?_
  rintro e w3 ⟨A3, c3, zs, rfl, hpg3, hzs, hb3⟩
  have HBY := Lib.hid (refBytes_any w3 A3 zs.length c3 zs hpg3)
  rw [hzs] at HBY
  have HB3 := Lib.hid (HB2'.out.trans (hb3.mono HB2'.out.size))
  clear hpg3 hzs hb3
  go_wp2_with fail
  refine HBY.out.mono ?_
  rintro e w4 ⟨v4, rfl, hown4, hb4⟩
  have HX := Lib.hid (show BsRet (rputP (slotsOf xs) (j : Int) b) w (.returned (.tuple #[v4, .bool (bytesP (trimP (setP (slotsOf xs) j (some b)))).isSome])) w4 from by
    rw [HF.out]
    exact ⟨v4, rfl, own_base hown4 HB3.out.size, HB3.out.trans (hb4.mono HB3.out.size)⟩)
  clear hown4 hb4
  go_wp2
  go_ret2
  exact HX.out

set_option maxRecDepth 100000 in
set_option maxHeartbeats 3200000 in
theorem refCut_any (k : Int) : Calls Tryd.prog 62 #[.agg #[.slice A n c], .int .i64 k] w (BsRet (rcutP (slotsOf xs) k) w) := by
  have hba := (Below.refl w.heap.size w).alloc (Nat.le_refl _) (.cells #[.slice A n c] 70)
  have HB := Lib.hid hba
  have HBX := Lib.hid (Blk.new w 70 #[.slice A n c])
  have HLE := Lib.hid h.len
  have H1 := Lib.hid (h.below hba)
  obtain ⟨w1, hw1⟩ : ∃ w1, w1 = w.alloc (.cells #[.slice A n c] 70) := ⟨_, rfl⟩
  rw [← hw1] at HB H1 HBX
  have HW1 := Lib.hid hw1
  have hc1 : w1.cell? ⟨w.heap.size, 0, none⟩ = some (.slice A n c) := by rw [HBX.out.cell]; rfl
  clear hba hw1 h
  go_enter Tryd.func62, Tryd.ntmps62
  go_upto_region 1 with (fail)
  rw [← HW1.out]
  go_wp2_with fail
  refine (refGet_any w1 A n c xs H1.out k).mono ?_
  rintro e w2 ⟨A2, n2, c2, rfl, _, _, hb2⟩
  have H2 := Lib.hid (H1.out.below hb2)
  have HB2 := Lib.hid (HB.out.trans (hb2.mono HB.out.size))
  have hbx2 := (HBX.out.below hb2 HBX.out.lt)
  have hc2 : w2.cell? ⟨w.heap.size, 0, none⟩ = some (.slice A n c) := by rw [hbx2.cell]; rfl
  clear hb2 hbx2 hc1
  cases ht : takenP (slotsOf xs) k with
  | false =>
    have HF := Lib.hid (show rcutP (slotsOf xs) k = none by unfold rcutP; rw [ht]; rfl)
    clear ht
    go_wp2
    go_ret2
    exact bs_no HF.out HB2.out
  | true =>
    have HF := Lib.hid (show rcutP (slotsOf xs) k = bytesP (trimP (setP (slotsOf xs) k.toNat none)) by unfold rcutP; rw [if_pos ht])
    obtain ⟨j, rfl, b, hj⟩ := taken_some ht
    have hjl : j < xs.length := by have := (List.getElem?_eq_some_iff.1 hj).1; rwa [slotsOf_len] at this
    rw [HLE.out] at hjl
    rw [Int.toNat_natCast] at HF
    have HWI := Lib.hid (refWith_any w2 A n c xs H2.out hn j (by omega) frS (frS_ok w2))
    rw [frS_val] at HWI
    clear ht hj
    go_wp2_with fail
    refine HWI.out.mono ?_
    rintro e w3 ⟨A3, c3, zs, rfl, hpg3, hzs, hb3⟩
    have HBY := Lib.hid (refBytes_any w3 A3 zs.length c3 zs hpg3)
    rw [hzs] at HBY
    have HB3 := Lib.hid (HB2.out.trans (hb3.mono HB2.out.size))
    clear hpg3 hzs hb3
    go_wp2_with fail
    refine HBY.out.mono ?_
    rintro e w4 ⟨v4, rfl, hown4, hb4⟩
    have HX := Lib.hid (show BsRet (rcutP (slotsOf xs) (j : Int)) w (.returned (.tuple #[v4, .bool (bytesP (trimP (setP (slotsOf xs) j frS.o))).isSome])) w4 from by
      rw [HF.out]
      exact ⟨v4, rfl, own_base hown4 HB3.out.size, HB3.out.trans (hb4.mono HB3.out.size)⟩)
    clear hown4 hb4
    go_wp2
    go_ret2
    exact HX.out

set_option maxRecDepth 100000 in
set_option maxHeartbeats 3200000 in
theorem refAdd_any (A2 : Option Addr) (n2 c2 : Nat) (b : List Int) (h2 : Rd w w.heap.size A2 n2 (cells b)) (hb : IsBytes b) (hn2 : n2 ≤ 100000) :
    Calls Tryd.prog 50 #[.agg #[.slice A n c], .slice A2 n2 c2] w
      (AdRet (rputP (slotsOf xs) (ffP (slotsOf xs)) b) (raddK (slotsOf xs) b) w) := by
  have hq := q22n
  have hba := (Below.refl w.heap.size w).alloc (Nat.le_refl _) (.cells #[.slice A n c] 70)
  have HB := Lib.hid hba
  have HBX := Lib.hid (Blk.new w 70 #[.slice A n c])
  have HLE := Lib.hid (show (slotsOf xs).length = n by rw [slotsOf_len]; exact h.len)
  have H1 := Lib.hid (h.below hba)
  have HR1 := Lib.hid ((h2.below hba (Nat.le_refl _)).more hba.size)
  have HBB := Lib.hid hb
  have hff := ff_le (slotsOf xs)
  rw [HLE.out] at hff
  obtain ⟨w1, hw1⟩ : ∃ w1, w1 = w.alloc (.cells #[.slice A n c] 70) := ⟨_, rfl⟩
  rw [← hw1] at HB H1 HBX HR1
  have HW1 := Lib.hid hw1
  have hc1 : w1.cell? ⟨w.heap.size, 0, none⟩ = some (.slice A n c) := by rw [HBX.out.cell]; rfl
  clear hba hw1 h h2 hb
  go_enter Tryd.func50, Tryd.ntmps50
  go_upto_region 1 with (fail)
  rw [← HW1.out]
  go_wp2_with fail
  go_loop [7] (fun i => FfRel (slotsOf xs) i) (fun i => n - (intOf i).toNat)
  case atStart => exact ⟨0, by omega, rfl⟩
  case round =>
    obtain ⟨k, hk, rfl⟩ := hrel
    have hk0 : (0 : Int) ≤ (k : Int) := Int.natCast_nonneg _
    have hkn : k ≤ n := by omega
    by_cases hlt : k < n
    · obtain ⟨ad, x, rfl, hx, hcell, hok, hso⟩ := H1.out.at_ hlt
      have hnx := ff_next hso hk
      cases hxo : x.o with
      | none =>
        rw [hok.free hxo] at hcell
        have hfk := hnx.1 hxo
        have HFK := Lib.hid hfk
        have HP := Lib.hid (refPut_any w1 (some ad) n c xs H1.out hn (k : Int) A2 n2 c2 b HR1.out HBB.out hn2)
        clear hx hok hso hnx hxo hfk
        go_wp2_with fail
        refine HP.out.mono ?_
        rintro e w5 ⟨v5, rfl, hown5, hb5⟩
        rw [← HFK.out] at hown5
        obtain ⟨A5, c5, rfl, _, _⟩ := own_shape hown5
        obtain ⟨m5, hm5⟩ : ∃ m5, m5 = ((rputP (slotsOf xs) (ffP (slotsOf xs)) b).getD []).length := ⟨_, rfl⟩
        cases hs : (rputP (slotsOf xs) (ffP (slotsOf xs)) b).isSome with
        | false =>
          have HX := Lib.hid (ad_false hs (HB.out.trans (hb5.mono HB.out.size)))
          rw [HFK.out] at hs
          rw [hs]
          clear hown5 hb5 hs
          go_wp2
          go_ret3
          exact HX.out
        | true =>
          have HX := Lib.hid (ad_true hs HFK.out HB.out hown5 hb5)
          rw [← hm5] at HX ⊢
          rw [HFK.out] at hs
          rw [hs]
          clear hown5 hb5 hs hm5
          go_wp2
          go_ret3
          exact HX.out
      | some y =>
        obtain ⟨⟨a, ha⟩, _⟩ := hok.got hxo
        have hk1 := hnx.2 (by rw [hxo]; simp)
        unfold Sv.val at hcell
        rw [ha] at hcell
        obtain ⟨xn, hxn⟩ : ∃ xn, xn = x.n := ⟨_, rfl⟩
        obtain ⟨xc, hxc⟩ : ∃ xc, xc = x.c := ⟨_, rfl⟩
        rw [← hxn, ← hxc] at hcell
        clear hx hok hso hnx hxo ha hxn hxc
        go_wp2
        go_round
        case rel => exact ⟨k + 1, hk1, by go_num⟩
        case measure => simp [intOf]; omega
    · have HFK := Lib.hid (ff_end (s := slotsOf xs) (k := k) (by rw [HLE.out]; omega) hk)
      have HP := Lib.hid (refPut_any w1 A n c xs H1.out hn (k : Int) A2 n2 c2 b HR1.out HBB.out hn2)
      obtain rfl : k = n := by omega
      go_wp2_with fail
      refine HP.out.mono ?_
      rintro e w5 ⟨v5, rfl, hown5, hb5⟩
      rw [← HFK.out] at hown5
      obtain ⟨A5, c5, rfl, _, _⟩ := own_shape hown5
      obtain ⟨m5, hm5⟩ : ∃ m5, m5 = ((rputP (slotsOf xs) (ffP (slotsOf xs)) b).getD []).length := ⟨_, rfl⟩
      cases hs : (rputP (slotsOf xs) (ffP (slotsOf xs)) b).isSome with
      | false =>
        have HX := Lib.hid (ad_false hs (HB.out.trans (hb5.mono HB.out.size)))
        rw [HFK.out] at hs
        rw [hs]
        clear hown5 hb5 hs
        go_wp2
        go_ret3
        exact HX.out
      | true =>
        have HX := Lib.hid (ad_true hs HFK.out HB.out hown5 hb5)
        rw [← hm5] at HX ⊢
        rw [HFK.out] at hs
        rw [hs]
        clear hown5 hb5 hs hm5
        go_wp2
        go_ret3
        exact HX.out
end
end Go.Proofs.YtdnegfjddpdmhaaDoor
