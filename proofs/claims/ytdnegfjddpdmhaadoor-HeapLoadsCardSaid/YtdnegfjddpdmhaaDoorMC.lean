/-
  The document's own heap: All.
-/
import Derived.Test.YtdnegfjddpdmhaaDoorMA
namespace Go.Proofs.YtdnegfjddpdmhaaDoor
open Go.RowKit Go.Lib

/-- the places among the first j slots of page k, behind all ahead of it -/
def inH (ps : Pgs) (k j : Nat) : List Pl := upH ps k ++ (slotsN (pgAt ps k) j).map fun z => ((k : Int), z)
theorem inH_zero (ps : Pgs) (k : Nat) : inH ps k 0 = upH ps k := by simp [inH, slotsN_zero]
theorem inH_end (ps : Pgs) (k : Nat) : inH ps k (pgAt ps k).length = upH ps (k + 1) := by rw [upH_succ, inH]
theorem inH_no {ps : Pgs} {k j : Nat} (h : (pgAt ps k)[j]? = some none) : inH ps k (j + 1) = inH ps k j := by rw [inH, slotsN_no h, inH]
theorem inH_yes {ps : Pgs} {k j : Nat} {b : List Int} (h : (pgAt ps k)[j]? = some (some b)) : inH ps k (j + 1) = inH ps k j ++ [((k : Int), (j : Int))] := by
  rw [inH, slotsN_yes h, List.map_append, ← List.append_assoc, inH]
  rfl
theorem ridC_one (l : List Pl) (p q : Int) : ridC (l ++ [(p, q)]) = ridC l ++ [.int .i64 p, .int .i64 q] := by simp [ridC]
theorem inH_len (ps : Pgs) (hg : ∀ s ∈ ps, GoodP s) (k j : Nat) (hj : j ≤ 255) : (inH ps k j).length ≤ 255 * (k + 1) := by
  have h1 : ∀ k, (upH ps k).length ≤ 255 * k := by
    intro k
    induction k with
    | zero => simp [upH]
    | succ k ih =>
      rw [upH_succ, List.length_append, List.length_map]
      have h2 := slotsN_le (pgAt ps k) (pgAt ps k).length
      have h3 := (pgAt_good hg k).pg.slots
      omega
  rw [inH, List.length_append, List.length_map]
  have h2 := slotsN_le (pgAt ps k) j
  have := h1 k
  omega
/-- the row of places so far -/
def OutR (base : Nat) (w0 : World) (l : List Pl) (o : Value) (wr : World) : Prop := ∃ A c n, o = .slice A n c ∧ n = l.length ∧ wr.ownsRow base 32 2 (.slice A n c) n (ridC l) ∧ Below w0.heap.size w0 wr ∧ base ≤ wr.heap.size
section
variable {B hb : Nat} {D : Nat → Prop} {w : World} {ps : Pgs} (h : RhV B D w hb ps) (hfew : ps.length ≤ 256)
include h hfew
set_option maxRecDepth 100000 in
set_option maxHeartbeats 6400000 in
theorem rall_any : Calls Tryd.prog 18 #[.pointer (some ⟨hb, 0, none⟩)] w fun e w' => ∃ A c n, e = .returned (.slice A n c) ∧ n = (allH ps).length ∧ w'.ownsRow w.heap.size 32 2 (.slice A n c) n (ridC (allH ps)) ∧ Below w.heap.size w w' := by
  have hq := q22n
  have hgood := h.good
  obtain ⟨v, ys, hx, rfl⟩ := h
  obtain ⟨i0, hi, hz0, hz1, hz2⟩ := info_parts Tryd.dkinfo32
  rw [prslots_len] at hfew
  obtain ⟨A0, c0, rfl, _, _⟩ := own_shape hx.own
  have H := Lib.hid (And.intro hx (And.intro hgood (prslots_len ys)))
  obtain ⟨N, hN⟩ : ∃ N, N = ys.length := ⟨_, rfl⟩
  have HN := Lib.hid hN
  have hOut : OutR w.heap.size w (upH (prslots ys) 0) (.slice (some ⟨w.heap.size, 0, none⟩) 0 0) (w.alloc (.cells #[] 32)) := by
    have h9 := World.ownsRow_lit (base := w.heap.size) (size := 2) (e := 32) w #[] 0 (by simp) (by simp [maxLen]) (by simp)
    exact ⟨_, 0, 0, rfl, rfl, by simpa [upH, ridC] using h9, (Below.refl _ w).alloc (Nat.le_refl _) _, by simp⟩
  have H0 := Lib.hid hOut
  rw [← hN] at hfew
  clear hx hgood hOut hN
  go_enter Tryd.func18, Tryd.ntmps18
  go_wp2_with fail
  go_loopw [3, 4] (fun o i wr => ∃ k : Nat, k ≤ N ∧ i = .int .i64 k ∧ OutR w.heap.size w (upH (prslots ys) k) o wr) (fun _ i _ => N - (intOf i).toNat)
  case atStart => exact ⟨0, Nat.zero_le _, rfl, H0.out⟩
  case round =>
    obtain ⟨k, hk, rfl, A1, c1, n1, rfl, hn1, hown1, hbl1, hba1⟩ := hrel
    have hk0 : (0 : Int) ≤ (k : Int) := Int.natCast_nonneg _
    have hX1 := H.out.1.below hbl1
    have hc := hX1.blk.cell 0
    simp only [List.getElem?_toArray, List.getElem?_cons_zero] at hc
    rw [← HN.out] at hc
    have HK := Lib.hid (And.intro hn1 (And.intro hown1 (And.intro hbl1 hba1)))
    clear hn1 hown1 hbl1 hba1 hX1
    by_cases hlt : k < N
    · have hlt1 : (k : Int) < (N : Int) := by omega
      obtain ⟨wl, hwl⟩ : ∃ wl, wl = wr := ⟨_, rfl⟩
      subst hwl
      have hky : k < ys.length := by rw [← HN.out]; exact hlt
      obtain ⟨x, hxe⟩ : ∃ x, x = ys[k] := ⟨_, rfl⟩
      obtain ⟨xn, hxn⟩ : ∃ n, n = x.xs.length := ⟨_, rfl⟩
      have hxf : xn ≤ 255 := by rw [hxn]; exact (H.out.1.pg x (by rw [hxe]; exact List.getElem_mem hky)).few
      have hxs : pgAt (prslots ys) k = slotsOf x.xs := by rw [hxe, pgAt_pr hky]
      have HX := Lib.hid (And.intro hky (And.intro hxe (And.intro hxn hxs)))
      have h0 : OutR w.heap.size w (inH (prslots ys) k 0) (.slice A1 n1 c1) wl := by rw [inH_zero]; exact ⟨A1, c1, n1, rfl, HK.out.1, HK.out.2.1, HK.out.2.2.1, HK.out.2.2.2⟩
      have HI0 := Lib.hid h0
      clear hxe hxn hxs h0
      go_wp2_with fail
      go_loopw [3, 5] (fun o i wr2 => ∃ j : Nat, j ≤ xn ∧ i = .int .i64 j ∧ OutR w.heap.size w (inH (prslots ys) k j) o wr2) (fun _ i _ => xn - (intOf i).toNat)
      case atStart => exact ⟨0, Nat.zero_le _, rfl, HI0.out⟩
      case round =>
        obtain ⟨j, hj, rfl, A2, c2, n2, rfl, hn2, hown2, hbl2, hba2⟩ := hrel
        have hj0 : (0 : Int) ≤ (j : Int) := Int.natCast_nonneg _
        have hX2 := H.out.1.below hbl2
        have hc2 := hX2.blk.cell 0
        simp only [List.getElem?_toArray, List.getElem?_cons_zero] at hc2
        rw [← HN.out] at hc2
        obtain ⟨ad, c', hv, hcx⟩ := hX2.at_ HX.out.1
        injection hv with hv1 _ hv3
        subst hv1
        subst hv3
        rw [← HX.out.2.1] at hcx
        have hokx := hX2.pg x (by rw [HX.out.2.1]; exact List.getElem_mem HX.out.1)
        have hpg := hokx.pgr
        unfold Pr.val at hcx
        rw [← HX.out.2.2.1] at hpg hcx
        have hn2b : n2 ≤ 66000 := by
          rw [hn2]
          have := inH_len (prslots ys) H.out.2.1 k j (by omega)
          omega
        have HJ := Lib.hid (And.intro hn2 (And.intro hown2 (And.intro hbl2 hba2)))
        clear hn2 hown2 hbl2 hba2 hX2 hokx
        by_cases hjx : j < xn
        · have hjx1 : (j : Int) < (xn : Int) := by omega
          obtain ⟨ad2, y, hA, hy, hcy, hyok, hys⟩ := hpg.at_ hjx
          have hiso := none_of_ok hyok
          have HY := Lib.hid (show (pgAt (prslots ys) k)[j]? = some y.o by rw [HX.out.2.2.2]; exact hys)
          obtain ⟨yA, yn, yc, yo⟩ := y
          unfold Sv.val at hcy
          simp only at hcy hiso HY
          rw [hA] at hcx
          clear hpg hy hyok hys hA
          cases yo with
          | none =>
            obtain rfl : yA = none := by cases yA with
              | none => rfl
              | some a => cases hiso
            have HF := Lib.hid (show OutR w.heap.size w (inH (prslots ys) k (j + 1)) (.slice A2 n2 c2) wr from ⟨A2, c2, n2, rfl, by rw [inH_no HY.out]; exact HJ.out.1, by rw [inH_no HY.out]; exact HJ.out.2.1, HJ.out.2.2.1, HJ.out.2.2.2⟩)
            clear hiso
            go_wp2_with fail
            go_roundw
            case rel => exact ⟨j + 1, by omega, by go_num, HF.out⟩
            case measure => simp [intOf]; omega
          | some b =>
            obtain ⟨a, rfl⟩ : ∃ a, yA = some a := by cases yA with
              | none => cases hiso
              | some a => exact ⟨a, rfl⟩
            clear hiso
            go_wp2_with (at_builtin; refine wpList_append_own _ rfl (.tmp 41) (.tmp 45) 41 rfl w.heap.size 32 i0 (.agg #[.int .i64 0, .int .i64 0]) 2 16 Tryd.underlying41 hi hz0 hz1 hz2 rfl (by decide) _ n2 _ rfl (HJ.out.2.1.alloc _) ⟨wr.heap.size, 0, none⟩ 1 1 [.int .i64 k, .int .i64 j] rfl rfl (World.news_of_block (heap_alloc_new _ _)) ?c2 ?c3 ?c4 ?c5 ?_)
            case c2 => first | (intro u hu; simp at hu; rcases hu with rfl | rfl <;> rfl) | (constructor <;> rfl)
            case c3 => first | (unfold maxLen; omega) | (simp [maxLen]; omega)
            case c4 => first | omega | (simp; omega)
            case c5 => have h2 := HJ.out.2.2.2; simp; omega
            intro v5 w5 hown5 hgr5 _
            obtain ⟨A5, c5, rfl, _, _⟩ := own_shape2 hown5
            have hgb : ∀ q, (Value.slice A2 n2 c2).ownBlock = some q → w.heap.size ≤ q := fun q hq => (HJ.out.2.1.lt q hq).1
            have hc35 : Chg (fun q => (Value.slice A2 n2 c2).ownBlock = some q) wr w5 := ((Chg.refl _ wr).alloc _).grown hgr5 (fun q hq _ => hq)
            have s5 := hc35.size
            have HF := Lib.hid (show OutR w.heap.size w (inH (prslots ys) k (j + 1)) (.slice A5 (n2 + 1) c5) w5 from
              ⟨A5, c5, n2 + 1, rfl, by rw [inH_yes HY.out, List.length_append, ← HJ.out.1]; rfl, by rw [inH_yes HY.out, ridC_one]; exact hown5, HJ.out.2.2.1.trans (hc35.below (fun q hq => hgb q hq) HJ.out.2.2.2), by have := HJ.out.2.2.2; omega⟩)
            clear hown5 hgr5 hgb hc35
            go_wp2_with fail
            go_roundw
            case rel => exact ⟨j + 1, by omega, by go_num, HF.out⟩
            case measure => simp [intOf]; omega
        · have hjx1 : ¬ ((j : Int) < (xn : Int)) := by omega
          obtain rfl : j = xn := by omega
          have HF := Lib.hid (show OutR w.heap.size w (upH (prslots ys) (k + 1)) (.slice A2 n2 c2) wr from by
            have e : inH (prslots ys) k j = upH (prslots ys) (k + 1) := by
              rw [← inH_end, HX.out.2.2.2, slotsOf_len, ← HX.out.2.2.1]
            rw [← e]
            exact ⟨A2, c2, n2, rfl, HJ.out.1, HJ.out.2.1, HJ.out.2.2.1, HJ.out.2.2.2⟩)
          clear hpg
          go_wp2_with fail
          go_roundw
          case rel => exact ⟨k + 1, by omega, by go_num, HF.out⟩
          case measure => simp [intOf]; omega
    · have hlt1 : ¬ ((k : Int) < (N : Int)) := by omega
      obtain rfl : k = N := by omega
      go_wp2_with fail
      go_ret
      have e : upH (prslots ys) k = allH (prslots ys) := by rw [HN.out, ← prslots_len ys, upH_all]
      rw [e] at HK
      exact ⟨A1, c1, n1, rfl, HK.out.1, HK.out.2.1, HK.out.2.2.1⟩
end
end Go.Proofs.YtdnegfjddpdmhaaDoor

/-
  The document's own heap: Bytes.
-/
namespace Go.Proofs.YtdnegfjddpdmhaaDoor
open Go.RowKit Go.Lib

theorem bytes_good {s : List Slot} (h : GoodP s) : bytesP s = some (imgP s) := by unfold bytesP; rw [if_pos (fit_can h.fit)]
/-- pages answered so far -/
def BysR (base : Nat) (w0 : World) (ss : Pgs) (o : Value) (wr : World) : Prop :=
  ∃ A c n zs, o = .slice A n c ∧ n = zs.length ∧ wr.ownsRow base 33 1 (.slice A n c) n (pvals zs) ∧ pslots zs = ss ∧ (∀ z ∈ zs, z.Ok (fun k => base ≤ k ∧ k < wr.heap.size) wr) ∧ Below base w0 wr ∧ base ≤ wr.heap.size
section
variable {B hb : Nat} {D : Nat → Prop} {w : World} {ps : Pgs} (h : RhV B D w hb ps) (hfew : ps.length ≤ 256)
include h hfew
set_option maxRecDepth 100000 in
set_option maxHeartbeats 6400000 in
theorem rbytes_any : Calls Tryd.prog 15 #[.pointer (some ⟨hb, 0, none⟩)] w fun e w' => ∃ A c n ys, e = .returned (.slice A n c) ∧ n = ys.length ∧ Bf (fun k => w.heap.size ≤ k ∧ k < w'.heap.size) w' A c ys ∧ pslots ys = ps ∧ Below w.heap.size w w' := by
  have hgood := h.good
  obtain ⟨v, ys, hx, rfl⟩ := h
  obtain ⟨i0, hi, hz0, hz1, hz2⟩ := info_parts Tryd.dkinfo22
  rw [prslots_len] at hfew
  obtain ⟨A0, c0, rfl, _, _⟩ := own_shape hx.own
  have H := Lib.hid (And.intro hx (And.intro hgood (prslots_len ys)))
  obtain ⟨N, hN⟩ : ∃ N, N = ys.length := ⟨_, rfl⟩
  have HN := Lib.hid hN
  have hOut : BysR w.heap.size w ((prslots ys).take 0) (.slice (some ⟨w.heap.size, 0, none⟩) 0 0) (w.alloc (.cells #[] 33)) := by
    have h9 := World.ownsRow_lit (base := w.heap.size) (size := 1) (e := 33) w #[] 0 (by simp) (by simp [maxLen]) (by simp)
    exact ⟨_, 0, 0, [], rfl, rfl, by simpa [pvals] using h9, rfl, fun z hz => (by cases hz), (Below.refl _ w).alloc (Nat.le_refl _) _, by simp⟩
  have H0 := Lib.hid hOut
  rw [← hN] at hfew
  clear hx hgood hOut hN
  go_enter Tryd.func15, Tryd.ntmps15
  go_wp2_with fail
  go_loopw [3, 4] (fun o i wr => ∃ k : Nat, k ≤ N ∧ i = .int .i64 k ∧ BysR w.heap.size w ((prslots ys).take k) o wr) (fun _ i _ => N - (intOf i).toNat)
  case atStart => exact ⟨0, Nat.zero_le _, rfl, H0.out⟩
  case round =>
    obtain ⟨k, hk, rfl, A1, c1, n1, zs, rfl, hn1, hown1, hsl1, hzs1, hbl1, hba1⟩ := hrel
    have hk0 : (0 : Int) ≤ (k : Int) := Int.natCast_nonneg _
    have hX1 := H.out.1.below hbl1
    have hc := hX1.blk.cell 0
    simp only [List.getElem?_toArray, List.getElem?_cons_zero] at hc
    rw [← HN.out] at hc
    have HK := Lib.hid (And.intro hn1 (And.intro hown1 (And.intro hsl1 (And.intro hzs1 (And.intro hbl1 hba1)))))
    have hn256 : n1 ≤ 256 := by
      have h1 := congrArg List.length hsl1
      rw [pslots_len, List.length_take] at h1
      omega
    by_cases hlt : k < N
    · have hlt1 : (k : Int) < (N : Int) := by omega
      obtain ⟨wl, hwl⟩ : ∃ wl, wl = wr := ⟨_, rfl⟩
      subst hwl
      have hky : k < ys.length := by rw [← HN.out]; exact hlt
      obtain ⟨ad, c', hv, hcx⟩ := hX1.at_ hky
      injection hv with hv1 _ hv3
      subst hv1
      obtain ⟨x, hxe⟩ : ∃ x, x = ys[k] := ⟨_, rfl⟩
      rw [← hxe] at hcx
      have hokx := hX1.pg x (by rw [hxe]; exact List.getElem_mem hky)
      obtain ⟨xn, hxn⟩ : ∃ n, n = x.xs.length := ⟨_, rfl⟩
      have hpg := hokx.pgr
      unfold Pr.val at hcx
      rw [← hxn] at hpg hcx
      have hby := refBytes_any wl x.A xn x.c x.xs hpg
      rw [bytes_good hokx.good] at hby
      have HBY := Lib.hid hby
      have HX := Lib.hid (And.intro hokx.good (show (prslots ys)[k]? = some (slotsOf x.xs) by rw [prslots, List.getElem?_map, List.getElem?_eq_getElem hky, hxe]; rfl))
      clear hn1 hown1 hsl1 hzs1 hbl1 hba1 hX1 hky hxe hokx hxn hpg hby
      go_wp2_with fail
      refine HBY.out.mono ?_
      rintro e w3 ⟨v3, rfl, hown3, hb3⟩
      simp only [Option.getD_some, Option.isSome_some] at hown3 ⊢
      obtain ⟨z, rfl, hz1', hzok⟩ := Pv.Ok.made (D := fun q => wl.heap.size ≤ q ∧ q < w3.heap.size) hown3 HX.out.1 (fun q h1 h2 => ⟨h1, h2⟩)
      have hown4 := own_below HK.out.2.1 hb3 (Nat.le_refl _)
      have s3 := hb3.size
      have H3 := Lib.hid (And.intro hown4 (And.intro hzok (And.intro hz1' hb3)))
      obtain ⟨zA, zc, zs0⟩ := z
      simp only [Pv.val]
      clear hown3 hown4 hb3 hz1' hzok
      go_wp2_with (at_builtin; refine wpList_append_own _ rfl (.tmp 28) (.tmp 30) 38 rfl w.heap.size 33 i0 (.slice none 0 0) 1 24 Tryd.underlying38 hi hz0 hz1 hz2 rfl (by decide) _ n1 _ rfl (H3.out.1.alloc _) ⟨w3.heap.size, 0, none⟩ 1 1 [.slice zA 256 zc] rfl rfl (cell_one_new _ _ _) ?c2 ?c3 ?c4 ?c5 ?_)
      case c2 => first | rfl | (intro u hu; simp at hu; subst hu; rfl)
      case c3 => first | (unfold maxLen; omega) | (simp [maxLen]; omega)
      case c4 => first | omega | (simp; omega)
      case c5 => have h2 := HK.out.2.2.2.2.2; simp; omega
      intro v5 w5 hown5 hgr5 _
      obtain ⟨A5, c5, rfl, _, _⟩ := own_shape hown5
      have hgb : ∀ q, (Value.slice A1 n1 c1).ownBlock = some q → w.heap.size ≤ q := fun q hq => (H3.out.1.lt q hq).1
      have hc35 : Chg (fun q => (Value.slice A1 n1 c1).ownBlock = some q) w3 w5 := ((Chg.refl _ w3).alloc _).grown hgr5 (fun q hq _ => hq)
      have s5 := hc35.size
      have hty : ∀ q cs, (Value.slice A1 n1 c1).ownBlock = some q → ¬ Blk w3 q 5 cs := fun q cs hq hb => by
        obtain ⟨cur, hcu⟩ := own_row H3.out.1 q hq
        exact Blk.ne hcu hb (by decide) rfl
      have HF := Lib.hid (show BysR w.heap.size w ((prslots ys).take (k + 1)) (.slice A5 (n1 + 1) c5) w5 from
        ⟨A5, c5, n1 + 1, zs ++ [⟨zA, zc, zs0⟩], rfl, by rw [List.length_append, HK.out.1]; rfl, by
          rw [show pvals (zs ++ [⟨zA, zc, zs0⟩]) = pvals zs ++ [.slice zA 256 zc] by simp [pvals, Pv.val]]
          exact hown5, by
          rw [show pslots (zs ++ [⟨zA, zc, zs0⟩]) = pslots zs ++ [zs0] by simp [pslots], HK.out.2.2.1, List.take_add_one, HX.out.2, ← H3.out.2.2.1]
          rfl, fun z hz => by
          rcases List.mem_append.1 hz with hz | hz
          · have h1 := (HK.out.2.2.2.1 z hz).keep (w' := w3) fun q hq => H3.out.2.2.2.block q hq.2
            exact (h1.chg hc35 hty).mono fun q hq => ⟨hq.1, by omega⟩
          · rw [List.mem_singleton.1 hz]
            exact (H3.out.2.1.chg hc35 hty).mono fun q hq => ⟨by have := HK.out.2.2.2.2.2; omega, by omega⟩,
          (HK.out.2.2.2.2.1.trans (H3.out.2.2.2.mono HK.out.2.2.2.2.2)).trans (hc35.below (fun q hq => hgb q hq) (by have := HK.out.2.2.2.2.2; omega)), by have := HK.out.2.2.2.2.2; omega⟩)
      clear hown5 hgr5 hgb hc35 hty
      go_wp2_with fail
      go_roundw
      case rel => exact ⟨k + 1, by omega, by go_num, HF.out⟩
      case measure => simp [intOf]; omega
    · have hlt1 : ¬ ((k : Int) < (N : Int)) := by omega
      obtain rfl : k = N := by omega
      clear hn1 hown1 hsl1 hzs1 hbl1 hba1 hX1
      go_wp2_with fail
      go_ret
      have hown := HK.out.2.1
      rw [HK.out.1] at hown
      refine ⟨A1, c1, n1, rfl, zs, HK.out.1, ⟨own_base hown (Nat.zero_le _), fun q hq => hown.lt q hq, HK.out.2.2.2.1⟩, ?_, HK.out.2.2.2.2.1⟩
      rw [HK.out.2.2.1, List.take_of_length_le (by rw [prslots_len, ← HN.out]; exact Nat.le_refl _)]
end
end Go.Proofs.YtdnegfjddpdmhaaDoor

/-
  The document's own heap: After.
-/
namespace Go.Proofs.YtdnegfjddpdmhaaDoor
open Go.RowKit Go.Lib

def fltP (p k : Int) (L : List Pl) (i : Nat) : List Pl := (L.take i).filter (behind p k)
theorem flt_yes {p k : Int} {L : List Pl} {i : Nat} (h : i < L.length) (hb : behind p k L[i] = true) : fltP p k L (i + 1) = fltP p k L i ++ [L[i]] := by
  rw [fltP, List.take_add_one, List.getElem?_eq_getElem h, List.filter_append, fltP]
  simp [hb]
theorem flt_no {p k : Int} {L : List Pl} {i : Nat} (h : i < L.length) (hb : behind p k L[i] = false) : fltP p k L (i + 1) = fltP p k L i := by
  rw [fltP, List.take_add_one, List.getElem?_eq_getElem h, List.filter_append, fltP]
  simp [hb]
theorem flt_len (p k : Int) (L : List Pl) (i : Nat) : (fltP p k L i).length ≤ i := by
  have h1 := List.length_filter_le (behind p k) (L.take i)
  rw [List.length_take] at h1
  unfold fltP
  omega
/-- where the loop ends -/
theorem flt_end {p k most : Int} {L : List Pl} {i : Nat} (hl : (fltP p k L i).length ≤ most.toNat) (h : L.length ≤ i ∨ most ≤ ((fltP p k L i).length : Int)) : (L.filter (behind p k)).take most.toNat = fltP p k L i := by
  have hs : L.filter (behind p k) = fltP p k L i ++ (L.drop i).filter (behind p k) := by
    rw [fltP, ← List.filter_append, List.take_append_drop]
  rcases h with h | h
  · have e : fltP p k L i = L.filter (behind p k) := by rw [fltP, List.take_of_length_le h]
    rw [e] at hl ⊢
    exact List.take_of_length_le hl
  · rw [hs, show most.toNat = (fltP p k L i).length by omega, List.take_left']
    rfl
section
variable {B hb : Nat} {D : Nat → Prop} {w : World} {ps : Pgs} (h : RhV B D w hb ps) (hfew : ps.length ≤ 256)
include h hfew
set_option maxRecDepth 100000 in
set_option maxHeartbeats 6400000 in
theorem rafter_any (p k most : Int) : Calls Tryd.prog 37 #[.pointer (some ⟨hb, 0, none⟩), .agg #[.int .i64 p, .int .i64 k], .int .i64 most] w fun e w' => ∃ A c n, e = .returned (.slice A n c) ∧ n = (aftH ps p k most).length ∧ w'.ownsRow w.heap.size 32 2 (.slice A n c) n (ridC (aftH ps p k most)) ∧ Below w.heap.size w w' := by
  have hN5 : (allH ps).length ≤ 65280 := ridC_bound h.good hfew
  obtain ⟨i0, hi, hz0, hz1, hz2⟩ := info_parts Tryd.dkinfo32
  obtain ⟨w1, hw1⟩ : ∃ w1, w1 = w.alloc (.cells #[.int .i64 p, .int .i64 k] 32) := ⟨_, rfl⟩
  have k1 : Blk w1 w.heap.size 32 #[.int .i64 p, .int .i64 k] := by rw [hw1]; exact Blk.new _ _ _
  have hl1 : Below w.heap.size w w1 := by rw [hw1]; exact (Below.refl _ w).alloc (Nat.le_refl _) _
  have s1 : w1.heap.size = w.heap.size + 1 := by rw [hw1]; simp
  have HAL := Lib.hid (rall_any (h.below hl1) hfew)
  have H := Lib.hid (And.intro hl1 (And.intro k1 hN5))
  have HW1 := Lib.hid hw1
  obtain ⟨L, hL⟩ : ∃ L, L = allH ps := ⟨_, rfl⟩
  have HL := Lib.hid hL
  rw [← hL] at hN5
  clear h hl1 k1 hw1 hfew hL
  go_enter Tryd.func37, Tryd.ntmps37
  go_wp2_with fail
  rw [← HW1.out]
  refine HAL.out.mono ?_
  rintro e w2 ⟨A7, c7, n7, rfl, hn7, ho7, hb2⟩
  have k2 := H.out.2.1.below hb2 (by omega)
  have s2 := hb2.size
  obtain ⟨w3, hw3⟩ : ∃ w3, w3 = w2.alloc (.cells #[] 32) := ⟨_, rfl⟩
  have hOut : OutR w2.heap.size w2 (fltP p k L 0) (.slice (some ⟨w2.heap.size, 0, none⟩) 0 0) w3 := by
    have h9 := World.ownsRow_lit (base := w2.heap.size) (size := 2) (e := 32) w2 #[] 0 (by simp) (by simp [maxLen]) (by simp)
    rw [hw3]
    exact ⟨_, 0, 0, rfl, rfl, by simpa [fltP, ridC] using h9, (Below.refl _ w2).alloc (Nat.le_refl _) _, by simp⟩
  have H2 := Lib.hid (And.intro hn7 (And.intro ho7 (And.intro k2 (And.intro (H.out.1.trans (hb2.mono (by omega))) hOut))))
  have HW3 := Lib.hid hw3
  have hn7b : n7 ≤ 65280 := by have := H.out.2.2; omega
  clear hn7 ho7 hb2 k2 hOut hw3 HAL
  go_wp2_with fail
  rw [← HW3.out]
  go_loopw [8, 9] (fun o i wr => ∃ j : Nat, j ≤ n7 ∧ i = .int .i64 j ∧ OutR w2.heap.size w2 (fltP p k L j) o wr ∧ (fltP p k L j).length ≤ most.toNat) (fun _ i _ => n7 - (intOf i).toNat)
  case atStart => exact ⟨0, Nat.zero_le _, rfl, H2.out.2.2.2.2, by simp [fltP]⟩
  case round =>
    obtain ⟨j, hj, rfl, ⟨A8, c8, n8, rfl, hn8, ho8, hb8, hs8⟩, hm8⟩ := hrel
    have hj0 : (0 : Int) ≤ (j : Int) := Int.natCast_nonneg _
    have hn80 : (0 : Int) ≤ (n8 : Int) := Int.natCast_nonneg _
    have hn8j : n8 ≤ j := by rw [hn8]; exact flt_len _ _ _ _
    have HJ := Lib.hid (And.intro hn8 (And.intro ho8 (And.intro hb8 (And.intro hs8 hm8))))
    have hfin : (L.length ≤ j ∨ most ≤ (n8 : Int)) → aftH ps p k most = fltP p k L j := fun h => by
      rw [aftH, ← HL.out]
      exact flt_end hm8 (by rw [← hn8]; exact h)
    have HFIN := Lib.hid hfin
    have hLn : L.length = n7 := by rw [H2.out.1, HL.out]
    have HLN := Lib.hid hLn
    clear hn8 ho8 hb8 hs8 hm8 hfin hLn
    by_cases hjn : j < n7
    · have hjn1 : (j : Int) < (n7 : Int) := by omega
      by_cases hmn : (n8 : Int) < most
      · obtain ⟨g7, c9, hv7, _, _⟩ := H2.out.2.1.form (by omega)
        injection hv7 with f1 _ f3
        subst f1
        subst f3
        have hjL : j < L.length := by rw [HLN.out]; exact hjn
        have ho7r := own_chg H2.out.2.1 (F := Non) (Chg.of_below HJ.out.2.2.1) (fun _ _ hn => hn)
        have ho7w := H2.out.2.1
        rw [← HL.out] at ho7r
        obtain ⟨r1, r2⟩ := ridC_at hjL
        obtain ⟨x1, hx1⟩ : ∃ x, x = L[j].1 := ⟨_, rfl⟩
        obtain ⟨x2, hx2⟩ : ∃ x, x = L[j].2 := ⟨_, rfl⟩
        have hbe : behind p k L[j] = (decide (p < x1) || (decide (x1 = p) && decide (k < x2))) := by rw [behind, ← hx1, ← hx2]
        have hLj : L[j] = (x1, x2) := by rw [hx1, hx2]
        rw [← hx1] at r1
        rw [← hx2] at r2
        have hlen2 := ho7r.1
        have l0 : wr.cell? ⟨g7, j * 2, none⟩ = some (.int .i64 x1) := by rw [ho7r.cellAt _ (by omega)]; exact r1
        have l1 : wr.cell? ⟨g7, j * 2 + 1, none⟩ = some (.int .i64 x2) := by rw [ho7r.cellAt _ (by omega)]; exact r2
        have kb := H2.out.2.2.1.below HJ.out.2.2.1 (by omega)
        have e0 := kb.cell 0
        have e1 := kb.cell 1
        simp only [List.getElem?_toArray, List.getElem?_cons_zero, List.getElem?_cons_succ] at e0 e1
        have HB := Lib.hid (And.intro hbe (And.intro hLj hjL))
        have hn8k : n8 ≤ 65280 := by omega
        clear hbe hLj ho7r ho7w r1 r2 hx1 hx2 hlen2 kb
        have hstep : behind p k L[j] = true → ∀ (v5 : Value) (w4 w5 : World), Below wr.heap.size wr w4 → w5.ownsRow w2.heap.size 32 2 v5 (n8 + 1) (ridC (fltP p k L j) ++ [.int .i64 x1, .int .i64 x2]) → w4.grownBy w5 (Value.slice A8 n8 c8).ownBlock →
            OutR w2.heap.size w2 (fltP p k L (j + 1)) v5 w5 ∧ (fltP p k L (j + 1)).length ≤ most.toNat := fun hb v5 w4 w5 hb4 hown5 hgr5 => by
          obtain ⟨A5, c5, rfl, _, _⟩ := own_shape2 hown5
          have hgb : ∀ q, (Value.slice A8 n8 c8).ownBlock = some q → w2.heap.size ≤ q := fun q hq => (HJ.out.2.1.lt q hq).1
          have hc35 : Chg (fun q => (Value.slice A8 n8 c8).ownBlock = some q) wr w5 := (Chg.of_below hb4).grown hgr5 (fun q hq _ => hq)
          have s5 := hc35.size
          have e := flt_yes HB.out.2.2 hb
          rw [HB.out.2.1] at e
          rw [e]
          exact ⟨⟨A5, c5, n8 + 1, rfl, by rw [List.length_append, ← HJ.out.1]; rfl, by rw [ridC_one]; exact hown5, HJ.out.2.2.1.trans (hc35.below (fun q hq => hgb q hq) HJ.out.2.2.2.1), by have := HJ.out.2.2.2.1; omega⟩, by rw [List.length_append, ← HJ.out.1]; simp; omega⟩
        have HST := Lib.hid hstep
        clear hstep
        by_cases d1 : p < x1
        · have d1b : decide (p < x1) = true := decide_eq_true d1
          go_wp2_with fail
          go_quiet (fail)
          have ho9 : (wr.drewN nq).ownsRow w2.heap.size 32 2 (.slice A8 n8 c8) n8 (ridC (fltP p k L j)) := HJ.out.2.1
          have HO9 := Lib.hid ho9
          clear ho9
          go_wp2_with (at_builtin; refine wpList_append_own _ rfl (.tmp 53) (.tmp 58) 41 rfl w2.heap.size 32 i0 (.agg #[.int .i64 0, .int .i64 0]) 2 16 Tryd.underlying41 hi hz0 hz1 hz2 rfl (by decide) _ n8 _ rfl (HO9.out.alloc _) ⟨wr.heap.size, 0, none⟩ 1 1 [.int .i64 x1, .int .i64 x2] rfl rfl (World.news_of_block (heap_alloc_new (wr.drewN nq) _)) ?c2 ?c3 ?c4 ?c5 ?_)
          case c2 => first | (intro u hu; simp at hu; rcases hu with rfl | rfl <;> rfl) | (constructor <;> rfl)
          case c3 => first | (unfold maxLen; omega) | (simp [maxLen]; omega)
          case c4 => first | omega | (simp; omega)
          case c5 => have h2 := HJ.out.2.2.2.1; simp; omega
          intro v5 w5 hown5 hgr5 _
          have hst := HST.out (by rw [HB.out.1, d1b]; rfl) v5 _ w5 (below_dN (Below.refl wr.heap.size wr) nq |>.alloc (Nat.le_refl _) _) hown5 hgr5
          have HF := Lib.hid hst
          clear hown5 hgr5 hst
          go_wp2_with fail
          go_roundw
          case rel => exact ⟨j + 1, by omega, by go_num, HF.out.1, HF.out.2⟩
          case measure => simp [intOf]; omega
        · have d1b : decide (p < x1) = false := decide_eq_false d1
          by_cases d2 : x1 = p
          · have d2b : decide (x1 = p) = true := decide_eq_true d2
            by_cases d3 : k < x2
            · have d3b : decide (k < x2) = true := decide_eq_true d3
              go_wp2_with fail
              go_quiet (fail)
              have ho9 : (wr.drewN nq).ownsRow w2.heap.size 32 2 (.slice A8 n8 c8) n8 (ridC (fltP p k L j)) := HJ.out.2.1
              have HO9 := Lib.hid ho9
              clear ho9
              go_wp2_with (at_builtin; refine wpList_append_own _ rfl (.tmp 53) (.tmp 58) 41 rfl w2.heap.size 32 i0 (.agg #[.int .i64 0, .int .i64 0]) 2 16 Tryd.underlying41 hi hz0 hz1 hz2 rfl (by decide) _ n8 _ rfl (HO9.out.alloc _) ⟨wr.heap.size, 0, none⟩ 1 1 [.int .i64 p, .int .i64 x2] rfl rfl (World.news_of_block (heap_alloc_new (wr.drewN nq) _)) ?d2 ?d3 ?d4 ?d5 ?_)
              case d2 => first | (intro u hu; simp at hu; rcases hu with rfl | rfl <;> rfl) | (constructor <;> rfl)
              case d3 => first | (unfold maxLen; omega) | (simp [maxLen]; omega)
              case d4 => first | omega | (simp; omega)
              case d5 => have h2 := HJ.out.2.2.2.1; simp; omega
              intro v5 w5 hown5 hgr5 _
              have hst := HST.out (by rw [HB.out.1, d1b, d2b, d3b]; rfl) v5 _ w5 (below_dN (Below.refl wr.heap.size wr) nq |>.alloc (Nat.le_refl _) _) (by rw [d2]; exact hown5) hgr5
              have HF := Lib.hid hst
              clear hown5 hgr5 hst
              go_wp2_with fail
              go_roundw
              case rel => exact ⟨j + 1, by omega, by go_num, HF.out.1, HF.out.2⟩
              case measure => simp [intOf]; omega
            · have d3b : decide (k < x2) = false := decide_eq_false d3
              have e9 := flt_no HB.out.2.2 (by rw [HB.out.1, d1b, d2b, d3b]; rfl)
              have HF := Lib.hid (show ∀ d, OutR w2.heap.size w2 (fltP p k L (j + 1)) (.slice A8 n8 c8) (wr.drewN d) ∧ (fltP p k L (j + 1)).length ≤ most.toNat from fun d => by
                rw [e9]
                exact ⟨⟨A8, c8, n8, rfl, HJ.out.1, HJ.out.2.1, below_dN HJ.out.2.2.1 d, HJ.out.2.2.2.1⟩, HJ.out.2.2.2.2⟩)
              clear e9
              go_wp2_with fail
              go_quiet (fail)
              go_wp2_with fail
              go_roundw
              case rel => exact ⟨j + 1, by omega, by go_num, (HF.out _).1, (HF.out 0).2⟩
              case measure => simp [intOf]; omega
          · have d2b : decide (x1 = p) = false := decide_eq_false d2
            have e9 := flt_no HB.out.2.2 (by rw [HB.out.1, d1b, d2b]; rfl)
            have HF := Lib.hid (show ∀ d, OutR w2.heap.size w2 (fltP p k L (j + 1)) (.slice A8 n8 c8) (wr.drewN d) ∧ (fltP p k L (j + 1)).length ≤ most.toNat from fun d => by
              rw [e9]
              exact ⟨⟨A8, c8, n8, rfl, HJ.out.1, HJ.out.2.1, below_dN HJ.out.2.2.1 d, HJ.out.2.2.2.1⟩, HJ.out.2.2.2.2⟩)
            clear e9
            go_wp2_with fail
            go_quiet (fail)
            go_wp2_with fail
            go_roundw
            case rel => exact ⟨j + 1, by omega, by go_num, (HF.out _).1, (HF.out 0).2⟩
            case measure => simp [intOf]; omega
      · have HE := Lib.hid (HFIN.out (.inr (by omega)))
        go_wp2_with fail
        go_ret
        exact ⟨A8, c8, n8, rfl, by rw [HE.out]; exact HJ.out.1, by rw [HE.out]; exact own_base2 HJ.out.2.1 (by omega), H2.out.2.2.2.1.trans (HJ.out.2.2.1.mono (by omega))⟩
    · have hjn1 : ¬ ((j : Int) < (n7 : Int)) := by omega
      have HE := Lib.hid (HFIN.out (.inl (by rw [HLN.out]; omega)))
      go_wp2_with fail
      go_ret
      exact ⟨A8, c8, n8, rfl, by rw [HE.out]; exact HJ.out.1, by rw [HE.out]; exact own_base2 HJ.out.2.1 (by omega), H2.out.2.2.2.1.trans (HJ.out.2.2.1.mono (by omega))⟩
end
end Go.Proofs.YtdnegfjddpdmhaaDoor
