/-
  WalSwitch returns true for all rows of records and all numbers: a crash within a switch leaves what was there, or what was handed to it; the rows that are handed in are left as they were.
  No condition but the reach of the statement's form.
-/
import Derived.Test.YtehghjakggdnpaaWSwX
import Derived.Test.YtehghjakggdnpaaWWeigh
import Derived.Test.YtehghjakggdnpaaWLift
namespace Go.Proofs.Ytehghjakggdnpaa
open Go.RowKit Go.Lib

theorem lists_le {w : World} {B : Nat} {xs : List Sl} (hs : SlsIn w B xs) (h : ∀ x ∈ xs, x.n ≤ 4096) (hb : ∀ x ∈ xs, IsBytes x.l) : ∀ r ∈ lists xs, IsBytes r ∧ r.length ≤ 4096 := by
  intro r hr
  simp only [lists, List.mem_map] at hr
  obtain ⟨x, hx, rfl⟩ := hr
  have h1 := (hs x hx).1.len
  rw [cells_len] at h1
  have h2 := h x hx
  exact ⟨hb x hx, by omega⟩
theorem rs_le {w : World} {B : Nat} {rs : List Sl} {L : List (List Int)} (hs : SlsIn w B rs) (hl : lists rs = L) (h : ∀ r ∈ L, IsBytes r ∧ r.length ≤ 4096) : (∀ x ∈ rs, x.n ≤ 140000000000000) ∧ rs.length = L.length := by
  refine ⟨fun x hx => ?_, by rw [← hl]; simp [lists]⟩
  have h1 := (hs x hx).1.len
  rw [cells_len] at h1
  have h2 := (h x.l (by rw [← hl]; exact List.mem_map_of_mem hx)).2
  omega
theorem SlsIn.drewN {w : World} {B : Nat} {xs : List Sl} (h : SlsIn w B xs) (d : Nat) : SlsIn (w.drewN d) B xs := fun x hx => ⟨(h x hx).1.drewN d, (h x hx).2⟩
def OuRel (w : World) (gm cap gd : Nat) (D : List Int) (f : Nat → List Int) (t : Nat) (i : Value) (wr : World) : Prop := ∃ k : Nat, k ≤ 2 ∧ i = .int .i64 k ∧ MxSt w wr gm cap gd D (if k = 0 then f 0 else f t)
def InRel0 (w : World) (gm cap gd : Nat) (D : List Int) (f : Nat → List Int) (t : Nat) (i : Value) (wr : World) : Prop := ∃ j : Nat, j ≤ t ∧ i = .int .i64 j ∧ MxSt w wr gm cap gd D (f j)
def InRel1 (w : World) (gm cap gd : Nat) (D : List Int) (f : Nat → List Int) (t : Nat) (i : Value) (wr : World) : Prop := ∃ j : Nat, j ≤ t ∧ i = .int .i64 ((64 + j : Nat) : Int) ∧ MxSt w wr gm cap gd D (f t)

/-- the first k old records are appended -/
def OwRel (w : World) (g l : Nat) (xs : List Sl) (i : Value) (wr : World) : Prop := ∃ k : Nat, k ≤ xs.length ∧ i = .int .i64 k ∧ OSt w wr g l (lists (xs.take k)) ∧ ∀ x ∈ xs.take k, x.n ≤ 4096

set_option maxRecDepth 100000 in
set_option maxHeartbeats 12800000 in
theorem walSwitch_walk (A : Option Addr) (len c : Nat) (xs : List Sl) (A' : Option Addr) (len' c' : Nat) (ys : List Sl) (keep torn : Int) (w : World) (hr : Rd w w.heap.size A len (vals xs)) (hs : SlsIn w w.heap.size xs) (hy : ∀ x ∈ xs, IsBytes x.l) (he : xs.length = len) (_hl : len ≤ c) (_hm : c ≤ maxLen) (hb : ∀ x ∈ xs, x.n ≤ 140737488355328)
    (hr' : Rd w w.heap.size A' len' (vals ys)) (hs' : SlsIn w w.heap.size ys) (hy' : ∀ x ∈ ys, IsBytes x.l) (he' : ys.length = len') (_hl' : len' ≤ c') (_hm' : c' ≤ maxLen) (hb' : ∀ x ∈ ys, x.n ≤ 140737488355328) (_b1 : -9223372036854775808 ≤ keep ∧ keep ≤ 9223372036854775807) (_b2 : -9223372036854775808 ≤ torn ∧ torn ≤ 9223372036854775807) :
    Calls Try.prog 6 #[.slice A len c, .slice A' len' c', .int .i64 keep, .int .i64 torn] w (YesB w) := by
  subst he
  subst he'
  have HX := Lib.hid (And.intro hr (And.intro hs hb))
  have HY := Lib.hid (And.intro hr' (And.intro hs' hb'))
  have HB := Lib.hid (And.intro hy hy')
  clear hr hs hb hr' hs' hb' hy hy'
  go_enter Try.func6, Try.ntmps6
  go_wp2_with fail
  refine (alive_any w).mono ?_
  rintro e w1 ⟨rfl, h1⟩
  have HA := Lib.hid h1
  clear h1
  have hr1 : Rd w1 w1.heap.size A xs.length (vals xs) := (HX.out.1.below HA.out (Nat.le_refl _)).more HA.out.size
  have hs1 : SlsIn w1 w1.heap.size xs := (HX.out.2.1.below HA.out (Nat.le_refl _)).more HA.out.size
  have hr2 : Rd w1 w1.heap.size A' ys.length (vals ys) := (HY.out.1.below HA.out (Nat.le_refl _)).more HA.out.size
  have hs2 : SlsIn w1 w1.heap.size ys := (HY.out.2.1.below HA.out (Nat.le_refl _)).more HA.out.size
  have HW := Lib.hid (And.intro hr1 (And.intro hs1 (And.intro hr2 hs2)))
  clear hr1 hs1 hr2 hs2
  go_wp2_with fail
  refine (weigh_any A c xs 3000 (by omega) w1 HW.out.1 HW.out.2.1 HX.out.2.2).mono ?_
  rintro e w1' ⟨rfl, q, rfl, hq⟩
  by_cases g1 : 3000 < q
  · have g1i : (3000 : Int) < (q : Int) := by omega
    clear hq
    go_wp2
    go_ret
    exact ⟨rfl, HA.out⟩
  have hwx := hq (by omega)
  have hxl : xs.length ≤ 3000 := by have := weighM_len xs; omega
  have g1i : ¬ ((3000 : Int) < (q : Int)) := by omega
  clear hq hwx
  go_wp2_with fail
  refine (weigh_any A' c' ys 3000 (by omega) w1 HW.out.2.2.1 HW.out.2.2.2 HY.out.2.2).mono ?_
  rintro e w1' ⟨rfl, q', rfl, hq⟩
  by_cases g2 : 3000 < q'
  · have g2i : (3000 : Int) < (q' : Int) := by omega
    clear hq
    go_wp2
    go_ret
    exact ⟨rfl, HA.out⟩
  have hwx := hq (by omega)
  have hyl : ys.length ≤ 3000 := by have := weighM_len ys; omega
  have g2i : ¬ ((3000 : Int) < (q' : Int)) := by omega
  clear hq hwx
  go_wp2_with fail
  refine (dknew_any w1 400 (by omega) (by omega)).mono ?_
  rintro e w2 ⟨g, rfl, hd, hb2⟩
  have lo2 : ∀ k, Ext Non w1 w2 k → w.heap.size ≤ k := fun k hk => hk.elim (fun h => h.elim) fun h => by have := HA.out.size; omega
  have H2 := Lib.hid (And.intro (show DiskAt w2 g (Ext Non w1 w2) (newS 400) from hd) (And.intro lo2 (HA.out.trans (hb2.mono HA.out.size))))
  clear hd hb2 lo2
  go_wp2_with fail
  refine (format_new H2.out.1 H2.out.2.1 H2.out.2.2 (by omega)).mono ?_
  rintro e w3 ⟨l, F3, rfl, h3⟩
  have H3 := Lib.hid h3
  clear h3
  go_wp2_with fail
  go_loopw [12] (fun i wr => OwRel w g l xs i wr) (fun i _ => xs.length - (intOf i).toNat)
  case atStart => exact ⟨0, by omega, rfl, ⟨F3, H3.out, by show 0 ≤ 199; omega⟩, fun x hx => by simp at hx⟩
  case round =>
    obtain ⟨k, hk, rfl, hst, hsm⟩ := hrel
    by_cases hlt : k < xs.length
    · obtain ⟨ad, v, rfl, hadb, hv, hcw⟩ := HX.out.1.at_ hlt
      obtain ⟨x, hx⟩ : ∃ x, x = xs[k]'hlt := ⟨_, rfl⟩
      have hxm : x ∈ xs := by rw [hx]; exact List.getElem_mem _
      obtain rfl := vals_at hlt hv
      rw [← hx] at hcw
      have hc := (hst.b.cell (p := ad.add k) (by rw [addr_block]; exact hadb)).trans hcw
      have hrx := ((HX.out.2.1 x hxm).1.below hst.b (Nat.le_refl _)).more hst.b.size
      have hk0 : (0 : Int) ≤ (k : Int) := Int.natCast_nonneg _
      have hk1 : (k : Int) < (xs.length : Int) := by omega
      have hls : lists (xs.take (k + 1)) = lists (xs.take k) ++ [x.l] := by rw [lists_take_succ hlt, hx]
      have HL := Lib.hid (And.intro hst (And.intro hrx (And.intro hls (And.intro hsm hx))))
      clear hst hrx hls hsm hx hv hadb hcw hxm
      go_wp2_with fail
      refine (ost_append HL.out.1 x.A x.n x.c x.l HL.out.2.1).mono ?_
      rintro e w6 (⟨q9, hq9, rfl, h6⟩ | ⟨rfl, hn6, h6⟩)
      · have H6 := Lib.hid h6
        have e1 : (q9 != 0) = true := by simpa using hq9
        have e2 : (q9 == 0) = false := by simpa using hq9
        clear h6 hc
        go_wp2
        go_ret
        exact ⟨rfl, H6.out⟩
      · have HF := Lib.hid (show OwRel w g l xs (.int .i64 ((k : Int) + 1)) w6 from ⟨k + 1, by omega, by go_num, by rw [HL.out.2.2.1]; exact h6, fun y hy => by
          rw [List.take_succ_eq_append_getElem hlt] at hy
          rcases List.mem_append.1 hy with hy | hy
          · exact HL.out.2.2.2.1 y hy
          · rw [List.mem_singleton.1 hy, ← HL.out.2.2.2.2]; exact hn6⟩)
        clear h6 hn6 hc
        go_wp2
        go_roundw
        case rel => exact HF.out
        case measure => simp [intOf]; omega
    · have hkn : ¬ ((k : Int) < (xs.length : Int)) := by omega
      have hxt : xs.take k = xs := List.take_of_length_le (by omega)
      rw [hxt] at hst hsm
      have HO := Lib.hid (And.intro hst hsm)
      clear hst hsm hxt
      go_wp2_with fail
      refine (ost_flush HO.out.1).mono ?_
      rintro e w4 ⟨rfl, h4⟩
      have H4 := Lib.hid h4
      clear h4
      go_wp2_with fail
      refine (fst_image H4.out).mono ?_
      rintro e w5 ⟨gi, rfl, h5⟩
      have H5 := Lib.hid h5
      clear h5
      go_wp2_with fail
      refine (ist_switch H5.out A' c' ys HY.out.1 HY.out.2.1 (by omega)).mono ?_
      rintro e w6 (⟨q9, hq9, rfl, h6⟩ | ⟨rfl, hn6, h6⟩)
      · have H6 := Lib.hid h6
        have e1 : (q9 != 0) = true := by simpa using hq9
        have e2 : (q9 == 0) = false := by simpa using hq9
        clear h6
        go_wp2
        go_ret
        exact ⟨rfl, H6.out⟩
      have H6 := Lib.hid (And.intro h6 hn6)
      clear h6 hn6
      go_wp2_with fail
      refine (dst_image H6.out.1).mono ?_
      rintro e w7 ⟨gd, rfl, h7, hne7⟩
      have H7 := Lib.hid (And.intro h7 hne7)
      clear h7 hne7
      go_wp2_with fail
      have hlD : (sS (lists xs) (lists ys)).last.flatten.length = 25600 := by rw [flat_len H7.out.1.2.2.2.2.2.1, sS_len]
      have hlO : (oS (lists xs)).last.flatten.length = 25600 := by rw [flat_len H7.out.1.2.2.2.2.2.2, oS_len]
      refine (dkcopyBytes_any _ _ _ _ w7 (Blk.rd H7.out.1.2.2.2.2.1 (by rw [cells_len, hlD])) (by omega)).mono ?_
      rintro e w8 ⟨v8, rfl, ho8, hb8⟩
      rw [hlD] at ho8
      obtain ⟨A8, c8, rfl, hc8, hm8⟩ := own_form ho8
      obtain ⟨gm, rfl⟩ : ∃ gm, A8 = some ⟨gm, 0, none⟩ := by
        obtain ⟨g3, cap3, e, _⟩ := ho8.form (by omega)
        injection e with e1
        exact ⟨g3, e1⟩
      have H8 := Lib.hid (And.intro ho8 (And.intro hb8 (And.intro (H7.out.1.2.2.2.1.below hb8 H7.out.1.2.2.2.1.lt) (And.intro (H7.out.1.2.2.2.2.1.below hb8 H7.out.1.2.2.2.2.1.lt) (And.intro hlD hlO)))))
      clear ho8 hb8 hlD hlO
      have HRN := Lib.hid (And.intro (lists_le HX.out.2.1 HO.out.2 HB.out.1) (lists_le HY.out.2.1 H6.out.2 HB.out.2))
      by_cases g3 : bits BinOp.and IntKind.i64 keep 1 = 0
      · have g3i : (bits BinOp.and IntKind.i64 keep 1 == 0) = true := by rw [g3]; rfl
        go_wp2_with fail
        refine wp_region_held_drew (S := fun _ => True) (by kernel_rfl) trivial (fun hHeld => ?_)
        refine wpAnyH_take (i := 0) (v := ?_) rfl (by kernel_rfl) (by kernel_rfl) (by kernel_rfl) (fun _ _ _ h => h) (Or.inl ⟨by rfl, ?_⟩) (by assumption) ?_
        rotate_left
        · (intro w hSw; (try dsimp only at hSw); go_simp; (try with_reducible rfl))
        simp only [Act.put, List.getElem_toArray, List.getElem_cons_zero, List.setIfInBounds_toArray, List.set_cons_zero, List.set_cons_succ]
        refine wpAnyH_take (i := 1) (v := ?_) rfl (by kernel_rfl) (by kernel_rfl) (by kernel_rfl) (fun _ _ _ h => h) (Or.inl ⟨by rfl, ?_⟩) (by assumption) ?_
        rotate_left
        · (intro w hSw; (try dsimp only at hSw); go_simp; (try with_reducible rfl))
        simp only [Act.put, List.getElem_toArray, List.getElem_cons_succ, List.getElem_cons_zero, List.setIfInBounds_toArray, List.set_cons_zero, List.set_cons_succ]
        refine wpAnyH_take (i := 3) (v := ?_) rfl (by kernel_rfl) (by kernel_rfl) (by kernel_rfl) (fun _ _ _ h => h) (Or.inl ⟨by rfl, ?_⟩) (by assumption) ?_
        rotate_left
        · (intro w hSw; (try dsimp only at hSw); go_simp; (try with_reducible rfl))
        simp only [Act.put, List.getElem_toArray, List.getElem_cons_succ, List.getElem_cons_zero, List.setIfInBounds_toArray, List.set_cons_zero, List.set_cons_succ]
        refine wpAnyH_take (i := 4) (v := ?_) rfl (by kernel_rfl) (by kernel_rfl) (by kernel_rfl) (fun _ _ _ h => h) (Or.inl ⟨by rfl, ?_⟩) (by assumption) ?_
        rotate_left
        · (intro w hSw; (try dsimp only at hSw); go_simp; (try with_reducible rfl))
        simp only [Act.put, List.getElem_toArray, List.getElem_cons_succ, List.getElem_cons_zero, List.setIfInBounds_toArray, List.set_cons_zero, List.set_cons_succ]
        refine wpAnyH_ready (rs := [2]) (by kernel_rfl) (by simp) ?_
        refine AllReadyH.cons rfl (fun K hK => ?_) AllReadyH.nil
        go_simp
        refine (dkcopyBytes_any (some ⟨gi, 0, none⟩) 128 25600 ((oS (lists xs)).last.flatten.take 128) w8.drew (by
          have h1 := (Blk.rd (Blk.drew H8.out.2.2.1) (by rw [cells_len, H8.out.2.2.2.2.2])).cuth (show 128 ≤ 25600 by omega)
          rwa [show (cells (oS (lists xs)).last.flatten).take 128 = cells ((oS (lists xs)).last.flatten.take 128) by simp [cells, List.map_take]] at h1) (by omega)).mono ?_
        rintro e w9 ⟨v9, rfl, ho9, hb9⟩
        have hl9 : ((oS (lists xs)).last.flatten.take 128).length = 128 := by rw [List.length_take, H8.out.2.2.2.2.2]; rfl
        rw [hl9] at ho9
        have hb9' : Below w8.heap.size w8 w9 := ⟨hb9.os, hb9.tape, hb9.output, hb9.size, hb9.block⟩
        have H9 := Lib.hid (And.intro ho9 (And.intro hb9' (H8.out.2.2.2.1.below hb9' H8.out.2.2.2.1.lt)))
        clear ho9 hb9 hb9' hl9
        refine hK.out _ _ trivial (fun hHeld => ?_)
        clear hK K
        try simp only [Act.put, List.getElem_toArray, List.getElem_cons_succ, List.getElem_cons_zero, List.setIfInBounds_toArray, List.set_cons_zero, List.set_cons_succ]
        refine wpAnyH_ready (rs := [5]) (by kernel_rfl) (by simp) ?_
        refine AllReadyH.cons rfl (fun K hK => ?_) AllReadyH.nil
        obtain ⟨i0, hi, hz0, hz1, hz2⟩ := info_parts Try.dkinfo5
        refine step_append_lies _ rfl (.tmp 82) (.tmp 84) 38 rfl w8.drew.heap.size 5 i0 (.int .u8 0) 1 1 Try.underlying38 hi hz0 hz1 hz2 rfl (by decide) _ _ _ (by rfl) H9.out.1 ⟨gd, 128, none⟩ 25472 25472 (cells ((sS (lists xs) (lists ys)).last.flatten.drop 128)) (by rfl) (by rw [cells_len, List.length_drop, H8.out.2.2.2.2.1]) ?n1 (cells_one _) (by omega) (by simp [maxLen]) (by omega) H9.out.2.1.size w9.heap.size rfl ?_
        case n1 =>
          intro j u hu
          rw [Addr.add_mid]
          refine H9.out.2.2.src (128 + j) u ?_
          rw [← hu]
          simp [cells, List.map_drop]
        intro g3 cap3 w10 ho10 hg10 hat10 hlt10
        have hb10 : Below w8.heap.size w9 w10 := below_own H9.out.1 hg10 H9.out.2.1.size
        have H10 := Lib.hid (And.intro ho10 (H9.out.2.1.trans hb10))
        clear ho10 hg10 hat10 hlt10 hb10 hi hz0 hz1 hz2
        refine hK.out _ _ trivial (fun hHeld => ?_)
        clear hK K
        try simp only [Act.put, List.getElem_toArray, List.getElem_cons_succ, List.getElem_cons_zero, List.setIfInBounds_toArray, List.set_cons_zero, List.set_cons_succ]
        refine wpAnyH_take (i := 6) (v := ?_) rfl (by kernel_rfl) (by kernel_rfl) (by kernel_rfl) (fun _ _ _ h => h) (Or.inl ⟨by rfl, ?_⟩) (by assumption) ?_
        rotate_left
        · (intro w hSw; (try dsimp only at hSw); go_simp; (try with_reducible rfl))
        simp only [Act.put, List.getElem_toArray, List.getElem_cons_succ, List.getElem_cons_zero, List.setIfInBounds_toArray, List.set_cons_zero, List.set_cons_succ]
        refine wpAnyH_done (by kernel_rfl) ?_ _
        try simp only [Act.put, List.getElem_toArray, List.getElem_cons_succ, List.getElem_cons_zero, List.setIfInBounds_toArray, List.set_cons_zero, List.set_cons_succ]
        obtain ⟨f, hfam, hf0⟩ := fam_mix HRN.out.1 HRN.out.2 H7.out.1.2.1 H7.out.1.2.2.1 H7.out.1.2.2.2.2.2.1 H7.out.1.2.2.2.2.2.2
        have HFAM := Lib.hid hfam
        have hm0 : MxSt w w10 g3 cap3 gd (sS (lists xs) (lists ys)).last.flatten (f 0) := by
          have h1 := H10.out.1
          have hb8 : Below w.heap.size w w8 := H7.out.1.1.trans (H8.out.2.1.mono H7.out.1.1.size)
          rw [hf0]
          refine ⟨?_, hb8.trans (H10.out.2.mono hb8.size), H8.out.2.2.2.1.below H10.out.2 H8.out.2.2.2.1.lt, ?_⟩
          · have h2 := own_base h1 (show w.heap.size ≤ w8.drew.heap.size from hb8.size)
            rw [← cells_append] at h2
            exact h2
          · have h3 : w8.drew.heap.size ≤ g3 := (h1.lt g3 rfl).1
            have h4 := H8.out.2.2.2.1.lt
            have h5 : w8.drew.heap.size = w8.heap.size := rfl
            omega
        have HM := Lib.hid hm0
        clear hfam hf0 hm0
        by_cases g4 : bits BinOp.and IntKind.i64 keep 3 = 2
        · have g4i : (bits BinOp.and IntKind.i64 keep 3 == 2) = true := by rw [g4]; rfl
          by_cases g5 : 0 ≤ torn
          · by_cases g6 : torn < 64
            · obtain ⟨tt, rfl⟩ : ∃ tt : Nat, torn = (tt : Int) := ⟨torn.toNat, by omega⟩
              have htt0 : (0 : Int) ≤ (tt : Int) := Int.natCast_nonneg _
              have htt : tt < 64 := by omega
              go_wp2_with fail
              go_loopw [16] (fun i wr => OuRel w g3 cap3 gd (sS (lists xs) (lists ys)).last.flatten f tt i wr) (fun i _ => 2 - (intOf i).toNat)
              case atStart => exact ⟨0, by omega, rfl, HM.out⟩
              case round =>
                obtain ⟨k, hk, rfl, hm⟩ := hrel
                rcases (by omega : k = 0 ∨ k = 1 ∨ k = 2) with rfl | rfl | rfl
                · rw [if_pos rfl] at hm
                  have HM := Lib.hid hm
                  clear hm
                  go_wp2_with fail
                  go_loopw [17] (fun i wr => InRel0 w g3 cap3 gd (sS (lists xs) (lists ys)).last.flatten f tt i wr) (fun i _ => tt - (intOf i).toNat)
                  case atStart => exact ⟨0, by omega, rfl, HM.out⟩
                  case round =>
                    obtain ⟨j, hj, rfl, hm⟩ := hrel
                    have hj0 : (0 : Int) ≤ (j : Int) := Int.natCast_nonneg _
                    by_cases hlt : j < tt
                    · obtain ⟨x, hx, hc1, ⟨v, hc2⟩, hf2⟩ := hm.at_ HFAM.out (j := j) (by omega)
                      have HF := Lib.hid (show InRel0 w g3 cap3 gd (sS (lists xs) (lists ys)).last.flatten f tt (.int .i64 ((j : Int) + 1)) (wr.setCell ⟨g3, j, none⟩ (.int .u8 x)) from ⟨j + 1, by omega, by simp, by
                        have h := hm.put j x
                        rw [HFAM.out.set j x (by omega) hx] at h
                        exact h⟩)
                      clear hm hx
                      go_wp2
                      go_roundw
                      case rel => exact HF.out
                      case measure => simp [intOf]; omega
                    · obtain rfl : j = tt := by omega
                      have HF := Lib.hid (show OuRel w g3 cap3 gd (sS (lists xs) (lists ys)).last.flatten f j (.int .i64 1) wr from ⟨1, by omega, rfl, by rw [if_neg (by omega)]; exact hm⟩)
                      clear hm
                      go_wp2
                      go_roundw
                      case rel => exact HF.out
                      case measure => simp [intOf]
                · rw [if_neg (by omega)] at hm
                  have HM := Lib.hid hm
                  clear hm
                  go_wp2_with fail
                  go_loopw [17] (fun i wr => InRel1 w g3 cap3 gd (sS (lists xs) (lists ys)).last.flatten f tt i wr) (fun i _ => 64 + tt - (intOf i).toNat)
                  case atStart => exact ⟨0, by omega, rfl, HM.out⟩
                  case round =>
                    obtain ⟨j, hj, rfl, hm⟩ := hrel
                    have hj0 : (0 : Int) ≤ (j : Int) := Int.natCast_nonneg _
                    obtain ⟨z, hz⟩ : ∃ z, z = 64 + j := ⟨_, rfl⟩
                    rw [← hz]
                    have hz0 : (0 : Int) ≤ (z : Int) := Int.natCast_nonneg _
                    have HZ := Lib.hid hz
                    have hzl : z ≤ 64 + tt := by omega
                    have hz64 : 64 ≤ z := by omega
                    by_cases hlt : j < tt
                    · have hzi : (z : Int) < 64 + (tt : Int) := by omega
                      have hz256 : z < 25600 := by omega
                      obtain ⟨x, hx, hc1, ⟨v, hc2⟩, hf2⟩ := hm.at_ HFAM.out (j := z) hz256
                      have HF := Lib.hid (show InRel1 w g3 cap3 gd (sS (lists xs) (lists ys)).last.flatten f tt (.int .i64 ((z : Int) + 1)) (wr.setCell ⟨g3, z, none⟩ (.int .u8 x)) from ⟨j + 1, by omega, by congr 1; omega, by
                        have h := hm.put z x
                        rw [set_far_id HFAM.out hz64 hx] at h
                        exact h⟩)
                      clear hm hx hz
                      go_wp2
                      go_roundw
                      case rel => exact HF.out
                      case measure => simp [intOf]; omega
                    · have hzi : ¬ ((z : Int) < 64 + (tt : Int)) := by omega
                      have HF := Lib.hid (show OuRel w g3 cap3 gd (sS (lists xs) (lists ys)).last.flatten f tt (.int .i64 2) wr from ⟨2, by omega, rfl, by rw [if_neg (by omega)]; exact hm⟩)
                      clear hm hz
                      go_wp2
                      go_roundw
                      case rel => exact HF.out
                      case measure => simp [intOf]
                · rw [if_neg (by omega)] at hm
                  have HM := Lib.hid hm
                  clear hm
                  obtain ⟨b, hbq, hmx⟩ := MxSt.mixed HM.out HFAM.out H7.out.1.2.1 H7.out.1.2.2.1
                  have HMX := Lib.hid hmx
                  clear hmx
                  go_wp2_with fail
                  refine (mixed_load HMX.out).mono ?_
                  rintro e wl ⟨gl, rfl, hls⟩
                  have HLS := Lib.hid hls
                  clear hls
                  go_wp2_with fail
                  refine (lst_open HLS.out (fun r hr => (HRN.out.1 r hr).2) (fun r hr => (HRN.out.2 r hr).2)).mono ?_
                  rintro e wo ⟨lo, Ao, co, rs, rfl, hro, hso, hlo, hbo⟩
                  have HOP := Lib.hid (And.intro hro (And.intro hso hbo))
                  have hyo : Rd wo w.heap.size A' ys.length (vals ys) := HY.out.1.below hbo (Nat.le_refl _)
                  have hyso : SlsIn wo w.heap.size ys := HY.out.2.1.below hbo (Nat.le_refl _)
                  have hxo : Rd wo w.heap.size A xs.length (vals xs) := HX.out.1.below hbo (Nat.le_refl _)
                  have hxso : SlsIn wo w.heap.size xs := HX.out.2.1.below hbo (Nat.le_refl _)
                  have HRO := Lib.hid (And.intro hyo (And.intro hyso (And.intro hxo hxso)))
                  clear hro hso hbo hyo hyso hxo hxso
                  cases b with
                  | true =>
                    rw [if_pos rfl] at hlo
                    obtain ⟨hrn, hrl⟩ := rs_le HOP.out.2.1 hlo HRN.out.2
                    have hrl2 : rs.length ≤ 3000 := by rw [hrl]; simp [lists]; omega
                    have HSL := Lib.hid (sameLists_dec Ao A' rs.length ys.length co c' rs ys wo _ _ _ _ rfl rfl HOP.out.1 HRO.out.1 HOP.out.2.1 HRO.out.2.1 hrn (by omega))
                    rw [decide_eq_true hlo] at HSL
                    clear hrn hrl hlo hbq
                    go_wp2_with fail
                    refine HSL.out.mono ?_
                    rintro e wz ⟨rfl, d, rfl⟩
                    have HBZ := Lib.hid (show Below w.heap.size w (wo.drewN d) from ⟨HOP.out.2.2.os, HOP.out.2.2.tape, HOP.out.2.2.output, HOP.out.2.2.size, HOP.out.2.2.block⟩)
                    go_wp2
                    go_ret
                    exact ⟨rfl, HBZ.out⟩
                  | false =>
                    rw [if_neg (by simp)] at hlo
                    obtain ⟨hrn, hrl⟩ := rs_le HOP.out.2.1 hlo HRN.out.1
                    have hrl2 : rs.length ≤ 3000 := by rw [hrl]; simp [lists]; omega
                    have HSL := Lib.hid (sameLists_dec Ao A' rs.length ys.length co c' rs ys wo _ _ _ _ rfl rfl HOP.out.1 HRO.out.1 HOP.out.2.1 HRO.out.2.1 hrn (by omega))
                    have HSO := Lib.hid (fun d => sameLists_dec Ao A rs.length xs.length co c rs xs (wo.drewN d) _ _ _ _ rfl rfl (HOP.out.1.drewN d) (HRO.out.2.2.1.drewN d) (SlsIn.drewN HOP.out.2.1 d) (SlsIn.drewN HRO.out.2.2.2 d) hrn (by omega))
                    by_cases hRN : lists rs = lists ys
                    · rw [decide_eq_true hRN] at HSL
                      clear hrn hrl hlo hbq hRN
                      go_wp2_with fail
                      refine HSL.out.mono ?_
                      rintro e wz ⟨rfl, d, rfl⟩
                      have HBZ := Lib.hid (show Below w.heap.size w (wo.drewN d) from ⟨HOP.out.2.2.os, HOP.out.2.2.tape, HOP.out.2.2.output, HOP.out.2.2.size, HOP.out.2.2.block⟩)
                      go_wp2
                      go_ret
                      exact ⟨rfl, HBZ.out⟩
                    · rw [decide_eq_false hRN] at HSL
                      rw [decide_eq_true hlo] at HSO
                      clear hrn hrl hlo hbq hRN
                      go_wp2_with fail
                      refine HSL.out.mono ?_
                      rintro e wz ⟨rfl, d, rfl⟩
                      go_wp2_with fail
                      refine (HSO.out d).mono ?_
                      rintro e wy ⟨rfl, d2, rfl⟩
                      go_wp2
                      go_ret
                      exact ⟨rfl, HOP.out.2.2.os, HOP.out.2.2.tape, HOP.out.2.2.output, HOP.out.2.2.size, HOP.out.2.2.block⟩
            · skip
              obtain ⟨b, hbq, hmx⟩ := MxSt.mixed HM.out HFAM.out H7.out.1.2.1 H7.out.1.2.2.1
              have HMX := Lib.hid hmx
              clear hmx
              go_wp2_with fail
              refine (mixed_load HMX.out).mono ?_
              rintro e wl ⟨gl, rfl, hls⟩
              have HLS := Lib.hid hls
              clear hls
              go_wp2_with fail
              refine (lst_open HLS.out (fun r hr => (HRN.out.1 r hr).2) (fun r hr => (HRN.out.2 r hr).2)).mono ?_
              rintro e wo ⟨lo, Ao, co, rs, rfl, hro, hso, hlo, hbo⟩
              have HOP := Lib.hid (And.intro hro (And.intro hso hbo))
              have hyo : Rd wo w.heap.size A' ys.length (vals ys) := HY.out.1.below hbo (Nat.le_refl _)
              have hyso : SlsIn wo w.heap.size ys := HY.out.2.1.below hbo (Nat.le_refl _)
              have hxo : Rd wo w.heap.size A xs.length (vals xs) := HX.out.1.below hbo (Nat.le_refl _)
              have hxso : SlsIn wo w.heap.size xs := HX.out.2.1.below hbo (Nat.le_refl _)
              have HRO := Lib.hid (And.intro hyo (And.intro hyso (And.intro hxo hxso)))
              clear hro hso hbo hyo hyso hxo hxso
              cases b with
              | true =>
                rw [if_pos rfl] at hlo
                obtain ⟨hrn, hrl⟩ := rs_le HOP.out.2.1 hlo HRN.out.2
                have hrl2 : rs.length ≤ 3000 := by rw [hrl]; simp [lists]; omega
                have HSL := Lib.hid (sameLists_dec Ao A' rs.length ys.length co c' rs ys wo _ _ _ _ rfl rfl HOP.out.1 HRO.out.1 HOP.out.2.1 HRO.out.2.1 hrn (by omega))
                rw [decide_eq_true hlo] at HSL
                clear hrn hrl hlo hbq
                go_wp2_with fail
                refine HSL.out.mono ?_
                rintro e wz ⟨rfl, d, rfl⟩
                have HBZ := Lib.hid (show Below w.heap.size w (wo.drewN d) from ⟨HOP.out.2.2.os, HOP.out.2.2.tape, HOP.out.2.2.output, HOP.out.2.2.size, HOP.out.2.2.block⟩)
                go_wp2
                go_ret
                exact ⟨rfl, HBZ.out⟩
              | false =>
                rw [if_neg (by simp)] at hlo
                obtain ⟨hrn, hrl⟩ := rs_le HOP.out.2.1 hlo HRN.out.1
                have hrl2 : rs.length ≤ 3000 := by rw [hrl]; simp [lists]; omega
                have HSL := Lib.hid (sameLists_dec Ao A' rs.length ys.length co c' rs ys wo _ _ _ _ rfl rfl HOP.out.1 HRO.out.1 HOP.out.2.1 HRO.out.2.1 hrn (by omega))
                have HSO := Lib.hid (fun d => sameLists_dec Ao A rs.length xs.length co c rs xs (wo.drewN d) _ _ _ _ rfl rfl (HOP.out.1.drewN d) (HRO.out.2.2.1.drewN d) (SlsIn.drewN HOP.out.2.1 d) (SlsIn.drewN HRO.out.2.2.2 d) hrn (by omega))
                by_cases hRN : lists rs = lists ys
                · rw [decide_eq_true hRN] at HSL
                  clear hrn hrl hlo hbq hRN
                  go_wp2_with fail
                  refine HSL.out.mono ?_
                  rintro e wz ⟨rfl, d, rfl⟩
                  have HBZ := Lib.hid (show Below w.heap.size w (wo.drewN d) from ⟨HOP.out.2.2.os, HOP.out.2.2.tape, HOP.out.2.2.output, HOP.out.2.2.size, HOP.out.2.2.block⟩)
                  go_wp2
                  go_ret
                  exact ⟨rfl, HBZ.out⟩
                · rw [decide_eq_false hRN] at HSL
                  rw [decide_eq_true hlo] at HSO
                  clear hrn hrl hlo hbq hRN
                  go_wp2_with fail
                  refine HSL.out.mono ?_
                  rintro e wz ⟨rfl, d, rfl⟩
                  go_wp2_with fail
                  refine (HSO.out d).mono ?_
                  rintro e wy ⟨rfl, d2, rfl⟩
                  go_wp2
                  go_ret
                  exact ⟨rfl, HOP.out.2.2.os, HOP.out.2.2.tape, HOP.out.2.2.output, HOP.out.2.2.size, HOP.out.2.2.block⟩
          · skip
            obtain ⟨b, hbq, hmx⟩ := MxSt.mixed HM.out HFAM.out H7.out.1.2.1 H7.out.1.2.2.1
            have HMX := Lib.hid hmx
            clear hmx
            go_wp2_with fail
            refine (mixed_load HMX.out).mono ?_
            rintro e wl ⟨gl, rfl, hls⟩
            have HLS := Lib.hid hls
            clear hls
            go_wp2_with fail
            refine (lst_open HLS.out (fun r hr => (HRN.out.1 r hr).2) (fun r hr => (HRN.out.2 r hr).2)).mono ?_
            rintro e wo ⟨lo, Ao, co, rs, rfl, hro, hso, hlo, hbo⟩
            have HOP := Lib.hid (And.intro hro (And.intro hso hbo))
            have hyo : Rd wo w.heap.size A' ys.length (vals ys) := HY.out.1.below hbo (Nat.le_refl _)
            have hyso : SlsIn wo w.heap.size ys := HY.out.2.1.below hbo (Nat.le_refl _)
            have hxo : Rd wo w.heap.size A xs.length (vals xs) := HX.out.1.below hbo (Nat.le_refl _)
            have hxso : SlsIn wo w.heap.size xs := HX.out.2.1.below hbo (Nat.le_refl _)
            have HRO := Lib.hid (And.intro hyo (And.intro hyso (And.intro hxo hxso)))
            clear hro hso hbo hyo hyso hxo hxso
            cases b with
            | true =>
              rw [if_pos rfl] at hlo
              obtain ⟨hrn, hrl⟩ := rs_le HOP.out.2.1 hlo HRN.out.2
              have hrl2 : rs.length ≤ 3000 := by rw [hrl]; simp [lists]; omega
              have HSL := Lib.hid (sameLists_dec Ao A' rs.length ys.length co c' rs ys wo _ _ _ _ rfl rfl HOP.out.1 HRO.out.1 HOP.out.2.1 HRO.out.2.1 hrn (by omega))
              rw [decide_eq_true hlo] at HSL
              clear hrn hrl hlo hbq
              go_wp2_with fail
              refine HSL.out.mono ?_
              rintro e wz ⟨rfl, d, rfl⟩
              have HBZ := Lib.hid (show Below w.heap.size w (wo.drewN d) from ⟨HOP.out.2.2.os, HOP.out.2.2.tape, HOP.out.2.2.output, HOP.out.2.2.size, HOP.out.2.2.block⟩)
              go_wp2
              go_ret
              exact ⟨rfl, HBZ.out⟩
            | false =>
              rw [if_neg (by simp)] at hlo
              obtain ⟨hrn, hrl⟩ := rs_le HOP.out.2.1 hlo HRN.out.1
              have hrl2 : rs.length ≤ 3000 := by rw [hrl]; simp [lists]; omega
              have HSL := Lib.hid (sameLists_dec Ao A' rs.length ys.length co c' rs ys wo _ _ _ _ rfl rfl HOP.out.1 HRO.out.1 HOP.out.2.1 HRO.out.2.1 hrn (by omega))
              have HSO := Lib.hid (fun d => sameLists_dec Ao A rs.length xs.length co c rs xs (wo.drewN d) _ _ _ _ rfl rfl (HOP.out.1.drewN d) (HRO.out.2.2.1.drewN d) (SlsIn.drewN HOP.out.2.1 d) (SlsIn.drewN HRO.out.2.2.2 d) hrn (by omega))
              by_cases hRN : lists rs = lists ys
              · rw [decide_eq_true hRN] at HSL
                clear hrn hrl hlo hbq hRN
                go_wp2_with fail
                refine HSL.out.mono ?_
                rintro e wz ⟨rfl, d, rfl⟩
                have HBZ := Lib.hid (show Below w.heap.size w (wo.drewN d) from ⟨HOP.out.2.2.os, HOP.out.2.2.tape, HOP.out.2.2.output, HOP.out.2.2.size, HOP.out.2.2.block⟩)
                go_wp2
                go_ret
                exact ⟨rfl, HBZ.out⟩
              · rw [decide_eq_false hRN] at HSL
                rw [decide_eq_true hlo] at HSO
                clear hrn hrl hlo hbq hRN
                go_wp2_with fail
                refine HSL.out.mono ?_
                rintro e wz ⟨rfl, d, rfl⟩
                go_wp2_with fail
                refine (HSO.out d).mono ?_
                rintro e wy ⟨rfl, d2, rfl⟩
                go_wp2
                go_ret
                exact ⟨rfl, HOP.out.2.2.os, HOP.out.2.2.tape, HOP.out.2.2.output, HOP.out.2.2.size, HOP.out.2.2.block⟩
        · have g4i : (bits BinOp.and IntKind.i64 keep 3 == 2) = false := by simpa using g4
          obtain ⟨b, hbq, hmx⟩ := MxSt.mixed HM.out HFAM.out H7.out.1.2.1 H7.out.1.2.2.1
          have HMX := Lib.hid hmx
          clear hmx
          go_wp2_with fail
          refine (mixed_load HMX.out).mono ?_
          rintro e wl ⟨gl, rfl, hls⟩
          have HLS := Lib.hid hls
          clear hls
          go_wp2_with fail
          refine (lst_open HLS.out (fun r hr => (HRN.out.1 r hr).2) (fun r hr => (HRN.out.2 r hr).2)).mono ?_
          rintro e wo ⟨lo, Ao, co, rs, rfl, hro, hso, hlo, hbo⟩
          have HOP := Lib.hid (And.intro hro (And.intro hso hbo))
          have hyo : Rd wo w.heap.size A' ys.length (vals ys) := HY.out.1.below hbo (Nat.le_refl _)
          have hyso : SlsIn wo w.heap.size ys := HY.out.2.1.below hbo (Nat.le_refl _)
          have hxo : Rd wo w.heap.size A xs.length (vals xs) := HX.out.1.below hbo (Nat.le_refl _)
          have hxso : SlsIn wo w.heap.size xs := HX.out.2.1.below hbo (Nat.le_refl _)
          have HRO := Lib.hid (And.intro hyo (And.intro hyso (And.intro hxo hxso)))
          clear hro hso hbo hyo hyso hxo hxso
          cases b with
          | true =>
            rw [if_pos rfl] at hlo
            obtain ⟨hrn, hrl⟩ := rs_le HOP.out.2.1 hlo HRN.out.2
            have hrl2 : rs.length ≤ 3000 := by rw [hrl]; simp [lists]; omega
            have HSL := Lib.hid (sameLists_dec Ao A' rs.length ys.length co c' rs ys wo _ _ _ _ rfl rfl HOP.out.1 HRO.out.1 HOP.out.2.1 HRO.out.2.1 hrn (by omega))
            rw [decide_eq_true hlo] at HSL
            clear hrn hrl hlo hbq
            go_wp2_with fail
            refine HSL.out.mono ?_
            rintro e wz ⟨rfl, d, rfl⟩
            have HBZ := Lib.hid (show Below w.heap.size w (wo.drewN d) from ⟨HOP.out.2.2.os, HOP.out.2.2.tape, HOP.out.2.2.output, HOP.out.2.2.size, HOP.out.2.2.block⟩)
            go_wp2
            go_ret
            exact ⟨rfl, HBZ.out⟩
          | false =>
            rw [if_neg (by simp)] at hlo
            obtain ⟨hrn, hrl⟩ := rs_le HOP.out.2.1 hlo HRN.out.1
            have hrl2 : rs.length ≤ 3000 := by rw [hrl]; simp [lists]; omega
            have HSL := Lib.hid (sameLists_dec Ao A' rs.length ys.length co c' rs ys wo _ _ _ _ rfl rfl HOP.out.1 HRO.out.1 HOP.out.2.1 HRO.out.2.1 hrn (by omega))
            have HSO := Lib.hid (fun d => sameLists_dec Ao A rs.length xs.length co c rs xs (wo.drewN d) _ _ _ _ rfl rfl (HOP.out.1.drewN d) (HRO.out.2.2.1.drewN d) (SlsIn.drewN HOP.out.2.1 d) (SlsIn.drewN HRO.out.2.2.2 d) hrn (by omega))
            by_cases hRN : lists rs = lists ys
            · rw [decide_eq_true hRN] at HSL
              clear hrn hrl hlo hbq hRN
              go_wp2_with fail
              refine HSL.out.mono ?_
              rintro e wz ⟨rfl, d, rfl⟩
              have HBZ := Lib.hid (show Below w.heap.size w (wo.drewN d) from ⟨HOP.out.2.2.os, HOP.out.2.2.tape, HOP.out.2.2.output, HOP.out.2.2.size, HOP.out.2.2.block⟩)
              go_wp2
              go_ret
              exact ⟨rfl, HBZ.out⟩
            · rw [decide_eq_false hRN] at HSL
              rw [decide_eq_true hlo] at HSO
              clear hrn hrl hlo hbq hRN
              go_wp2_with fail
              refine HSL.out.mono ?_
              rintro e wz ⟨rfl, d, rfl⟩
              go_wp2_with fail
              refine (HSO.out d).mono ?_
              rintro e wy ⟨rfl, d2, rfl⟩
              go_wp2
              go_ret
              exact ⟨rfl, HOP.out.2.2.os, HOP.out.2.2.tape, HOP.out.2.2.output, HOP.out.2.2.size, HOP.out.2.2.block⟩
      · skip
        have g3i : (bits BinOp.and IntKind.i64 keep 1 == 0) = false := by simpa using g3
        obtain ⟨f, hf⟩ : ∃ f : Nat → List Int, f = fun _ => (sS (lists xs) (lists ys)).last.flatten := ⟨_, rfl⟩
        have HFAM := Lib.hid (show Fam (lists xs) (lists ys) (sS (lists xs) (lists ys)).last.flatten false f from by rw [hf]; exact fam_done HRN.out.1 HRN.out.2 H7.out.1.2.1 H7.out.1.2.2.1 H7.out.1.2.2.2.2.2.1)
        have hm0 : MxSt w w8 gm c8 gd (sS (lists xs) (lists ys)).last.flatten (f 0) := by
          have hb8 : Below w.heap.size w w8 := H7.out.1.1.trans (H8.out.2.1.mono H7.out.1.1.size)
          rw [hf]
          refine ⟨own_base H8.out.1 H7.out.1.1.size, hb8, H8.out.2.2.2.1, ?_⟩
          have h3 := (H8.out.1.lt gm rfl).1
          have h4 := H7.out.1.2.2.2.2.1.lt
          omega
        have HM := Lib.hid hm0
        clear hf hm0
        by_cases g4 : bits BinOp.and IntKind.i64 keep 3 = 2
        · have g4i : (bits BinOp.and IntKind.i64 keep 3 == 2) = true := by rw [g4]; rfl
          by_cases g5 : 0 ≤ torn
          · by_cases g6 : torn < 64
            · obtain ⟨tt, rfl⟩ : ∃ tt : Nat, torn = (tt : Int) := ⟨torn.toNat, by omega⟩
              have htt0 : (0 : Int) ≤ (tt : Int) := Int.natCast_nonneg _
              have htt : tt < 64 := by omega
              go_wp2_with fail
              go_loopw [16] (fun i wr => OuRel w gm c8 gd (sS (lists xs) (lists ys)).last.flatten f tt i wr) (fun i _ => 2 - (intOf i).toNat)
              case atStart => exact ⟨0, by omega, rfl, HM.out⟩
              case round =>
                obtain ⟨k, hk, rfl, hm⟩ := hrel
                rcases (by omega : k = 0 ∨ k = 1 ∨ k = 2) with rfl | rfl | rfl
                · rw [if_pos rfl] at hm
                  have HM := Lib.hid hm
                  clear hm
                  go_wp2_with fail
                  go_loopw [17] (fun i wr => InRel0 w gm c8 gd (sS (lists xs) (lists ys)).last.flatten f tt i wr) (fun i _ => tt - (intOf i).toNat)
                  case atStart => exact ⟨0, by omega, rfl, HM.out⟩
                  case round =>
                    obtain ⟨j, hj, rfl, hm⟩ := hrel
                    have hj0 : (0 : Int) ≤ (j : Int) := Int.natCast_nonneg _
                    by_cases hlt : j < tt
                    · obtain ⟨x, hx, hc1, ⟨v, hc2⟩, hf2⟩ := hm.at_ HFAM.out (j := j) (by omega)
                      have HF := Lib.hid (show InRel0 w gm c8 gd (sS (lists xs) (lists ys)).last.flatten f tt (.int .i64 ((j : Int) + 1)) (wr.setCell ⟨gm, j, none⟩ (.int .u8 x)) from ⟨j + 1, by omega, by simp, by
                        have h := hm.put j x
                        rw [HFAM.out.set j x (by omega) hx] at h
                        exact h⟩)
                      clear hm hx
                      go_wp2
                      go_roundw
                      case rel => exact HF.out
                      case measure => simp [intOf]; omega
                    · obtain rfl : j = tt := by omega
                      have HF := Lib.hid (show OuRel w gm c8 gd (sS (lists xs) (lists ys)).last.flatten f j (.int .i64 1) wr from ⟨1, by omega, rfl, by rw [if_neg (by omega)]; exact hm⟩)
                      clear hm
                      go_wp2
                      go_roundw
                      case rel => exact HF.out
                      case measure => simp [intOf]
                · rw [if_neg (by omega)] at hm
                  have HM := Lib.hid hm
                  clear hm
                  go_wp2_with fail
                  go_loopw [17] (fun i wr => InRel1 w gm c8 gd (sS (lists xs) (lists ys)).last.flatten f tt i wr) (fun i _ => 64 + tt - (intOf i).toNat)
                  case atStart => exact ⟨0, by omega, rfl, HM.out⟩
                  case round =>
                    obtain ⟨j, hj, rfl, hm⟩ := hrel
                    have hj0 : (0 : Int) ≤ (j : Int) := Int.natCast_nonneg _
                    obtain ⟨z, hz⟩ : ∃ z, z = 64 + j := ⟨_, rfl⟩
                    rw [← hz]
                    have hz0 : (0 : Int) ≤ (z : Int) := Int.natCast_nonneg _
                    have HZ := Lib.hid hz
                    have hzl : z ≤ 64 + tt := by omega
                    have hz64 : 64 ≤ z := by omega
                    by_cases hlt : j < tt
                    · have hzi : (z : Int) < 64 + (tt : Int) := by omega
                      have hz256 : z < 25600 := by omega
                      obtain ⟨x, hx, hc1, ⟨v, hc2⟩, hf2⟩ := hm.at_ HFAM.out (j := z) hz256
                      have HF := Lib.hid (show InRel1 w gm c8 gd (sS (lists xs) (lists ys)).last.flatten f tt (.int .i64 ((z : Int) + 1)) (wr.setCell ⟨gm, z, none⟩ (.int .u8 x)) from ⟨j + 1, by omega, by congr 1; omega, by
                        have h := hm.put z x
                        rw [set_far_id HFAM.out hz64 hx] at h
                        exact h⟩)
                      clear hm hx hz
                      go_wp2
                      go_roundw
                      case rel => exact HF.out
                      case measure => simp [intOf]; omega
                    · have hzi : ¬ ((z : Int) < 64 + (tt : Int)) := by omega
                      have HF := Lib.hid (show OuRel w gm c8 gd (sS (lists xs) (lists ys)).last.flatten f tt (.int .i64 2) wr from ⟨2, by omega, rfl, by rw [if_neg (by omega)]; exact hm⟩)
                      clear hm hz
                      go_wp2
                      go_roundw
                      case rel => exact HF.out
                      case measure => simp [intOf]
                · rw [if_neg (by omega)] at hm
                  have HM := Lib.hid hm
                  clear hm
                  obtain ⟨b, hbq, hmx⟩ := MxSt.mixed HM.out HFAM.out H7.out.1.2.1 H7.out.1.2.2.1
                  have HMX := Lib.hid hmx
                  clear hmx
                  go_wp2_with fail
                  refine (mixed_load HMX.out).mono ?_
                  rintro e wl ⟨gl, rfl, hls⟩
                  have HLS := Lib.hid hls
                  clear hls
                  go_wp2_with fail
                  refine (lst_open HLS.out (fun r hr => (HRN.out.1 r hr).2) (fun r hr => (HRN.out.2 r hr).2)).mono ?_
                  rintro e wo ⟨lo, Ao, co, rs, rfl, hro, hso, hlo, hbo⟩
                  have HOP := Lib.hid (And.intro hro (And.intro hso hbo))
                  have hyo : Rd wo w.heap.size A' ys.length (vals ys) := HY.out.1.below hbo (Nat.le_refl _)
                  have hyso : SlsIn wo w.heap.size ys := HY.out.2.1.below hbo (Nat.le_refl _)
                  have hxo : Rd wo w.heap.size A xs.length (vals xs) := HX.out.1.below hbo (Nat.le_refl _)
                  have hxso : SlsIn wo w.heap.size xs := HX.out.2.1.below hbo (Nat.le_refl _)
                  have HRO := Lib.hid (And.intro hyo (And.intro hyso (And.intro hxo hxso)))
                  clear hro hso hbo hyo hyso hxo hxso
                  cases b with
                  | true =>
                    rw [if_pos rfl] at hlo
                    obtain ⟨hrn, hrl⟩ := rs_le HOP.out.2.1 hlo HRN.out.2
                    have hrl2 : rs.length ≤ 3000 := by rw [hrl]; simp [lists]; omega
                    have HSL := Lib.hid (sameLists_dec Ao A' rs.length ys.length co c' rs ys wo _ _ _ _ rfl rfl HOP.out.1 HRO.out.1 HOP.out.2.1 HRO.out.2.1 hrn (by omega))
                    rw [decide_eq_true hlo] at HSL
                    clear hrn hrl hlo hbq
                    go_wp2_with fail
                    refine HSL.out.mono ?_
                    rintro e wz ⟨rfl, d, rfl⟩
                    have HBZ := Lib.hid (show Below w.heap.size w (wo.drewN d) from ⟨HOP.out.2.2.os, HOP.out.2.2.tape, HOP.out.2.2.output, HOP.out.2.2.size, HOP.out.2.2.block⟩)
                    go_wp2
                    go_ret
                    exact ⟨rfl, HBZ.out⟩
                  | false =>
                    exact absurd hbq (by simp)
            · skip
              obtain ⟨b, hbq, hmx⟩ := MxSt.mixed HM.out HFAM.out H7.out.1.2.1 H7.out.1.2.2.1
              have HMX := Lib.hid hmx
              clear hmx
              go_wp2_with fail
              refine (mixed_load HMX.out).mono ?_
              rintro e wl ⟨gl, rfl, hls⟩
              have HLS := Lib.hid hls
              clear hls
              go_wp2_with fail
              refine (lst_open HLS.out (fun r hr => (HRN.out.1 r hr).2) (fun r hr => (HRN.out.2 r hr).2)).mono ?_
              rintro e wo ⟨lo, Ao, co, rs, rfl, hro, hso, hlo, hbo⟩
              have HOP := Lib.hid (And.intro hro (And.intro hso hbo))
              have hyo : Rd wo w.heap.size A' ys.length (vals ys) := HY.out.1.below hbo (Nat.le_refl _)
              have hyso : SlsIn wo w.heap.size ys := HY.out.2.1.below hbo (Nat.le_refl _)
              have hxo : Rd wo w.heap.size A xs.length (vals xs) := HX.out.1.below hbo (Nat.le_refl _)
              have hxso : SlsIn wo w.heap.size xs := HX.out.2.1.below hbo (Nat.le_refl _)
              have HRO := Lib.hid (And.intro hyo (And.intro hyso (And.intro hxo hxso)))
              clear hro hso hbo hyo hyso hxo hxso
              cases b with
              | true =>
                rw [if_pos rfl] at hlo
                obtain ⟨hrn, hrl⟩ := rs_le HOP.out.2.1 hlo HRN.out.2
                have hrl2 : rs.length ≤ 3000 := by rw [hrl]; simp [lists]; omega
                have HSL := Lib.hid (sameLists_dec Ao A' rs.length ys.length co c' rs ys wo _ _ _ _ rfl rfl HOP.out.1 HRO.out.1 HOP.out.2.1 HRO.out.2.1 hrn (by omega))
                rw [decide_eq_true hlo] at HSL
                clear hrn hrl hlo hbq
                go_wp2_with fail
                refine HSL.out.mono ?_
                rintro e wz ⟨rfl, d, rfl⟩
                have HBZ := Lib.hid (show Below w.heap.size w (wo.drewN d) from ⟨HOP.out.2.2.os, HOP.out.2.2.tape, HOP.out.2.2.output, HOP.out.2.2.size, HOP.out.2.2.block⟩)
                go_wp2
                go_ret
                exact ⟨rfl, HBZ.out⟩
              | false =>
                exact absurd hbq (by simp)
          · skip
            obtain ⟨b, hbq, hmx⟩ := MxSt.mixed HM.out HFAM.out H7.out.1.2.1 H7.out.1.2.2.1
            have HMX := Lib.hid hmx
            clear hmx
            go_wp2_with fail
            refine (mixed_load HMX.out).mono ?_
            rintro e wl ⟨gl, rfl, hls⟩
            have HLS := Lib.hid hls
            clear hls
            go_wp2_with fail
            refine (lst_open HLS.out (fun r hr => (HRN.out.1 r hr).2) (fun r hr => (HRN.out.2 r hr).2)).mono ?_
            rintro e wo ⟨lo, Ao, co, rs, rfl, hro, hso, hlo, hbo⟩
            have HOP := Lib.hid (And.intro hro (And.intro hso hbo))
            have hyo : Rd wo w.heap.size A' ys.length (vals ys) := HY.out.1.below hbo (Nat.le_refl _)
            have hyso : SlsIn wo w.heap.size ys := HY.out.2.1.below hbo (Nat.le_refl _)
            have hxo : Rd wo w.heap.size A xs.length (vals xs) := HX.out.1.below hbo (Nat.le_refl _)
            have hxso : SlsIn wo w.heap.size xs := HX.out.2.1.below hbo (Nat.le_refl _)
            have HRO := Lib.hid (And.intro hyo (And.intro hyso (And.intro hxo hxso)))
            clear hro hso hbo hyo hyso hxo hxso
            cases b with
            | true =>
              rw [if_pos rfl] at hlo
              obtain ⟨hrn, hrl⟩ := rs_le HOP.out.2.1 hlo HRN.out.2
              have hrl2 : rs.length ≤ 3000 := by rw [hrl]; simp [lists]; omega
              have HSL := Lib.hid (sameLists_dec Ao A' rs.length ys.length co c' rs ys wo _ _ _ _ rfl rfl HOP.out.1 HRO.out.1 HOP.out.2.1 HRO.out.2.1 hrn (by omega))
              rw [decide_eq_true hlo] at HSL
              clear hrn hrl hlo hbq
              go_wp2_with fail
              refine HSL.out.mono ?_
              rintro e wz ⟨rfl, d, rfl⟩
              have HBZ := Lib.hid (show Below w.heap.size w (wo.drewN d) from ⟨HOP.out.2.2.os, HOP.out.2.2.tape, HOP.out.2.2.output, HOP.out.2.2.size, HOP.out.2.2.block⟩)
              go_wp2
              go_ret
              exact ⟨rfl, HBZ.out⟩
            | false =>
              exact absurd hbq (by simp)
        · have g4i : (bits BinOp.and IntKind.i64 keep 3 == 2) = false := by simpa using g4
          obtain ⟨b, hbq, hmx⟩ := MxSt.mixed HM.out HFAM.out H7.out.1.2.1 H7.out.1.2.2.1
          have HMX := Lib.hid hmx
          clear hmx
          go_wp2_with fail
          refine (mixed_load HMX.out).mono ?_
          rintro e wl ⟨gl, rfl, hls⟩
          have HLS := Lib.hid hls
          clear hls
          go_wp2_with fail
          refine (lst_open HLS.out (fun r hr => (HRN.out.1 r hr).2) (fun r hr => (HRN.out.2 r hr).2)).mono ?_
          rintro e wo ⟨lo, Ao, co, rs, rfl, hro, hso, hlo, hbo⟩
          have HOP := Lib.hid (And.intro hro (And.intro hso hbo))
          have hyo : Rd wo w.heap.size A' ys.length (vals ys) := HY.out.1.below hbo (Nat.le_refl _)
          have hyso : SlsIn wo w.heap.size ys := HY.out.2.1.below hbo (Nat.le_refl _)
          have hxo : Rd wo w.heap.size A xs.length (vals xs) := HX.out.1.below hbo (Nat.le_refl _)
          have hxso : SlsIn wo w.heap.size xs := HX.out.2.1.below hbo (Nat.le_refl _)
          have HRO := Lib.hid (And.intro hyo (And.intro hyso (And.intro hxo hxso)))
          clear hro hso hbo hyo hyso hxo hxso
          cases b with
          | true =>
            rw [if_pos rfl] at hlo
            obtain ⟨hrn, hrl⟩ := rs_le HOP.out.2.1 hlo HRN.out.2
            have hrl2 : rs.length ≤ 3000 := by rw [hrl]; simp [lists]; omega
            have HSL := Lib.hid (sameLists_dec Ao A' rs.length ys.length co c' rs ys wo _ _ _ _ rfl rfl HOP.out.1 HRO.out.1 HOP.out.2.1 HRO.out.2.1 hrn (by omega))
            rw [decide_eq_true hlo] at HSL
            clear hrn hrl hlo hbq
            go_wp2_with fail
            refine HSL.out.mono ?_
            rintro e wz ⟨rfl, d, rfl⟩
            have HBZ := Lib.hid (show Below w.heap.size w (wo.drewN d) from ⟨HOP.out.2.2.os, HOP.out.2.2.tape, HOP.out.2.2.output, HOP.out.2.2.size, HOP.out.2.2.block⟩)
            go_wp2
            go_ret
            exact ⟨rfl, HBZ.out⟩
          | false =>
            exact absurd hbq (by simp)

section
open Go.ChangeShapes Go.WideShapes Go.ChangeAt
open Go.ChangeMaps (open_string shut_string)
set_option linter.unusedVariables false
set_option maxRecDepth 100000 in
theorem walSwitch_lifted (os : Os) (started : os.Started) (H : Type) (enc : TypeId × Value → H) :
    ReturnsInHanded {} Try.checked os 6 .any (Rows.walSwitchSpec.pre6 enc Try.prog Try.f6 Rows.walSwitchRow.domain false) (Rows.walSwitchSpec.post enc Try.prog Try.f6 false true false false) := by
  refine returnsInHanded_of_change_sized (C := Try.checked) own started (by kernel_rfl) Try.func6
    (ChangeSpec.witness6 (enc := enc) (C := Try.checked) false ⟨#[], #[.slice none 0 0, .slice none 0 0, .int .i64 0, .int .i64 0], []⟩ 8 (by kernel_rfl) (by kernel_rfl) (by kernel_rfl) (by kernel_rfl)) ?_
  intro W base args ds gs before hval0 hW hcnd hsz _
  have hval : ∀ (j : Nat) t v, Try.f6.params[j]? = some t → args[j]? = some v → Value.okWide Try.prog W .any base t v := hval0
  have hW' := hW
  obtain ⟨p, q, hA0, hV, rfl, hfz, hnd⟩ := hW
  have hA : DataW.TrodAll enc Try.prog W 0 (fun _ => true) true Try.f6.params.toList args.toList ds p := hA0
  rw [Try.params6] at hA hval
  obtain ⟨v0, vs0, d0, ds0, p0, q0, hargs, rfl, rfl, h0, r0⟩ := trodAll_cons hA
  obtain ⟨v1, vs1, d1, ds1, p1, q1, rfl, rfl, rfl, h1, r1⟩ := trodAll_cons r0
  obtain ⟨v2, vs2, d2, ds2, p2, q2, rfl, rfl, rfl, h2, r2⟩ := trodAll_cons r1
  obtain ⟨v3, vs3, d3, ds3, p3, q3, rfl, rfl, rfl, h3, r3⟩ := trodAll_cons r2
  obtain ⟨rfl, rfl, rfl⟩ := trodAll_nil r3
  obtain rfl : args = #[v0, v1, v2, v3] := by cases args; simp_all
  obtain ⟨rfl, rfl⟩ := trodVars_none hV
  have k0 := h0
  have lt0 : ∀ x ∈ p0, x.block < W.heap.size := by obtain ⟨m, hm⟩ := k0; exact DataW.trod_lt m _ _ _ hm
  have k1 := h1
  have lt1 : ∀ x ∈ p1, x.block < W.heap.size := by obtain ⟨m, hm⟩ := k1; exact DataW.trod_lt m _ _ _ hm
  have k2 := h2
  have lt2 : ∀ x ∈ p2, x.block < W.heap.size := by obtain ⟨m, hm⟩ := k2; exact DataW.trod_lt m _ _ _ hm
  have k3 := h3
  have lt3 : ∀ x ∈ p3, x.block < W.heap.size := by obtain ⟨m, hm⟩ := k3; exact DataW.trod_lt m _ _ _ hm
  obtain ⟨a0, len0, cap0, rfl⟩ := okWide_slice Try.underlying39 (hval 0 39 v0 rfl rfl)
  obtain ⟨z0, r0x, s0x, y0x, e0, l0, m0, q0x⟩ := rd_of_lists Try.underlying39 Try.underlying38 (by kernel_rfl) Try.underlying5 (by kernel_rfl) (by kernel_rfl) h0
  have b0x : ∀ x ∈ z0, x.n ≤ 140737488355328 := fun x hx => by
    rcases q0x x hx with h | ⟨q, hq, hle⟩
    · omega
    · have h9 : q ≤ 140737488355328 := by
        have h8 := List.all_eq_true.1 hsz _ (DataW.weights_mem_each (j := 0) (t := 39) rfl rfl q hq)
        have h7 : q ≤ reachBytes := by simpa using h8
        unfold reachBytes at h7
        omega
      omega
  obtain ⟨a1, len1, cap1, rfl⟩ := okWide_slice Try.underlying39 (hval 1 39 v1 rfl rfl)
  obtain ⟨z1, r1x, s1x, y1x, e1, l1, m1, q1x⟩ := rd_of_lists Try.underlying39 Try.underlying38 (by kernel_rfl) Try.underlying5 (by kernel_rfl) (by kernel_rfl) h1
  have b1x : ∀ x ∈ z1, x.n ≤ 140737488355328 := fun x hx => by
    rcases q1x x hx with h | ⟨q, hq, hle⟩
    · omega
    · have h9 : q ≤ 140737488355328 := by
        have h8 := List.all_eq_true.1 hsz _ (DataW.weights_mem_each (j := 1) (t := 39) rfl rfl q hq)
        have h7 : q ≤ reachBytes := by simpa using h8
        unfold reachBytes at h7
        omega
      omega
  obtain ⟨a2, rfl, rfl, rfl, w2⟩ := open_int Try.underlying3 (hval 2 3 v2 rfl rfl) h2
  obtain ⟨a3, rfl, rfl, rfl, w3⟩ := open_int Try.underlying3 (hval 3 3 v3 rfl rfl) h3
  clear hA0 hval0
  refine (walSwitch_walk a0 len0 cap0 z0 a1 len1 cap1 z1 a2 a3 W r0x s0x y0x e0 l0 m0 b0x r1x s1x y1x e1 l1 m1 b1x (bounds_i64 w2) (bounds_i64 w3)).mono fun e W' ⟨he, bel⟩ => ?_
  subst he
  exact ⟨_, rfl, _, _, _, [], _, [], hW', trodAll_mk1 (shut_bool Try.underlying4 _), (trodAll_cons_mk (Below.trod laidOut (by kernel_rfl) (of_decide_eq_true (by kernel_rfl)) k0 bel lt0) (trodAll_cons_mk (Below.trod laidOut (by kernel_rfl) (of_decide_eq_true (by kernel_rfl)) k1 bel lt1) (trodAll_cons_mk (Below.trod laidOut (by kernel_rfl) (of_decide_eq_true (by kernel_rfl)) k2 bel lt2) (trodAll_cons_mk (Below.trod laidOut (by kernel_rfl) (of_decide_eq_true (by kernel_rfl)) k3 bel lt3) trodAll_mk0)))), rfl, bel.frame _, fun h => by cases h⟩

theorem walSwitch_over : Rows.walSwitchRow.holds Try.pinned (OpenSpec.ofChange Rows.walSwitchSpec) :=
  OpenClaim.holds_of_wide 6 Try.f6 rfl rfl rfl rfl rfl rfl rfl ⟨rfl, rfl, rfl, rfl, rfl⟩ rfl rfl rfl rfl rfl (by kernel_rfl) Try.func6 (by kernel_rfl)
    (of_decide_eq_true (by kernel_rfl)) (by unfold Func.isWrapper; first | (rw [if_pos (by decide +kernel)]; kernel_rfl) | (rw [if_neg (by decide +kernel)]; exact ⟨rfl, rfl⟩))
    (fun os started H enc _ => walSwitch_lifted os started H enc)

theorem walSwitch_holds : Rows.WalSwitchSaid := walSwitch_over
end
#print axioms walSwitch_holds
end Go.Proofs.Ytehghjakggdnpaa
