/-
  LockApart over the contract.
-/
import Derived.Test.YthbbheegkhlniaaM25
import Derived.Test.YthbbheegkhlniaaM24
import Derived.Deep.RegionHeld3
namespace Go.Proofs.Ythbbheegkhlniaa
open Go.RowKit Go.Lib

theorem zzL : zz9.toList = [122, 122, 57] := by decide +kernel
set_option maxRecDepth 100000 in
set_option maxHeartbeats 12800000 in
theorem lapart_walk {T : LkP} (I : ImplL T) (A : Option Addr) (c : Nat) (cl : List Cl) (A' : Option Addr) (c' : Nat) (ol : List Cl) (w : World) (hc : RowG clC 6 w w.heap.size A cl) (hin : ∀ x ∈ cl, x.In) (hl : cl.length ≤ c) (hm : c ≤ maxLen) (hc' : RowG clC 6 w w.heap.size A' ol) (hin' : ∀ x ∈ ol, x.In) (hl' : ol.length ≤ c') (hm' : c' ≤ maxLen) :
    Says Try.prog 9 #[.slice A cl.length c, .slice A' ol.length c'] w (.bool true) := by
  have H := Lib.hid (And.intro hc (And.intro hin (Nat.le_trans hl hm)))
  have H' := Lib.hid (And.intro hc' (And.intro hin' (Nat.le_trans hl' hm')))
  have hmix : Try.prog.follows .mixedOrders = true := by kernel_rfl
  have HAL := Lib.hid fun (w : World) => alive11_any I w
  clear hc hin hl hm hc' hin' hl' hm'
  go_enter Try.func9, Try.ntmps9
  go_wp2_with fail
  refine (HAL.out w).mono ?_
  rintro e w1 ⟨rfl, hb1⟩
  have H1 := Lib.hid hb1
  clear hb1
  go_wp2_with fail
  refine (great11_any A c cl w1 w.heap.size (H.out.1.below H1.out (Nat.le_refl _))).mono ?_
  rintro e w1' ⟨rfl, rfl | ⟨rfl, hfew⟩⟩
  · go_wp2_with fail
    go_ret
    exact ⟨rfl, H1.out⟩
  go_wp2_with fail
  refine (great11_any A' c' ol w1' w.heap.size (H'.out.1.below H1.out (Nat.le_refl _))).mono ?_
  rintro e w1'' ⟨rfl, rfl | ⟨rfl, hfew'⟩⟩
  · go_wp2_with fail
    go_ret
    exact ⟨rfl, H1.out⟩
  go_wp2_with fail
  refine (I.new w1'' w.heap.size H1.out.size).mono ?_
  rintro e w2 ⟨ta, D, rfl, ht2, _, hb2⟩
  have H2 := Lib.hid (show Te T w w2 ta ⟨[], []⟩ from ⟨D, ht2, H1.out.trans (hb2.mono H1.out.size)⟩)
  clear ht2 hb2
  go_wp2_with fail
  refine (Tp.mk I H2.out).mono ?_
  rintro e w3 ⟨tb, rfl, h3⟩
  have H3 := Lib.hid h3
  clear h3
  obtain ⟨n, hn⟩ : ∃ n, n = cl.length := ⟨_, rfl⟩
  obtain ⟨n', hn'⟩ : ∃ n, n = ol.length := ⟨_, rfl⟩
  have hn120 : n ≤ 120 := by rw [hn]; exact hfew
  have hn120' : n' ≤ 120 := by rw [hn']; exact hfew'
  have hn0 : (0 : Int) ≤ (n : Int) := Int.natCast_nonneg _
  have hn0' : (0 : Int) ≤ (n' : Int) := Int.natCast_nonneg _
  rw [← hn, ← hn']
  have HN := Lib.hid (And.intro hn hn')
  clear hn hfew hn' hfew'
  go_wp2_with fail
  go_loopw [7] (fun i wr => ∃ (k : Nat) (la lb : Lk), k ≤ 120 ∧ i = .int .i64 k ∧ Tp T w wr ta la tb lb ∧ PairL la lb ∧ szL la ≤ k ∧ szL lb ≤ 2 * k) (fun i _ => n + n' - (intOf i).toNat)
  case atStart => exact ⟨0, _, _, by omega, rfl, H3.out, PairL.nil, Nat.le_refl _, Nat.le_refl _⟩
  case round =>
    obtain ⟨k, la, lb, hk, rfl, hT, hP, hza, hzb⟩ := hrel
    have HT := Lib.hid hT
    have HP := Lib.hid (And.intro hP (And.intro hza hzb))
    have hk0 : (0 : Int) ≤ (k : Int) := Int.natCast_nonneg _
    clear hT hP hza hzb
    by_cases hlt' : k < n'
    · have hlt1' : (k : Int) < (n' : Int) := by omega
      have hd1' : decide ((k : Int) < (n' : Int)) = true := decide_eq_true hlt1'
      by_cases hlt : k < n
      · have hlt1 : (k : Int) < (n : Int) := by omega
        have hd1 : decide ((k : Int) < (n : Int)) = true := decide_eq_true hlt1
        have hkl' : k < ol.length := by rw [← HN.out.2]; exact hlt'
        obtain ⟨ad, rfl, _, d0, d1, d2, d3, d4, d5⟩ := cl_at (H'.out.1.below HT.out.low (Nat.le_refl _)) hkl'
        have hxi := H'.out.2.1 ol[k] (List.getElem_mem hkl')
        obtain ⟨x, hx⟩ : ∃ x, x = ol[k] := ⟨_, rfl⟩
        rw [← hx] at d0 d1 d2 d3 d4 d5 hxi
        have HX := Lib.hid hxi
        clear hx hxi hkl'
        obtain ⟨b, hb⟩ : ∃ b, b = wr.heap.size := ⟨_, rfl⟩
        obtain ⟨wo, hwo⟩ : ∃ wo, wo = wr.alloc (.cells #[.int .i64 x.w, .int .i64 x.x, .int .i64 x.th.k, .string x.th.t, .string x.th.y, .int .i64 x.m] 33) := ⟨_, rfl⟩
        have hblk : Blk wo b 33 #[.int .i64 x.w, .int .i64 x.x, .int .i64 x.th.k, .string x.th.t, .string x.th.y, .int .i64 x.m] := by rw [hwo, hb]; exact Blk.new wr _ _
        have hbo : Below wr.heap.size wr wo := by rw [hwo]; exact (Below.refl _ wr).alloc (Nat.le_refl _) _
        have HO := Lib.hid (And.intro hb (And.intro hblk hbo))
        clear hblk hbo
        go_upto_region 12 with fail
        rw [← hb, ← hwo]; clear hb hwo d0 d1 d2 d3 d4 d5
        have p0 : wo.cell? ⟨b, 0, none⟩ = some (.int .i64 x.w) := HO.out.2.1.cell 0
        have p1 : wo.cell? ⟨b, 1, none⟩ = some (.int .i64 x.x) := HO.out.2.1.cell 1
        have p2 : wo.cell? ⟨b, 2, none⟩ = some (.int .i64 x.th.k) := HO.out.2.1.cell 2
        have p3 : wo.cell? ⟨b, 3, none⟩ = some (.string x.th.t) := HO.out.2.1.cell 3
        have p4 : wo.cell? ⟨b, 4, none⟩ = some (.string x.th.y) := HO.out.2.1.cell 4
        have p5 : wo.cell? ⟨b, 5, none⟩ = some (.int .i64 x.m) := HO.out.2.1.cell 5
        have p6 : wo.frozen? ⟨b, 2, none⟩ = false := HO.out.2.1.frozen 2
        have p7 : wo.frozen? ⟨b, 3, none⟩ = false := HO.out.2.1.frozen 3
        have p8 : wo.frozen? ⟨b, 1, none⟩ = false := HO.out.2.1.frozen 1
        have p9 : wo.frozen? ⟨b, 2 + 1, none⟩ = false := p7
        have p3' : wo.cell? ⟨b, 2 + 1, none⟩ = some (.string x.th.t) := p3
        have p4' : wo.cell? ⟨b, 2 + 2, none⟩ = some (.string x.th.y) := p4
        have p5' : wo.cell? ⟨b, 2 + 3, none⟩ = some (.int .i64 x.m) := p5
        go_upto_region 13 with fail
        generalize hws : World.setCell wo _ _ = wHO1
        have hblk : Blk wHO1 b 33 #[.int .i64 x.w, .int .i64 x.x, .int .i64 4, .string x.th.t, .string x.th.y, .int .i64 x.m] := by rw [← hws]; exact HO.out.2.1.put 2 (.int .i64 4)
        have hbo : Below wr.heap.size wr wHO1 := by rw [← hws]; exact HO.out.2.2.setCell (by have := HO.out.1; show wr.heap.size ≤ b; omega) _
        have HO1 := Lib.hid (And.intro True.intro (And.intro hblk hbo))
        clear p0 p1 p2 p3 p4 p5 p6 p7 p8 p9 p3' p4' p5'
        clear hws hblk hbo
        have p0 : wHO1.cell? ⟨b, 0, none⟩ = some (.int .i64 x.w) := HO1.out.2.1.cell 0
        have p1 : wHO1.cell? ⟨b, 1, none⟩ = some (.int .i64 x.x) := HO1.out.2.1.cell 1
        have p2 : wHO1.cell? ⟨b, 2, none⟩ = some (.int .i64 4) := HO1.out.2.1.cell 2
        have p3 : wHO1.cell? ⟨b, 3, none⟩ = some (.string x.th.t) := HO1.out.2.1.cell 3
        have p4 : wHO1.cell? ⟨b, 4, none⟩ = some (.string x.th.y) := HO1.out.2.1.cell 4
        have p5 : wHO1.cell? ⟨b, 5, none⟩ = some (.int .i64 x.m) := HO1.out.2.1.cell 5
        have p6 : wHO1.frozen? ⟨b, 2, none⟩ = false := HO1.out.2.1.frozen 2
        have p7 : wHO1.frozen? ⟨b, 3, none⟩ = false := HO1.out.2.1.frozen 3
        have p8 : wHO1.frozen? ⟨b, 1, none⟩ = false := HO1.out.2.1.frozen 1
        have p9 : wHO1.frozen? ⟨b, 2 + 1, none⟩ = false := p7
        have p3' : wHO1.cell? ⟨b, 2 + 1, none⟩ = some (.string x.th.t) := p3
        have p4' : wHO1.cell? ⟨b, 2 + 2, none⟩ = some (.string x.th.y) := p4
        have p5' : wHO1.cell? ⟨b, 2 + 3, none⟩ = some (.int .i64 x.m) := p5
        go_upto_region 14 with fail
        generalize hws : World.setCell wHO1 _ _ = wHO2
        have hblk : Blk wHO2 b 33 #[.int .i64 x.w, .int .i64 x.x, .int .i64 4, .string zz9, .string x.th.y, .int .i64 x.m] := by rw [← hws]; exact HO1.out.2.1.put 3 (.string zz9)
        have hbo : Below wr.heap.size wr wHO2 := by rw [← hws]; exact HO1.out.2.2.setCell (by have := HO.out.1; show wr.heap.size ≤ b; omega) _
        have HO2 := Lib.hid (And.intro True.intro (And.intro hblk hbo))
        clear p0 p1 p2 p3 p4 p5 p6 p7 p8 p9 p3' p4' p5'
        clear hws hblk hbo
        have p0 : wHO2.cell? ⟨b, 0, none⟩ = some (.int .i64 x.w) := HO2.out.2.1.cell 0
        have p1 : wHO2.cell? ⟨b, 1, none⟩ = some (.int .i64 x.x) := HO2.out.2.1.cell 1
        have p2 : wHO2.cell? ⟨b, 2, none⟩ = some (.int .i64 4) := HO2.out.2.1.cell 2
        have p3 : wHO2.cell? ⟨b, 3, none⟩ = some (.string zz9) := HO2.out.2.1.cell 3
        have p4 : wHO2.cell? ⟨b, 4, none⟩ = some (.string x.th.y) := HO2.out.2.1.cell 4
        have p5 : wHO2.cell? ⟨b, 5, none⟩ = some (.int .i64 x.m) := HO2.out.2.1.cell 5
        have p6 : wHO2.frozen? ⟨b, 2, none⟩ = false := HO2.out.2.1.frozen 2
        have p7 : wHO2.frozen? ⟨b, 3, none⟩ = false := HO2.out.2.1.frozen 3
        have p8 : wHO2.frozen? ⟨b, 1, none⟩ = false := HO2.out.2.1.frozen 1
        have p9 : wHO2.frozen? ⟨b, 2 + 1, none⟩ = false := p7
        have p3' : wHO2.cell? ⟨b, 2 + 1, none⟩ = some (.string zz9) := p3
        have p4' : wHO2.cell? ⟨b, 2 + 2, none⟩ = some (.string x.th.y) := p4
        have p5' : wHO2.cell? ⟨b, 2 + 3, none⟩ = some (.int .i64 x.m) := p5
        have hand := and_bounds x.x
        have hw1 : IntKind.i64.wrap (bits .and .i64 x.x 1023 + 100000) = bits .and .i64 x.x 1023 + 100000 := by rw [IntKind.wrap_i64]; omega
        go_upto_region 15 with fail
        generalize hws : World.setCell wHO2 _ _ = wHO3
        have hblk : Blk wHO3 b 33 #[.int .i64 x.w, .int .i64 (bits .and .i64 x.x 1023 + 100000), .int .i64 4, .string zz9, .string x.th.y, .int .i64 x.m] := by rw [← hws]; exact HO2.out.2.1.put 1 (.int .i64 (bits .and .i64 x.x 1023 + 100000))
        have hbo : Below wr.heap.size wr wHO3 := by rw [← hws]; exact HO2.out.2.2.setCell (by have := HO.out.1; show wr.heap.size ≤ b; omega) _
        have HO3 := Lib.hid (And.intro True.intro (And.intro hblk hbo))
        clear p0 p1 p2 p3 p4 p5 p6 p7 p8 p9 p3' p4' p5'
        clear hws hblk hbo
        have p0 : wHO3.cell? ⟨b, 0, none⟩ = some (.int .i64 x.w) := HO3.out.2.1.cell 0
        have p1 : wHO3.cell? ⟨b, 1, none⟩ = some (.int .i64 (bits .and .i64 x.x 1023 + 100000)) := HO3.out.2.1.cell 1
        have p2 : wHO3.cell? ⟨b, 2, none⟩ = some (.int .i64 4) := HO3.out.2.1.cell 2
        have p3 : wHO3.cell? ⟨b, 3, none⟩ = some (.string zz9) := HO3.out.2.1.cell 3
        have p4 : wHO3.cell? ⟨b, 4, none⟩ = some (.string x.th.y) := HO3.out.2.1.cell 4
        have p5 : wHO3.cell? ⟨b, 5, none⟩ = some (.int .i64 x.m) := HO3.out.2.1.cell 5
        have p6 : wHO3.frozen? ⟨b, 2, none⟩ = false := HO3.out.2.1.frozen 2
        have p7 : wHO3.frozen? ⟨b, 3, none⟩ = false := HO3.out.2.1.frozen 3
        have p8 : wHO3.frozen? ⟨b, 1, none⟩ = false := HO3.out.2.1.frozen 1
        have p9 : wHO3.frozen? ⟨b, 2 + 1, none⟩ = false := p7
        have p3' : wHO3.cell? ⟨b, 2 + 1, none⟩ = some (.string zz9) := p3
        have p4' : wHO3.cell? ⟨b, 2 + 2, none⟩ = some (.string x.th.y) := p4
        have p5' : wHO3.cell? ⟨b, 2 + 3, none⟩ = some (.int .i64 x.m) := p5
        obtain ⟨xo, hxo⟩ : ∃ xo, xo = bits .and .i64 x.x 1023 + 100000 := ⟨_, rfl⟩
        rw [← hxo] at p1
        have HXO := Lib.hid (show 100000 ≤ xo ∧ NumI xo from ⟨by omega, by unfold NumI; omega⟩)
        have hin4 : (⟨x.w, xo, ⟨4, zz9, x.th.y⟩, x.m⟩ : Cl).In := ⟨HX.out.1, HXO.out.2, ⟨show NumI 4 by unfold NumI; decide, show zz9.size ≤ roomLen by decide, HX.out.2.2.1.2.2⟩, HX.out.2.2.2⟩
        have HI4 := Lib.hid hin4
        clear hin4 hxo hand hw1
        have hsz : szL lb ≤ 1000 := by have := HP.out.2.2; omega
        have HSZ := Lib.hid hsz
        clear hsz
        go_upto_region 16 with (go_at_call 13; refine (do_any2 I (HT.out.below I HO3.out.2.2).swap HSZ.out ⟨x.w, xo, ⟨4, zz9, x.th.y⟩, x.m⟩ HI4.out).mono ?_; rintro e wv ⟨rfl, h4⟩; have H4 := Lib.hid h4.swap; clear h4)
        clear p0 p1 p2 p3 p4 p5 p6 p7 p8 p9 p3' p4' p5'
        have hpo := HP.out.1.other (c := ⟨x.w, xo, ⟨4, zz9, x.th.y⟩, x.m⟩) rfl (decide_eq_false (by have := HXO.out.1; show ¬ xo < 100000; omega))
        have HT4 := Lib.hid (And.intro H4.out (And.intro hpo (And.intro HP.out.2.1 (show szL (doL lb ⟨x.w, xo, ⟨4, zz9, x.th.y⟩, x.m⟩) ≤ 2 * k + 1 by have := HP.out.2.2; have := do_sz lb ⟨x.w, xo, ⟨4, zz9, x.th.y⟩, x.m⟩; omega))))
        clear hpo H4
        generalize doL lb ⟨x.w, xo, ⟨4, zz9, x.th.y⟩, x.m⟩ = lb at HT4
        have hkq : k ≤ 119 := by omega
        have hkl : k < cl.length := by rw [← HN.out.1]; exact hlt
        obtain ⟨ad2, rfl, _, d0, d1, d2, d3, d4, d5⟩ := cl_at (H.out.1.below HT4.out.1.low (Nat.le_refl _)) hkl
        have hyi := H.out.2.1 cl[k] (List.getElem_mem hkl)
        obtain ⟨y, hy⟩ : ∃ y, y = cl[k] := ⟨_, rfl⟩
        rw [← hy] at d0 d1 d2 d3 d4 d5 hyi
        have HY := Lib.hid hyi
        clear hy hyi hkl
        obtain ⟨q, hq⟩ : ∃ b, b = wv.heap.size := ⟨_, rfl⟩
        obtain ⟨wc, hwc⟩ : ∃ wc, wc = wv.alloc (.cells #[.int .i64 y.w, .int .i64 y.x, .int .i64 y.th.k, .string y.th.t, .string y.th.y, .int .i64 y.m] 33) := ⟨_, rfl⟩
        have HQ := Lib.hid (show Tq T w wc ta la tb lb q #[.int .i64 y.w, .int .i64 y.x, .int .i64 y.th.k, .string y.th.t, .string y.th.y, .int .i64 y.m] from Tp.own I HT4.out.1 (by rw [hwc]; exact (Below.refl _ wv).alloc (Nat.le_refl _) _) (by rw [hwc, hq]; exact Blk.new wv _ _) (by omega))
        have hge0 : ¬ (n : Int) ≤ (k : Int) := by omega
        have hge1 : decide ((n : Int) ≤ (k : Int)) = false := decide_eq_false hge0
        go_upto_region 18 with fail
        rw [← hq, ← hwc]; clear hq hwc d0 d1 d2 d3 d4 d5
        have s0 : wc.cell? ⟨q, 0, none⟩ = some (.int .i64 y.w) := HQ.out.blk.cell 0
        have s1 : wc.cell? ⟨q, 1, none⟩ = some (.int .i64 y.x) := HQ.out.blk.cell 1
        have s2 : wc.cell? ⟨q, 2, none⟩ = some (.int .i64 y.th.k) := HQ.out.blk.cell 2
        have s3 : wc.cell? ⟨q, 3, none⟩ = some (.string y.th.t) := HQ.out.blk.cell 3
        have s4 : wc.cell? ⟨q, 4, none⟩ = some (.string y.th.y) := HQ.out.blk.cell 4
        have s5 : wc.cell? ⟨q, 5, none⟩ = some (.int .i64 y.m) := HQ.out.blk.cell 5
        have s6 : wc.frozen? ⟨q, 2, none⟩ = false := HQ.out.blk.frozen 2
        have s7 : wc.frozen? ⟨q, 3, none⟩ = false := HQ.out.blk.frozen 3
        have s8 : wc.frozen? ⟨q, 1, none⟩ = false := HQ.out.blk.frozen 1
        have s9 : wc.frozen? ⟨q, 2 + 1, none⟩ = false := s7
        have s3' : wc.cell? ⟨q, 2 + 1, none⟩ = some (.string y.th.t) := s3
        have s4' : wc.cell? ⟨q, 2 + 2, none⟩ = some (.string y.th.y) := s4
        have s5' : wc.cell? ⟨q, 2 + 3, none⟩ = some (.int .i64 y.m) := s5
        by_cases hz : y.th.t = zz9
        · have hz1 : (y.th.t.toList == [122, 122, 57]) = true := by rw [← zzL, str_beq, decide_eq_true hz]
          have hz3 : y.th.t.toList = [122, 122, 57] := by rw [← zzL, hz]
          clear hz
          go_wp2_with fail
          go_ret
          exact ⟨rfl, HQ.out.low⟩
        have hz1 : (y.th.t.toList == [122, 122, 57]) = false := by rw [← zzL, str_beq, decide_eq_false hz]
        have hz3 : ¬ y.th.t.toList = [122, 122, 57] := by intro h9; rw [h9] at hz1; simp at hz1
        by_cases hxx : y.x < 100000
        rotate_left
        · have hx1 : (100000 : Int) ≤ y.x := by omega
          have hx2 : decide ((100000 : Int) ≤ y.x) = true := decide_eq_true hx1
          clear hz
          go_wp2_with fail
          go_ret
          exact ⟨rfl, HQ.out.low⟩
        have hx1 : ¬ (100000 : Int) ≤ y.x := by omega
        have hx2 : decide ((100000 : Int) ≤ y.x) = false := decide_eq_false hx1
        have HPQ := Lib.hid (And.intro (show pA y.th = true from decide_eq_true hz) (show qA y.x = true from decide_eq_true hxx))
        have HSA := Lib.hid (show szL la ≤ 1000 by have := HT4.out.2.2.1; omega)
        have HSB := Lib.hid (show szL lb ≤ 1000 by have := HT4.out.2.2.2; omega)
        clear hz hxx
        by_cases e0 : y.w = 0
        · have e1 : (y.w == 0) = true := by simp [e0]
          have hask := HT4.out.2.1.asks y.m HPQ.out.1 HPQ.out.2
          have hpr := HT4.out.2.1.ask y.m HPQ.out.1 HPQ.out.2
          have hz4 := ask_sz la y.x y.th y.m
          have hz5 := ask_sz lb y.x y.th y.m
          obtain ⟨BB, hBB⟩ : ∃ v, v = (askL lb y.x y.th y.m).2.1 := ⟨_, rfl⟩
          obtain ⟨EE, hEE⟩ : ∃ v, v = (askL lb y.x y.th y.m).2.2 := ⟨_, rfl⟩
          have HAA := Lib.hid (And.intro (show (askL la y.x y.th y.m).2.1 = BB by rw [hask, hBB]) (show (askL la y.x y.th y.m).2.2 = EE by rw [hask, hEE]))
          have HBB := Lib.hid (And.intro hBB.symm hEE.symm)
          have HPR := Lib.hid (And.intro hpr (And.intro hz4 hz5))
          clear hask hpr hz4 hz5 hBB hEE
          go_upto_region 22 with (go_at_call 20; refine (HQ.out.ask I y.x y.th y.m HSA.out HY.out.2.1 HY.out.2.2.1 HY.out.2.2.2).mono ?_; rw [HAA.out.1, HAA.out.2]; rintro e w5 ⟨rfl, h5⟩; have H5 := Lib.hid h5; clear h5)
          clear s0 s1 s2 s3 s4 s5 s6 s7 s8 s9 s3' s4' s5'
          have s0 : w5.cell? ⟨q, 0, none⟩ = some (.int .i64 y.w) := H5.out.blk.cell 0
          have s1 : w5.cell? ⟨q, 1, none⟩ = some (.int .i64 y.x) := H5.out.blk.cell 1
          have s2 : w5.cell? ⟨q, 2, none⟩ = some (.int .i64 y.th.k) := H5.out.blk.cell 2
          have s3 : w5.cell? ⟨q, 3, none⟩ = some (.string y.th.t) := H5.out.blk.cell 3
          have s4 : w5.cell? ⟨q, 4, none⟩ = some (.string y.th.y) := H5.out.blk.cell 4
          have s5 : w5.cell? ⟨q, 5, none⟩ = some (.int .i64 y.m) := H5.out.blk.cell 5
          have s6 : w5.frozen? ⟨q, 2, none⟩ = false := H5.out.blk.frozen 2
          have s7 : w5.frozen? ⟨q, 3, none⟩ = false := H5.out.blk.frozen 3
          have s8 : w5.frozen? ⟨q, 1, none⟩ = false := H5.out.blk.frozen 1
          have s9 : w5.frozen? ⟨q, 2 + 1, none⟩ = false := s7
          have s3' : w5.cell? ⟨q, 2 + 1, none⟩ = some (.string y.th.t) := s3
          have s4' : w5.cell? ⟨q, 2 + 2, none⟩ = some (.string y.th.y) := s4
          have s5' : w5.cell? ⟨q, 2 + 3, none⟩ = some (.int .i64 y.m) := s5
          go_upto_region 23 with (go_at_call 20; refine (H5.out.swap.ask I y.x y.th y.m HSB.out HY.out.2.1 HY.out.2.2.1 HY.out.2.2.2).mono ?_; rw [HBB.out.1, HBB.out.2]; rintro e w6 ⟨rfl, h6⟩; have H6 := Lib.hid h6.swap; clear h6)
          clear s0 s1 s2 s3 s4 s5 s6 s7 s8 s9 s3' s4' s5'
          have HR := Lib.hid (And.intro H6.out (And.intro HPR.out.1 (And.intro (show szL (askL la y.x y.th y.m).1 ≤ k + 1 by have := HPR.out.2.1; have := HT4.out.2.2.1; omega) (show szL (askL lb y.x y.th y.m).1 ≤ 2 * (k + 1) by have := HPR.out.2.2; have := HT4.out.2.2.2; omega))))
          generalize (askL la y.x y.th y.m).1 = la2 at HR
          generalize (askL lb y.x y.th y.m).1 = lb2 at HR
          have HYT := Lib.hid (show y.th.In from HY.out.2.2.1)
          have HST := Lib.hid (HR.out.2.1.state HPQ.out.1)
          have HZ1 := Lib.hid (show szL la2 ≤ 1000 by have := HR.out.2.2.1; omega)
          have HZ2 := Lib.hid (show szL lb2 ≤ 1000 by have := HR.out.2.2.2; omega)
          have HLEN := Lib.hid (show (stateL la2 y.th).length ≤ 1000000 by have h1 := HZ1.out; unfold szL at h1; unfold stateL; have h2 := List.length_filter_le (fun o : Od => decide (o.th = y.th)) la2.H; have h3 := List.length_filter_le (fun o : Od => decide (o.th = y.th)) la2.W; simp only [List.length_append, List.length_map]; omega)
          have s2 : w6.cell? ⟨q, 2, none⟩ = some (.int .i64 y.th.k) := HR.out.1.blk.cell 2
          have s3 : w6.cell? ⟨q, 3, none⟩ = some (.string y.th.t) := HR.out.1.blk.cell 3
          have s4 : w6.cell? ⟨q, 4, none⟩ = some (.string y.th.y) := HR.out.1.blk.cell 4
          go_upto_region 27 with fail
          go_region_held3 (fun w' => w'.cell? ⟨q, 2, none⟩ = some (.int .i64 y.th.k) ∧ w'.cell? ⟨q, 3, none⟩ = some (.string y.th.t) ∧ w'.cell? ⟨q, 4, none⟩ = some (.string y.th.y))
            (first | exact ⟨tw92, tw93, tw94⟩ | exact ⟨tw82, tw83, tw84⟩ | exact ⟨tw72, tw73, tw74⟩ | exact ⟨s2, s3, s4⟩)
            (first
              | (go_at_call 14; (with_reducible refine (HR.out.1.p.state2 I (by first | exact HM.out.2.2.1 | exact (Below.refl _ w6).drew) y.th HZ1.out HYT.out).mono ?_); rintro e w7 ⟨A7, n7, c7, rfl, hn7, ho7, hb7⟩; have HL := Lib.hid (And.intro hn7 (And.intro (own_held ho7 hn7) (And.intro (show Below w6.heap.size w6 w7 by first | exact HM.out.2.2.1.trans (hb7.mono HM.out.2.2.1.size) | exact ((Below.refl _ w6).drew).trans (hb7.mono (Nat.le_refl _))) hb7))); clear hn7 ho7 hb7; have tw72 : w7.cell? ⟨q, 2, none⟩ = some (.int .i64 y.th.k) := (HL.out.2.2.1.cell (p := ⟨q, 2, none⟩) HR.out.1.blk.lt).trans (HR.out.1.blk.cell 2); have tw73 : w7.cell? ⟨q, 3, none⟩ = some (.string y.th.t) := (HL.out.2.2.1.cell (p := ⟨q, 3, none⟩) HR.out.1.blk.lt).trans (HR.out.1.blk.cell 3); have tw74 : w7.cell? ⟨q, 4, none⟩ = some (.string y.th.y) := (HL.out.2.2.1.cell (p := ⟨q, 4, none⟩) HR.out.1.blk.lt).trans (HR.out.1.blk.cell 4))
              | (go_at_call 14; (with_reducible refine (HR.out.1.p.swap.state2 I (by first | exact HL.out.2.2.1 | exact (Below.refl _ w6).drew) y.th HZ2.out HYT.out).mono ?_); rw [HST.out]; rintro e w8 ⟨A7, n7, c7, rfl, hn7, ho7, hb7⟩; have HM := Lib.hid (And.intro hn7 (And.intro (own_held ho7 hn7) (And.intro (show Below w6.heap.size w6 w8 by first | exact HL.out.2.2.1.trans (hb7.mono HL.out.2.2.1.size) | exact ((Below.refl _ w6).drew).trans (hb7.mono (Nat.le_refl _))) hb7))); clear hn7 ho7 hb7; have tw82 : w8.cell? ⟨q, 2, none⟩ = some (.int .i64 y.th.k) := (HM.out.2.2.1.cell (p := ⟨q, 2, none⟩) HR.out.1.blk.lt).trans (HR.out.1.blk.cell 2); have tw83 : w8.cell? ⟨q, 3, none⟩ = some (.string y.th.t) := (HM.out.2.2.1.cell (p := ⟨q, 3, none⟩) HR.out.1.blk.lt).trans (HR.out.1.blk.cell 3); have tw84 : w8.cell? ⟨q, 4, none⟩ = some (.string y.th.y) := (HM.out.2.2.1.cell (p := ⟨q, 4, none⟩) HR.out.1.blk.lt).trans (HR.out.1.blk.cell 4))
              | (go_at_call 23; first
                  | ((with_reducible refine (sameH_yes HL.out.1 HM.out.1 ((HL.out.2.1.below HM.out.2.2.2 (Nat.le_refl _)).more HM.out.2.2.2.size) HM.out.2.1 HLEN.out).mono ?_); rintro e w9 ⟨rfl, hb9⟩; have H9 := Lib.hid (HM.out.2.2.1.trans (hb9.mono HM.out.2.2.1.size)); clear hb9; have tw92 : w9.cell? ⟨q, 2, none⟩ = some (.int .i64 y.th.k) := (H9.out.cell (p := ⟨q, 2, none⟩) HR.out.1.blk.lt).trans (HR.out.1.blk.cell 2); have tw93 : w9.cell? ⟨q, 3, none⟩ = some (.string y.th.t) := (H9.out.cell (p := ⟨q, 3, none⟩) HR.out.1.blk.lt).trans (HR.out.1.blk.cell 3); have tw94 : w9.cell? ⟨q, 4, none⟩ = some (.string y.th.y) := (H9.out.cell (p := ⟨q, 4, none⟩) HR.out.1.blk.lt).trans (HR.out.1.blk.cell 4))
                  | ((with_reducible refine (sameH_yes HL.out.1 HM.out.1 HL.out.2.1 ((HM.out.2.1.below HL.out.2.2.2 (Nat.le_refl _)).more HL.out.2.2.2.size) HLEN.out).mono ?_); rintro e w9 ⟨rfl, hb9⟩; have H9 := Lib.hid (HL.out.2.2.1.trans (hb9.mono HL.out.2.2.1.size)); clear hb9; have tw92 : w9.cell? ⟨q, 2, none⟩ = some (.int .i64 y.th.k) := (H9.out.cell (p := ⟨q, 2, none⟩) HR.out.1.blk.lt).trans (HR.out.1.blk.cell 2); have tw93 : w9.cell? ⟨q, 3, none⟩ = some (.string y.th.t) := (H9.out.cell (p := ⟨q, 3, none⟩) HR.out.1.blk.lt).trans (HR.out.1.blk.cell 3); have tw94 : w9.cell? ⟨q, 4, none⟩ = some (.string y.th.y) := (H9.out.cell (p := ⟨q, 4, none⟩) HR.out.1.blk.lt).trans (HR.out.1.blk.cell 4))))
          all_goals (
            go_wp2_with fail
            go_roundw
            case rel => exact ⟨k + 1, la2, lb2, by omega, by go_num, HR.out.1.p.below I H9.out, HR.out.2.1, HR.out.2.2.1, HR.out.2.2.2⟩
            case measure => simp [intOf]; omega)
        · have e1 : (y.w == 0) = false := by simp [e0]
          have hpr := HT4.out.2.1.do (c := y) HPQ.out.1 HPQ.out.2
          have HPR := Lib.hid (And.intro hpr (And.intro (do_sz la y) (do_sz lb y)))
          clear hpr
          go_upto_region 26 with (go_at_call 13; refine (do_any3 I HQ.out HSA.out y HY.out).mono ?_; rintro e w5 ⟨rfl, h5⟩; have H5 := Lib.hid h5; clear h5)
          clear s0 s1 s2 s3 s4 s5 s6 s7 s8 s9 s3' s4' s5'
          have s0 : w5.cell? ⟨q, 0, none⟩ = some (.int .i64 y.w) := H5.out.blk.cell 0
          have s1 : w5.cell? ⟨q, 1, none⟩ = some (.int .i64 y.x) := H5.out.blk.cell 1
          have s2 : w5.cell? ⟨q, 2, none⟩ = some (.int .i64 y.th.k) := H5.out.blk.cell 2
          have s3 : w5.cell? ⟨q, 3, none⟩ = some (.string y.th.t) := H5.out.blk.cell 3
          have s4 : w5.cell? ⟨q, 4, none⟩ = some (.string y.th.y) := H5.out.blk.cell 4
          have s5 : w5.cell? ⟨q, 5, none⟩ = some (.int .i64 y.m) := H5.out.blk.cell 5
          have s6 : w5.frozen? ⟨q, 2, none⟩ = false := H5.out.blk.frozen 2
          have s7 : w5.frozen? ⟨q, 3, none⟩ = false := H5.out.blk.frozen 3
          have s8 : w5.frozen? ⟨q, 1, none⟩ = false := H5.out.blk.frozen 1
          have s9 : w5.frozen? ⟨q, 2 + 1, none⟩ = false := s7
          have s3' : w5.cell? ⟨q, 2 + 1, none⟩ = some (.string y.th.t) := s3
          have s4' : w5.cell? ⟨q, 2 + 2, none⟩ = some (.string y.th.y) := s4
          have s5' : w5.cell? ⟨q, 2 + 3, none⟩ = some (.int .i64 y.m) := s5
          go_upto_region 27 with (go_at_call 13; refine (do_any3 I H5.out.swap HSB.out y HY.out).mono ?_; rintro e w6 ⟨rfl, h6⟩; have H6 := Lib.hid h6.swap; clear h6)
          clear s0 s1 s2 s3 s4 s5 s6 s7 s8 s9 s3' s4' s5'
          have HR := Lib.hid (And.intro H6.out (And.intro HPR.out.1 (And.intro (show szL (doL la y) ≤ k + 1 by have := HPR.out.2.1; have := HT4.out.2.2.1; omega) (show szL (doL lb y) ≤ 2 * (k + 1) by have := HPR.out.2.2; have := HT4.out.2.2.2; omega))))
          generalize doL la y = la2 at HR
          generalize doL lb y = lb2 at HR
          have HYT := Lib.hid (show y.th.In from HY.out.2.2.1)
          have HST := Lib.hid (HR.out.2.1.state HPQ.out.1)
          have HZ1 := Lib.hid (show szL la2 ≤ 1000 by have := HR.out.2.2.1; omega)
          have HZ2 := Lib.hid (show szL lb2 ≤ 1000 by have := HR.out.2.2.2; omega)
          have HLEN := Lib.hid (show (stateL la2 y.th).length ≤ 1000000 by have h1 := HZ1.out; unfold szL at h1; unfold stateL; have h2 := List.length_filter_le (fun o : Od => decide (o.th = y.th)) la2.H; have h3 := List.length_filter_le (fun o : Od => decide (o.th = y.th)) la2.W; simp only [List.length_append, List.length_map]; omega)
          have s2 : w6.cell? ⟨q, 2, none⟩ = some (.int .i64 y.th.k) := HR.out.1.blk.cell 2
          have s3 : w6.cell? ⟨q, 3, none⟩ = some (.string y.th.t) := HR.out.1.blk.cell 3
          have s4 : w6.cell? ⟨q, 4, none⟩ = some (.string y.th.y) := HR.out.1.blk.cell 4
          go_upto_region 27 with fail
          go_region_held3 (fun w' => w'.cell? ⟨q, 2, none⟩ = some (.int .i64 y.th.k) ∧ w'.cell? ⟨q, 3, none⟩ = some (.string y.th.t) ∧ w'.cell? ⟨q, 4, none⟩ = some (.string y.th.y))
            (first | exact ⟨tw92, tw93, tw94⟩ | exact ⟨tw82, tw83, tw84⟩ | exact ⟨tw72, tw73, tw74⟩ | exact ⟨s2, s3, s4⟩)
            (first
              | (go_at_call 14; (with_reducible refine (HR.out.1.p.state2 I (by first | exact HM.out.2.2.1 | exact (Below.refl _ w6).drew) y.th HZ1.out HYT.out).mono ?_); rintro e w7 ⟨A7, n7, c7, rfl, hn7, ho7, hb7⟩; have HL := Lib.hid (And.intro hn7 (And.intro (own_held ho7 hn7) (And.intro (show Below w6.heap.size w6 w7 by first | exact HM.out.2.2.1.trans (hb7.mono HM.out.2.2.1.size) | exact ((Below.refl _ w6).drew).trans (hb7.mono (Nat.le_refl _))) hb7))); clear hn7 ho7 hb7; have tw72 : w7.cell? ⟨q, 2, none⟩ = some (.int .i64 y.th.k) := (HL.out.2.2.1.cell (p := ⟨q, 2, none⟩) HR.out.1.blk.lt).trans (HR.out.1.blk.cell 2); have tw73 : w7.cell? ⟨q, 3, none⟩ = some (.string y.th.t) := (HL.out.2.2.1.cell (p := ⟨q, 3, none⟩) HR.out.1.blk.lt).trans (HR.out.1.blk.cell 3); have tw74 : w7.cell? ⟨q, 4, none⟩ = some (.string y.th.y) := (HL.out.2.2.1.cell (p := ⟨q, 4, none⟩) HR.out.1.blk.lt).trans (HR.out.1.blk.cell 4))
              | (go_at_call 14; (with_reducible refine (HR.out.1.p.swap.state2 I (by first | exact HL.out.2.2.1 | exact (Below.refl _ w6).drew) y.th HZ2.out HYT.out).mono ?_); rw [HST.out]; rintro e w8 ⟨A7, n7, c7, rfl, hn7, ho7, hb7⟩; have HM := Lib.hid (And.intro hn7 (And.intro (own_held ho7 hn7) (And.intro (show Below w6.heap.size w6 w8 by first | exact HL.out.2.2.1.trans (hb7.mono HL.out.2.2.1.size) | exact ((Below.refl _ w6).drew).trans (hb7.mono (Nat.le_refl _))) hb7))); clear hn7 ho7 hb7; have tw82 : w8.cell? ⟨q, 2, none⟩ = some (.int .i64 y.th.k) := (HM.out.2.2.1.cell (p := ⟨q, 2, none⟩) HR.out.1.blk.lt).trans (HR.out.1.blk.cell 2); have tw83 : w8.cell? ⟨q, 3, none⟩ = some (.string y.th.t) := (HM.out.2.2.1.cell (p := ⟨q, 3, none⟩) HR.out.1.blk.lt).trans (HR.out.1.blk.cell 3); have tw84 : w8.cell? ⟨q, 4, none⟩ = some (.string y.th.y) := (HM.out.2.2.1.cell (p := ⟨q, 4, none⟩) HR.out.1.blk.lt).trans (HR.out.1.blk.cell 4))
              | (go_at_call 23; first
                  | ((with_reducible refine (sameH_yes HL.out.1 HM.out.1 ((HL.out.2.1.below HM.out.2.2.2 (Nat.le_refl _)).more HM.out.2.2.2.size) HM.out.2.1 HLEN.out).mono ?_); rintro e w9 ⟨rfl, hb9⟩; have H9 := Lib.hid (HM.out.2.2.1.trans (hb9.mono HM.out.2.2.1.size)); clear hb9; have tw92 : w9.cell? ⟨q, 2, none⟩ = some (.int .i64 y.th.k) := (H9.out.cell (p := ⟨q, 2, none⟩) HR.out.1.blk.lt).trans (HR.out.1.blk.cell 2); have tw93 : w9.cell? ⟨q, 3, none⟩ = some (.string y.th.t) := (H9.out.cell (p := ⟨q, 3, none⟩) HR.out.1.blk.lt).trans (HR.out.1.blk.cell 3); have tw94 : w9.cell? ⟨q, 4, none⟩ = some (.string y.th.y) := (H9.out.cell (p := ⟨q, 4, none⟩) HR.out.1.blk.lt).trans (HR.out.1.blk.cell 4))
                  | ((with_reducible refine (sameH_yes HL.out.1 HM.out.1 HL.out.2.1 ((HM.out.2.1.below HL.out.2.2.2 (Nat.le_refl _)).more HL.out.2.2.2.size) HLEN.out).mono ?_); rintro e w9 ⟨rfl, hb9⟩; have H9 := Lib.hid (HL.out.2.2.1.trans (hb9.mono HL.out.2.2.1.size)); clear hb9; have tw92 : w9.cell? ⟨q, 2, none⟩ = some (.int .i64 y.th.k) := (H9.out.cell (p := ⟨q, 2, none⟩) HR.out.1.blk.lt).trans (HR.out.1.blk.cell 2); have tw93 : w9.cell? ⟨q, 3, none⟩ = some (.string y.th.t) := (H9.out.cell (p := ⟨q, 3, none⟩) HR.out.1.blk.lt).trans (HR.out.1.blk.cell 3); have tw94 : w9.cell? ⟨q, 4, none⟩ = some (.string y.th.y) := (H9.out.cell (p := ⟨q, 4, none⟩) HR.out.1.blk.lt).trans (HR.out.1.blk.cell 4))))
          all_goals (
            go_wp2_with fail
            go_roundw
            case rel => exact ⟨k + 1, la2, lb2, by omega, by go_num, HR.out.1.p.below I H9.out, HR.out.2.1, HR.out.2.2.1, HR.out.2.2.2⟩
            case measure => simp [intOf]; omega)
      · have hlt1 : ¬ (k : Int) < (n : Int) := by omega
        have hd1 : decide ((k : Int) < (n : Int)) = false := decide_eq_false hlt1
        have hge : (n : Int) ≤ (k : Int) := by omega
        have hkl' : k < ol.length := by rw [← HN.out.2]; exact hlt'
        obtain ⟨ad, rfl, _, d0, d1, d2, d3, d4, d5⟩ := cl_at (H'.out.1.below HT.out.low (Nat.le_refl _)) hkl'
        have hxi := H'.out.2.1 ol[k] (List.getElem_mem hkl')
        obtain ⟨x, hx⟩ : ∃ x, x = ol[k] := ⟨_, rfl⟩
        rw [← hx] at d0 d1 d2 d3 d4 d5 hxi
        have HX := Lib.hid hxi
        clear hx hxi hkl'
        obtain ⟨b, hb⟩ : ∃ b, b = wr.heap.size := ⟨_, rfl⟩
        obtain ⟨wo, hwo⟩ : ∃ wo, wo = wr.alloc (.cells #[.int .i64 x.w, .int .i64 x.x, .int .i64 x.th.k, .string x.th.t, .string x.th.y, .int .i64 x.m] 33) := ⟨_, rfl⟩
        have hblk : Blk wo b 33 #[.int .i64 x.w, .int .i64 x.x, .int .i64 x.th.k, .string x.th.t, .string x.th.y, .int .i64 x.m] := by rw [hwo, hb]; exact Blk.new wr _ _
        have hbo : Below wr.heap.size wr wo := by rw [hwo]; exact (Below.refl _ wr).alloc (Nat.le_refl _) _
        have HO := Lib.hid (And.intro hb (And.intro hblk hbo))
        clear hblk hbo
        go_upto_region 12 with fail
        rw [← hb, ← hwo]; clear hb hwo d0 d1 d2 d3 d4 d5
        have p0 : wo.cell? ⟨b, 0, none⟩ = some (.int .i64 x.w) := HO.out.2.1.cell 0
        have p1 : wo.cell? ⟨b, 1, none⟩ = some (.int .i64 x.x) := HO.out.2.1.cell 1
        have p2 : wo.cell? ⟨b, 2, none⟩ = some (.int .i64 x.th.k) := HO.out.2.1.cell 2
        have p3 : wo.cell? ⟨b, 3, none⟩ = some (.string x.th.t) := HO.out.2.1.cell 3
        have p4 : wo.cell? ⟨b, 4, none⟩ = some (.string x.th.y) := HO.out.2.1.cell 4
        have p5 : wo.cell? ⟨b, 5, none⟩ = some (.int .i64 x.m) := HO.out.2.1.cell 5
        have p6 : wo.frozen? ⟨b, 2, none⟩ = false := HO.out.2.1.frozen 2
        have p7 : wo.frozen? ⟨b, 3, none⟩ = false := HO.out.2.1.frozen 3
        have p8 : wo.frozen? ⟨b, 1, none⟩ = false := HO.out.2.1.frozen 1
        have p9 : wo.frozen? ⟨b, 2 + 1, none⟩ = false := p7
        have p3' : wo.cell? ⟨b, 2 + 1, none⟩ = some (.string x.th.t) := p3
        have p4' : wo.cell? ⟨b, 2 + 2, none⟩ = some (.string x.th.y) := p4
        have p5' : wo.cell? ⟨b, 2 + 3, none⟩ = some (.int .i64 x.m) := p5
        go_upto_region 13 with fail
        generalize hws : World.setCell wo _ _ = wHO1
        have hblk : Blk wHO1 b 33 #[.int .i64 x.w, .int .i64 x.x, .int .i64 4, .string x.th.t, .string x.th.y, .int .i64 x.m] := by rw [← hws]; exact HO.out.2.1.put 2 (.int .i64 4)
        have hbo : Below wr.heap.size wr wHO1 := by rw [← hws]; exact HO.out.2.2.setCell (by have := HO.out.1; show wr.heap.size ≤ b; omega) _
        have HO1 := Lib.hid (And.intro True.intro (And.intro hblk hbo))
        clear p0 p1 p2 p3 p4 p5 p6 p7 p8 p9 p3' p4' p5'
        clear hws hblk hbo
        have p0 : wHO1.cell? ⟨b, 0, none⟩ = some (.int .i64 x.w) := HO1.out.2.1.cell 0
        have p1 : wHO1.cell? ⟨b, 1, none⟩ = some (.int .i64 x.x) := HO1.out.2.1.cell 1
        have p2 : wHO1.cell? ⟨b, 2, none⟩ = some (.int .i64 4) := HO1.out.2.1.cell 2
        have p3 : wHO1.cell? ⟨b, 3, none⟩ = some (.string x.th.t) := HO1.out.2.1.cell 3
        have p4 : wHO1.cell? ⟨b, 4, none⟩ = some (.string x.th.y) := HO1.out.2.1.cell 4
        have p5 : wHO1.cell? ⟨b, 5, none⟩ = some (.int .i64 x.m) := HO1.out.2.1.cell 5
        have p6 : wHO1.frozen? ⟨b, 2, none⟩ = false := HO1.out.2.1.frozen 2
        have p7 : wHO1.frozen? ⟨b, 3, none⟩ = false := HO1.out.2.1.frozen 3
        have p8 : wHO1.frozen? ⟨b, 1, none⟩ = false := HO1.out.2.1.frozen 1
        have p9 : wHO1.frozen? ⟨b, 2 + 1, none⟩ = false := p7
        have p3' : wHO1.cell? ⟨b, 2 + 1, none⟩ = some (.string x.th.t) := p3
        have p4' : wHO1.cell? ⟨b, 2 + 2, none⟩ = some (.string x.th.y) := p4
        have p5' : wHO1.cell? ⟨b, 2 + 3, none⟩ = some (.int .i64 x.m) := p5
        go_upto_region 14 with fail
        generalize hws : World.setCell wHO1 _ _ = wHO2
        have hblk : Blk wHO2 b 33 #[.int .i64 x.w, .int .i64 x.x, .int .i64 4, .string zz9, .string x.th.y, .int .i64 x.m] := by rw [← hws]; exact HO1.out.2.1.put 3 (.string zz9)
        have hbo : Below wr.heap.size wr wHO2 := by rw [← hws]; exact HO1.out.2.2.setCell (by have := HO.out.1; show wr.heap.size ≤ b; omega) _
        have HO2 := Lib.hid (And.intro True.intro (And.intro hblk hbo))
        clear p0 p1 p2 p3 p4 p5 p6 p7 p8 p9 p3' p4' p5'
        clear hws hblk hbo
        have p0 : wHO2.cell? ⟨b, 0, none⟩ = some (.int .i64 x.w) := HO2.out.2.1.cell 0
        have p1 : wHO2.cell? ⟨b, 1, none⟩ = some (.int .i64 x.x) := HO2.out.2.1.cell 1
        have p2 : wHO2.cell? ⟨b, 2, none⟩ = some (.int .i64 4) := HO2.out.2.1.cell 2
        have p3 : wHO2.cell? ⟨b, 3, none⟩ = some (.string zz9) := HO2.out.2.1.cell 3
        have p4 : wHO2.cell? ⟨b, 4, none⟩ = some (.string x.th.y) := HO2.out.2.1.cell 4
        have p5 : wHO2.cell? ⟨b, 5, none⟩ = some (.int .i64 x.m) := HO2.out.2.1.cell 5
        have p6 : wHO2.frozen? ⟨b, 2, none⟩ = false := HO2.out.2.1.frozen 2
        have p7 : wHO2.frozen? ⟨b, 3, none⟩ = false := HO2.out.2.1.frozen 3
        have p8 : wHO2.frozen? ⟨b, 1, none⟩ = false := HO2.out.2.1.frozen 1
        have p9 : wHO2.frozen? ⟨b, 2 + 1, none⟩ = false := p7
        have p3' : wHO2.cell? ⟨b, 2 + 1, none⟩ = some (.string zz9) := p3
        have p4' : wHO2.cell? ⟨b, 2 + 2, none⟩ = some (.string x.th.y) := p4
        have p5' : wHO2.cell? ⟨b, 2 + 3, none⟩ = some (.int .i64 x.m) := p5
        have hand := and_bounds x.x
        have hw1 : IntKind.i64.wrap (bits .and .i64 x.x 1023 + 100000) = bits .and .i64 x.x 1023 + 100000 := by rw [IntKind.wrap_i64]; omega
        go_upto_region 15 with fail
        generalize hws : World.setCell wHO2 _ _ = wHO3
        have hblk : Blk wHO3 b 33 #[.int .i64 x.w, .int .i64 (bits .and .i64 x.x 1023 + 100000), .int .i64 4, .string zz9, .string x.th.y, .int .i64 x.m] := by rw [← hws]; exact HO2.out.2.1.put 1 (.int .i64 (bits .and .i64 x.x 1023 + 100000))
        have hbo : Below wr.heap.size wr wHO3 := by rw [← hws]; exact HO2.out.2.2.setCell (by have := HO.out.1; show wr.heap.size ≤ b; omega) _
        have HO3 := Lib.hid (And.intro True.intro (And.intro hblk hbo))
        clear p0 p1 p2 p3 p4 p5 p6 p7 p8 p9 p3' p4' p5'
        clear hws hblk hbo
        have p0 : wHO3.cell? ⟨b, 0, none⟩ = some (.int .i64 x.w) := HO3.out.2.1.cell 0
        have p1 : wHO3.cell? ⟨b, 1, none⟩ = some (.int .i64 (bits .and .i64 x.x 1023 + 100000)) := HO3.out.2.1.cell 1
        have p2 : wHO3.cell? ⟨b, 2, none⟩ = some (.int .i64 4) := HO3.out.2.1.cell 2
        have p3 : wHO3.cell? ⟨b, 3, none⟩ = some (.string zz9) := HO3.out.2.1.cell 3
        have p4 : wHO3.cell? ⟨b, 4, none⟩ = some (.string x.th.y) := HO3.out.2.1.cell 4
        have p5 : wHO3.cell? ⟨b, 5, none⟩ = some (.int .i64 x.m) := HO3.out.2.1.cell 5
        have p6 : wHO3.frozen? ⟨b, 2, none⟩ = false := HO3.out.2.1.frozen 2
        have p7 : wHO3.frozen? ⟨b, 3, none⟩ = false := HO3.out.2.1.frozen 3
        have p8 : wHO3.frozen? ⟨b, 1, none⟩ = false := HO3.out.2.1.frozen 1
        have p9 : wHO3.frozen? ⟨b, 2 + 1, none⟩ = false := p7
        have p3' : wHO3.cell? ⟨b, 2 + 1, none⟩ = some (.string zz9) := p3
        have p4' : wHO3.cell? ⟨b, 2 + 2, none⟩ = some (.string x.th.y) := p4
        have p5' : wHO3.cell? ⟨b, 2 + 3, none⟩ = some (.int .i64 x.m) := p5
        obtain ⟨xo, hxo⟩ : ∃ xo, xo = bits .and .i64 x.x 1023 + 100000 := ⟨_, rfl⟩
        rw [← hxo] at p1
        have HXO := Lib.hid (show 100000 ≤ xo ∧ NumI xo from ⟨by omega, by unfold NumI; omega⟩)
        have hin4 : (⟨x.w, xo, ⟨4, zz9, x.th.y⟩, x.m⟩ : Cl).In := ⟨HX.out.1, HXO.out.2, ⟨show NumI 4 by unfold NumI; decide, show zz9.size ≤ roomLen by decide, HX.out.2.2.1.2.2⟩, HX.out.2.2.2⟩
        have HI4 := Lib.hid hin4
        clear hin4 hxo hand hw1
        have hsz : szL lb ≤ 1000 := by have := HP.out.2.2; omega
        have HSZ := Lib.hid hsz
        clear hsz
        go_upto_region 16 with (go_at_call 13; refine (do_any2 I (HT.out.below I HO3.out.2.2).swap HSZ.out ⟨x.w, xo, ⟨4, zz9, x.th.y⟩, x.m⟩ HI4.out).mono ?_; rintro e wv ⟨rfl, h4⟩; have H4 := Lib.hid h4.swap; clear h4)
        clear p0 p1 p2 p3 p4 p5 p6 p7 p8 p9 p3' p4' p5'
        have hpo := HP.out.1.other (c := ⟨x.w, xo, ⟨4, zz9, x.th.y⟩, x.m⟩) rfl (decide_eq_false (by have := HXO.out.1; show ¬ xo < 100000; omega))
        have HT4 := Lib.hid (And.intro H4.out (And.intro hpo (And.intro HP.out.2.1 (show szL (doL lb ⟨x.w, xo, ⟨4, zz9, x.th.y⟩, x.m⟩) ≤ 2 * k + 1 by have := HP.out.2.2; have := do_sz lb ⟨x.w, xo, ⟨4, zz9, x.th.y⟩, x.m⟩; omega))))
        clear hpo H4
        generalize doL lb ⟨x.w, xo, ⟨4, zz9, x.th.y⟩, x.m⟩ = lb at HT4
        have hkq : k ≤ 119 := by omega
        go_wp2_with fail
        go_roundw
        case rel => exact ⟨k + 1, la, lb, by omega, by go_num, HT4.out.1, HT4.out.2.1, by have := HT4.out.2.2.1; omega, by have := HT4.out.2.2.2; omega⟩
        case measure => simp [intOf]; omega
    · have hlt1' : ¬ (k : Int) < (n' : Int) := by omega
      have hd1' : decide ((k : Int) < (n' : Int)) = false := decide_eq_false hlt1'
      by_cases hlt : k < n
      · have hlt1 : (k : Int) < (n : Int) := by omega
        have hd1 : decide ((k : Int) < (n : Int)) = true := decide_eq_true hlt1
        have HT4 := Lib.hid (And.intro HT.out (And.intro HP.out.1 (And.intro HP.out.2.1 (show szL lb ≤ 2 * k + 1 by have := HP.out.2.2; omega))))
        have hkq : k ≤ 119 := by omega
        have hkl : k < cl.length := by rw [← HN.out.1]; exact hlt
        obtain ⟨ad2, rfl, _, d0, d1, d2, d3, d4, d5⟩ := cl_at (H.out.1.below HT4.out.1.low (Nat.le_refl _)) hkl
        have hyi := H.out.2.1 cl[k] (List.getElem_mem hkl)
        obtain ⟨y, hy⟩ : ∃ y, y = cl[k] := ⟨_, rfl⟩
        rw [← hy] at d0 d1 d2 d3 d4 d5 hyi
        have HY := Lib.hid hyi
        clear hy hyi hkl
        obtain ⟨q, hq⟩ : ∃ b, b = wr.heap.size := ⟨_, rfl⟩
        obtain ⟨wc, hwc⟩ : ∃ wc, wc = wr.alloc (.cells #[.int .i64 y.w, .int .i64 y.x, .int .i64 y.th.k, .string y.th.t, .string y.th.y, .int .i64 y.m] 33) := ⟨_, rfl⟩
        have HQ := Lib.hid (show Tq T w wc ta la tb lb q #[.int .i64 y.w, .int .i64 y.x, .int .i64 y.th.k, .string y.th.t, .string y.th.y, .int .i64 y.m] from Tp.own I HT4.out.1 (by rw [hwc]; exact (Below.refl _ wr).alloc (Nat.le_refl _) _) (by rw [hwc, hq]; exact Blk.new wr _ _) (by omega))
        have hge0 : ¬ (n : Int) ≤ (k : Int) := by omega
        have hge1 : decide ((n : Int) ≤ (k : Int)) = false := decide_eq_false hge0
        go_upto_region 18 with fail
        rw [← hq, ← hwc]; clear hq hwc d0 d1 d2 d3 d4 d5
        have s0 : wc.cell? ⟨q, 0, none⟩ = some (.int .i64 y.w) := HQ.out.blk.cell 0
        have s1 : wc.cell? ⟨q, 1, none⟩ = some (.int .i64 y.x) := HQ.out.blk.cell 1
        have s2 : wc.cell? ⟨q, 2, none⟩ = some (.int .i64 y.th.k) := HQ.out.blk.cell 2
        have s3 : wc.cell? ⟨q, 3, none⟩ = some (.string y.th.t) := HQ.out.blk.cell 3
        have s4 : wc.cell? ⟨q, 4, none⟩ = some (.string y.th.y) := HQ.out.blk.cell 4
        have s5 : wc.cell? ⟨q, 5, none⟩ = some (.int .i64 y.m) := HQ.out.blk.cell 5
        have s6 : wc.frozen? ⟨q, 2, none⟩ = false := HQ.out.blk.frozen 2
        have s7 : wc.frozen? ⟨q, 3, none⟩ = false := HQ.out.blk.frozen 3
        have s8 : wc.frozen? ⟨q, 1, none⟩ = false := HQ.out.blk.frozen 1
        have s9 : wc.frozen? ⟨q, 2 + 1, none⟩ = false := s7
        have s3' : wc.cell? ⟨q, 2 + 1, none⟩ = some (.string y.th.t) := s3
        have s4' : wc.cell? ⟨q, 2 + 2, none⟩ = some (.string y.th.y) := s4
        have s5' : wc.cell? ⟨q, 2 + 3, none⟩ = some (.int .i64 y.m) := s5
        by_cases hz : y.th.t = zz9
        · have hz1 : (y.th.t.toList == [122, 122, 57]) = true := by rw [← zzL, str_beq, decide_eq_true hz]
          have hz3 : y.th.t.toList = [122, 122, 57] := by rw [← zzL, hz]
          clear hz
          go_wp2_with fail
          go_ret
          exact ⟨rfl, HQ.out.low⟩
        have hz1 : (y.th.t.toList == [122, 122, 57]) = false := by rw [← zzL, str_beq, decide_eq_false hz]
        have hz3 : ¬ y.th.t.toList = [122, 122, 57] := by intro h9; rw [h9] at hz1; simp at hz1
        by_cases hxx : y.x < 100000
        rotate_left
        · have hx1 : (100000 : Int) ≤ y.x := by omega
          have hx2 : decide ((100000 : Int) ≤ y.x) = true := decide_eq_true hx1
          clear hz
          go_wp2_with fail
          go_ret
          exact ⟨rfl, HQ.out.low⟩
        have hx1 : ¬ (100000 : Int) ≤ y.x := by omega
        have hx2 : decide ((100000 : Int) ≤ y.x) = false := decide_eq_false hx1
        have HPQ := Lib.hid (And.intro (show pA y.th = true from decide_eq_true hz) (show qA y.x = true from decide_eq_true hxx))
        have HSA := Lib.hid (show szL la ≤ 1000 by have := HT4.out.2.2.1; omega)
        have HSB := Lib.hid (show szL lb ≤ 1000 by have := HT4.out.2.2.2; omega)
        clear hz hxx
        by_cases e0 : y.w = 0
        · have e1 : (y.w == 0) = true := by simp [e0]
          have hask := HT4.out.2.1.asks y.m HPQ.out.1 HPQ.out.2
          have hpr := HT4.out.2.1.ask y.m HPQ.out.1 HPQ.out.2
          have hz4 := ask_sz la y.x y.th y.m
          have hz5 := ask_sz lb y.x y.th y.m
          obtain ⟨BB, hBB⟩ : ∃ v, v = (askL lb y.x y.th y.m).2.1 := ⟨_, rfl⟩
          obtain ⟨EE, hEE⟩ : ∃ v, v = (askL lb y.x y.th y.m).2.2 := ⟨_, rfl⟩
          have HAA := Lib.hid (And.intro (show (askL la y.x y.th y.m).2.1 = BB by rw [hask, hBB]) (show (askL la y.x y.th y.m).2.2 = EE by rw [hask, hEE]))
          have HBB := Lib.hid (And.intro hBB.symm hEE.symm)
          have HPR := Lib.hid (And.intro hpr (And.intro hz4 hz5))
          clear hask hpr hz4 hz5 hBB hEE
          go_upto_region 22 with (go_at_call 20; refine (HQ.out.ask I y.x y.th y.m HSA.out HY.out.2.1 HY.out.2.2.1 HY.out.2.2.2).mono ?_; rw [HAA.out.1, HAA.out.2]; rintro e w5 ⟨rfl, h5⟩; have H5 := Lib.hid h5; clear h5)
          clear s0 s1 s2 s3 s4 s5 s6 s7 s8 s9 s3' s4' s5'
          have s0 : w5.cell? ⟨q, 0, none⟩ = some (.int .i64 y.w) := H5.out.blk.cell 0
          have s1 : w5.cell? ⟨q, 1, none⟩ = some (.int .i64 y.x) := H5.out.blk.cell 1
          have s2 : w5.cell? ⟨q, 2, none⟩ = some (.int .i64 y.th.k) := H5.out.blk.cell 2
          have s3 : w5.cell? ⟨q, 3, none⟩ = some (.string y.th.t) := H5.out.blk.cell 3
          have s4 : w5.cell? ⟨q, 4, none⟩ = some (.string y.th.y) := H5.out.blk.cell 4
          have s5 : w5.cell? ⟨q, 5, none⟩ = some (.int .i64 y.m) := H5.out.blk.cell 5
          have s6 : w5.frozen? ⟨q, 2, none⟩ = false := H5.out.blk.frozen 2
          have s7 : w5.frozen? ⟨q, 3, none⟩ = false := H5.out.blk.frozen 3
          have s8 : w5.frozen? ⟨q, 1, none⟩ = false := H5.out.blk.frozen 1
          have s9 : w5.frozen? ⟨q, 2 + 1, none⟩ = false := s7
          have s3' : w5.cell? ⟨q, 2 + 1, none⟩ = some (.string y.th.t) := s3
          have s4' : w5.cell? ⟨q, 2 + 2, none⟩ = some (.string y.th.y) := s4
          have s5' : w5.cell? ⟨q, 2 + 3, none⟩ = some (.int .i64 y.m) := s5
          go_upto_region 23 with (go_at_call 20; refine (H5.out.swap.ask I y.x y.th y.m HSB.out HY.out.2.1 HY.out.2.2.1 HY.out.2.2.2).mono ?_; rw [HBB.out.1, HBB.out.2]; rintro e w6 ⟨rfl, h6⟩; have H6 := Lib.hid h6.swap; clear h6)
          clear s0 s1 s2 s3 s4 s5 s6 s7 s8 s9 s3' s4' s5'
          have HR := Lib.hid (And.intro H6.out (And.intro HPR.out.1 (And.intro (show szL (askL la y.x y.th y.m).1 ≤ k + 1 by have := HPR.out.2.1; have := HT4.out.2.2.1; omega) (show szL (askL lb y.x y.th y.m).1 ≤ 2 * (k + 1) by have := HPR.out.2.2; have := HT4.out.2.2.2; omega))))
          generalize (askL la y.x y.th y.m).1 = la2 at HR
          generalize (askL lb y.x y.th y.m).1 = lb2 at HR
          have HYT := Lib.hid (show y.th.In from HY.out.2.2.1)
          have HST := Lib.hid (HR.out.2.1.state HPQ.out.1)
          have HZ1 := Lib.hid (show szL la2 ≤ 1000 by have := HR.out.2.2.1; omega)
          have HZ2 := Lib.hid (show szL lb2 ≤ 1000 by have := HR.out.2.2.2; omega)
          have HLEN := Lib.hid (show (stateL la2 y.th).length ≤ 1000000 by have h1 := HZ1.out; unfold szL at h1; unfold stateL; have h2 := List.length_filter_le (fun o : Od => decide (o.th = y.th)) la2.H; have h3 := List.length_filter_le (fun o : Od => decide (o.th = y.th)) la2.W; simp only [List.length_append, List.length_map]; omega)
          have s2 : w6.cell? ⟨q, 2, none⟩ = some (.int .i64 y.th.k) := HR.out.1.blk.cell 2
          have s3 : w6.cell? ⟨q, 3, none⟩ = some (.string y.th.t) := HR.out.1.blk.cell 3
          have s4 : w6.cell? ⟨q, 4, none⟩ = some (.string y.th.y) := HR.out.1.blk.cell 4
          go_upto_region 27 with fail
          go_region_held3 (fun w' => w'.cell? ⟨q, 2, none⟩ = some (.int .i64 y.th.k) ∧ w'.cell? ⟨q, 3, none⟩ = some (.string y.th.t) ∧ w'.cell? ⟨q, 4, none⟩ = some (.string y.th.y))
            (first | exact ⟨tw92, tw93, tw94⟩ | exact ⟨tw82, tw83, tw84⟩ | exact ⟨tw72, tw73, tw74⟩ | exact ⟨s2, s3, s4⟩)
            (first
              | (go_at_call 14; (with_reducible refine (HR.out.1.p.state2 I (by first | exact HM.out.2.2.1 | exact (Below.refl _ w6).drew) y.th HZ1.out HYT.out).mono ?_); rintro e w7 ⟨A7, n7, c7, rfl, hn7, ho7, hb7⟩; have HL := Lib.hid (And.intro hn7 (And.intro (own_held ho7 hn7) (And.intro (show Below w6.heap.size w6 w7 by first | exact HM.out.2.2.1.trans (hb7.mono HM.out.2.2.1.size) | exact ((Below.refl _ w6).drew).trans (hb7.mono (Nat.le_refl _))) hb7))); clear hn7 ho7 hb7; have tw72 : w7.cell? ⟨q, 2, none⟩ = some (.int .i64 y.th.k) := (HL.out.2.2.1.cell (p := ⟨q, 2, none⟩) HR.out.1.blk.lt).trans (HR.out.1.blk.cell 2); have tw73 : w7.cell? ⟨q, 3, none⟩ = some (.string y.th.t) := (HL.out.2.2.1.cell (p := ⟨q, 3, none⟩) HR.out.1.blk.lt).trans (HR.out.1.blk.cell 3); have tw74 : w7.cell? ⟨q, 4, none⟩ = some (.string y.th.y) := (HL.out.2.2.1.cell (p := ⟨q, 4, none⟩) HR.out.1.blk.lt).trans (HR.out.1.blk.cell 4))
              | (go_at_call 14; (with_reducible refine (HR.out.1.p.swap.state2 I (by first | exact HL.out.2.2.1 | exact (Below.refl _ w6).drew) y.th HZ2.out HYT.out).mono ?_); rw [HST.out]; rintro e w8 ⟨A7, n7, c7, rfl, hn7, ho7, hb7⟩; have HM := Lib.hid (And.intro hn7 (And.intro (own_held ho7 hn7) (And.intro (show Below w6.heap.size w6 w8 by first | exact HL.out.2.2.1.trans (hb7.mono HL.out.2.2.1.size) | exact ((Below.refl _ w6).drew).trans (hb7.mono (Nat.le_refl _))) hb7))); clear hn7 ho7 hb7; have tw82 : w8.cell? ⟨q, 2, none⟩ = some (.int .i64 y.th.k) := (HM.out.2.2.1.cell (p := ⟨q, 2, none⟩) HR.out.1.blk.lt).trans (HR.out.1.blk.cell 2); have tw83 : w8.cell? ⟨q, 3, none⟩ = some (.string y.th.t) := (HM.out.2.2.1.cell (p := ⟨q, 3, none⟩) HR.out.1.blk.lt).trans (HR.out.1.blk.cell 3); have tw84 : w8.cell? ⟨q, 4, none⟩ = some (.string y.th.y) := (HM.out.2.2.1.cell (p := ⟨q, 4, none⟩) HR.out.1.blk.lt).trans (HR.out.1.blk.cell 4))
              | (go_at_call 23; first
                  | ((with_reducible refine (sameH_yes HL.out.1 HM.out.1 ((HL.out.2.1.below HM.out.2.2.2 (Nat.le_refl _)).more HM.out.2.2.2.size) HM.out.2.1 HLEN.out).mono ?_); rintro e w9 ⟨rfl, hb9⟩; have H9 := Lib.hid (HM.out.2.2.1.trans (hb9.mono HM.out.2.2.1.size)); clear hb9; have tw92 : w9.cell? ⟨q, 2, none⟩ = some (.int .i64 y.th.k) := (H9.out.cell (p := ⟨q, 2, none⟩) HR.out.1.blk.lt).trans (HR.out.1.blk.cell 2); have tw93 : w9.cell? ⟨q, 3, none⟩ = some (.string y.th.t) := (H9.out.cell (p := ⟨q, 3, none⟩) HR.out.1.blk.lt).trans (HR.out.1.blk.cell 3); have tw94 : w9.cell? ⟨q, 4, none⟩ = some (.string y.th.y) := (H9.out.cell (p := ⟨q, 4, none⟩) HR.out.1.blk.lt).trans (HR.out.1.blk.cell 4))
                  | ((with_reducible refine (sameH_yes HL.out.1 HM.out.1 HL.out.2.1 ((HM.out.2.1.below HL.out.2.2.2 (Nat.le_refl _)).more HL.out.2.2.2.size) HLEN.out).mono ?_); rintro e w9 ⟨rfl, hb9⟩; have H9 := Lib.hid (HL.out.2.2.1.trans (hb9.mono HL.out.2.2.1.size)); clear hb9; have tw92 : w9.cell? ⟨q, 2, none⟩ = some (.int .i64 y.th.k) := (H9.out.cell (p := ⟨q, 2, none⟩) HR.out.1.blk.lt).trans (HR.out.1.blk.cell 2); have tw93 : w9.cell? ⟨q, 3, none⟩ = some (.string y.th.t) := (H9.out.cell (p := ⟨q, 3, none⟩) HR.out.1.blk.lt).trans (HR.out.1.blk.cell 3); have tw94 : w9.cell? ⟨q, 4, none⟩ = some (.string y.th.y) := (H9.out.cell (p := ⟨q, 4, none⟩) HR.out.1.blk.lt).trans (HR.out.1.blk.cell 4))))
          all_goals (
            go_wp2_with fail
            go_roundw
            case rel => exact ⟨k + 1, la2, lb2, by omega, by go_num, HR.out.1.p.below I H9.out, HR.out.2.1, HR.out.2.2.1, HR.out.2.2.2⟩
            case measure => simp [intOf]; omega)
        · have e1 : (y.w == 0) = false := by simp [e0]
          have hpr := HT4.out.2.1.do (c := y) HPQ.out.1 HPQ.out.2
          have HPR := Lib.hid (And.intro hpr (And.intro (do_sz la y) (do_sz lb y)))
          clear hpr
          go_upto_region 26 with (go_at_call 13; refine (do_any3 I HQ.out HSA.out y HY.out).mono ?_; rintro e w5 ⟨rfl, h5⟩; have H5 := Lib.hid h5; clear h5)
          clear s0 s1 s2 s3 s4 s5 s6 s7 s8 s9 s3' s4' s5'
          have s0 : w5.cell? ⟨q, 0, none⟩ = some (.int .i64 y.w) := H5.out.blk.cell 0
          have s1 : w5.cell? ⟨q, 1, none⟩ = some (.int .i64 y.x) := H5.out.blk.cell 1
          have s2 : w5.cell? ⟨q, 2, none⟩ = some (.int .i64 y.th.k) := H5.out.blk.cell 2
          have s3 : w5.cell? ⟨q, 3, none⟩ = some (.string y.th.t) := H5.out.blk.cell 3
          have s4 : w5.cell? ⟨q, 4, none⟩ = some (.string y.th.y) := H5.out.blk.cell 4
          have s5 : w5.cell? ⟨q, 5, none⟩ = some (.int .i64 y.m) := H5.out.blk.cell 5
          have s6 : w5.frozen? ⟨q, 2, none⟩ = false := H5.out.blk.frozen 2
          have s7 : w5.frozen? ⟨q, 3, none⟩ = false := H5.out.blk.frozen 3
          have s8 : w5.frozen? ⟨q, 1, none⟩ = false := H5.out.blk.frozen 1
          have s9 : w5.frozen? ⟨q, 2 + 1, none⟩ = false := s7
          have s3' : w5.cell? ⟨q, 2 + 1, none⟩ = some (.string y.th.t) := s3
          have s4' : w5.cell? ⟨q, 2 + 2, none⟩ = some (.string y.th.y) := s4
          have s5' : w5.cell? ⟨q, 2 + 3, none⟩ = some (.int .i64 y.m) := s5
          go_upto_region 27 with (go_at_call 13; refine (do_any3 I H5.out.swap HSB.out y HY.out).mono ?_; rintro e w6 ⟨rfl, h6⟩; have H6 := Lib.hid h6.swap; clear h6)
          clear s0 s1 s2 s3 s4 s5 s6 s7 s8 s9 s3' s4' s5'
          have HR := Lib.hid (And.intro H6.out (And.intro HPR.out.1 (And.intro (show szL (doL la y) ≤ k + 1 by have := HPR.out.2.1; have := HT4.out.2.2.1; omega) (show szL (doL lb y) ≤ 2 * (k + 1) by have := HPR.out.2.2; have := HT4.out.2.2.2; omega))))
          generalize doL la y = la2 at HR
          generalize doL lb y = lb2 at HR
          have HYT := Lib.hid (show y.th.In from HY.out.2.2.1)
          have HST := Lib.hid (HR.out.2.1.state HPQ.out.1)
          have HZ1 := Lib.hid (show szL la2 ≤ 1000 by have := HR.out.2.2.1; omega)
          have HZ2 := Lib.hid (show szL lb2 ≤ 1000 by have := HR.out.2.2.2; omega)
          have HLEN := Lib.hid (show (stateL la2 y.th).length ≤ 1000000 by have h1 := HZ1.out; unfold szL at h1; unfold stateL; have h2 := List.length_filter_le (fun o : Od => decide (o.th = y.th)) la2.H; have h3 := List.length_filter_le (fun o : Od => decide (o.th = y.th)) la2.W; simp only [List.length_append, List.length_map]; omega)
          have s2 : w6.cell? ⟨q, 2, none⟩ = some (.int .i64 y.th.k) := HR.out.1.blk.cell 2
          have s3 : w6.cell? ⟨q, 3, none⟩ = some (.string y.th.t) := HR.out.1.blk.cell 3
          have s4 : w6.cell? ⟨q, 4, none⟩ = some (.string y.th.y) := HR.out.1.blk.cell 4
          go_upto_region 27 with fail
          go_region_held3 (fun w' => w'.cell? ⟨q, 2, none⟩ = some (.int .i64 y.th.k) ∧ w'.cell? ⟨q, 3, none⟩ = some (.string y.th.t) ∧ w'.cell? ⟨q, 4, none⟩ = some (.string y.th.y))
            (first | exact ⟨tw92, tw93, tw94⟩ | exact ⟨tw82, tw83, tw84⟩ | exact ⟨tw72, tw73, tw74⟩ | exact ⟨s2, s3, s4⟩)
            (first
              | (go_at_call 14; (with_reducible refine (HR.out.1.p.state2 I (by first | exact HM.out.2.2.1 | exact (Below.refl _ w6).drew) y.th HZ1.out HYT.out).mono ?_); rintro e w7 ⟨A7, n7, c7, rfl, hn7, ho7, hb7⟩; have HL := Lib.hid (And.intro hn7 (And.intro (own_held ho7 hn7) (And.intro (show Below w6.heap.size w6 w7 by first | exact HM.out.2.2.1.trans (hb7.mono HM.out.2.2.1.size) | exact ((Below.refl _ w6).drew).trans (hb7.mono (Nat.le_refl _))) hb7))); clear hn7 ho7 hb7; have tw72 : w7.cell? ⟨q, 2, none⟩ = some (.int .i64 y.th.k) := (HL.out.2.2.1.cell (p := ⟨q, 2, none⟩) HR.out.1.blk.lt).trans (HR.out.1.blk.cell 2); have tw73 : w7.cell? ⟨q, 3, none⟩ = some (.string y.th.t) := (HL.out.2.2.1.cell (p := ⟨q, 3, none⟩) HR.out.1.blk.lt).trans (HR.out.1.blk.cell 3); have tw74 : w7.cell? ⟨q, 4, none⟩ = some (.string y.th.y) := (HL.out.2.2.1.cell (p := ⟨q, 4, none⟩) HR.out.1.blk.lt).trans (HR.out.1.blk.cell 4))
              | (go_at_call 14; (with_reducible refine (HR.out.1.p.swap.state2 I (by first | exact HL.out.2.2.1 | exact (Below.refl _ w6).drew) y.th HZ2.out HYT.out).mono ?_); rw [HST.out]; rintro e w8 ⟨A7, n7, c7, rfl, hn7, ho7, hb7⟩; have HM := Lib.hid (And.intro hn7 (And.intro (own_held ho7 hn7) (And.intro (show Below w6.heap.size w6 w8 by first | exact HL.out.2.2.1.trans (hb7.mono HL.out.2.2.1.size) | exact ((Below.refl _ w6).drew).trans (hb7.mono (Nat.le_refl _))) hb7))); clear hn7 ho7 hb7; have tw82 : w8.cell? ⟨q, 2, none⟩ = some (.int .i64 y.th.k) := (HM.out.2.2.1.cell (p := ⟨q, 2, none⟩) HR.out.1.blk.lt).trans (HR.out.1.blk.cell 2); have tw83 : w8.cell? ⟨q, 3, none⟩ = some (.string y.th.t) := (HM.out.2.2.1.cell (p := ⟨q, 3, none⟩) HR.out.1.blk.lt).trans (HR.out.1.blk.cell 3); have tw84 : w8.cell? ⟨q, 4, none⟩ = some (.string y.th.y) := (HM.out.2.2.1.cell (p := ⟨q, 4, none⟩) HR.out.1.blk.lt).trans (HR.out.1.blk.cell 4))
              | (go_at_call 23; first
                  | ((with_reducible refine (sameH_yes HL.out.1 HM.out.1 ((HL.out.2.1.below HM.out.2.2.2 (Nat.le_refl _)).more HM.out.2.2.2.size) HM.out.2.1 HLEN.out).mono ?_); rintro e w9 ⟨rfl, hb9⟩; have H9 := Lib.hid (HM.out.2.2.1.trans (hb9.mono HM.out.2.2.1.size)); clear hb9; have tw92 : w9.cell? ⟨q, 2, none⟩ = some (.int .i64 y.th.k) := (H9.out.cell (p := ⟨q, 2, none⟩) HR.out.1.blk.lt).trans (HR.out.1.blk.cell 2); have tw93 : w9.cell? ⟨q, 3, none⟩ = some (.string y.th.t) := (H9.out.cell (p := ⟨q, 3, none⟩) HR.out.1.blk.lt).trans (HR.out.1.blk.cell 3); have tw94 : w9.cell? ⟨q, 4, none⟩ = some (.string y.th.y) := (H9.out.cell (p := ⟨q, 4, none⟩) HR.out.1.blk.lt).trans (HR.out.1.blk.cell 4))
                  | ((with_reducible refine (sameH_yes HL.out.1 HM.out.1 HL.out.2.1 ((HM.out.2.1.below HL.out.2.2.2 (Nat.le_refl _)).more HL.out.2.2.2.size) HLEN.out).mono ?_); rintro e w9 ⟨rfl, hb9⟩; have H9 := Lib.hid (HL.out.2.2.1.trans (hb9.mono HL.out.2.2.1.size)); clear hb9; have tw92 : w9.cell? ⟨q, 2, none⟩ = some (.int .i64 y.th.k) := (H9.out.cell (p := ⟨q, 2, none⟩) HR.out.1.blk.lt).trans (HR.out.1.blk.cell 2); have tw93 : w9.cell? ⟨q, 3, none⟩ = some (.string y.th.t) := (H9.out.cell (p := ⟨q, 3, none⟩) HR.out.1.blk.lt).trans (HR.out.1.blk.cell 3); have tw94 : w9.cell? ⟨q, 4, none⟩ = some (.string y.th.y) := (H9.out.cell (p := ⟨q, 4, none⟩) HR.out.1.blk.lt).trans (HR.out.1.blk.cell 4))))
          all_goals (
            go_wp2_with fail
            go_roundw
            case rel => exact ⟨k + 1, la2, lb2, by omega, by go_num, HR.out.1.p.below I H9.out, HR.out.2.1, HR.out.2.2.1, HR.out.2.2.2⟩
            case measure => simp [intOf]; omega)
      · have hlt1 : ¬ (k : Int) < (n : Int) := by omega
        have hd1 : decide ((k : Int) < (n : Int)) = false := decide_eq_false hlt1
        go_wp2_with fail
        go_ret
        exact ⟨rfl, HT.out.low⟩
end Go.Proofs.Ythbbheegkhlniaa
