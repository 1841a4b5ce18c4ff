/-
  The document's own Decode (layer 4).
-/
import Derived.Test.YtkdcnkadngbccaaGreatDoorRefR2
import Derived.Test.YtkdcnkadngbccaaGreatDoorRRz
import Derived.Test.YtkdcnkadngbccaaGreatDoorRowA
import Derived.Test.YtkdcnkadngbccaaGreatDoorBackM3
import Derived.Test.YtkdcnkadngbccaaGreatDoorDec5
namespace Go.Proofs.YtkdcnkadngbccaaGreatDoor
open Go.RowKit Go.Lib

set_option maxRecDepth 100000 in
set_option maxHeartbeats 800000 in
theorem copyBytes_any (A : Option Addr) (n c : Nat) (l : List Int) (w : World) (hr : Rd w w.heap.size A n (cells l)) (hn : n ≤ 140000000000000) :
    Calls Tryz.prog 30 #[.slice A n c] w (OwnRet w.heap.size l w) := by
  obtain ⟨i0, hi, hz0, hz1, hz2⟩ := info_parts Tryz.info5
  have HO := Lib.hid (show (w.alloc (.cells #[] 5)).ownsRow w.heap.size 5 1 (.slice (some ⟨w.heap.size, 0, none⟩) 0 0) 0 (cells []) from
    World.ownsRow_lit w #[] 0 (Nat.le_refl _) (by simp [maxLen]) (by simp))
  go_enter Tryz.func30, Tryz.ntmps30
  go_wp2_with (at_builtin; refine wpList_append_rd _ rfl (.tmp 5) (.tmp 6) 25 rfl w.heap.size 5 i0 (.int .u8 0) 1 Tryz.underlying25 hi hz0 hz1 hz2 rfl _ _ _ rfl HO.out w.heap.size A n c _ rfl (hr.alloc (Nat.le_refl _) _) (cells_one _) ?c3 ?c4 ?c5 ?_)
  case c3 => simp [maxLen]; omega
  case c4 => omega
  case c5 => simp
  intro v' w3 hown3 hgrow
  have hb3 := ((Below.refl w.heap.size w).alloc (Nat.le_refl _) (.cells #[] 5)).trans (below_own HO.out hgrow (by simp))
  have hfin : OwnRet w.heap.size l w (.returned v') w3 := ⟨v', rfl, by have h := hr.len; rw [cells_len] at h; rw [h]; simpa [cells] using hown3, hb3⟩
  clear hown3 hgrow hr
  go_wp2
  go_ret
  exact hfin


theorem own3_gr {w w' : World} {base g : Nat} {e : TypeId} {v : Value} {n m : Nat} {xs : List Value} (h : w.ownsRow base e m v n xs) (hg : w.grownBy w' (some g)) (hb : g < base) : w'.ownsRow base e m v n xs := by
  refine ⟨h.1, ?_⟩
  rcases h.2 with hn | ⟨b, cap, cur, rfl, hbg, hh, rest⟩
  · exact .inl hn
  · refine .inr ⟨b, cap, cur, rfl, hbg, ?_, rest⟩
    have hlt : b < w.heap.size := (Array.getElem?_eq_some_iff.1 hh).1
    exact (hg.block b hlt (by simp; omega)).trans hh
theorem below_gr {w w1 w2 : World} {B g : Nat} (h : Below B w w1) (hg : w1.grownBy w2 (some g)) (hb : B ≤ g) (hl : g < w1.heap.size) : Below B w w2 :=
  h.trans ⟨hg.os, hg.tape, hg.output, hg.size, fun k hk => hg.block k (by omega) (by simp; omega)⟩

theorem lit_step (wz : World) (x : Va) : ∃ w8, w8 = wz.alloc (.cells #[.int .i64 x.k, .int .i64 x.n, .string x.s] 40) ∧ RowIn w8 w8.heap.size (some ⟨wz.heap.size, 0, none⟩) [x] ∧ Below wz.heap.size wz w8 := by
  refine ⟨_, rfl, ?_, (Below.refl _ _).alloc (Nat.le_refl _) _⟩
  have h := RowIn.of_own (row_lit wz [x] (by simp [maxLen]))
  simpa [cellsR, vcell] using h

def RlRel (n g b0 : Nat) (s : St) (w : World) (v i : Value) (wr : World) : Prop :=
  ∃ k : Nat, k ≤ n ∧ i = .int .i64 k ∧ RR wr g (dVs3 k s).2 ∧ wr.ownsRow b0 40 3 v (dVs3 k s).1.length (cellsR (dVs3 k s).1) ∧ Below w.heap.size w wr ∧ b0 ≤ wr.heap.size

set_option maxRecDepth 100000 in
set_option maxHeartbeats 12800000 in
theorem refDecode_any (A : Option Addr) (c : Nat) (l : List Int) (w : World) (h : Rd w w.heap.size A l.length (cells l)) (hb : IsBytes l) (hn : l.length ≤ 8000000000) :
    Calls Tryz.prog 10 #[.slice A l.length c] w (DcRet l w) := by
  go_enter Tryz.func10, Tryz.ntmps10
  go_wp2_with fail
  refine (copyBytes_any A l.length c l w h (by omega)).mono ?_
  rintro e w1 ⟨v1, rfl, hown1, hb1⟩
  obtain ⟨A1, c1, rfl, hc1, hm1⟩ := own_shape hown1
  obtain ⟨w2, hw2⟩ : ∃ w2, w2 = w1.alloc (.cells #[.slice A1 l.length c1, .bool false] 55) := ⟨_, rfl⟩
  obtain ⟨g, hgg⟩ : ∃ g, g = w1.heap.size := ⟨_, rfl⟩
  have hb2 : Below w1.heap.size w1 w2 := by rw [hw2]; exact (Below.refl _ _).alloc (Nat.le_refl _) _
  have hrr : RR w2 g (some l) := by
    refine ⟨A1, l.length, c1, l, ?_, hc1, hm1, by omega, ?_, hb, fun l' e => by injection e⟩
    · rw [hgg, hw2]; exact Blk.new _ _ _
    · rw [hgg]; exact (Rd.of_own hown1).below hb2 (Nat.le_refl _)
  have hg1 : w.heap.size ≤ g := by rw [hgg]; exact hb1.size
  have H2 := Lib.hid (And.intro hw2 (And.intro hrr (And.intro (hb1.trans (hb2.mono hb1.size)) hgg)))
  clear h hb hown1 hb1 hb2 hrr hw2 hgg
  go_wp2_with fail
  rw [← H2.out.1, ← H2.out.2.2.2]
  refine (refcount_any g (some l) 8 w2 H2.out.2.1).mono ?_
  rintro e w3 ⟨rfl, hr3, hg3⟩
  have hbd := rCount_bd (some l)
  obtain ⟨n, hnn⟩ : ∃ n : Nat, (rCount (some l) 8).1 = (n : Int) := ⟨(rCount (some l) 8).1.toNat, by omega⟩
  rw [hnn] at hbd ⊢
  obtain ⟨s1, hs1⟩ : ∃ s1, s1 = (rCount (some l) 8).2 := ⟨_, rfl⟩
  rw [← hs1] at hr3
  have hdr : dR3 (some l) = dVs3 n s1 := by unfold dR3; rw [hnn, hs1]; rfl
  have hn8 : n ≤ 8 := by omega
  have hg2lt := H2.out.2.1.lt
  have hg3lt := hr3.lt
  have hb3 : Below w.heap.size w w3 := below_gr H2.out.2.2.1 hg3 hg1 hg2lt
  have hlit := row_lit w3 [] (by simp [maxLen])
  have H3 := Lib.hid (And.intro hr3 (And.intro hb3 (And.intro hdr (show (w3.alloc (.cells #[] 40)).ownsRow w3.heap.size 40 3 (.slice (some ⟨w3.heap.size, 0, none⟩) 0 0) ([] : List Va).length (cellsR []) from hlit))))
  have hws3 := hb3.size
  clear hr3 hg3 hbd hs1 hnn hdr hb3 hlit
  go_wp2_with fail
  go_loopw [6, 7] (fun v i wr => RlRel n g w3.heap.size s1 w v i wr) (fun _ i _ => n - (intOf i).toNat)
  case atStart => exact ⟨0, by omega, rfl, H3.out.1.below ((Below.refl _ w3).alloc (Nat.le_refl _) _) hg3lt, H3.out.2.2.2, H3.out.2.1.alloc H3.out.2.1.size _, by simp⟩
  case round =>
    obtain ⟨k, hk, rfl, hr, hown, hbw, h3r⟩ := hrel
    obtain ⟨A4, c4, rfl, _, _⟩ := own3_shape hown
    have hk0 : (0 : Int) ≤ (k : Int) := Int.natCast_nonneg _
    have hrl := dVs3_len k s1
    have HRL := Lib.hid hrl
    have HR := Lib.hid (And.intro hr (And.intro hown (And.intro hbw h3r)))
    have hgl := hr.lt
    clear hr hown hbw hrl
    by_cases hlt : k < n
    · have hlt1 : (k : Int) < (n : Int) := by omega
      obtain ⟨sk, hsk⟩ : ∃ sk, sk = (dVs3 k s1).2 := ⟨_, rfl⟩
      obtain ⟨ds, hds⟩ : ∃ ds, ds = (dVs3 k s1).1 := ⟨_, rfl⟩
      have hsn := dVs3_snoc k s1
      rw [← hsk, ← hds] at hsn
      have HSN := Lib.hid hsn
      rw [← hsk, ← hds] at HR
      rw [← hds] at HRL ⊢
      clear hsk hds hsn
      go_wp2_with fail
      refine (refcount_any g sk 3 wr HR.out.1).mono ?_
      rintro e w5 ⟨rfl, hr5, hg5⟩
      have hkb := rCount3_bd sk
      obtain ⟨q, hq⟩ : ∃ q, q = (rCount sk 3).1 := ⟨_, rfl⟩
      obtain ⟨s2, hs2⟩ : ∃ s2, s2 = (rCount sk 3).2 := ⟨_, rfl⟩
      have hdv : dV3 sk = if q = 1 ∨ q = 2 then (⟨q, (rInt s2).1, ⟨#[]⟩⟩, (rInt s2).2) else if q = 3 then (⟨q, 0, mkStr (rText s2).1⟩, (rText s2).2) else (⟨q, 0, ⟨#[]⟩⟩, s2) := by rw [hq, hs2]; rfl
      rw [← hq] at hkb ⊢
      rw [← hs2] at hr5
      have HDV := Lib.hid hdv
      obtain ⟨w6, hw6⟩ : ∃ w6, w6 = w5.alloc (.cells #[.int .i64 q, .int .i64 0, .string ⟨#[]⟩] 40) := ⟨_, rfl⟩
      have hb6 : Below w5.heap.size w5 w6 := by rw [hw6]; exact (Below.refl _ _).alloc (Nat.le_refl _) _
      have B6 : Blk w6 w5.heap.size 40 #[.int .i64 q, .int .i64 0, .string ⟨#[]⟩] := by rw [hw6]; exact Blk.new _ _ _
      have hs5 := hg5.size
      have H6 := Lib.hid (And.intro hw6 (And.intro (hr5.below hb6 hr5.lt) (And.intro (gr_below hg5 (hb6.mono hs5)) B6)))
      have hg5lt := hr5.lt
      clear hq hs2 hdv hr5 hg5 hw6 hb6 B6
      have step : ∀ (x : Va) (s' : St) (wz : World), dV3 sk = (x, s') → RR wz g s' → wr.grownBy wz (some g) → ∀ (v' : Value) (w9 : World),
          w9.ownsRow w3.heap.size 40 3 v' (ds ++ [x]).length (cellsR (ds ++ [x])) → Below w3.heap.size wz w9 → RlRel n g w3.heap.size s1 w v' (.int .i64 ((k : Int) + 1)) w9 := by
        intro x s' wz he hrz hgz v' w9 hown9 hb9
        refine ⟨k + 1, by omega, by go_num, ?_, ?_, (below_gr HR.out.2.2.1 hgz hg1 hgl).trans (hb9.mono hws3), by have h1 := hgz.size; have h2 := hb9.size; omega⟩
        · rw [HSN.out, he]; exact hrz.below hb9 hg3lt
        · rw [HSN.out, he]; exact hown9
      have HST := Lib.hid step
      clear step
      obtain ⟨e0, e1, e2, e3, e4, e5⟩ := H6.out.2.2.2.c3
      rcases (by omega : q = 0 ∨ q = 1 ∨ q = 2 ∨ q = 3) with rfl | rfl | rfl | rfl
      · rw [H6.out.1] at e0 e1 e2 e3 e4 e5
        have h6sz : w6.heap.size = w5.heap.size + 1 := by rw [H6.out.1]; simp
        obtain ⟨w8, hw8, hrow8, hb8⟩ := lit_step (w6) ⟨0, 0, ⟨#[]⟩⟩
        have hsz : (w6).heap.size = w6.heap.size := by first | rfl | simp [World.setCell]
        have hgz : wr.grownBy (w6) (some g) := H6.out.2.2.1
        have hrz : RR (w6) g (s2) := H6.out.2.1
        have hszz := hgz.size
        have hO8 := own3_gr HR.out.2.1 (gr_below hgz (hb8.mono hszz)) hg3lt
        have hs8 := hb8.size
        have H8 := Lib.hid (And.intro (show w8 = (w6).alloc (.cells #[.int .i64 0, .int .i64 0, .string ⟨#[]⟩] 40) from hw8) (And.intro (show RowIn w8 w8.heap.size (some ⟨w5.heap.size + 1, 0, none⟩) [⟨0, 0, ⟨#[]⟩⟩] by rw [← h6sz]; exact hrow8) (And.intro hO8 (And.intro hgz (And.intro hrz (And.intro hb8 (show dV3 sk = (⟨0, 0, ⟨#[]⟩⟩, s2) by rw [HDV.out]; rw [if_neg (by decide), if_neg (by decide)])))))))
        have hs38 : w3.heap.size ≤ w8.heap.size := by omega
        clear hw8 hrow8 hsz hgz hrz hO8 hb8
        go_wp2_with (at_builtin; rw [← H6.out.1, ← H8.out.1]; refine wpList_append_row rfl (.tmp 41) (.tmp 43) rfl w3.heap.size _ ds rfl H8.out.2.2.1 w8.heap.size _ 1 [⟨0, 0, ⟨#[]⟩⟩] rfl H8.out.2.1 ?c3 ?c4 ?c5 ?_)
        case c3 => have := HRL.out; unfold maxLen; simp; omega
        case c4 => have := HRL.out; simp; omega
        case c5 => exact hs38
        intro v' w9 hown9 hgrow
        have HN := Lib.hid (HST.out _ _ _ H8.out.2.2.2.2.2.2 H8.out.2.2.2.2.1 H8.out.2.2.2.1 v' w9 (by rw [List.length_append]; exact hown9) ((H8.out.2.2.2.2.2.1.mono (by omega)).trans (below_own3 H8.out.2.2.1 hgrow hs38)))
        clear hown9 hgrow
        go_wp2
        go_roundw
        case rel => exact HN.out
        case measure => simp [intOf]; omega
      · go_wp2_with fail
        rw [← H6.out.1]
        refine (refint_any g s2 w6 H6.out.2.1).mono ?_
        rintro e w7 ⟨rfl, hr7, hg7⟩
        have B7 := H6.out.2.2.2.grown hg7 (by omega)
        clear e0 e1 e2 e3 e4 e5
        obtain ⟨e0, e1, e2, e3, e4, e5⟩ := B7.c3
        obtain ⟨m, hm⟩ : ∃ m, m = (rInt s2).1 := ⟨_, rfl⟩
        obtain ⟨s4, hs4⟩ : ∃ s4, s4 = (rInt s2).2 := ⟨_, rfl⟩
        rw [← hm, ← hs4] at HDV
        rw [← hs4] at hr7
        rw [← hm]
        have hb79 : Below w5.heap.size w7 (w7.setCell ⟨w5.heap.size, 1, none⟩ (.int .i64 m)) := (Below.refl _ w7).setCell (p := ⟨w5.heap.size, 1, none⟩) (Nat.le_refl _) _
        clear hm hs4
        obtain ⟨w8, hw8, hrow8, hb8⟩ := lit_step (w7.setCell ⟨w5.heap.size, 1, none⟩ (.int .i64 m)) ⟨1, m, ⟨#[]⟩⟩
        have hsz : (w7.setCell ⟨w5.heap.size, 1, none⟩ (.int .i64 m)).heap.size = w7.heap.size := by first | rfl | simp [World.setCell]
        have hgz : wr.grownBy (w7.setCell ⟨w5.heap.size, 1, none⟩ (.int .i64 m)) (some g) := gr_below (gr_trans H6.out.2.2.1 hg7) (hb79.mono hs5)
        have hrz : RR (w7.setCell ⟨w5.heap.size, 1, none⟩ (.int .i64 m)) g (s4) := hr7.below hb79 hg5lt
        have hszz := hgz.size
        have hO8 := own3_gr HR.out.2.1 (gr_below hgz (hb8.mono hszz)) hg3lt
        have hs8 := hb8.size
        have H8 := Lib.hid (And.intro (show w8 = (w7.setCell ⟨w5.heap.size, 1, none⟩ (.int .i64 m)).alloc (.cells #[.int .i64 1, .int .i64 m, .string ⟨#[]⟩] 40) from hw8) (And.intro (show RowIn w8 w8.heap.size (some ⟨w7.heap.size, 0, none⟩) [⟨1, m, ⟨#[]⟩⟩] by rw [← hsz]; exact hrow8) (And.intro hO8 (And.intro hgz (And.intro hrz (And.intro hb8 (show dV3 sk = (⟨1, m, ⟨#[]⟩⟩, s4) by rw [HDV.out]; rw [if_pos (by decide)])))))))
        have hs38 : w3.heap.size ≤ w8.heap.size := by omega
        clear hb79 hr7 hg7 B7 hw8 hrow8 hsz hgz hrz hO8 hb8
        go_wp2_with (at_builtin; rw [← H8.out.1]; refine wpList_append_row rfl (.tmp 41) (.tmp 43) rfl w3.heap.size _ ds rfl H8.out.2.2.1 w8.heap.size _ 1 [⟨1, m, ⟨#[]⟩⟩] rfl H8.out.2.1 ?c3 ?c4 ?c5 ?_)
        case c3 => have := HRL.out; unfold maxLen; simp; omega
        case c4 => have := HRL.out; simp; omega
        case c5 => exact hs38
        intro v' w9 hown9 hgrow
        have HN := Lib.hid (HST.out _ _ _ H8.out.2.2.2.2.2.2 H8.out.2.2.2.2.1 H8.out.2.2.2.1 v' w9 (by rw [List.length_append]; exact hown9) ((H8.out.2.2.2.2.2.1.mono (by omega)).trans (below_own3 H8.out.2.2.1 hgrow hs38)))
        clear hown9 hgrow
        go_wp2
        go_roundw
        case rel => exact HN.out
        case measure => simp [intOf]; omega
      · go_wp2_with fail
        rw [← H6.out.1]
        refine (refint_any g s2 w6 H6.out.2.1).mono ?_
        rintro e w7 ⟨rfl, hr7, hg7⟩
        have B7 := H6.out.2.2.2.grown hg7 (by omega)
        clear e0 e1 e2 e3 e4 e5
        obtain ⟨e0, e1, e2, e3, e4, e5⟩ := B7.c3
        obtain ⟨m, hm⟩ : ∃ m, m = (rInt s2).1 := ⟨_, rfl⟩
        obtain ⟨s4, hs4⟩ : ∃ s4, s4 = (rInt s2).2 := ⟨_, rfl⟩
        rw [← hm, ← hs4] at HDV
        rw [← hs4] at hr7
        rw [← hm]
        have hb79 : Below w5.heap.size w7 (w7.setCell ⟨w5.heap.size, 1, none⟩ (.int .i64 m)) := (Below.refl _ w7).setCell (p := ⟨w5.heap.size, 1, none⟩) (Nat.le_refl _) _
        clear hm hs4
        obtain ⟨w8, hw8, hrow8, hb8⟩ := lit_step (w7.setCell ⟨w5.heap.size, 1, none⟩ (.int .i64 m)) ⟨2, m, ⟨#[]⟩⟩
        have hsz : (w7.setCell ⟨w5.heap.size, 1, none⟩ (.int .i64 m)).heap.size = w7.heap.size := by first | rfl | simp [World.setCell]
        have hgz : wr.grownBy (w7.setCell ⟨w5.heap.size, 1, none⟩ (.int .i64 m)) (some g) := gr_below (gr_trans H6.out.2.2.1 hg7) (hb79.mono hs5)
        have hrz : RR (w7.setCell ⟨w5.heap.size, 1, none⟩ (.int .i64 m)) g (s4) := hr7.below hb79 hg5lt
        have hszz := hgz.size
        have hO8 := own3_gr HR.out.2.1 (gr_below hgz (hb8.mono hszz)) hg3lt
        have hs8 := hb8.size
        have H8 := Lib.hid (And.intro (show w8 = (w7.setCell ⟨w5.heap.size, 1, none⟩ (.int .i64 m)).alloc (.cells #[.int .i64 2, .int .i64 m, .string ⟨#[]⟩] 40) from hw8) (And.intro (show RowIn w8 w8.heap.size (some ⟨w7.heap.size, 0, none⟩) [⟨2, m, ⟨#[]⟩⟩] by rw [← hsz]; exact hrow8) (And.intro hO8 (And.intro hgz (And.intro hrz (And.intro hb8 (show dV3 sk = (⟨2, m, ⟨#[]⟩⟩, s4) by rw [HDV.out]; rw [if_pos (by decide)])))))))
        have hs38 : w3.heap.size ≤ w8.heap.size := by omega
        clear hb79 hr7 hg7 B7 hw8 hrow8 hsz hgz hrz hO8 hb8
        go_wp2_with (at_builtin; rw [← H8.out.1]; refine wpList_append_row rfl (.tmp 41) (.tmp 43) rfl w3.heap.size _ ds rfl H8.out.2.2.1 w8.heap.size _ 1 [⟨2, m, ⟨#[]⟩⟩] rfl H8.out.2.1 ?c3 ?c4 ?c5 ?_)
        case c3 => have := HRL.out; unfold maxLen; simp; omega
        case c4 => have := HRL.out; simp; omega
        case c5 => exact hs38
        intro v' w9 hown9 hgrow
        have HN := Lib.hid (HST.out _ _ _ H8.out.2.2.2.2.2.2 H8.out.2.2.2.2.1 H8.out.2.2.2.1 v' w9 (by rw [List.length_append]; exact hown9) ((H8.out.2.2.2.2.2.1.mono (by omega)).trans (below_own3 H8.out.2.2.1 hgrow hs38)))
        clear hown9 hgrow
        go_wp2
        go_roundw
        case rel => exact HN.out
        case measure => simp [intOf]; omega
      · go_wp2_with fail
        rw [← H6.out.1]
        refine (reftext_any g s2 w6 H6.out.2.1).mono ?_
        rintro e w7 ⟨rfl, hr7, hg7⟩
        have B7 := H6.out.2.2.2.grown hg7 (by omega)
        clear e0 e1 e2 e3 e4 e5
        obtain ⟨e0, e1, e2, e3, e4, e5⟩ := B7.c3
        obtain ⟨m, hm⟩ : ∃ m, m = mkStr (rText s2).1 := ⟨_, rfl⟩
        obtain ⟨s4, hs4⟩ : ∃ s4, s4 = (rText s2).2 := ⟨_, rfl⟩
        rw [← hm, ← hs4] at HDV
        rw [← hs4] at hr7
        rw [← hm]
        have hb79 : Below w5.heap.size w7 (w7.setCell ⟨w5.heap.size, 2, none⟩ (.string m)) := (Below.refl _ w7).setCell (p := ⟨w5.heap.size, 2, none⟩) (Nat.le_refl _) _
        clear hm hs4
        obtain ⟨w8, hw8, hrow8, hb8⟩ := lit_step (w7.setCell ⟨w5.heap.size, 2, none⟩ (.string m)) ⟨3, 0, m⟩
        have hsz : (w7.setCell ⟨w5.heap.size, 2, none⟩ (.string m)).heap.size = w7.heap.size := by first | rfl | simp [World.setCell]
        have hgz : wr.grownBy (w7.setCell ⟨w5.heap.size, 2, none⟩ (.string m)) (some g) := gr_below (gr_trans H6.out.2.2.1 hg7) (hb79.mono hs5)
        have hrz : RR (w7.setCell ⟨w5.heap.size, 2, none⟩ (.string m)) g (s4) := hr7.below hb79 hg5lt
        have hszz := hgz.size
        have hO8 := own3_gr HR.out.2.1 (gr_below hgz (hb8.mono hszz)) hg3lt
        have hs8 := hb8.size
        have H8 := Lib.hid (And.intro (show w8 = (w7.setCell ⟨w5.heap.size, 2, none⟩ (.string m)).alloc (.cells #[.int .i64 3, .int .i64 0, .string m] 40) from hw8) (And.intro (show RowIn w8 w8.heap.size (some ⟨w7.heap.size, 0, none⟩) [⟨3, 0, m⟩] by rw [← hsz]; exact hrow8) (And.intro hO8 (And.intro hgz (And.intro hrz (And.intro hb8 (show dV3 sk = (⟨3, 0, m⟩, s4) by rw [HDV.out]; rw [if_neg (by decide), if_pos trivial])))))))
        have hs38 : w3.heap.size ≤ w8.heap.size := by omega
        clear hb79 hr7 hg7 B7 hw8 hrow8 hsz hgz hrz hO8 hb8
        go_wp2_with (at_builtin; rw [← H8.out.1]; refine wpList_append_row rfl (.tmp 41) (.tmp 43) rfl w3.heap.size _ ds rfl H8.out.2.2.1 w8.heap.size _ 1 [⟨3, 0, m⟩] rfl H8.out.2.1 ?c3 ?c4 ?c5 ?_)
        case c3 => have := HRL.out; unfold maxLen; simp; omega
        case c4 => have := HRL.out; simp; omega
        case c5 => exact hs38
        intro v' w9 hown9 hgrow
        have HN := Lib.hid (HST.out _ _ _ H8.out.2.2.2.2.2.2 H8.out.2.2.2.2.1 H8.out.2.2.2.1 v' w9 (by rw [List.length_append]; exact hown9) ((H8.out.2.2.2.2.2.1.mono (by omega)).trans (below_own3 H8.out.2.2.1 hgrow hs38)))
        clear hown9 hgrow
        go_wp2
        go_roundw
        case rel => exact HN.out
        case measure => simp [intOf]; omega
    · have hlt1 : ¬ (k : Int) < (n : Int) := by omega
      obtain rfl : k = n := by omega
      have hst : (dVs3 k s1) = dR3 (some l) := H3.out.2.2.1.symm
      rw [hst] at HR
      have hl : (dR3 (some l)).1.length = k := by rw [← hst]; exact dVs3_len k s1
      obtain ⟨vs, hvs⟩ : ∃ vs, vs = (dR3 (some l)).1 := ⟨_, rfl⟩
      obtain ⟨sd, hsd⟩ : ∃ sd, sd = (dR3 (some l)).2 := ⟨_, rfl⟩
      have hd3 := dec3 l
      unfold decOk3 at hd3
      rw [← hvs, ← hsd] at hd3
      rw [← hvs, ← hsd] at HR
      rw [hst, ← hvs]
      have HD := Lib.hid hd3
      have hvl : vs.length ≤ 8 := by rw [hvs, hl]; exact hn8
      obtain ⟨A5, n5, c5, l5, hblk, p0, p1, p2, p3, _, _, _, _, _, _, hl5, hn5⟩ := HR.out.1.open_
      have HL5 := Lib.hid hl5
      clear hst hl hvs hsd hd3 hl5 hblk
      cases sd with
      | none =>
        have HF := Lib.hid (show DcRet l w (.returned (.tuple #[.slice none 0 0, .bool false])) wr from ⟨HR.out.2.2.1, .inr ⟨by rw [← HD.out.1]; rfl, rfl⟩⟩)
        simp only [Option.isNone_none] at p1
        go_wp2
        refine bodyPost_ret (results_tmp2 rfl _ _ _) rfl ?_
        exact HF.out
      | some lr =>
        simp only [Option.isNone_some] at p1
        have hlr : l5 = lr := HL5.out lr rfl
        by_cases hz : n5 = 0
        · subst hz
          have hlr0 : lr = [] := by rw [← hlr]; exact List.eq_nil_of_length_eq_zero hn5
          have HLR := Lib.hid hlr0
          go_wp2_with fail
          refine (refRightRow_any A4 c4 vs wr (RowIn.of_own HR.out.2.1) (by unfold maxLen; omega)).mono ?_
          rintro e w6 ⟨rfl, hb6⟩
          have HB6 := Lib.hid (And.intro (HR.out.2.2.1.trans (hb6.mono HR.out.2.2.1.size)) (((RowIn.of_own HR.out.2.1).below hb6 (Nat.le_refl _)).more hb6.size))
          clear hb6
          cases hrr : rightR vs with
          | false =>
            have HF := Lib.hid (show DcRet l w (.returned (.tuple #[.slice none 0 0, .bool false])) w6 from ⟨HB6.out.1, .inr ⟨by rw [← HD.out.1, hrr, Bool.and_false], rfl⟩⟩)
            clear hrr
            go_wp2
            refine bodyPost_ret (results_tmp2 rfl _ _ _) rfl ?_
            exact HF.out
          | true =>
            have hok : decOk l = true := by rw [← HD.out.1, hrr, HLR.out]; rfl
            have hvs2 := HD.out.2 hok
            have HF := Lib.hid (show DcRet l w (.returned (.tuple #[.slice A4 vs.length c4, .bool true])) w6 from ⟨HB6.out.1, .inl ⟨hok, A4, c4, by rw [← hvs2], by rw [← hvs2]; exact HB6.out.2, by rw [← hvs2]; exact hvl⟩⟩)
            clear hrr hok hvs2
            go_wp2
            refine bodyPost_ret (results_tmp2 rfl _ _ _) rfl ?_
            exact HF.out
        · have hzi : (0 : Int) < (n5 : Int) := by omega
          have HF := Lib.hid (show DcRet l w (.returned (.tuple #[.slice none 0 0, .bool false])) wr from ⟨HR.out.2.2.1, .inr ⟨by
            rw [← HD.out.1]
            have : (decide ((some lr : St) = some [])) = false := decide_eq_false (by
              intro e
              injection e with e
              rw [hlr, e] at hn5
              exact hz hn5.symm)
            rw [this]; rfl, rfl⟩⟩)
          go_wp2
          refine bodyPost_ret (results_tmp2 rfl _ _ _) rfl ?_
          exact HF.out
end Go.Proofs.YtkdcnkadngbccaaGreatDoor
