/-
  The heap of a statement; alive.
-/
import Derived.Test.YtdnegfjddpdmhaaDoorHpO
namespace Go.Proofs.YtdnegfjddpdmhaaDoor
open Go.RowKit Go.Lib

/-- a heap that the statement has made since w0 -/
structure HS (w0 : World) (D : Nat → Prop) (w : World) (hb : Nat) (ps : Pgs) : Prop where
  hp : HpV w0.heap.size D w hb ps
  ok : HOk ps
  low : Below w0.heap.size w0 w
section
variable {w0 w w' : World} {D : Nat → Prop} {hb : Nat} {ps ps' : Pgs}
theorem HS.below (h : HS w0 D w hb ps) (hb' : Below w.heap.size w w') : HS w0 D w' hb ps := ⟨h.hp.below hb', h.ok, h.low.trans (hb'.mono h.low.size)⟩
theorem HS.to (h : HS w0 D w hb ps) (ho : HOk ps') (ht : HpTo w0.heap.size hb D w ps' w') : HS w0 (Ext D w w') w' hb ps' :=
  ⟨ht.1, ho, h.low.trans (ht.2.below (fun _ hk => (h.hp.foot hk).1) h.low.size)⟩
theorem HS.lo (h : HS w0 D w hb ps) {k : Nat} (hk : D k) : w0.heap.size ≤ k := (h.hp.foot hk).1
theorem HS.arg (h : HS w0 D w hb ps) {A : Option Addr} {n : Nat} {xs : List Value} (hr : Rd w0 w0.heap.size A n xs) : RdX D w A n xs :=
  RdX.of_low (B := w0.heap.size) (hr.below h.low (Nat.le_refl _)) h.low.size (fun _ hk => (h.hp.foot hk).1)
/-- a row that has been made since lies outside -/
theorem HS.made (h : HS w0 D w hb ps) {A : Option Addr} {n : Nat} {c : Nat} {xs : List Value} {e : TypeId} (hr : w'.ownsRow w.heap.size e 1 (.slice A n c) n xs) : RdX D w' A n xs :=
  ⟨Rd.of_own hr, fun ad h0 e hd => by
    obtain ⟨g, cap, hv, hg, _⟩ := hr.form h0
    injection hv with e1 _ _
    rw [e] at e1
    cases e1
    have := (h.hp.foot hd).2
    have h2 : g < w.heap.size := this
    omega⟩
theorem HS.lit (h : HS w0 D w hb ps) (xs : List Int) (fr : Nat × Nat) (h0 : 0 < xs.length) : RdX D (w.alloc (.cells (cells xs).toArray 5 fr)) (some ⟨w.heap.size, 0, none⟩) xs.length (cells xs) :=
  ⟨rd_lit w xs fr h0, fun ad _ e hd => by cases e; have := (h.hp.foot hd).2; exact absurd this (by simp)⟩
end

theorem hs_new (w0 w : World) (hl : Below w0.heap.size w0 w) : Calls Tryd.prog 11 #[] w fun e w' => ∃ (hb : Nat) (D : Nat → Prop), e = .returned (.pointer (some ⟨hb, 0, none⟩)) ∧ HS w0 D w' hb [] ∧ (∀ k, D k → w.heap.size ≤ k) ∧ Below w.heap.size w w' := by
  refine (hnew_any w w0.heap.size hl.size).mono ?_
  rintro e w' ⟨hb, D, rfl, h1, h2, h3⟩
  exact ⟨hb, D, rfl, ⟨h1, HOk.nil, hl.trans (h2.mono hl.size)⟩, h3, h2⟩
section
variable {w0 w : World} {D : Nat → Prop} {hb : Nat} {ps : Pgs} (h : HS w0 D w hb ps)
include h
theorem hs_add (A2 : Option Addr) (n2 c2 : Nat) (b : List Int) (hr : RdX D w A2 n2 (cells b)) (hb2 : IsBytes b) :
    Calls Tryd.prog 23 #[.pointer (some ⟨hb, 0, none⟩), .slice A2 n2 c2] w fun e w' => e = .returned (.tuple #[.agg #[.int .i64 (addPg ps b), .int .i64 (addSl ps b)], .int .i64 (addE ps b)]) ∧ HS w0 (Ext D w w') w' hb (addN ps b) ∧ Chg D w w' := by
  refine (hadd_any w _ hb D ps h.hp h.ok.few h.low.size A2 n2 c2 b hr hb2).mono ?_
  rintro e w' ⟨rfl, ht⟩
  exact ⟨rfl, h.to (addN_ok h.ok hb2) ht, ht.2⟩
theorem hs_put (p k : Int) (A2 : Option Addr) (n2 c2 : Nat) (b : List Int) (hr : RdX D w A2 n2 (cells b)) (hb2 : IsBytes b) :
    Calls Tryd.prog 28 #[.pointer (some ⟨hb, 0, none⟩), .agg #[.int .i64 p, .int .i64 k], .slice A2 n2 c2] w fun e w' => e = .returned (.int .i64 (putE ps p k b)) ∧ HS w0 (Ext D w w') w' hb (putN ps p k b) ∧ Chg D w w' := by
  refine (hput_any w _ hb D ps h.hp h.ok h.low.size p k A2 n2 c2 b hr hb2).mono ?_
  rintro e w' ⟨rfl, ht⟩
  exact ⟨rfl, h.to (putN_ok h.ok hb2) ht, ht.2⟩
theorem hs_res (p k : Int) (A2 : Option Addr) (n2 c2 : Nat) (b : List Int) (hr : RdX D w A2 n2 (cells b)) (hb2 : IsBytes b) :
    Calls Tryd.prog 29 #[.pointer (some ⟨hb, 0, none⟩), .agg #[.int .i64 p, .int .i64 k], .slice A2 n2 c2] w fun e w' => e = .returned (.int .i64 (resE ps p k b)) ∧ HS w0 (Ext D w w') w' hb (resN ps p k b) ∧ Chg D w w' := by
  refine (hres_any w _ hb D ps h.hp h.ok h.low.size p k A2 n2 c2 b hr hb2).mono ?_
  rintro e w' ⟨rfl, ht⟩
  exact ⟨rfl, h.to (resN_ok h.ok hb2) ht, ht.2⟩
theorem hs_cut (p k : Int) :
    Calls Tryd.prog 25 #[.pointer (some ⟨hb, 0, none⟩), .agg #[.int .i64 p, .int .i64 k]] w fun e w' => e = .returned (.int .i64 (cutE ps p k)) ∧ HS w0 (Ext D w w') w' hb (cutN ps p k) ∧ Chg D w w' := by
  refine (hcut_any w _ hb D ps h.hp h.ok h.low.size p k).mono ?_
  rintro e w' ⟨rfl, ht⟩
  exact ⟨rfl, h.to (cutN_ok h.ok) ht, ht.2⟩
/-- bytes that are answered: new memory -/
theorem hs_get (p k : Int) :
    Calls Tryd.prog 26 #[.pointer (some ⟨hb, 0, none⟩), .agg #[.int .i64 p, .int .i64 k]] w fun e w' => ∃ A c n, e = .returned (.tuple #[.slice A n c, .bool (getH ps p k).isSome]) ∧ n = ((getH ps p k).getD []).length ∧ w'.ownsRow w.heap.size 5 1 (.slice A n c) n (cells ((getH ps p k).getD [])) ∧ n ≤ c ∧ c ≤ maxLen ∧ Below w.heap.size w w' := by
  refine (hget_any h.hp p k).mono ?_
  rintro e w' ⟨v, rfl, ho, hb'⟩
  obtain ⟨A, c, rfl, h1, h2⟩ := own_shape ho
  exact ⟨A, c, _, rfl, rfl, ho, h1, h2, hb'⟩
theorem hs_pages : Calls Tryd.prog 14 #[.pointer (some ⟨hb, 0, none⟩)] w fun e w' => ∃ A c xs, e = .returned (.slice A xs.length c) ∧ RIn0 w' A xs.length xs ∧ rlists xs = ps.map imgP ∧ (∀ x ∈ xs, x.n ≤ 256) ∧ xs.length = ps.length ∧ Below w.heap.size w w' ∧
      (∀ k, (Value.slice A xs.length c).ownBlock = some k → w.heap.size ≤ k ∧ k < w'.heap.size) ∧ ∀ x ∈ xs, ∀ k, (Value.slice x.A x.n x.c).ownBlock = some k → w.heap.size ≤ k ∧ k < w'.heap.size := by
  refine (pages_any h.hp (by have := h.ok.few; omega)).mono ?_
  rintro e w' ⟨v, ys, rfl, h1, h2, h3, h4⟩
  obtain ⟨A, c, rfl, _, _⟩ := own_shape h1
  have hl : (ys.map ofPv).length = ys.length := by simp
  refine ⟨A, c, ys.map ofPv, by rw [hl], ?_, by rw [rlists_pv, h2], fun x hx => ?_, by rw [hl, ← pslots_len, h2], h4, ?_, fun x hx k hk => ?_⟩
  · rw [hl]; exact RIn0.of_pages h1 h3
  · obtain ⟨y, _, rfl⟩ := List.mem_map.1 hx
    exact Nat.le_refl _
  · rw [hl]; exact h1.lt
  · obtain ⟨y, hy, rfl⟩ := List.mem_map.1 hx
    exact (h3 y hy).dom k hk
theorem hs_after (p k most : Int) : Calls Tryd.prog 30 #[.pointer (some ⟨hb, 0, none⟩), .agg #[.int .i64 p, .int .i64 k], .int .i64 most] w fun e w' => ∃ A c n, e = .returned (.slice A n c) ∧ n = (aftH ps p k most).length ∧ w'.ownsRow w.heap.size 32 2 (.slice A n c) n (ridC (aftH ps p k most)) ∧ Below w.heap.size w w' := by
  refine (after_any h.hp h.ok.few p k most).mono ?_
  rintro e w' ⟨v, rfl, h1, h2⟩
  obtain ⟨A, c, rfl, _, _⟩ := own_shape2 h1
  exact ⟨A, c, _, rfl, rfl, h1, h2⟩
theorem hs_all : Calls Tryd.prog 17 #[.pointer (some ⟨hb, 0, none⟩)] w fun e w' => ∃ A c n, e = .returned (.slice A n c) ∧ n = (allH ps).length ∧ w'.ownsRow w.heap.size 32 2 (.slice A n c) n (ridC (allH ps)) ∧ Below w.heap.size w w' := by
  refine (all_any h.hp h.ok.few).mono ?_
  rintro e w' ⟨v, rfl, h1, h2⟩
  obtain ⟨A, c, rfl, _, _⟩ := own_shape2 h1
  exact ⟨A, c, _, rfl, rfl, h1, h2⟩
end

def alP : Pgs := [[some [97]]]
def alQ : Pgs := [[], [none, none, some [98]]]
theorem al_add : addE [] [97] = 0 ∧ addPg [] [97] = 0 ∧ addSl [] [97] = 0 ∧ addN [] [97] = alP := by decide +kernel
theorem al_cut : cutE alP 0 0 = 0 ∧ cutN alP 0 0 = [] := by decide +kernel
theorem al_res : resE [] 1 2 [98] = 0 ∧ resN [] 1 2 [98] = alQ := by decide +kernel
theorem al_get : getH alQ 1 2 = some [98] := by decide +kernel
theorem al_len : alQ.length = 2 ∧ (allH alQ).length = 1 := by decide +kernel

set_option maxRecDepth 100000 in
set_option maxHeartbeats 3200000 in
theorem alive_any (w : World) : Calls Tryd.prog 9 #[] w (YesB w) := by
  have hcv1 : ∀ w : World, (convert 33 33 (.slice (some ⟨w.heap.size, 0, none⟩) 1 1)).run Tryd.prog (w.alloc (.cells #[.int .u8 97] 5)) = .ok (.slice (some ⟨w.heap.size, 0, none⟩) 1 1) (w.alloc (.cells #[.int .u8 97] 5 (1, 2))) := fun w => conv_bytes w [97] 1 rfl (by omega)
  have hcv2 : ∀ w : World, (convert 33 33 (.slice (some ⟨w.heap.size, 0, none⟩) 1 1)).run Tryd.prog (w.alloc (.cells #[.int .u8 98] 5)) = .ok (.slice (some ⟨w.heap.size, 0, none⟩) 1 1) (w.alloc (.cells #[.int .u8 98] 5 (1, 2))) := fun w => conv_bytes w [98] 1 rfl (by omega)
  go_enter Tryd.func9, Tryd.ntmps9
  go_wp2_with fail
  refine (hs_new w w (Below.refl _ _)).mono ?_
  rintro e w1 ⟨hb, D, rfl, h1, _, _⟩
  have hba := (Below.refl w1.heap.size w1).alloc (Nat.le_refl _) (.cells #[.int .u8 97] 5 (1, 2))
  have ha := hs_add (h1.below hba) _ 1 1 [97] (h1.lit [97] (1, 2) (by decide)) (by unfold IsBytes; decide)
  rw [al_add.1, al_add.2.1, al_add.2.2.1, al_add.2.2.2] at ha
  have HADD := Lib.hid ha
  clear h1 hba ha
  go_wp2_with fail
  refine HADD.out.mono ?_
  rintro e w2 ⟨rfl, h2, _⟩
  obtain ⟨D2, hD2⟩ : ∃ D2, D2 = Ext D (w1.alloc (.cells #[.int .u8 97] 5 (1, 2))) w2 := ⟨_, rfl⟩
  rw [← hD2] at h2
  have hba := (Below.refl w2.heap.size w2).alloc (Nat.le_refl _) (.cells #[.int .i64 0, .int .i64 0] 32)
  have hbx := Blk.new w2 32 #[.int .i64 0, .int .i64 0]
  have hnd : ¬ D2 w2.heap.size := fun he => by have := (h2.hp.foot he).2; omega
  have hc := hs_cut (h2.below hba) 0 0
  rw [al_cut.1, al_cut.2] at hc
  have HCUT := Lib.hid hc
  have HBX := Lib.hid (And.intro hbx hnd)
  clear h2 hba hc hbx hnd HADD hD2
  go_wp2_with fail
  refine HCUT.out.mono ?_
  rintro e w3 ⟨rfl, h3, hch3⟩
  have hk3 := HBX.out.1.chg hch3 HBX.out.2
  obtain ⟨D3, hD3⟩ : ∃ D3, D3 = Ext D2 (w2.alloc (.cells #[.int .i64 0, .int .i64 0] 32)) w3 := ⟨_, rfl⟩
  have hnd3 : ¬ D3 w2.heap.size := fun he => by
    rw [hD3] at he
    rcases he with he | he
    · exact HBX.out.2 he
    · have h9 := he.1
      rw [World.size_alloc] at h9
      omega
  rw [← hD3] at h3
  have hba := (Below.refl w3.heap.size w3).alloc (Nat.le_refl _) (.cells #[.int .u8 98] 5 (1, 2))
  have hr := hs_res (h3.below hba) 1 2 _ 1 1 [98] (h3.lit [98] (1, 2) (by decide)) (by unfold IsBytes; decide)
  rw [al_res.1, al_res.2] at hr
  have HRES := Lib.hid hr
  have HK3 := Lib.hid (And.intro (hk3.below hba hk3.lt) hnd3)
  clear h3 hba hr hk3 hch3 hnd3 hD3 HCUT HBX
  go_wp2_with fail
  refine HRES.out.mono ?_
  rintro e w4 ⟨rfl, h4, hch4⟩
  have hk4 := HK3.out.1.chg hch4 HK3.out.2
  have hg := hs_get h4 1 2
  rw [al_get] at hg
  have HGET := Lib.hid hg
  have H4 := Lib.hid (And.intro h4 hk4)
  clear h4 hg hk4 hch4 HRES HK3 hcv1 hcv2
  go_wp2_with fail
  refine HGET.out.mono ?_
  rintro e w5 ⟨A5, c5, n5, rfl, hn5, ho5, hnc5, hcm5, hb5⟩
  simp only [Option.isSome_some, Option.getD_some] at hn5 ho5 ⊢
  have hn51 : n5 = 1 := hn5
  clear hn5
  subst hn51
  have hstr := run_strw (P := Tryd.prog) w5 33 9 5 A5 1 c5 _ [98] Tryd.underlying33 Tryd.underlying5 Tryd.underlying9 (Rd.of_own ho5)
  rw [show mkStr [98] = ⟨#[98]⟩ from rfl] at hstr
  have hk5 := H4.out.2.below hb5 H4.out.2.lt
  have hc0 := hk5.cell 0
  have hc1 := hk5.cell 1
  simp only [List.getElem?_toArray, List.getElem?_cons_zero, List.getElem?_cons_succ] at hc0 hc1
  have H5 := Lib.hid (H4.out.1.below hb5)
  have HPG := Lib.hid (hs_pages H5.out)
  clear ho5 hb5 hk5 HGET
  go_wp2_with fail
  refine HPG.out.mono ?_
  rintro e w6 ⟨A6, c6, ys6, rfl, _, _, _, hl6, hb6, _⟩
  rw [al_len.1] at hl6
  have H6 := Lib.hid (H5.out.below hb6)
  have HAL := Lib.hid (hs_all H6.out)
  clear hb6
  rw [hl6]
  clear hl6
  go_wp2_with fail
  refine HAL.out.mono ?_
  rintro e w7 ⟨A7, c7, n7, rfl, hn7, _, hb7⟩
  rw [al_len.2] at hn7
  subst hn7
  have H7 := Lib.hid (H6.out.below hb7)
  clear hb7
  go_wp2_with fail
  go_ret
  exact ⟨rfl, H7.out.low⟩
end Go.Proofs.YtdnegfjddpdmhaaDoor
