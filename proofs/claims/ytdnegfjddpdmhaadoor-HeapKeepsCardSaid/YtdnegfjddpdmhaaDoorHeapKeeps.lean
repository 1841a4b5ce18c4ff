/-
  HeapKeeps returns true for all rows and every choice of those that are cut: a row that is told keeps its bytes and its place till it is cut; the arguments are left as they were.
  No condition but the reach of the statement's form; the listed variables are tied by the card.
-/
import Derived.Test.YtdnegfjddpdmhaaDoorHpT
import Derived.Test.YtdnegfjddpdmhaaDoorTie
import Derived.Test.YtdnegfjddpdmhaaDoorCards
import Derived.Lay
import Derived.MakeChecks
import Derived.JoinedOf
import Derived.Stop.Joined
import Derived.HandedShaped
namespace Go.Proofs.YtdnegfjddpdmhaaDoor
open Go.RowKit Go.Lib

/-- between two rows -/
structure KpAt (w0 : World) (D : Nat → Prop) (hb mb : Nat) (ps : Pgs) (Dm : DataW Value) (ls : List (List Int)) (k : Nat) (wr : World) : Prop where
  hs : HS w0 D wr hb ps
  own : OwnM wr mb k Dm
  kd : KD Dm ps ls k
  out : ¬ D mb
  mlt : mb < wr.heap.size
  lo : w0.heap.size ≤ mb
  pl : ps.length ≤ k
def KpRel (w0 : World) (hb mb n : Nat) (ls : List (List Int)) (i : Value) (wr : World) : Prop :=
  ∃ (k : Nat) (D : Nat → Prop) (ps : Pgs) (Dm : DataW Value), k ≤ n ∧ i = .int .i64 k ∧ KpAt w0 D hb mb ps Dm ls k wr
theorem KpAt.below {w0 wr w' : World} {D : Nat → Prop} {hb mb : Nat} {ps : Pgs} {Dm : DataW Value} {ls : List (List Int)} {k : Nat} (h : KpAt w0 D hb mb ps Dm ls k wr) (hb' : Below wr.heap.size wr w') : KpAt w0 D hb mb ps Dm ls k w' :=
  ⟨h.hs.below hb', chg_map h.own (F := Non) (Chg.of_below hb') id, h.kd, h.out, Nat.lt_of_lt_of_le h.mlt hb'.size, h.lo, h.pl⟩
theorem ext_out {w w' : World} {D : Nat → Prop} {m : Nat} (h : ¬ D m) (hm : m < w.heap.size) : ¬ Ext D w w' m := fun he => he.elim h fun h2 => by have := h2.1; omega
/-- a row that was added has been booked -/
theorem KpAt.book {w0 w3 w7 : World} {D : Nat → Prop} {hb mb k : Nat} {ps : Pgs} {Dm : DataW Value} {ls : List (List Int)} {b : List Int} {kl : Lit} (h3 : HS w0 D w3 hb (addN ps b)) (ho : ¬ D mb) (hlt : mb < w3.heap.size) (hlo : w0.heap.size ≤ mb) (hpl : ps.length ≤ k)
    (hkd : KD Dm ps ls k) (hT : Maps.Tidy Dm) (ha : addE ps b = 0) (hk : KeyR (addPg ps b, addSl ps b) kl) (hl : ls[k]? = some b) (hown : OwnM w7 mb (k + 1) (Dm.put kl (.lit (.int .i64 k)))) (hgr : w3.grownBy w7 (some mb)) :
    KpAt w0 D hb mb (addN ps b) (Dm.put kl (.lit (.int .i64 k))) ls (k + 1) w7 := by
  have hc : Chg (fun j => j = mb) w3 w7 := (Chg.refl _ w3).grown hgr (fun j hj _ => by cases hj; rfl)
  exact ⟨h3.chgT hc (fun j hj he => ho (he ▸ hj)) (fun j he => he ▸ hlo), hown, hkd.put hT ha hk hl, ho, Nat.lt_of_lt_of_le hlt hc.size, hlo, by have := addN_len ps b; omega⟩

/-- on the way over the places -/
def PlRel (w0 : World) (D : Nat → Prop) (hb mb r n : Nat) (ps : Pgs) (Dm : DataW Value) (cnt0 : Nat) (wr : World) : Prop :=
  ∃ left cnt, HS w0 D wr hb ps ∧ wr.ranges Tryd.prog 32 RI mb r n Dm left cnt ∧ (∀ kl, left kl = true → Maps.has Dm kl = true) ∧ (cnt0 = 0 ∨ cnt < cnt0)
set_option maxRecDepth 100000 in
set_option maxHeartbeats 12800000 in
theorem heapKeeps_walk (A : Option Addr) (n c : Nat) (xs : List Rb) (A2 : Option Addr) (n2 c2 : Nat) (cs : List Int) (w : World) (hx : RIn0 w A n xs) (hxb : ∀ x ∈ xs, IsBytes x.l ∧ x.n ≤ x.c ∧ x.c ≤ maxLen) (hnc : n ≤ c) (hcm : c ≤ maxLen) (hxs : ∀ x ∈ xs, x.n ≤ 140737488355328)
    (hcs : Rd w w.heap.size A2 n2 (cs.map (Value.int .i64))) (_ : ∀ z ∈ cs, (Lit.int .i64 z).wf = true) (hcl : cs.length = n2) (hnc2 : n2 ≤ c2) (hcm2 : c2 ≤ maxLen) :
    Calls Tryd.prog 5 #[.slice A n c, .slice A2 n2 c2] w (YesB w) := by
  have H := Lib.hid (And.intro hx (And.intro hxb (And.intro hxs (And.intro (show Rd w w.heap.size A2 n2 (cells64 cs) from hcs) hcl))))
  have hnm : n ≤ maxLen := Nat.le_trans hnc hcm
  have hn0 : (0 : Int) ≤ (n : Int) := Int.natCast_nonneg _
  have hn20 : (0 : Int) ≤ (n2 : Int) := Int.natCast_nonneg _
  clear hx hxb hxs hcs hcl
  have hmm := @run_makeMap Tryd.prog
  go_enter Tryd.func5, Tryd.ntmps5
  go_wp2_with fail
  refine (alive_any w).mono ?_
  rintro e w1 ⟨rfl, h1⟩
  have H1 := Lib.hid h1
  clear h1
  by_cases hbig : 60 < n
  · have hbi : (60 : Int) < (n : Int) := by omega
    go_wp2_with fail
    go_ret
    exact ⟨rfl, H1.out⟩
  have hbi : ¬ ((60 : Int) < (n : Int)) := by omega
  have HW := Lib.hid (weigh_any A n c xs 12000 w1 (H.out.1.below H1.out) H.out.2.2.1 hnm (by omega))
  go_wp2_with fail
  refine HW.out.mono ?_
  rintro e w1' ⟨⟨r, rfl, hwt⟩, rfl⟩
  by_cases hr : 12000 < r
  · go_wp2_with fail
    go_ret
    exact ⟨rfl, H1.out⟩
  by_cases hb5 : 60 < n2
  · have hb5i : (60 : Int) < (n2 : Int) := by omega
    go_wp2_with fail
    go_ret
    exact ⟨rfl, H1.out⟩
  have hb5i : ¬ ((60 : Int) < (n2 : Int)) := by omega
  go_wp2_with fail
  refine (hs_new w w1' H1.out).mono ?_
  rintro e w2 ⟨hb, D, rfl, h2, _, _⟩
  obtain ⟨wm, hwm⟩ : ∃ wm, wm = w2.alloc (.map #[] 0) := ⟨_, rfl⟩
  have hk0 : KpAt w D hb w2.heap.size [] (.map []) (xs.map (·.l)) 0 wm := by
    rw [hwm]
    exact ⟨h2.below ((Below.refl _ w2).alloc (Nat.le_refl _) _), World.ownsMap_made w2 _ _ _, KD.nil _, fun hd => by have := (h2.hp.foot hd).2; omega, by simp, h2.low.size, Nat.le_refl _⟩
  have H2 := Lib.hid (show KpRel w hb w2.heap.size n (xs.map (·.l)) (.int .i64 0) wm from ⟨0, D, [], _, Nat.zero_le _, rfl, hk0⟩)
  have HWM := Lib.hid hwm
  clear h2 HW hk0 hwm
  go_wp2_with fail
  rw [← HWM.out]
  go_loopw [7] (fun i wr => KpRel w hb w2.heap.size n (xs.map (·.l)) i wr) (fun i _ => n - (intOf i).toNat)
  case atStart => exact H2.out
  case round =>
    obtain ⟨k, D, ps, Dm, hk, rfl, hK⟩ := hrel
    have hk0 : (0 : Int) ≤ (k : Int) := Int.natCast_nonneg _
    have HK := Lib.hid hK
    clear hK
    by_cases hlt : k < n
    · have hlt1 : (k : Int) < (n : Int) := by omega
      obtain ⟨ad, x, rfl, hx, hc, _⟩ := (H.out.1.below HK.out.hs.low).at_ hlt
      have hmem := List.mem_of_getElem? hx
      have HAD := Lib.hid (hs_add HK.out.hs x.A x.n x.c x.l (HK.out.hs.arg (H.out.1.el x hmem)) (H.out.2.1 x hmem).1)
      have hls : (xs.map (·.l))[k]? = some x.l := by rw [List.getElem?_map, hx]; rfl
      have hxn : x.l.length = x.n := by have := (H.out.1.el x hmem).1; simpa [cells] using this
      have HX := Lib.hid (And.intro hls (And.intro hxn hx))
      unfold Rb.val at hc
      clear hx hmem hls hxn
      go_wp2_with fail
      refine HAD.out.mono ?_
      rintro e w3 ⟨rfl, hS3, hch3⟩
      have ho3 : OwnM w3 w2.heap.size k Dm := chg_map HK.out.own hch3 HK.out.out
      have hout3 : ¬ Ext D wr w3 w2.heap.size := ext_out HK.out.out HK.out.mlt
      have hml3 : w2.heap.size < w3.heap.size := Nat.lt_of_lt_of_le HK.out.mlt hch3.size
      obtain ⟨D3, hD3⟩ : ∃ D3, D3 = Ext D wr w3 := ⟨_, rfl⟩
      rw [← hD3] at hS3 hout3
      have H3 := Lib.hid (And.intro hS3 (And.intro ho3 (And.intro hout3 hml3)))
      clear hS3 ho3 hout3 hml3 hch3 hD3 HAD
      by_cases he : addE ps x.l = 0
      · obtain ⟨f1, f2, f3, f4, f5⟩ := add_done he
        have hffl : ffP (pgAt ps (fitH x.l ps)) ≤ 255 := by have h8 := ff_le (pgAt ps (fitH x.l ps)); have h9 := (HK.out.hs.ok.at_ (fitH x.l ps)).pg.slots; omega
        obtain ⟨kl, hkl⟩ := rid_key (addPg ps x.l, addSl ps x.l) (by rw [f3]; exact wf_nat (by omega)) (by rw [f4]; exact wf_nat (by omega))
        have HE := Lib.hid (And.intro he (And.intro hkl (HK.out.kd.free he hkl)))
        have hba := (Below.refl w3.heap.size w3).alloc (Nat.le_refl _) (.cells #[.int .i64 (addPg ps x.l), .int .i64 (addSl ps x.l)] 32)
        have hbk := Blk.new w3 32 #[.int .i64 (addPg ps x.l), .int .i64 (addSl ps x.l)]
        have hS4 := H3.out.1.below hba
        have ho4 : OwnM _ w2.heap.size k Dm := chg_map H3.out.2.1 (F := Non) (Chg.of_below hba) id
        obtain ⟨pg, hpg⟩ : ∃ pg, pg = addPg ps x.l := ⟨_, rfl⟩
        obtain ⟨sl, hsl⟩ : ∃ sl, sl = addSl ps x.l := ⟨_, rfl⟩
        rw [he, ← hpg, ← hsl]
        rw [← hpg, ← hsl] at hba hbk hS4 ho4 hkl
        have HPG := Lib.hid (And.intro hpg hsl)
        obtain ⟨w6, hw6⟩ : ∃ w6, w6 = w3.alloc (.cells #[.int .i64 pg, .int .i64 sl] 32) := ⟨_, rfl⟩
        rw [← hw6] at hba hbk hS4 ho4
        have H6 := Lib.hid (And.intro hS4 (And.intro ho4 (And.intro hbk (And.intro hkl hba.size))))
        have hsz6 : w6.heap.size = w3.heap.size + 1 := by rw [hw6]; simp
        have hk60 : k < 60 := by omega
        clear f1 f2 f3 f4 f5 hffl hkl hba hbk hS4 ho4 hpg hsl
        go_wp2_with (first | (at_lookup; refine at_lookup_free _ rfl _ _ rfl w2.heap.size k Dm rfl (by rw [← hw6]; exact H6.out.2.1) pg sl kl rfl H6.out.2.2.2.1 HE.out.2.2 ?_) | (at_mapUpdate; refine at_store _ rfl _ _ _ rfl w2.heap.size k Dm rfl (by rw [← hw6]; exact H6.out.2.1) (by unfold maxLen; omega) pg sl kl rfl H6.out.2.2.2.1 k (by omega) rfl ?_))
        intro w7 hown7 hgr7
        rw [← hw6] at hgr7
        have hc7 : Chg (fun j => j = w2.heap.size) w6 w7 := (Chg.refl _ w6).grown hgr7 (fun j hj _ => by cases hj; rfl)
        have hK7 := KpAt.book H6.out.1 H3.out.2.2.1 (by have := H3.out.2.2.2; omega) HK.out.lo HK.out.pl HK.out.kd (HK.out.own.tidy ridK) HE.out.1 HE.out.2.1 HX.out.1 hown7 hgr7
        have hbk7 : Blk w7 w3.heap.size 32 #[.int .i64 pg, .int .i64 sl] := H6.out.2.2.1.chg hc7 (fun hj => by have := H3.out.2.2.2; omega)
        have e0 := hbk7.cell 0
        have e1 := hbk7.cell 1
        simp only [List.getElem?_toArray, List.getElem?_cons_zero, List.getElem?_cons_succ] at e0 e1
        have HK7 := Lib.hid (And.intro hK7 hbk7)
        clear hown7 hgr7 hc7 hK7 hbk7
        by_cases hkc : k < n2
        · have hkci : (k : Int) < (n2 : Int) := by omega
          obtain ⟨ad2, u, rfl, _, hu, hc2⟩ := (H.out.2.2.2.1.below HK7.out.1.hs.low (Nat.le_refl _)).at_ hkc
          obtain ⟨z, rfl⟩ : ∃ z, u = .int .i64 z := by
            simp [cells64] at hu
            obtain ⟨z, _, rfl⟩ := hu
            exact ⟨z, rfl⟩
          have hun := undo_add HK.out.hs.ok (H.out.2.1 x (List.mem_of_getElem? HX.out.2.2)).1 HE.out.1
          rw [← HPG.out.1, ← HPG.out.2] at hun
          have hcu := hs_cut HK7.out.1.hs pg sl
          rw [hun.1, hun.2] at hcu
          have HCU := Lib.hid hcu
          have HF := Lib.hid (show KpRel w hb w2.heap.size n (xs.map (·.l)) (.int .i64 ((k : Int) + 1)) w7 from ⟨k + 1, _, _, _, by omega, by go_num, HK7.out.1⟩)
          clear hu hun hcu
          go_wp2_with fail
          · refine HCU.out.mono ?_
            rintro e w8 ⟨rfl, hS8, hch8⟩
            have hbk8 := HK7.out.2.chg hch8 (fun hj => by have := (H6.out.1.hp.foot hj).2; have := H3.out.1.hp.foot hj; omega)
            have ho8 : OwnM w8 w2.heap.size (k + 1) _ := chg_map HK7.out.1.own hch8 HK7.out.1.out
            have e2 := hbk8.cell 0
            have e3 := hbk8.cell 1
            simp only [List.getElem?_toArray, List.getElem?_cons_zero, List.getElem?_cons_succ] at e2 e3
            have H8 := Lib.hid (And.intro hS8 (And.intro ho8 hch8))
            clear hbk8 ho8 hS8 hch8 HCU
            go_wp2_with (first | (at_delete; refine at_strike _ rfl _ _ rfl w2.heap.size (k + 1) _ rfl H8.out.2.1 pg sl kl rfl H6.out.2.2.2.1 ?_))
            intro w9 hown9 hgr9
            have hc9 : Chg (fun j => j = w2.heap.size) w8 w9 := (Chg.refl _ w8).grown hgr9 (fun j hj _ => by cases hj; rfl)
            have hml8 : w2.heap.size < w8.heap.size := Nat.lt_of_lt_of_le HK7.out.1.mlt H8.out.2.2.size
            have hout8 := ext_out (w := w7) (w' := w8) HK7.out.1.out HK7.out.1.mlt
            have HF2 := Lib.hid (show KpRel w hb w2.heap.size n (xs.map (·.l)) (.int .i64 ((k : Int) + 1)) w9 from ⟨k + 1, _, _, _, by omega, by go_num,
              ⟨H8.out.1.chgT hc9 (fun j hj hf => hout8 (hf ▸ hj)) (fun j hf => hf ▸ HK.out.lo), hown9, HK.out.kd.cut (HK.out.own.tidy ridK) HE.out.1 HE.out.2.1 _, hout8, Nat.lt_of_lt_of_le hml8 hc9.size, HK.out.lo, by have := HK.out.pl; omega⟩⟩)
            clear hown9 hgr9 hc9 hml8 hout8
            go_wp2_with fail
            exact ⟨HF2.out, by simp [intOf]; omega⟩
          · exact ⟨HF.out, by simp [intOf]; omega⟩
        · have hkci : ¬ ((k : Int) < (n2 : Int)) := by omega
          have HF := Lib.hid (show KpRel w hb w2.heap.size n (xs.map (·.l)) (.int .i64 ((k : Int) + 1)) w7 from ⟨k + 1, _, _, _, by omega, by go_num, HK7.out.1⟩)
          go_wp2_with fail
          exact ⟨HF.out, by simp [intOf]; omega⟩
      · obtain ⟨f1, f2⟩ := add_small (by have := HK.out.pl; omega) he
        have hx2i : (200 : Int) < (x.n : Int) := by have := HX.out.2.1; omega
        obtain ⟨ae, hae⟩ : ∃ ae, ae = addE ps x.l := ⟨_, rfl⟩
        rw [← hae] at he ⊢
        have hba := (Below.refl w3.heap.size w3).alloc (Nat.le_refl _) (.cells #[.int .i64 (addPg ps x.l), .int .i64 (addSl ps x.l)] 32)
        have hS6 := H3.out.1.below hba
        have ho6 : OwnM _ w2.heap.size k Dm := chg_map H3.out.2.1 (F := Non) (Chg.of_below hba) id
        rw [f2] at hS6
        have hc6 := (H.out.1.below hS6.low).at_ hlt
        obtain ⟨ad3, x3, hade, hx3, hc3, _⟩ := hc6
        cases hade
        obtain rfl : x3 = x := Option.some.inj (hx3.symm.trans HX.out.2.2)
        unfold Rb.val at hc3
        have HF := Lib.hid (show KpRel w hb w2.heap.size n (xs.map (·.l)) (.int .i64 ((k : Int) + 1)) (w3.alloc (.cells #[.int .i64 (addPg ps x3.l), .int .i64 (addSl ps x3.l)] 32)) from
          ⟨k + 1, _, _, Dm, by omega, by go_num, ⟨hS6, World.ownsMap.mono ho6 (by omega), HK.out.kd.more, H3.out.2.2.1, by have := H3.out.2.2.2; simp; omega, HK.out.lo, by have := HK.out.pl; omega⟩⟩)
        clear f1 f2 hba hS6 ho6 hx3
        go_wp2_with fail
        exact ⟨HF.out, by simp [intOf]; omega⟩
    · have hlt1 : ¬ ((k : Int) < (n : Int)) := by omega
      obtain ⟨wl, hwl⟩ : ∃ wl, wl = wr := ⟨_, rfl⟩
      subst hwl
      obtain rfl : k = n := by omega
      go_wp2_with (first | (at_range; refine wpList_range_own _ rfl _ 54 rfl 32 3 ridK Tryd.underlying54 RI w2.heap.size k Dm rfl HK.out.own ?_))
      intro w5 hrg hg5 hs5
      have hb5 : Below wl.heap.size wl w5 := ⟨hg5.os, hg5.tape, hg5.output, hg5.size, fun i hi => hg5.block i hi (by simp)⟩
      have hrlt : ∀ j, D j → j < wl.heap.size := fun j hj => (HK.out.hs.hp.foot hj).2
      have HK5 := Lib.hid (And.intro (show PlRel w D hb w2.heap.size wl.heap.size k ps Dm 0 w5 from ⟨_, _, HK.out.hs.below hb5, hrg, fun _ h => h, .inl rfl⟩) (And.intro hrlt HK.out.hs.low.size))
      clear hrg hg5 hb5 hrlt
      go_wp2_with fail
      go_loopw [] (fun wr2 => PlRel w D hb w2.heap.size wl.heap.size k ps Dm 0 wr2) (fun wr2 => wr2.rangeLeft w2.heap.size wl.heap.size)
      case atStart => exact HK5.out.1
      case round =>
        obtain ⟨left, cnt, hS, hrg, hll, _⟩ := hrel
        have HR := Lib.hid (And.intro hS (And.intro hrg hll))
        clear hS hrg hll
        have HAL := Lib.hid (hs_all HR.out.1)
        go_wp2_with (first | (at_next; refine at_place _ rfl _ rfl w2.heap.size wl.heap.size k Dm left cnt ps (xs.map (·.l)) k HK.out.kd HR.out.2.2 rfl HR.out.2.1 ?_ ?_))
        · refine HAL.out.mono ?_
          rintro e w8 ⟨A7, c7, n7, rfl, hn7, ho7, hb8⟩
          have HO := Lib.hid (And.intro (chg_map HR.out.2.1.owns (F := Non) (Chg.of_below hb8) id) (And.intro (HR.out.1.low.trans (hb8.mono HR.out.1.low.size)) (show (n7 : Int) = (Maps.size Dm : Nat) by rw [hn7, HK.out.kd.size])))
          clear hn7 ho7 hb8 HAL
          go_wp2_with (first | (at_len; refine wpList_len_own _ rfl _ 54 rfl 32 3 Tryd.underlying54 RI w2.heap.size k Dm rfl HO.out.1 ?_))
          have hE := HO.out.2.2
          rw [hE]
          go_ret
          exact ⟨by simp, HO.out.2.1⟩
        · intro p q i l w6 left' cnt' hi x' hx' hl hget hrg6 hll6 hlt6 hgr6 hsz6 hen6
          subst hl
          have hc6 : Chg (fun j => j = wl.heap.size) wr w6 := (Chg.refl _ wr).grown hgr6 (fun j hj _ => by cases hj; rfl)
          have hS6 : HS w D w6 hb ps := HR.out.1.chgT hc6 (fun j hj hf => by have := HK5.out.2.1 j hj; omega) (fun j hf => by rw [hf]; exact HK5.out.2.2)
          have hba := (Below.refl w6.heap.size w6).alloc (Nat.le_refl _) (.cells #[.int .i64 p, .int .i64 q] 32)
          have hg := hs_get (hS6.below hba) p q
          rw [hget] at hg
          have HGT := Lib.hid hg
          have H6 := Lib.hid (And.intro (hS6.below hba) (And.intro (chg_ranges (F := Non) hrg6 hba) (And.intro hll6 (And.intro hx' hlt6))))
          clear hc6 hS6 hba hg hget hrg6 hll6 hlt6 hgr6 hx'
          go_wp2_with fail
          refine HGT.out.mono ?_
          rintro e w7 ⟨A8, c8, n8, rfl, hn8, ho8, _, _, hb8⟩
          simp only [Option.isSome_some, Option.getD_some] at hn8 ho8 ⊢
          have hS7 := H6.out.1.below hb8
          obtain ⟨ad4, x4, hade, hx4, hc4, hr4⟩ := (H.out.1.below hS7.low).at_ hi
          obtain rfl : x4 = x' := Option.some.inj (hx4.symm.trans H6.out.2.2.2.1)
          obtain rfl := hade
          unfold Rb.val at hc4
          have HSB := Lib.hid (same_any A8 x4.A n8 x4.n c8 x4.c x4.l x4.l w7 (Rd.of_own ho8) hr4 (by rw [hn8, show x4.l.length = x4.n by have := (H.out.1.el x4 (List.mem_of_getElem? hx4)).1; simpa [cells] using this]; have := hwt (by omega) x4 (List.mem_of_getElem? hx4); omega))
          have H7 := Lib.hid (And.intro hS7 (chg_ranges (F := Non) H6.out.2.1 hb8))
          clear hn8 ho8 hb8 hS7 hx4 hr4 HGT
          go_wp2_with fail
          refine HSB.out.mono ?_
          rintro e w9 ⟨rfl, hb9⟩
          simp only [decide_true]
          have hrg9 := chg_ranges (F := Non) H7.out.2 hb9
          have HF := Lib.hid (And.intro (show PlRel w D hb w2.heap.size wl.heap.size k ps Dm 0 w9 from ⟨_, _, H7.out.1.below hb9, hrg9, H6.out.2.2.1, .inl rfl⟩) (show w9.rangeLeft w2.heap.size wl.heap.size < wr.rangeLeft w2.heap.size wl.heap.size by rw [hrg9.left_eq, HR.out.2.1.left_eq]; exact H6.out.2.2.2.2))
          clear hrg9 hb9 HSB
          go_wp2_with fail
          exact ⟨HF.out.1, HF.out.2⟩

section
open Go.ChangeShapes Go.WideShapes Go.ChangeAt
open Go.ChangeMaps (open_string shut_string)
set_option linter.unusedVariables false
set_option maxRecDepth 100000 in
theorem heapKeeps_lifted (os : Os) (started : os.Started) (H : Type) (enc : TypeId × Value → H) :
    ReturnsInHanded {} Tryd.checked os 5 .any (fun w args => (Rows.heapKeepsSpec.pre enc Tryd.prog Tryd.f5 Rows.heapKeepsRow.domain false w args ∧ laidMetH Tryd.prog Rows.heapKeepsRow.laid w) ∧ sizedMet enc Tryd.prog Tryd.f5 (OpenSpec.ofChange Rows.heapKeepsSpec) false w args)
      (Rows.heapKeepsSpec.post enc Tryd.prog Tryd.f5 false true false false) := by
  refine returnsInHanded_of_change_and (C := Tryd.checked) (X := fun w _ => laidMetH Tryd.prog Rows.heapKeepsRow.laid w) (fun _ _ _ hh h => h.of_heap hh) own started (by kernel_rfl) Tryd.func5
    (ChangeSpec.witness_shaped (enc := enc) (C := Tryd.checked) (os := os) (X := fun w _ => laidMetH Tryd.prog Rows.heapKeepsRow.laid w) false (World.laidAll Tryd.prog os Rows.heapKeepsRow.laid) #[.slice none 0 0, .slice none 0 0] 8 (World.laidAll_os _ _ _)
      (World.shaped_of_ZipB (by kernel_rfl) (by kernel_rfl)) (by kernel_rfl) (by kernel_rfl) (by kernel_rfl)
      (by rw [MakeChecks.laidMetH_plain _ _ _ (by kernel_rfl)]; exact laidMet_laidAll _ (by kernel_rfl) (by kernel_rfl))) ?_
  intro W base args ds gs before hval0 hW hcnd hsz hL _
  have hval : ∀ (j : Nat) t v, Tryd.f5.params[j]? = some t → args[j]? = some v → Value.okWide Tryd.prog W .any base t v := hval0
  have hW' := hW
  obtain ⟨p, q, hA0, hV, rfl, hfz, hnd⟩ := hW
  have hA : DataW.TrodAll enc Tryd.prog W 0 (fun _ => true) true Tryd.f5.params.toList args.toList ds p := hA0
  rw [Tryd.params5] at hA hval
  obtain ⟨v0, vs0, d0, ds0, p0, q0, hargs, rfl, rfl, h0, r0⟩ := trodAll_cons hA
  obtain ⟨v1, vs1, d1, ds1, p1, q1, rfl, rfl, rfl, h1, r1⟩ := trodAll_cons r0
  obtain ⟨rfl, rfl, rfl⟩ := trodAll_nil r1
  obtain rfl : args = #[v0, v1] := by cases args; simp_all
  obtain ⟨rfl, rfl⟩ := trodVars_none hV
  have k0 := h0
  have lt0 : ∀ x ∈ p0, x.block < W.heap.size := by obtain ⟨m, hm⟩ := k0; exact DataW.trod_lt m _ _ _ hm
  have k1 := h1
  have lt1 : ∀ x ∈ p1, x.block < W.heap.size := by obtain ⟨m, hm⟩ := k1; exact DataW.trod_lt m _ _ _ hm
  obtain ⟨a0, len0, cap0, rfl⟩ := okWide_slice Tryd.underlying38 (hval 0 38 v0 rfl rfl)
  obtain ⟨z0, r0x, w0, l0, m0, o0⟩ := rd_of_lists Tryd.underlying38 Tryd.underlying33 (by kernel_rfl) Tryd.underlying5 (by kernel_rfl) (by kernel_rfl) h0
  have o0y : ∀ x ∈ z0, x.n ≤ 140737488355328 := fun x hx => by
    rcases o0 x hx with h | ⟨q, hq, hle⟩
    · omega
    · have h9 : q ≤ 140737488355328 := by
        have h8 := List.all_eq_true.1 hsz _ (DataW.weights_mem_each (j := 0) (t := 38) rfl rfl q hq)
        have h7 : q ≤ reachBytes := by simpa using h8
        unfold reachBytes at h7
        omega
      omega
  obtain ⟨a1, len1, cap1, rfl⟩ := okWide_slice Tryd.underlying53 (hval 1 53 v1 rfl rfl)
  obtain ⟨z1, r1x, w1, e1, l1, m1⟩ := rd_of_ints Tryd.underlying53 Tryd.underlying3 (by kernel_rfl) h1
  clear hA0 hval0
  refine (heapKeeps_walk a0 len0 cap0 z0 a1 len1 cap1 z1 W r0x w0 l0 m0 o0y r1x w1 e1 l1 m1).mono fun e W' ⟨he, bel⟩ => ?_
  subst he
  exact ⟨_, rfl, _, _, _, [], _, [], hW', trodAll_mk1 (shut_bool Tryd.underlying4 _), (trodAll_cons_mk (Below.trod laidOut (by kernel_rfl) (of_decide_eq_true (by kernel_rfl)) k0 bel lt0) (trodAll_cons_mk (Below.trod laidOut (by kernel_rfl) (of_decide_eq_true (by kernel_rfl)) k1 bel lt1) trodAll_mk0)), rfl, bel.frame _, fun h => by cases h⟩

theorem heapKeeps_over : Rows.heapKeepsRow.holds Tryd.pinned (OpenSpec.ofChange Rows.heapKeepsSpec) :=
  OpenClaim.holds_of_wide 5 Tryd.f5 rfl rfl rfl rfl rfl rfl rfl ⟨rfl, rfl, rfl, rfl, rfl⟩ rfl rfl rfl rfl rfl (by kernel_rfl) Tryd.func5 (by kernel_rfl)
    (of_decide_eq_true (by kernel_rfl)) (by unfold Func.isWrapper; first | (rw [if_pos (by decide +kernel)]; kernel_rfl) | (rw [if_neg (by decide +kernel)]; exact ⟨rfl, rfl⟩))
    (fun os started H enc _ => heapKeeps_lifted os started H enc)

theorem heapKeeps_card : Rows.HeapKeepsCardSaid :=
  Claim7.holds_tied_plain_at .later [] [.data, .pinned] true _ false
    heapKeeps_over (fun _ h => by cases h) (by kernel_rfl) (fun _ h => by cases h) heapKeeps_row_tie rfl ⟨rfl, rfl⟩ (by kernel_rfl) rfl
    (fun f fn hf hfn => by
      obtain rfl : f = 5 := Option.some.inj ((show Tryd.prog.funcNamed Rows.heapKeepsRow.func = some 5 by kernel_rfl).symm.trans hf) |>.symm
      obtain rfl : fn = Tryd.f5 := (Option.some.inj (Tryd.func5.symm.trans hfn)).symm
      have hall : (Tryd.f5.params.toList.all fun t => !Tryd.prog.wantsStandIn t) = true := by kernel_rfl
      exact ⟨by kernel_rfl, fun j t ht => by
        have h1 := List.all_eq_true.1 hall t (List.mem_of_getElem? (by simpa using ht))
        show Tryd.prog.wantsStandIn t = false
        simpa using h1⟩)
    (by kernel_rfl)
end
#print axioms heapKeeps_card
end Go.Proofs.YtdnegfjddpdmhaaDoor
