/-
  BtreeSet over a contract of the program's tree.
-/
import Derived.Test.YtiaclfldgagalaaM24
import Derived.Test.YtiaclfldgagalaaEBs
namespace Go.Proofs.Ytiaclfldgagalaa
open Go.RowKit Go.Lib Go.Maps

/-- the first loop's relation -/
def SetRel (T : TrP) (w0 : World) (es : List En) (tb ub mb : Nat) (i : Value) (wr : World) : Prop :=
  ∃ (k : Nat) (D E : Nat → Prop) (l m : List En) (n : Nat) (Dm : DataW Value), k ≤ es.length ∧ i = .int .i64 k ∧ SetIn T w0 es tb ub mb k wr D E l m n Dm
/-- behind an insert: the state, what loads see, what the map tells -/
theorem setin_ins {K : Nat} {T : TrP} (I : Impl K T) {w0 w w5 : World} {ad : Addr} {es : List En} {tb ub mb n k : Nat} {D E : Nat → Prop} {l m : List En} {Dm : DataW Value} {x : En} {kl : Lit} {b : Bool} (h : St2 T w0 w tb ub D E l m mb n Dm) (hc : RowG En.vs 3 w0 w0.heap.size (some ad) es) (hk : k < es.length) (hx : x = es[k])
    (hkb : KB Dm l) (hkey : KeyE x kl) (hb : b = plB l x) (ht : T w0.heap.size (Ext D w w5) w5 tb (insL l x)) (hch : Chg D w w5) :
    St2 T w0 w5 tb ub (Ext D w w5) E (insL l x) m mb n Dm ∧ w5.cell? (ad.add (k * 3)) = some (.string x.s) ∧ w5.cell? ⟨(ad.add (k * 3)).block, (ad.add (k * 3)).off + 1, none⟩ = some (.int .i64 x.p) ∧ w5.cell? ⟨(ad.add (k * 3)).block, (ad.add (k * 3)).off + 2, none⟩ = some (.int .i64 x.k) ∧
      (Instr.lookup 51 (.map (some mb)) (.agg #[.string x.s, .int .i64 x.p, .int .i64 x.k]) false).run Try.prog w5 = .ok (.bool b) w5 := by
  have h5 := h.stepT I ht hch
  obtain ⟨ad', e, _, d0, d1, d2⟩ := (hc.below h5.low (Nat.le_refl _)).en hk
  obtain rfl := Option.some.inj e
  rw [← hx] at d0 d1 d2
  have hlk := lookup_ent h5.map hkb hkey
  rw [← hb] at hlk
  exact ⟨h5, d0, d1, d2, hlk⟩
/-- behind the delete of an entry in one tree, and in both -/
theorem del_t {K : Nat} {T : TrP} (I : Impl K T) {w0 w w' : World} {tb ub mb n eb : Nat} {D E : Nat → Prop} {l m : List En} {Dm : DataW Value} {x : En} {kl : Lit} {b : Bool} (h : St2 T w0 w tb ub D E l m mb n Dm) (hb : Blk w eb 35 #[.string x.s, .int .i64 x.p, .int .i64 x.k]) (hd : ¬ D eb)
    (hkb : KB Dm l) (hkey : KeyE x kl) (he : b = plB l x) (ht : T w0.heap.size (Ext D w w') w' tb (delL l x)) (hc : Chg D w w') :
    St2 T w0 w' tb ub (Ext D w w') E (delL l x) m mb n Dm ∧ Blk w' eb 35 #[.string x.s, .int .i64 x.p, .int .i64 x.k] ∧ eb < w.heap.size ∧ SeeE eb mb x b w' := by
  have h1 := h.stepT I ht hc
  have h2 := hb.chg hc hd
  exact ⟨h1, h2, hb.lt, SeeE.of h2 h1.map hkb hkey he⟩
theorem del_u {K : Nat} {T : TrP} (I : Impl K T) {w0 w : World} {tb ub mb n eb : Nat} {D E : Nat → Prop} {l l' : List En} {Dm : DataW Value} {x : En} {kl : Lit} {b : Bool} (h : St2 T w0 w tb ub D E l' l mb n Dm) (hb : Blk w eb 35 #[.string x.s, .int .i64 x.p, .int .i64 x.k]) (hd : ¬ E eb) (hs : Small l)
    (hkb : KB Dm l) (hkey : KeyE x kl) (he : b = plB l x) (hx : x.s.size ≤ K) :
    Calls Try.prog 19 #[.pointer (some ⟨ub, 0, none⟩), .agg #[.string x.s, .int .i64 x.p, .int .i64 x.k]] w fun r w' => r = .returned (.bool b) ∧ ∃ E', St2 T w0 w' tb ub D E' l' (delL l x) mb n Dm ∧ Blk w' eb 35 #[.string x.s, .int .i64 x.p, .int .i64 x.k] ∧ SeeE eb mb x b w' := by
  refine (I.del x h.u hs h.low.size hx).mono fun r w' hr => ?_
  obtain ⟨hr, hu, hc⟩ := hr
  have h1 := h.stepU I hu hc
  have h2 := hb.chg hc hd
  exact ⟨by rw [hr, he], _, h1, h2, SeeE.of h2 h1.map hkb hkey he⟩
set_option maxRecDepth 100000 in
set_option maxHeartbeats 12800000 in
theorem bset_walk {K : Nat} {T : TrP} (I : Impl K T) (hK : 1000 ≤ K) (A : Option Addr) (c : Nat) (es : List En) (A2 : Option Addr) (c2 : Nat) (cs : List Int) (w : World) (hc : RowG En.vs 3 w w.heap.size A es) (hin : ∀ x ∈ es, x.In) (hbig : ∀ x ∈ es, x.s.size ≤ K) (hcs : RowG (fun z : Int => [.int .i64 z]) 1 w w.heap.size A2 cs) :
    Calls Try.prog 5 #[.slice A es.length c, .slice A2 cs.length c2] w (YesB w) := by
  obtain ⟨n, hn⟩ : ∃ n, n = es.length := ⟨_, rfl⟩
  obtain ⟨q, hq⟩ : ∃ q, q = cs.length := ⟨_, rfl⟩
  have H := Lib.hid (And.intro hc (And.intro hin (And.intro hcs (And.intro hn (And.intro hq hbig)))))
  rw [← hn, ← hq]
  have hn0 : (0 : Int) ≤ (n : Int) := Int.natCast_nonneg _
  have hq0 : (0 : Int) ≤ (q : Int) := Int.natCast_nonneg _
  clear hc hin hcs hn hq hbig
  have hmx : Try.prog.follows .mixedOrders = true := by kernel_rfl
  go_enter Try.func5, Try.ntmps5
  go_wp2_with fail
  refine (alive8_any I hK w).mono ?_
  rintro e w1 ⟨rfl, h1⟩
  have H1 := Lib.hid h1
  clear h1
  by_cases hg1 : 300 < n
  · have g1 : decide ((300 : Int) < (n : Int)) = true := decide_eq_true (by omega)
    have g1' : (300 : Int) < (n : Int) := by omega
    go_wp2_with fail
    go_ret
    exact ⟨rfl, H1.out⟩
  by_cases hg2 : 300 < q
  · have g1 : decide ((300 : Int) < (n : Int)) = false := decide_eq_false (by omega)
    have g1' : ¬ (300 : Int) < (n : Int) := by omega
    have g2 : decide ((300 : Int) < (q : Int)) = true := decide_eq_true (by omega)
    have g2' : (300 : Int) < (q : Int) := by omega
    go_wp2_with fail
    go_ret
    exact ⟨rfl, H1.out⟩
  have g1 : decide ((300 : Int) < (n : Int)) = false := decide_eq_false (by omega)
  have g1' : ¬ (300 : Int) < (n : Int) := by omega
  have g2 : decide ((300 : Int) < (q : Int)) = false := decide_eq_false (by omega)
  have g2' : ¬ (300 : Int) < (q : Int) := by omega
  go_wp2_with fail
  clear g1 g1' g2 g2'
  refine (I.new w1 w.heap.size H1.out.size).mono ?_
  rintro e w2 ⟨tb, D, rfl, ht2, hD2, hb2⟩
  have H2 := Lib.hid (And.intro ht2 (And.intro hD2 (H1.out.trans (hb2.mono H1.out.size))))
  clear ht2 hD2 hb2
  go_wp2_with fail
  refine (I.new w2 w.heap.size H2.out.2.2.size).mono ?_
  rintro e w3 ⟨ub, E, rfl, hu3, hE3, hb3⟩
  have H3 := Lib.hid (And.intro hu3 (And.intro hE3 hb3))
  clear hu3 hE3 hb3
  have hmm := @run_makeMap Try.prog
  go_wp2_with fail
  obtain ⟨wm, hwm⟩ : ∃ wm, wm = w3.alloc (.map #[] 0) := ⟨_, rfl⟩
  obtain ⟨mb, hmb⟩ : ∃ mb, mb = w3.heap.size := ⟨_, rfl⟩
  have H0 := Lib.hid (show SetRel T w es tb ub mb (.int .i64 0) wm by
    have hlow3 : Below w.heap.size w w3 := H2.out.2.2.trans (H3.out.2.2.mono H2.out.2.2.size)
    have hba : Below w3.heap.size w3 wm := by rw [hwm]; exact (Below.refl _ w3).alloc (Nat.le_refl _) _
    have hmap : OwnE wm mb 0 (.map []) := by rw [hwm, hmb]; exact World.ownsMap_made w3 _ _ _
    have ht3 := I.below H2.out.1 H3.out.2.2
    refine ⟨0, D, E, [], [], 0, .map [], Nat.zero_le _, rfl, ⟨⟨I.below ht3 hba, I.below H3.out.1 hba, fun k hk he => ?_, hmap, fun hk => ?_, fun hk => ?_, by rw [hmb]; exact hlow3.size, hlow3.trans (hba.mono hlow3.size)⟩, KB.nil, fun x => by simp, fun x => by simp, Sm.nil 0, Nat.le_refl _, Nat.le_refl _, fun x hx => by simp at hx, fun e kl _ hh => by simp [Maps.has] at hh⟩⟩
    · have := (I.foot H2.out.1 hk).2
      have := H3.out.2.1 k he
      omega
    · have := (I.foot ht3 hk).2
      omega
    · have := (I.foot H3.out.1 hk).2
      omega)
  rw [← hwm, ← hmb]
  clear hwm hmb H2 H3 hmm
  go_loopw [8] (fun i wr => SetRel T w es tb ub mb i wr) (fun i _ => n - (intOf i).toNat)
  case atStart => exact H0.out
  case round =>
    obtain ⟨k, D, E, l, m, cnt, Dm, hk, rfl, hS⟩ := hrel
    rw [← H.out.2.2.2.1] at hk
    have hk0 : (0 : Int) ≤ (k : Int) := Int.natCast_nonneg _
    have HS := Lib.hid hS
    clear hS
    by_cases hlt : k < n
    · have hlt1 : (k : Int) < (n : Int) := by omega
      have hkl : k < es.length := by rw [← H.out.2.2.2.1]; exact hlt
      obtain ⟨ad, rfl, had, d0, d1, d2⟩ := (H.out.1.below HS.out.s.low (Nat.le_refl _)).en hkl
      obtain ⟨x, hx⟩ : ∃ x, x = es[k] := ⟨_, rfl⟩
      rw [← hx] at d0 d1 d2
      have HX := Lib.hid (show x = es[k] ∧ x.In from ⟨hx, by rw [hx]; exact H.out.2.1 _ (List.getElem_mem hkl)⟩)
      clear hx
      by_cases hx5 : 500 < x.s.size
      · have hx5i : (500 : Int) < (x.s.size : Int) := by omega
        go_wp2_with fail
        go_ret
        exact ⟨rfl, HS.out.s.low⟩
      have hx5i : ¬ (500 : Int) < (x.s.size : Int) := by omega
      obtain ⟨kl, hkey⟩ := HX.out.2.key
      have hbd : Below wr.heap.size wr wr.drew := ⟨rfl, rfl, rfl, Nat.le_refl _, fun _ _ => rfl⟩
      have HSD := Lib.hid (HS.out.s.below I hbd)
      have hlk := lookup_ent HSD.out.map HS.out.kb hkey
      have hlk0 := lookup_ent HS.out.s.map HS.out.kb hkey
      obtain ⟨b, hb⟩ : ∃ b, b = plB l x := ⟨_, rfl⟩
      have HIN := Lib.hid (I.ins x HSD.out.t (HS.out.sl.small (by omega)).few HSD.out.low.size (by omega) HX.out.2.num)
      rw [← hb] at hlk hlk0 HIN
      have HKEY := Lib.hid hkey
      have HB := Lib.hid hb
      have hnb : ((!b) == b) = false := by cases b <;> rfl
      unfold En.val at hlk hlk0 HIN
      clear hkey hb hbd
      go_upto_region 13 with fail
      go_cut [54] (fun v wx => v = .bool false ∧ ∃ D', St2 T w wx tb ub D' E (insL l x) m mb cnt Dm)
      case first =>
        go_region_held3 (fun w' => w'.cell? (ad.add (k * 3)) = some (.string x.s) ∧ w'.cell? ⟨(ad.add (k * 3)).block, (ad.add (k * 3)).off + 1, none⟩ = some (.int .i64 x.p) ∧ w'.cell? ⟨(ad.add (k * 3)).block, (ad.add (k * 3)).off + 2, none⟩ = some (.int .i64 x.k) ∧ (Instr.lookup 51 (.map (some mb)) (.agg #[.string x.s, .int .i64 x.p, .int .i64 x.k]) false).run Try.prog w' = .ok (.bool b) w')
          (first
            | exact H4.out.2
            | exact ⟨d0, d1, d2, hlk0⟩
            | exact ⟨d0, d1, d2, hlk⟩
            | (go_split_ands; exact ⟨‹_›, ‹_›, ‹_›, ‹_›⟩))
          (first
            | (go_at_call 18; refine HIN.out.mono ?_; rintro e w5 ⟨rfl, ht5, hc5⟩; have H4 := Lib.hid (setin_ins I HSD.out H.out.1 hkl HX.out.1 HS.out.kb HKEY.out HB.out ht5 hc5); clear ht5 hc5))
        all_goals
          have HF := Lib.hid H4.out.1
          go_wp2_with fail
          go_meet
          exact ⟨by first | rfl | (congr 1), _, HF.out⟩
      case rest =>
        obtain ⟨rfl, D4, hS4⟩ := hcut
        obtain ⟨adx, eadx, _, d0, d1, d2⟩ := (H.out.1.below hS4.low (Nat.le_refl _)).en hkl
        obtain rfl := Option.some.inj eadx
        rw [← HX.out.1] at d0 d1 d2
        obtain ⟨r, hr⟩ : ∃ r, r = es.length - 1 - k := ⟨_, rfl⟩
        have hrl : r < es.length := by omega
        have hri : (n : Int) - 1 - (k : Int) = (r : Int) := by have := H.out.2.2.2.1; omega
        have hr0 : (0 : Int) ≤ (r : Int) := Int.natCast_nonneg _
        have hrn : (r : Int) < (n : Int) := by have := H.out.2.2.2.1; omega
        obtain ⟨y, hy⟩ : ∃ y, y = es[r] := ⟨_, rfl⟩
        have HY := Lib.hid (show y = es[r] ∧ y.In ∧ y.s.size ≤ K ∧ r = es.length - 1 - k from ⟨hy, by rw [hy]; exact H.out.2.1 _ (List.getElem_mem hrl), by rw [hy]; exact H.out.2.2.2.2.2 _ (List.getElem_mem hrl), hr⟩)
        have HS4 := Lib.hid hS4
        clear hS4 hy hr
        go_upto_region 16 with (first | (at_mapUpdate; refine at_tell _ rfl _ _ _ rfl mb cnt Dm rfl HS4.out.map (by have := HS.out.hn; unfold maxLen; omega) x kl rfl HKEY.out true rfl ?_; intro w6 hown6 hgr6; have HS6 := Lib.hid (HS4.out.tell I hown6 hgr6); clear hown6 hgr6))
        obtain ⟨ady, eady, _, e0, e1, e2⟩ := (H.out.1.below HS6.out.low (Nat.le_refl _)).en hrl
        obtain rfl := Option.some.inj eady
        rw [← HY.out.1] at e0 e1 e2
        have HIN2 := Lib.hid (I.ins y HS6.out.u (by have := HS.out.sm; omega) HS6.out.low.size HY.out.2.2.1 HY.out.2.1.num)
        unfold En.val at HIN2
        clear d0 d1 d2
        go_wp2_with (first
          | (go_at_call 18; refine HIN2.out.mono ?_; rintro e w7 ⟨rfl, hu7, hc7⟩; have HS7 := Lib.hid (HS6.out.stepU I hu7 hc7); clear hu7 hc7))
        go_roundw
        case rel =>
          refine ⟨k + 1, _, _, _, _, _, _, by have := H.out.2.2.2.1; omega, by go_num, HS.out.step I ?_ ?_ (by omega) HKEY.out HS7.out⟩
          · rw [List.getElem?_eq_getElem hkl, HX.out.1]
          · rw [← HY.out.2.2.2, List.getElem?_eq_getElem hrl, HY.out.1]
        case measure => simp [intOf]; omega
    · obtain rfl : k = n := by omega
      have hlt1 : ¬ ((k : Int) < (k : Int)) := by omega
      have hd := HS.out
      rw [H.out.2.2.2.1] at hd
      have HD := Lib.hid (hd.done I (by have := H.out.2.2.2.1; omega))
      clear hd HS
      go_wp2_with fail
      go_loopw [9] (fun i wr => ∃ (j : Nat) (D E : Nat → Prop) (l : List En) (cnt : Nat) (Dm : DataW Value), j ≤ q ∧ i = .int .i64 j ∧ Set2 T w es tb ub mb j wr D E l cnt Dm) (fun i _ => q - (intOf i).toNat)
      case atStart => exact ⟨0, _, _, _, _, _, Nat.zero_le _, rfl, HD.out⟩
      case round =>
        obtain ⟨j, D, E, l, cnt, Dm, hj, rfl, hS⟩ := hrel
        have hj0 : (0 : Int) ≤ (j : Int) := Int.natCast_nonneg _
        have HS := Lib.hid hS
        clear hS
        go_upto_region 18 with fail
        go_cut [78] (fun v wx => v = .bool (decide (j < q ∧ 0 < k)) ∧ wx = wr)
        case first =>
          by_cases h1 : j < q
          · have i1 : (j : Int) < (q : Int) := by omega
            have b1 : decide ((j : Int) < (q : Int)) = true := decide_eq_true i1
            by_cases h2 : 0 < k
            · have i2 : (0 : Int) < (k : Int) := by omega
              have b2 : decide ((0 : Int) < (k : Int)) = true := decide_eq_true i2
              have b3 : decide (j < q ∧ 0 < k) = true := decide_eq_true (p := j < q ∧ 0 < k) ⟨h1, h2⟩
              go_wp2_with fail
              go_meet
              exact ⟨congrArg Value.bool b3.symm, rfl⟩
            · have i2 : ¬ (0 : Int) < (k : Int) := by omega
              have b2 : decide ((0 : Int) < (k : Int)) = false := decide_eq_false i2
              have b3 : decide (j < q ∧ 0 < k) = false := decide_eq_false fun h => h2 h.2
              go_wp2_with fail
              go_meet
              exact ⟨congrArg Value.bool b3.symm, rfl⟩
          · have i1 : ¬ (j : Int) < (q : Int) := by omega
            have b1 : decide ((j : Int) < (q : Int)) = false := decide_eq_false i1
            have b3 : decide (j < q ∧ 0 < k) = false := decide_eq_false fun h => h1 h.1
            go_wp2_with fail
            go_meet
            exact ⟨congrArg Value.bool b3.symm, rfl⟩
        case rest =>
          obtain ⟨rfl, hwx⟩ := hcut
          have hwx' := hwx.symm
          clear hwx
          subst hwx'
          by_cases hgo : j < q ∧ 0 < k
          · have b3 : decide (j < q ∧ 0 < k) = true := decide_eq_true hgo
            rw [b3]
            have hjl : j < cs.length := by rw [← H.out.2.2.2.2.1]; exact hgo.1
            have hk0 : (0 : Int) < (k : Int) := by omega
            have hj1 : (j : Int) < (q : Int) := by omega
            have hcj := H.out.2.2.1.below HS.out.s.low (Nat.le_refl _)
            obtain ⟨ad2, rfl, _⟩ := hcj.lo (by omega)
            have c0 : wr.cell? (ad2.add j) = some (.int .i64 cs[j]) := by
              obtain ⟨ad', e, hc⟩ := hcj.cell j hjl 0 _ rfl
              obtain rfl := Option.some.inj e
              rw [Nat.mul_one, Nat.add_zero] at hc
              exact hc
            obtain ⟨z, hz⟩ : ∃ z, z = cs[j] := ⟨_, rfl⟩
            rw [← hz] at c0
            obtain ⟨v, hv, hvz⟩ := and_1023 z
            obtain ⟨r, hr⟩ : ∃ r, r = v % k := ⟨_, rfl⟩
            have hrk : r < k := by rw [hr]; exact Nat.mod_lt _ (by omega)
            have hrem : Int.tmod (v : Int) (k : Int) = (r : Int) := by rw [hr]; exact Int.ofNat_tmod ..
            have hrl : r < es.length := by rw [← H.out.2.2.2.1]; exact hrk
            obtain ⟨ad, rfl, _, d0, d1, d2⟩ := (H.out.1.below HS.out.s.low (Nat.le_refl _)).en hrl
            obtain ⟨x, hx⟩ : ∃ x, x = es[r] := ⟨_, rfl⟩
            rw [← hx] at d0 d1 d2
            have HX := Lib.hid (show x ∈ es ∧ x.In from ⟨by rw [hx]; exact List.getElem_mem hrl, by rw [hx]; exact H.out.2.1 _ (List.getElem_mem hrl)⟩)
            have hr0 : (0 : Int) ≤ (r : Int) := Int.natCast_nonneg _
            have hrki : (r : Int) < (k : Int) := by omega
            have hkz : ¬ (k : Int) = 0 := by omega
            have HR := Lib.hid (And.intro hr (And.intro hz hv))
            clear hcj hx hr hz hv
            go_upto_region 21 with fail
            obtain ⟨w5, hw5⟩ : ∃ w5, w5 = wr.alloc (.cells #[.string x.s, .int .i64 x.p, .int .i64 x.k] 35) := ⟨_, rfl⟩
            have hb5 : Below wr.heap.size wr w5 := by rw [hw5]; exact (Below.refl _ wr).alloc (Nat.le_refl _) _
            have t5 : Blk w5 wr.heap.size 35 #[.string x.s, .int .i64 x.p, .int .i64 x.k] := by rw [hw5]; exact Blk.new _ _ _
            rw [← hw5]
            obtain ⟨eb, heb⟩ : ∃ eb, eb = wr.heap.size := ⟨_, rfl⟩
            rw [← heb] at t5 ⊢
            have hbd : Below w5.heap.size w5 w5.drew := ⟨rfl, rfl, rfl, Nat.le_refl _, fun _ _ => rfl⟩
            have HS5 := Lib.hid (HS.out.s.below I hb5)
            have HSD := Lib.hid (HS5.out.below I hbd)
            have hnD : ¬ D eb := fun hk => by have := (I.foot HS.out.s.t hk).2; omega
            have hnE : ¬ E eb := fun hk => by have := (I.foot HS.out.s.u hk).2; omega
            obtain ⟨kl, hkey⟩ := HX.out.2.key
            obtain ⟨b, hb⟩ : ∃ b, b = plB l x := ⟨_, rfl⟩
            have hx1000 : x.s.size ≤ 1000 := HS.out.chk x HX.out.1
            have hsml : Small l := HS.out.sm.small (by omega)
            have HDEL := Lib.hid (I.del x HSD.out.t hsml HSD.out.low.size (by omega))
            have hsee0 : SeeE eb mb x b w5 := SeeE.of t5 HS5.out.map HS.out.kb hkey hb
            have hsee : SeeE eb mb x b w5.drew := SeeE.of t5.drew HSD.out.map HS.out.kb hkey hb
            rw [← hb] at HDEL
            have hbb : (b != b) = false := by cases b <;> rfl
            have T5 := Lib.hid (And.intro t5 (And.intro hnD (And.intro hnE (And.intro hsml (And.intro hkey (And.intro hb hx1000))))))
            have HEB := Lib.hid (And.intro heb (And.intro hw5 (And.intro hsee0 hsee)))
            unfold En.val at HDEL
            clear t5 hnD hnE hsml hkey hb hb5 hbd heb hw5 hsee0 hsee c0 d0 d1 d2
            go_cut [107] (fun v wx => v = .bool false ∧ ∃ D' E', St2 T w wx tb ub D' E' (delL l x) (delL l x) mb cnt Dm ∧ Blk wx eb 35 #[.string x.s, .int .i64 x.p, .int .i64 x.k])
            case first =>
              go_region_held3 (fun w' => w'.cell? ⟨eb, 0, none⟩ = some (.string x.s) ∧ w'.cell? ⟨eb, 1, none⟩ = some (.int .i64 x.p) ∧ w'.cell? ⟨eb, 2, none⟩ = some (.int .i64 x.k) ∧ (Instr.lookup 51 (.map (some mb)) (.agg #[.string x.s, .int .i64 x.p, .int .i64 x.k]) false).run Try.prog w' = .ok (.bool b) w')
                (first
                  | exact H6.out.2.2
                  | exact H4.out.2.2.2
                  | exact HEB.out.2.2.1
                  | exact HEB.out.2.2.2
                  | (go_split_ands; exact ⟨‹_›, ‹_›, ‹_›, ‹_›⟩))
                (first
                  | (go_at_call 19; refine HDEL.out.mono ?_; rintro e w6 ⟨rfl, ht6, hc6⟩; have H4 := Lib.hid (del_t I HSD.out T5.out.1.drew T5.out.2.1 HS.out.kb T5.out.2.2.2.2.1 T5.out.2.2.2.2.2.1 ht6 hc6); clear ht6 hc6)
                  | (go_at_call 19; refine (del_u I H4.out.1 H4.out.2.1 T5.out.2.2.1 T5.out.2.2.2.1 HS.out.kb T5.out.2.2.2.2.1 T5.out.2.2.2.2.2.1 (Nat.le_trans T5.out.2.2.2.2.2.2 hK)).mono ?_; rintro e w7 ⟨rfl, E7, h7⟩; have H6 := Lib.hid h7; clear h7))
              all_goals
                have HF := Lib.hid (show ∃ D' E', St2 T w _ tb ub D' E' (delL l x) (delL l x) mb cnt Dm ∧ _ from ⟨_, _, H6.out.1, H6.out.2.1⟩)
                go_wp2_with fail
                go_meet
                exact ⟨by first | rfl | (congr 1), HF.out⟩
            case rest =>
              obtain ⟨rfl, D7, E7, hS7, hb7⟩ := hcut
              have f0 := hb7.cell 0
              have f1 := hb7.cell 1
              have f2 := hb7.cell 2
              simp only [List.getElem?_toArray, List.getElem?_cons_zero, List.getElem?_cons_succ] at f0 f1 f2
              have HS7 := Lib.hid hS7
              clear hS7 hb7
              go_wp2_with (first | (at_mapUpdate; refine at_tell _ rfl _ _ _ rfl mb cnt Dm rfl HS7.out.map (by have := HS.out.hn; unfold maxLen; omega) x kl rfl T5.out.2.2.2.2.1 false rfl ?_; intro w8 hown8 hgr8; have HS8 := Lib.hid (HS7.out.tell I hown8 hgr8); clear hown8 hgr8))
              go_roundw
              case rel => exact ⟨j + 1, _, _, _, _, _, by omega, by go_num, HS.out.step I HX.out.1 T5.out.2.2.2.2.1 HS8.out⟩
              case measure => simp [intOf]; omega
          · have b3 : decide (j < q ∧ 0 < k) = false := decide_eq_false hgo
            rw [b3]
            obtain ⟨wl, hwl⟩ : ∃ wl, wl = wr := ⟨_, rfl⟩
            subst hwl
            go_wp2_with (first | (at_range; refine wpList_range_own _ rfl _ 51 rfl 35 4 entK Try.underlying51 RB mb cnt Dm rfl HS.out.s.map ?_))
            intro w5 hrg hg5 hs5
            have hb5 : Below wl.heap.size wl w5 := ⟨hg5.os, hg5.tape, hg5.output, hg5.size, fun i hi => hg5.block i hi (by simp)⟩
            have hk : ∀ x ∈ l, ∃ kl, KeyE x kl := fun x hx => (H.out.2.1 x (HS.out.mem x hx)).key
            have HK5 := Lib.hid (And.intro (show ∃ (c : Nat) (left : Lit → Bool) (cl : Nat), Value.int .i64 0 = .int .i64 c ∧ St2 T w w5 tb ub D E l l mb cnt Dm ∧ w5.ranges Try.prog 35 RB mb wl.heap.size cnt Dm left cl ∧ (∀ kz, left kz = true → Maps.has Dm kz = true) ∧ c + leftN left l = l.length from
              ⟨0, _, _, rfl, HS.out.s.below I hb5, hrg, fun _ h => h, by rw [Nat.zero_add]; exact leftN_all HS.out.kb (I.srt HS.out.s.t) hk _ fun _ h => h⟩) (And.intro HS.out.s.low.size (I.srt HS.out.s.t)))
            clear hrg hg5 hs5 hb5 hk
            obtain ⟨rb, hrb⟩ : ∃ rb, rb = wl.heap.size := ⟨_, rfl⟩
            rw [← hrb] at HK5 ⊢
            have HRB := Lib.hid hrb
            clear hrb
            go_wp2_with fail
            go_loopw [11] (fun nv wx => ∃ (c : Nat) (left : Lit → Bool) (cl : Nat), nv = .int .i64 c ∧ St2 T w wx tb ub D E l l mb cnt Dm ∧ wx.ranges Try.prog 35 RB mb rb cnt Dm left cl ∧ (∀ kz, left kz = true → Maps.has Dm kz = true) ∧ c + leftN left l = l.length) (fun _ wx => wx.rangeLeft mb rb)
            case atStart => exact HK5.out.1
            case round =>
              obtain ⟨c, left, cl, rfl, hS, hrg, hll, hcl⟩ := hrel
              have hc0 : (0 : Int) ≤ (c : Int) := Int.natCast_nonneg _
              have hlb : l.length ≤ 600 := by have := HS.out.sm.few; omega
              have hc6 : c ≤ 600 := by omega
              have HR := Lib.hid (And.intro hS (And.intro hrg (And.intro hll hcl)))
              clear hS hrg hll hcl
              go_wp2_with (first | (at_next; refine at_next_ent _ rfl _ rfl mb rb cnt Dm left cl l HS.out.kb HR.out.2.2.1 rfl HR.out.2.1 ?_ ?_))
              · intro hdone
                obtain rfl : c = l.length := by
                  have h1 := leftN_none (l := l) hdone
                  have h2 := HR.out.2.2.2
                  omega
                have HSM := Lib.hid (HS.out.sm.small (by omega))
                obtain ⟨nl, hnl⟩ : ∃ nl, nl = l.length := ⟨_, rfl⟩
                have HAL := Lib.hid (I.all HR.out.1.t HSM.out)
                rw [← hnl] at hlb HAL ⊢
                have hnl0 : (0 : Int) ≤ (nl : Int) := Int.natCast_nonneg _
                have HNL := Lib.hid hnl
                clear hdone hnl hc0 hc6
                go_wp2_with fail
                refine HAL.out.mono ?_
                rintro r w6 ⟨A6, c6, n6, rfl, rfl, ho6, hb6⟩
                have H6 := Lib.hid (And.intro (HR.out.1.below I hb6) ho6)
                clear hb6 HAL ho6
                go_wp2_with fail
                go_loopw [15] (fun iv wx => ∃ i : Nat, i ≤ n6 ∧ iv = .int .i64 ((i + 1 : Nat) : Int) ∧ Below w6.heap.size w6 wx) (fun iv _ => n6 + 1 - (intOf iv).toNat)
                case atStart => exact ⟨0, Nat.zero_le _, rfl, Below.refl _ _⟩
                case round =>
                  obtain ⟨i', hi, rfl, hbw⟩ := hrel
                  obtain ⟨i, hii⟩ : ∃ i, i = i' + 1 := ⟨_, rfl⟩
                  rw [← hii]
                  have hi0 : (0 : Int) ≤ (i : Int) := Int.natCast_nonneg _
                  have hi0' : (0 : Int) ≤ (i' : Int) := Int.natCast_nonneg _
                  have hsub : (i : Int) - 1 = (i' : Int) := by omega
                  have HBW := Lib.hid hbw
                  have HII := Lib.hid hii
                  clear hbw
                  by_cases hlt4 : i < n6
                  · have hl4 : (i : Int) < (n6 : Int) := by omega
                    have hl4' : (i' : Int) < (n6 : Int) := by omega
                    have hil : i < l.length := by rw [← HNL.out]; exact hlt4
                    have hil' : i' < l.length := by omega
                    obtain ⟨g, cap, hv, _, hgl⟩ := H6.out.2.form (by omega)
                    injection hv with v1 v2 v3
                    clear v2 v3
                    subst v1
                    obtain ⟨a1, a2, a3⟩ := ecs_at hil'
                    obtain ⟨b1, b2, b3⟩ := ecs_at hil
                    have d0 : wr.cell? ⟨g, i' * 3, none⟩ = some (.string l[i'].s) := by rw [HBW.out.cell (p := ⟨g, i' * 3, none⟩) hgl, H6.out.2.cellAt _ (by omega)]; exact a1
                    have d1 : wr.cell? ⟨g, i' * 3 + 1, none⟩ = some (.int .i64 l[i'].p) := by rw [HBW.out.cell (p := ⟨g, i' * 3 + 1, none⟩) hgl, H6.out.2.cellAt _ (by omega)]; exact a2
                    have d2 : wr.cell? ⟨g, i' * 3 + 2, none⟩ = some (.int .i64 l[i'].k) := by rw [HBW.out.cell (p := ⟨g, i' * 3 + 2, none⟩) hgl, H6.out.2.cellAt _ (by omega)]; exact a3
                    have e0 : wr.cell? ⟨g, i * 3, none⟩ = some (.string l[i].s) := by rw [HBW.out.cell (p := ⟨g, i * 3, none⟩) hgl, H6.out.2.cellAt _ (by omega)]; exact b1
                    have e1 : wr.cell? ⟨g, i * 3 + 1, none⟩ = some (.int .i64 l[i].p) := by rw [HBW.out.cell (p := ⟨g, i * 3 + 1, none⟩) hgl, H6.out.2.cellAt _ (by omega)]; exact b2
                    have e2 : wr.cell? ⟨g, i * 3 + 2, none⟩ = some (.int .i64 l[i].k) := by rw [HBW.out.cell (p := ⟨g, i * 3 + 2, none⟩) hgl, H6.out.2.cellAt _ (by omega)]; exact b3
                    have hord : ordE l[i'] l[i] < 0 := (List.pairwise_iff_getElem.1 HK5.out.2.2) i' i hil' hil (by omega)
                    have hxk : l[i'].s.size ≤ 1000 := HS.out.sm.key _ (List.getElem_mem hil')
                    have hyk : l[i].s.size ≤ 1000 := HS.out.sm.key _ (List.getElem_mem hil)
                    obtain ⟨x, hx⟩ : ∃ x, x = l[i'] := ⟨_, rfl⟩
                    obtain ⟨y, hy⟩ : ∃ y, y = l[i] := ⟨_, rfl⟩
                    rw [← hx] at d0 d1 d2 hord hxk
                    rw [← hy] at e0 e1 e2 hord hyk
                    obtain ⟨o, ho⟩ : ∃ o, o = ordE x y := ⟨_, rfl⟩
                    have HO := Lib.hid (fun w0 => order_o ho hxk hyk w0)
                    rw [← ho] at hord
                    have hon : ¬ 0 ≤ o := by omega
                    have hod : decide (0 ≤ o) = false := decide_eq_false hon
                    have q0 := BelowBy.cell d0
                    have q1 := BelowBy.cell d1
                    have q2 := BelowBy.cell d2
                    have r0 := BelowBy.cell e0
                    have r1 := BelowBy.cell e1
                    have r2 := BelowBy.cell e2
                    clear a1 a2 a3 b1 b2 b3 hx hy ho hii
                    go_upto_region 36 with fail
                    go_cut [143] (fun v wx => v = .bool false ∧ Below wr.heap.size wr wx)
                    case first =>
                      refine wp_region_below hmx (by kernel_rfl) ?_
                      repeat (go_big_quiet_step (first | (go_at_call 23; with_reducible exact calls_below (HO.out _))))
                      refine wpQuiet_nil ?_
                      intro _ hw'
                      obtain ⟨pq, hw''⟩ := hw'
                      subst hw''
                      have HB3 := Lib.hid pq.h
                      go_wp2
                      go_meet
                      case rel => exact ⟨rfl, HB3.out⟩
                    case rest =>
                      obtain ⟨rfl, hb4⟩ := hcut
                      have HF := Lib.hid (HBW.out.trans (hb4.mono HBW.out.size))
                      clear hb4 d0 d1 d2 e0 e1 e2
                      go_wp2_with fail
                      go_roundw
                      case rel => exact ⟨i, by omega, by go_num, HF.out⟩
                      case measure => simp [intOf]; omega
                  · have hl4 : ¬ (i : Int) < (n6 : Int) := by omega
                    have HT := Lib.hid (H6.out.1.below I HBW.out)
                    have hcn := I.count HT.out.t HSM.out
                    rw [← HNL.out] at hcn
                    have HCN := Lib.hid hcn
                    clear hcn
                    clear hii
                    go_wp2_with fail
                    refine HCN.out.mono ?_
                    rintro r w7 ⟨rfl, hb7⟩
                    have HU := Lib.hid (HT.out.below I hb7)
                    have HAU := Lib.hid (I.all HU.out.u HSM.out)
                    have ho7 := own_chg (own_chg H6.out.2 (F := Non) (Chg.of_below HBW.out) fun _ _ hf => hf) (F := Non) (Chg.of_below hb7) fun _ _ hf => hf
                    have HO7 := Lib.hid ho7
                    clear hb7 HCN ho7
                    go_wp2_with fail
                    refine HAU.out.mono ?_
                    rintro r w8 ⟨A8, c8, n8, rfl, hn8, ho8, hb8⟩
                    have ho78 := own_chg HO7.out (F := Non) (Chg.of_below hb8) fun _ _ hf => hf
                    have HSE := Lib.hid (sameE_yes HNL.out hn8 ho78 ho8 (by rw [← HNL.out]; omega))
                    have H8 := Lib.hid (HU.out.below I hb8)
                    clear hn8 ho8 hb8 ho78 HAU
                    go_wp2_with fail
                    refine HSE.out.mono ?_
                    rintro r w9 ⟨rfl, hb9⟩
                    have H9 := Lib.hid (H8.out.low.trans (hb9.mono H8.out.low.size))
                    clear hb9 HSE
                    go_wp2_with fail
                    go_ret
                    exact ⟨rfl, H9.out⟩
              · intro e kl w6 left' cl' hkey hlk hlk' hother hll' hrg6 hlt6 hgr6 hsz6 hen6
                have hc6w : Chg (fun i => i = rb) wr w6 := (Chg.refl _ wr).grown hgr6 (fun i hi _ => by cases hi; rfl)
                have hS6 : St2 T w w6 tb ub D E l l mb cnt Dm := HR.out.1.other I hc6w fun i hi => by
                  subst hi
                  have hmlt := HS.out.s.map.lt
                  have hrb := HRB.out
                  exact ⟨fun hd => by have := (I.foot HS.out.s.t hd).2; omega, fun hd => by have := (I.foot HS.out.s.u hd).2; omega, by omega, by have := HK5.out.2.1; omega⟩
                have hee : e ∈ es := HS.out.src e kl hkey (HR.out.2.2.1 kl hlk)
                have hba : Below w6.heap.size w6 (w6.alloc (.cells #[.string e.s, .int .i64 e.p, .int .i64 e.k] 35)) := (Below.refl w6.heap.size w6).alloc (Nat.le_refl _) _
                have HHAS := Lib.hid (I.has e (hS6.below I hba).t (HS.out.sm.small (by omega)) (Nat.le_trans (HS.out.chk e hee) (Nat.le_refl _)))
                obtain ⟨b, hb⟩ : ∃ b, b = plB l e := ⟨_, rfl⟩
                have H6 := Lib.hid (And.intro (hS6.below I hba) (And.intro (chg_ranges hrg6 hba) (And.intro hll' hlt6)))
                have hcnt : (b = true → c + 1 + leftN left' l = l.length) ∧ (b = false → c + leftN left' l = l.length) := by
                  refine ⟨fun h => ?_, fun h => ?_⟩
                  · have h1 := leftN_yes hkey hother hlk hlk' HK5.out.2.2 ((plB_mem HK5.out.2.2 e).1 (hb ▸ h))
                    have h2 := HR.out.2.2.2
                    omega
                  · have h1 := leftN_no (l := l) hkey (fun hm => by have h3 := (plB_mem HK5.out.2.2 e).2 hm; rw [← hb, h] at h3; cases h3) hother
                    have h2 := HR.out.2.2.2
                    omega
                have HC := Lib.hid hcnt
                rw [← hb] at hen6 HHAS
                have hbb : (b != b) = false := by cases b <;> rfl
                unfold En.val at hen6 HHAS
                rw [← hb]
                unfold En.val
                clear hkey hlk hlk' hother hll' hrg6 hlt6 hgr6 hc6w hS6 hee hba hb hcnt
                go_wp2_with fail
                refine HHAS.out.mono ?_
                rintro r w8 ⟨rfl, hb8⟩
                have HS8 := Lib.hid (And.intro (H6.out.1.below I hb8) (chg_ranges H6.out.2.1 hb8))
                clear hb8 HHAS hen6 hsz6
                have hmz : w8.rangeLeft mb rb < wr.rangeLeft mb rb := by rw [HS8.out.2.left_eq, HR.out.2.1.left_eq]; exact H6.out.2.2.2
                have HMZ := Lib.hid hmz
                clear hmz
                cases b with
                | true =>
                  have HF := Lib.hid (show ∃ (c' : Nat) (left : Lit → Bool) (cl : Nat), Value.int .i64 ((c : Int) + 1) = .int .i64 c' ∧ St2 T w w8 tb ub D E l l mb cnt Dm ∧ w8.ranges Try.prog 35 RB mb rb cnt Dm left cl ∧ (∀ kz, left kz = true → Maps.has Dm kz = true) ∧ c' + leftN left l = l.length from ⟨c + 1, _, _, by go_num, HS8.out.1, HS8.out.2, H6.out.2.2.1, HC.out.1 rfl⟩)
                  go_wp2_with fail
                  go_roundw
                  case rel => exact HF.out
                  case measure => exact HMZ.out
                | false =>
                  have HF := Lib.hid (show ∃ (c' : Nat) (left : Lit → Bool) (cl : Nat), Value.int .i64 (c : Int) = .int .i64 c' ∧ St2 T w w8 tb ub D E l l mb cnt Dm ∧ w8.ranges Try.prog 35 RB mb rb cnt Dm left cl ∧ (∀ kz, left kz = true → Maps.has Dm kz = true) ∧ c' + leftN left l = l.length from ⟨c, _, _, rfl, HS8.out.1, HS8.out.2, H6.out.2.2.1, HC.out.2 rfl⟩)
                  go_wp2_with fail
                  go_roundw
                  case rel => exact HF.out
                  case measure => exact HMZ.out
end Go.Proofs.Ytiaclfldgagalaa
