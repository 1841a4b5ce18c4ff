/-
  TimerDrops over a contract of the timers.
-/
import Derived.Test.YtcjhkafdfeopfaaTmK
namespace Go.Proofs.Ytcjhkafdfeopfaa
open Go.RowKit Go.Lib Go.Maps

/-- timers and the map tell the same -/
def DrIn (T : TmP) (f : Int → Lit) (e : TypeId) (w0 : World) (tb mb m : Nat) (wr : World) (D : Nat → Prop) (l : List On) (cnt : Nat) (Dm : DataW Value) : Prop :=
  Tm T e w0 wr tb D l mb cnt Dm ∧ KD f Dm l ∧ l.length ≤ 200 ∧ NumL l ∧ cnt ≤ m
/-- behind a drop: the state, what a load sees, what the map tells -/
theorem drop_see {T : TmP} (I : Impl T) {w0 w w6 : World} {tb mb cnt j : Nat} {D : Nat → Prop} {l : List On} {Dm : DataW Value} {ad : Addr} {ds : List Int} {x : Int} {b : Bool} (h : Tm T 4 w0 w tb D l mb cnt Dm) (hd : RowG intV 1 w0 w0.heap.size (some ad) ds) (hj : j < ds.length) (hx : x = ds[j]) (hK : KD (fun _ => .bool true) Dm l) (hn : NumI x) (hb : b = (atO x l).isSome)
    (ht : T w0.heap.size (Ext D w w6) w6 tb (dropO x l)) (hc : Chg D w w6) : Tm T 4 w0 w6 tb (Ext D w w6) (dropO x l) mb cnt Dm ∧ w6.cell? (ad.add j) = some (.int .i64 x) ∧ (Instr.lookup 44 (.map (some mb)) (.int .i64 x) false).run Try.prog w6 = .ok (.bool b) w6 := by
  have h6 := h.step I ht hc
  obtain ⟨ad', e, _, d0⟩ := int_at (hd.below h6.q.low (Nat.le_refl _)) hj
  obtain rfl := Option.some.inj e
  rw [← hx] at d0
  have hlk := lookup_b h6.map hK hn
  rw [← hb] at hlk
  exact ⟨h6, d0, hlk⟩
theorem due_all {l : List On} (h : NumL l) : dueO 9223372036854775807 l = l ∧ restO 9223372036854775807 l = [] := by
  induction l with
  | nil => exact ⟨rfl, rfl⟩
  | cons a r ih =>
    have ha : a.t ≤ 9223372036854775807 := (h a List.mem_cons_self).2.2
    obtain ⟨h1, h2⟩ := ih fun x hx => h x (List.mem_cons_of_mem _ hx)
    constructor
    · unfold dueO at h1 ⊢; rw [List.takeWhile_cons, if_pos (by simpa using ha), h1]
    · unfold restO at h2 ⊢; rw [List.dropWhile_cons, if_pos (by simpa using ha), h2]
set_option maxRecDepth 100000 in
set_option maxHeartbeats 12800000 in
theorem tdrops_walk {T : TmP} (I : Impl T) (A : Option Addr) (c : Nat) (cl : List C9) (A2 : Option Addr) (c2 : Nat) (ds : List Int) (w : World) (hc : RowG c9cell 3 w w.heap.size A cl) (hin : ∀ x ∈ cl, x.In) (hds : RowG intV 1 w w.heap.size A2 ds) (hin2 : ∀ x ∈ ds, NumI x) :
    Calls Try.prog 5 #[.slice A cl.length c, .slice A2 ds.length c2] w (YesB w) := by
  obtain ⟨n, hn⟩ : ∃ n, n = cl.length := ⟨_, rfl⟩
  obtain ⟨q, hq⟩ : ∃ q, q = ds.length := ⟨_, rfl⟩
  have H := Lib.hid (And.intro hc (And.intro hin (And.intro hds (And.intro hin2 (And.intro hn hq)))))
  rw [← hn, ← hq]
  have hn0 : (0 : Int) ≤ (n : Int) := Int.natCast_nonneg _
  have hq0 : (0 : Int) ≤ (q : Int) := Int.natCast_nonneg _
  clear hc hin hds hin2 hn hq
  go_enter Try.func5, Try.ntmps5
  go_wp2_with fail
  refine (alive9_any I w).mono ?_
  rintro e w1 ⟨rfl, h1⟩
  have H1 := Lib.hid h1
  clear h1
  by_cases hg1 : 200 < n
  · have g1 : decide ((200 : Int) < (n : Int)) = true := decide_eq_true (by omega)
    have g1' : (200 : Int) < (n : Int) := by omega
    go_wp2_with fail
    go_ret
    exact ⟨rfl, H1.out⟩
  by_cases hg2 : 200 < q
  · have g1 : decide ((200 : Int) < (n : Int)) = false := decide_eq_false (by omega)
    have g1' : ¬ (200 : Int) < (n : Int) := by omega
    have g2 : decide ((200 : Int) < (q : Int)) = true := decide_eq_true (by omega)
    have g2' : (200 : Int) < (q : Int) := by omega
    go_wp2_with fail
    go_ret
    exact ⟨rfl, H1.out⟩
  have g1 : decide ((200 : Int) < (n : Int)) = false := decide_eq_false (by omega)
  have g1' : ¬ (200 : Int) < (n : Int) := by omega
  have g2 : decide ((200 : Int) < (q : Int)) = false := decide_eq_false (by omega)
  have g2' : ¬ (200 : Int) < (q : Int) := by omega
  go_wp2_with fail
  clear g1 g1' g2 g2'
  refine (I.new w1 w.heap.size H1.out.size).mono ?_
  rintro e w2 ⟨tb, D, rfl, ht2, _, hb2⟩
  have hlow2 := H1.out.trans (hb2.mono H1.out.size)
  have H2 := Lib.hid (And.intro ht2 hlow2)
  clear ht2 hlow2 hb2
  have hmm := @run_makeMap Try.prog
  go_wp2_with fail
  obtain ⟨wm, hwm⟩ : ∃ wm, wm = w2.alloc (.map #[] 0) := ⟨_, rfl⟩
  obtain ⟨mb, hmb⟩ : ∃ mb, mb = w2.heap.size := ⟨_, rfl⟩
  have hbm : Below w2.heap.size w2 wm := by rw [hwm]; exact (Below.refl _ w2).alloc (Nat.le_refl _) _
  have H3 := Lib.hid (show ∃ (k : Nat) (D : Nat → Prop) (l : List On) (cnt : Nat) (Dm : DataW Value), k ≤ n ∧ Value.int .i64 0 = .int .i64 k ∧ DrIn T (fun _ => .bool true) 4 w tb mb k wm D l cnt Dm ∧ l.length ≤ k from
    ⟨0, D, [], 0, .map [], Nat.zero_le _, rfl, ⟨⟨⟨I.below H2.out.1 hbm, H2.out.2.trans (hbm.mono H2.out.2.size)⟩, by rw [hwm, hmb]; exact World.ownsMap_made w2 _ _ _, fun hk => by have := (I.foot H2.out.1 hk).2; omega, by rw [hmb]; exact H2.out.2.size⟩, KD.nil _, by simp, NumL.nil, Nat.le_refl _⟩, Nat.le_refl _⟩)
  rw [← hwm, ← hmb]
  clear hwm hmb hbm hmm H2
  go_loopw [7] (fun i wr => ∃ (k : Nat) (D : Nat → Prop) (l : List On) (cnt : Nat) (Dm : DataW Value), k ≤ n ∧ i = .int .i64 k ∧ DrIn T (fun _ => .bool true) 4 w tb mb k wr D l cnt Dm ∧ l.length ≤ k) (fun i _ => n - (intOf i).toNat)
  case atStart => exact H3.out
  case round =>
    obtain ⟨k, D, l, cnt, Dm, hk, rfl, ⟨hT, hK, hl2, hN, hcnt⟩, hlk⟩ := hrel
    have hk0 : (0 : Int) ≤ (k : Int) := Int.natCast_nonneg _
    have HR := Lib.hid (And.intro hT (And.intro hK (And.intro hlk (And.intro hN hcnt))))
    clear hT hK hl2 hN hcnt hlk
    by_cases hlt : k < n
    · have hlt1 : (k : Int) < (n : Int) := by omega
      have hkl : k < cl.length := by rw [← H.out.2.2.2.2.1]; exact hlt
      obtain ⟨ad, rfl, _, _, d1, d2⟩ := (H.out.1.below HR.out.1.q.low (Nat.le_refl _)).c9 hkl
      obtain ⟨x, hx⟩ : ∃ x, x = cl[k] := ⟨_, rfl⟩
      rw [← hx] at d1 d2
      have HX := Lib.hid (show x = cl[k] ∧ x.In from ⟨hx, by rw [hx]; exact H.out.2.1 _ (List.getElem_mem hkl)⟩)
      have HD := Lib.hid (HR.out.1.drew I)
      have HSET := Lib.hid (I.set x.id x.at_ HD.out.q.t (by have := HR.out.2.2.1; omega) HD.out.q.low.size HX.out.2.1 HX.out.2.2)
      clear hx
      go_upto_region 10 with fail
      go_still_tail 11, (by kernel_rfl)
      repeat still_step
      change wpList _ _ _ _ _ wr.drew
      clear d1 d2
      go_wp2_with fail
      refine HSET.out.mono ?_
      rintro e w5 ⟨rfl, ht5, hc5⟩
      have H5 := Lib.hid (HD.out.step I ht5 hc5)
      obtain ⟨adx, eadx, _, _, d1, d2⟩ := (H.out.1.below H5.out.q.low (Nat.le_refl _)).c9 hkl
      obtain rfl := Option.some.inj eadx
      rw [← HX.out.1] at d1 d2
      clear ht5 hc5 HSET
      go_wp2_with (first | (at_mapUpdate; refine at_tell_b _ rfl _ _ _ rfl mb cnt Dm rfl H5.out.map (by have := HR.out.2.2.2.2; unfold maxLen; omega) x.id HX.out.2.1 rfl true rfl ?_; intro w6 hown6 hgr6; have HS6 := Lib.hid (H5.out.tell I hown6 hgr6); clear hown6 hgr6))
      go_roundw
      case rel =>
        have hsl := setO_len ⟨x.id, x.at_⟩ l
        have := HR.out.2.2.1
        exact ⟨k + 1, _, _, _, _, by omega, by go_num, ⟨HS6.out, HR.out.2.1.set (I.ok HR.out.1.q.t) (HR.out.1.map.tidy intK) ⟨x.id, x.at_⟩, by omega, HR.out.2.2.2.1.set (I.ok HR.out.1.q.t) HX.out.2, by have := HR.out.2.2.2.2; omega⟩, by omega⟩
      case measure => simp [intOf]; omega
    · have hlt1 : ¬ (k : Int) < (n : Int) := by omega
      go_wp2_with fail
      go_loopw [8] (fun i wr => ∃ (j : Nat) (D : Nat → Prop) (l : List On) (cnt : Nat) (Dm : DataW Value), j ≤ q ∧ i = .int .i64 j ∧ DrIn T (fun _ => .bool true) 4 w tb mb n wr D l cnt Dm) (fun i _ => q - (intOf i).toNat)
      case atStart => exact ⟨0, D, l, cnt, Dm, Nat.zero_le _, rfl, ⟨HR.out.1, HR.out.2.1, by have := HR.out.2.2.1; omega, HR.out.2.2.2.1, by have := HR.out.2.2.2.2; omega⟩⟩
      case round =>
        obtain ⟨j, D, l, cnt, Dm, hj, rfl, ⟨hT, hK, hl2, hN, hcnt⟩⟩ := hrel
        have hj0 : (0 : Int) ≤ (j : Int) := Int.natCast_nonneg _
        have HR := Lib.hid (And.intro hT (And.intro hK (And.intro hl2 (And.intro hN hcnt))))
        clear hT hK hN hcnt
        by_cases hjq : j < q
        · have hjq1 : (j : Int) < (q : Int) := by omega
          have hjl : j < ds.length := by rw [← H.out.2.2.2.2.2]; exact hjq
          obtain ⟨ad, rfl, hlt2, d0⟩ := int_at (H.out.2.2.1.below HR.out.1.q.low (Nat.le_refl _)) hjl
          obtain ⟨x, hx⟩ : ∃ x, x = ds[j] := ⟨_, rfl⟩
          rw [← hx] at d0
          have HX := Lib.hid (show x = ds[j] ∧ NumI x from ⟨hx, by rw [hx]; exact H.out.2.2.2.1 _ (List.getElem_mem hjl)⟩)
          have HD := Lib.hid (HR.out.1.drew I)
          have hlk := lookup_b HD.out.map HR.out.2.1 HX.out.2
          have hlk0 := lookup_b HR.out.1.map HR.out.2.1 HX.out.2
          obtain ⟨b, hb⟩ : ∃ b, b = (atO x l).isSome := ⟨_, rfl⟩
          have hdr := I.drop x HD.out.q.t (by omega) HD.out.q.low.size HX.out.2
          rw [← hb] at hlk hlk0 hdr
          have HDR := Lib.hid hdr
          have HB := Lib.hid hb
          have hbb : (b != b) = false := by cases b <;> rfl
          clear hx hb hdr hl2
          go_upto_region 15 with fail
          go_cut [67] (fun v wx => v = .bool false ∧ ∃ D', Tm T 4 w wx tb D' (dropO x l) mb cnt Dm)
          case first =>
            go_region_held3 (fun w' => w'.cell? (ad.add j) = some (.int .i64 x) ∧ (Instr.lookup 44 (.map (some mb)) (.int .i64 x) false).run Try.prog w' = .ok (.bool b) w')
              (first
                | exact H4.out.2
                | exact ⟨d0, hlk0⟩
                | exact ⟨d0, hlk⟩
                | (go_split_ands; exact ⟨‹_›, ‹_›⟩))
              (first
                | (go_at_call 11; refine HDR.out.mono ?_; rintro e w6 ⟨rfl, ht6, hc6⟩; have H4 := Lib.hid (drop_see I HD.out H.out.2.2.1 hjl HX.out.1 HR.out.2.1 HX.out.2 HB.out ht6 hc6); clear ht6 hc6))
            all_goals
              have HF := Lib.hid H4.out.1
              go_wp2_with fail
              go_meet
              exact ⟨by first | rfl | (congr 1), _, HF.out⟩
          case rest =>
            obtain ⟨rfl, D4, hT4⟩ := hcut
            obtain ⟨adx, eadx, _, d0⟩ := int_at (H.out.2.2.1.below hT4.q.low (Nat.le_refl _)) hjl
            obtain rfl := Option.some.inj eadx
            rw [← HX.out.1] at d0
            have H4 := Lib.hid hT4
            clear hT4 hlk hlk0
            go_wp2_with (first | (at_delete; refine at_strike_b _ rfl _ _ rfl mb cnt Dm rfl H4.out.map x HX.out.2 rfl ?_; intro w8 hown8 hgr8; have H8 := Lib.hid (H4.out.tell I hown8 hgr8); clear hown8 hgr8))
            go_roundw
            case rel =>
              have hdl := dropO_len2 x l
              have := HR.out.2.2.1
              exact ⟨j + 1, _, _, _, _, by omega, by go_num, ⟨H8.out, HR.out.2.1.drop (I.ok HR.out.1.q.t) (HR.out.1.map.tidy intK) x, by omega, HR.out.2.2.2.1.drop x, HR.out.2.2.2.2⟩⟩
            case measure => simp [intOf]; omega
        · have hjq1 : ¬ (j : Int) < (q : Int) := by omega
          have HDU := Lib.hid (I.due 9223372036854775807 HR.out.1.q.t (by omega) HR.out.1.q.low.size ⟨by decide, by decide⟩)
          rw [(due_all HR.out.2.2.2.1).1, (due_all HR.out.2.2.2.1).2] at HDU
          clear hl2
          go_wp2_with fail
          refine HDU.out.mono ?_
          rintro e w5 ⟨A6, n6, c6, rfl, hn6, ho6, ht6, hc6⟩
          have H5 := Lib.hid (And.intro (HR.out.1.step I ht6 hc6) (And.intro (ids_row ho6 hn6) (And.intro hn6 (chg_map HR.out.1.map hc6 HR.out.1.md))))
          have hn60 : (0 : Int) ≤ (n6 : Int) := Int.natCast_nonneg _
          have hn62 : n6 ≤ 200 := by have := HR.out.2.2.1; omega
          clear hn6 ho6 ht6 hc6 HDU
          go_wp2_with fail
          go_loopw [10] (fun i wr => ∃ p d : Nat, p ≤ n6 ∧ i = .int .i64 p ∧ wr = w5.drewN d) (fun i _ => n6 - (intOf i).toNat)
          case atStart => exact ⟨0, 0, Nat.zero_le _, rfl, rfl⟩
          case round =>
            obtain ⟨p, d, hp, rfl, hw⟩ := hrel
            have hp0 : (0 : Int) ≤ (p : Int) := Int.natCast_nonneg _
            by_cases hpn : p < n6
            · have hpn1 : (p : Int) < (n6 : Int) := by omega
              have hpl : p < l.length := by rw [← H5.out.2.2.1]; exact hpn
              have hbw : Below w5.heap.size w5 wr := by rw [hw]; exact below_dN (Below.refl _ _) _
              obtain ⟨ad, rfl, _, d0⟩ := int_at (H5.out.2.1.below hbw (Nat.le_refl _)) (i := p) (by rw [List.length_map]; exact hpl)
              rw [List.getElem_map] at d0
              obtain ⟨x, hx⟩ : ∃ x, x = l[p] := ⟨_, rfl⟩
              rw [← hx] at d0
              have hxm : x ∈ l := by rw [hx]; exact List.getElem_mem hpl
              have hat : atO x.i l = some x.t := (atO_some (I.ok HR.out.1.q.t).uni).2 hxm
              have hlk := lookup_b (chg_map H5.out.2.2.2 (F := Non) (Chg.of_below hbw) id) HR.out.2.1 (HR.out.2.2.2.1 x hxm).1
              have hlk2 := lookup_b (chg_map H5.out.2.2.2 (F := Non) (Chg.of_below (show Below w5.heap.size w5 wr.drew from ⟨hbw.os, hbw.tape, hbw.output, hbw.size, hbw.block⟩)) id) HR.out.2.1 (HR.out.2.2.2.1 x hxm).1
              rw [hat] at hlk hlk2
              have hlk' : (Instr.lookup 44 (.map (some mb)) (.int .i64 x.i) false).run Try.prog wr = .ok (.bool true) wr := hlk
              have hlk2' : (Instr.lookup 44 (.map (some mb)) (.int .i64 x.i) false).run Try.prog wr.drew = .ok (.bool true) wr.drew := hlk2
              have HW := Lib.hid hw
              clear hw hbw hx hxm hat hlk hlk2
              go_wp2_with fail
              go_roundw
              case rel => exact ⟨p + 1, _, by omega, by go_num, by rw [HW.out]⟩
              case measure => simp [intOf]; omega
            · have hpn1 : ¬ (p : Int) < (n6 : Int) := by omega
              have hbw : Below w5.heap.size w5 wr := by rw [hw]; exact below_dN (Below.refl _ _) _
              have H6 := Lib.hid (H5.out.1.below I hbw)
              have HNX := Lib.hid (I.next H6.out.q.t (by simp))
              rw [show tmRes (nextO []) = .tuple #[.int .i64 0, .bool false] from rfl] at HNX
              clear hw hbw
              go_wp2_with fail
              refine HNX.out.mono ?_
              rintro e w7 ⟨rfl, hb7⟩
              have H7 := Lib.hid (H6.out.below I hb7)
              have HCN := Lib.hid (I.count H7.out.q.t (by simp))
              rw [show (((([] : List On).length) : Nat) : Int) = 0 from rfl] at HCN
              have hsz : (Maps.size Dm : Int) = (n6 : Int) := by rw [HR.out.2.1.size, H5.out.2.2.1]
              clear hb7 HNX
              go_wp2_with (first | (at_len; refine wpList_len_own _ rfl _ 44 rfl 3 4 Try.underlying44 (RE 4) mb cnt Dm rfl H7.out.map ?_; rw [hsz]))
              refine HCN.out.mono ?_
              rintro e w8 ⟨rfl, hb8⟩
              have H8 := Lib.hid (H7.out.below I hb8)
              clear hb8 HCN
              go_wp2_with fail
              go_ret
              exact ⟨rfl, H8.out.q.low⟩
end Go.Proofs.Ytcjhkafdfeopfaa
