/-
  told: a call on both trees.
-/
import Derived.Test.YtiaclfldgagalaaM02
namespace Go.Proofs.Ytiaclfldgagalaa
open Go.RowKit Go.Lib

/-- places that are read -/
theorem rcs_at {l : List En} {i : Nat} (h : i < l.length) : (rcs l)[i * 2]? = some (.int .i64 l[i].p) ∧ (rcs l)[i * 2 + 1]? = some (.int .i64 l[i].k) := by
  induction l generalizing i with
  | nil => simp at h
  | cons a l ih =>
    match i with
    | 0 => exact ⟨rfl, rfl⟩
    | i + 1 =>
      have h1 := ih (i := i) (by simpa using h)
      have e : rcs (a :: l) = [.int .i64 a.p, .int .i64 a.k] ++ rcs l := by simp [rcs, En.rid]
      rw [e, List.getElem?_append_right (by simp; omega), List.getElem?_append_right (by simp; omega)]
      simp only [List.length_cons, List.length_nil, List.getElem_cons_succ]
      rw [show (i + 1) * 2 - (0 + 1 + 1) = i * 2 by omega, show (i + 1) * 2 + 1 - (0 + 1 + 1) = i * 2 + 1 by omega]
      exact h1
set_option maxRecDepth 100000 in
set_option maxHeartbeats 1600000 in
theorem sameRidsE {w : World} {A A' : Option Addr} {n n' c c' B B' : Nat} {l : List En} (hn : n = l.length) (hn' : n' = l.length) (h1 : w.ownsRow B 33 2 (.slice A n c) n (rcs l)) (h2 : w.ownsRow B' 33 2 (.slice A' n' c') n' (rcs l)) (hl : l.length ≤ 1000000) :
    Calls Try.prog 29 #[.slice A n c, .slice A' n' c'] w fun e w' => e = .returned (.bool true) ∧ Below w.heap.size w w' := by
  obtain rfl : n' = n := by rw [hn, hn']
  have H := Lib.hid (And.intro h1 (And.intro h2 hn))
  have hnl : n' ≤ 1000000 := by omega
  clear h1 h2 hn hn'
  go_enter Try.func29, Try.ntmps29
  go_wp2_with fail
  go_loopw [5] (fun i wr => ∃ k d : Nat, k ≤ n' ∧ i = .int .i64 k ∧ wr = w.drewN d) (fun i _ => n' - (intOf i).toNat)
  case atStart => exact ⟨0, 0, by omega, rfl, rfl⟩
  case round =>
    obtain ⟨k, d, hk, rfl, hw⟩ := hrel
    have HW := Lib.hid hw
    have hk0 : (0 : Int) ≤ (k : Int) := Int.natCast_nonneg _
    by_cases hlt : k < n'
    · have hk1 : (k : Int) < (n' : Int) := by omega
      have hkl : k < l.length := by rw [← H.out.2.2]; exact hlt
      obtain ⟨g, cap, hv, _, _⟩ := H.out.1.form (by omega)
      injection hv with v1 v2 v3
      clear v2 v3
      subst v1
      obtain ⟨g', cap', hv', _, _⟩ := H.out.2.1.form (by omega)
      injection hv' with v1 v2 v3
      clear v2 v3
      subst v1
      obtain ⟨a2, a3⟩ := rcs_at hkl
      have hu := fun j (hj : j < n' * 2) => H.out.1.cellAt j hj
      have hu' := fun j (hj : j < n' * 2) => H.out.2.1.cellAt j hj
      have c1 : wr.cell? ⟨g, k * 2, none⟩ = some (.int .i64 l[k].p) := by rw [hw]; exact (hu _ (by omega)).trans a2
      have c2 : wr.cell? ⟨g, k * 2 + 1, none⟩ = some (.int .i64 l[k].k) := by rw [hw]; exact (hu _ (by omega)).trans a3
      have d1 : wr.cell? ⟨g', k * 2, none⟩ = some (.int .i64 l[k].p) := by rw [hw]; exact (hu' _ (by omega)).trans a2
      have d2 : wr.cell? ⟨g', k * 2 + 1, none⟩ = some (.int .i64 l[k].k) := by rw [hw]; exact (hu' _ (by omega)).trans a3
      obtain ⟨x, hx⟩ : ∃ x, x = l[k] := ⟨_, rfl⟩
      rw [← hx] at c1 c2 d1 d2
      clear hw a2 a3 hu hu' hx
      go_wp2_with fail
      go_quiet (fail)
      go_wp2_with fail
      go_roundw
      case rel => exact ⟨k + 1, _, by omega, by go_num, by rw [HW.out]; exact World.drewN_drewN _ _ _⟩
      case measure => simp [intOf]; omega
    · have hkn : ¬ ((k : Int) < (n' : Int)) := by omega
      have hb : Below w.heap.size w wr := by rw [hw]; exact below_dN (Below.refl _ _) _
      have HB := Lib.hid hb
      clear hw hb
      go_wp2_with fail
      go_ret
      exact ⟨rfl, HB.out⟩
set_option maxRecDepth 100000 in
set_option maxHeartbeats 6400000 in
theorem told8_ins {T : TrP} (I : Impl 1000 T) {w0 w : World} {tb rb n : Nat} {D E : Nat → Prop} {l : List En} (h : Tq T w0 w tb rb D E l l) (hs : Sm l n) (hn : n ≤ 1000) (x : C8) (hw : x.what = 0) (hk : x.e.s.size ≤ 500) (ht : x.t.size ≤ 500) (hnx : NumOk x.e) :
    Calls Try.prog 12 #[.pointer (some ⟨tb, 0, none⟩), .pointer (some ⟨rb, 0, none⟩), c8arg x] w (Told8 T w0 tb rb n) := by
  obtain ⟨b, hb'⟩ : ∃ b, b = w.heap.size := ⟨_, rfl⟩
  have HT := Lib.hid (h.made I x)
  rw [← hb'] at HT
  have HB := Lib.hid hb'
  have hsm := hs.small (by omega)
  have HS := Lib.hid (And.intro hs (And.intro hsm (And.intro hk ht)))
  have HNX := Lib.hid hnx
  clear hnx
  obtain ⟨c0, c1, c2, c3, c4, c5⟩ := HT.out.cells
  replace c0 := c0.trans (congrArg (fun z => some (Value.int IntKind.i64 z)) hw)
  rw [hb'] at c0 c1 c2 c3 c4 c5
  have HWH := Lib.hid hw
  clear h hb' hw hs hsm hk ht
  unfold c8arg
  go_enter Try.func12, Try.ntmps12
  go_wp2_with fail
  rw [HB.out] at HT
  go_region_held3 (fun w' => w'.cell? ⟨w.heap.size, 2, none⟩ = some (.string x.e.s) ∧ w'.cell? ⟨w.heap.size, 3, none⟩ = some (.int .i64 x.e.p) ∧ w'.cell? ⟨w.heap.size, 4, none⟩ = some (.int .i64 x.e.k))
    (first
      | exact ⟨H3.out.cells.2.2.1, H3.out.cells.2.2.2.1, H3.out.cells.2.2.2.2.1⟩
      | exact ⟨H2.out.cells.2.2.1, H2.out.cells.2.2.2.1, H2.out.cells.2.2.2.2.1⟩
      | exact ⟨c2, c3, c4⟩
      | (go_split_ands; exact ⟨‹_›, ‹_›, ‹_›⟩))
    (first
      | (go_at_call 18; refine (I.ins x.e (HT.out.drewN I 1).q.t HS.out.2.1.few (HT.out.drewN I 1).q.low.size (by have := HS.out.2.2.1; omega) HNX.out).mono ?_; rintro e w2 ⟨rfl, ht2, hc2⟩; have H2 := Lib.hid ((HT.out.drewN I 1).stepT I ht2 hc2); clear ht2 hc2)
      | (go_at_call 26; refine (rinsert_any H2.out.q.r HS.out.2.1 H2.out.q.low.size x.e (by have := HS.out.2.2.1; omega)).mono ?_; rintro e w3 ⟨rfl, ht3⟩; have H3 := Lib.hid (H2.out.stepR I ht3); clear ht3))
  go_wp2_with fail
  go_ret
  exact ⟨rfl, _, _, _, H3.out.q, HS.out.1.ins (by have := HS.out.2.2.1; omega)⟩
set_option maxRecDepth 100000 in
set_option maxHeartbeats 6400000 in
theorem told8_del {T : TrP} (I : Impl 1000 T) {w0 w : World} {tb rb n : Nat} {D E : Nat → Prop} {l : List En} (h : Tq T w0 w tb rb D E l l) (hs : Sm l n) (hn : n ≤ 1000) (x : C8) (hw : x.what = 1) (hk : x.e.s.size ≤ 500) (ht : x.t.size ≤ 500) :
    Calls Try.prog 12 #[.pointer (some ⟨tb, 0, none⟩), .pointer (some ⟨rb, 0, none⟩), c8arg x] w (Told8 T w0 tb rb n) := by
  obtain ⟨b, hb'⟩ : ∃ b, b = w.heap.size := ⟨_, rfl⟩
  have HT := Lib.hid (h.made I x)
  rw [← hb'] at HT
  have HB := Lib.hid hb'
  have hsm := hs.small (by omega)
  have HS := Lib.hid (And.intro hs (And.intro hsm (And.intro hk ht)))
  obtain ⟨c0, c1, c2, c3, c4, c5⟩ := HT.out.cells
  replace c0 := c0.trans (congrArg (fun z => some (Value.int IntKind.i64 z)) hw)
  rw [hb'] at c0 c1 c2 c3 c4 c5
  have HWH := Lib.hid hw
  clear h hb' hw hs hsm hk ht
  unfold c8arg
  go_enter Try.func12, Try.ntmps12
  go_wp2_with fail
  rw [HB.out] at HT
  go_region_held3 (fun w' => w'.cell? ⟨w.heap.size, 2, none⟩ = some (.string x.e.s) ∧ w'.cell? ⟨w.heap.size, 3, none⟩ = some (.int .i64 x.e.p) ∧ w'.cell? ⟨w.heap.size, 4, none⟩ = some (.int .i64 x.e.k))
    (first
      | exact ⟨H3.out.cells.2.2.1, H3.out.cells.2.2.2.1, H3.out.cells.2.2.2.2.1⟩
      | exact ⟨H2.out.cells.2.2.1, H2.out.cells.2.2.2.1, H2.out.cells.2.2.2.2.1⟩
      | exact ⟨c2, c3, c4⟩
      | (go_split_ands; exact ⟨‹_›, ‹_›, ‹_›⟩))
    (first
      | (go_at_call 19; refine (I.del x.e (HT.out.drewN I 1).q.t HS.out.2.1 (HT.out.drewN I 1).q.low.size (by have := HS.out.2.2.1; omega)).mono ?_; rintro e w2 ⟨rfl, ht2, hc2⟩; have H2 := Lib.hid ((HT.out.drewN I 1).stepT I ht2 hc2); clear ht2 hc2)
      | (go_at_call 27; refine (rdelete_any H2.out.q.r HS.out.2.1 H2.out.q.low.size x.e (by have := HS.out.2.2.1; omega)).mono ?_; rintro e w3 ⟨rfl, ht3⟩; have H3 := Lib.hid (H2.out.stepR I ht3); clear ht3))
  go_wp2_with fail
  go_ret
  exact ⟨rfl, _, _, _, H3.out.q, HS.out.1.del x.e⟩
set_option maxRecDepth 100000 in
set_option maxHeartbeats 6400000 in
theorem told8_has {T : TrP} (I : Impl 1000 T) {w0 w : World} {tb rb n : Nat} {D E : Nat → Prop} {l : List En} (h : Tq T w0 w tb rb D E l l) (hs : Sm l n) (hn : n ≤ 1000) (x : C8) (hw : x.what = 2) (hk : x.e.s.size ≤ 500) (ht : x.t.size ≤ 500) :
    Calls Try.prog 12 #[.pointer (some ⟨tb, 0, none⟩), .pointer (some ⟨rb, 0, none⟩), c8arg x] w (Told8 T w0 tb rb n) := by
  obtain ⟨b, hb'⟩ : ∃ b, b = w.heap.size := ⟨_, rfl⟩
  have HT := Lib.hid (h.made I x)
  rw [← hb'] at HT
  have HB := Lib.hid hb'
  have hsm := hs.small (by omega)
  have HS := Lib.hid (And.intro hs (And.intro hsm (And.intro hk ht)))
  obtain ⟨c0, c1, c2, c3, c4, c5⟩ := HT.out.cells
  replace c0 := c0.trans (congrArg (fun z => some (Value.int IntKind.i64 z)) hw)
  rw [hb'] at c0 c1 c2 c3 c4 c5
  have HWH := Lib.hid hw
  clear h hb' hw hs hsm hk ht
  unfold c8arg
  go_enter Try.func12, Try.ntmps12
  go_wp2_with fail
  rw [HB.out] at HT
  go_region_held3 (fun w' => w'.cell? ⟨w.heap.size, 2, none⟩ = some (.string x.e.s) ∧ w'.cell? ⟨w.heap.size, 3, none⟩ = some (.int .i64 x.e.p) ∧ w'.cell? ⟨w.heap.size, 4, none⟩ = some (.int .i64 x.e.k))
    (first
      | exact ⟨H3.out.cells.2.2.1, H3.out.cells.2.2.2.1, H3.out.cells.2.2.2.2.1⟩
      | exact ⟨H2.out.cells.2.2.1, H2.out.cells.2.2.2.1, H2.out.cells.2.2.2.2.1⟩
      | exact ⟨c2, c3, c4⟩
      | (go_split_ands; exact ⟨‹_›, ‹_›, ‹_›⟩))
    (first
      | (go_at_call 22; refine (I.has x.e (HT.out.drewN I 1).q.t HS.out.2.1 (by have := HS.out.2.2.1; omega)).mono ?_; rintro e w2 ⟨rfl, hb2⟩; have H2 := Lib.hid ((HT.out.drewN I 1).below I hb2); clear hb2)
      | (go_at_call 28; refine (rhas_any H2.out.q.r HS.out.2.1 x.e (by have := HS.out.2.2.1; omega)).mono ?_; rintro e w3 ⟨rfl, hb3⟩; have H3 := Lib.hid (H2.out.below I hb3); clear hb3))
  go_wp2_with fail
  go_ret
  exact ⟨rfl, _, _, _, H3.out.q, HS.out.1.more (by omega)⟩
set_option maxRecDepth 100000 in
set_option maxHeartbeats 6400000 in
theorem told8_find {T : TrP} (I : Impl 1000 T) {w0 w : World} {tb rb n : Nat} {D E : Nat → Prop} {l : List En} (h : Tq T w0 w tb rb D E l l) (hs : Sm l n) (hn : n ≤ 1000) (x : C8) (hw : x.what = 3) (hk : x.e.s.size ≤ 500) (ht : x.t.size ≤ 500) :
    Calls Try.prog 12 #[.pointer (some ⟨tb, 0, none⟩), .pointer (some ⟨rb, 0, none⟩), c8arg x] w (Told8 T w0 tb rb n) := by
  obtain ⟨b, hb'⟩ : ∃ b, b = w.heap.size := ⟨_, rfl⟩
  have HT := Lib.hid (h.made I x)
  rw [← hb'] at HT
  have HB := Lib.hid hb'
  have hsm := hs.small (by omega)
  have HS := Lib.hid (And.intro hs (And.intro hsm (And.intro hk ht)))
  obtain ⟨c0, c1, c2, c3, c4, c5⟩ := HT.out.cells
  replace c0 := c0.trans (congrArg (fun z => some (Value.int IntKind.i64 z)) hw)
  rw [hb'] at c0 c1 c2 c3 c4 c5
  have HWH := Lib.hid hw
  clear h hb' hw hs hsm hk ht
  unfold c8arg
  go_enter Try.func12, Try.ntmps12
  go_wp2_with fail
  rw [HB.out] at HT
  go_region_held3 (fun w' => w'.cell? ⟨w.heap.size, 2, none⟩ = some (.string x.e.s))
    (first
      | exact H4.out.cells.2.2.1
      | exact H3.out.1.cells.2.2.1
      | exact H2.out.1.cells.2.2.1
      | exact c2
      | (go_split_ands; exact ‹_›))
    (first
      | (go_at_call 25; refine (I.find x.e.s (HT.out.drewN I 1).q.t HS.out.2.1 (by have := HS.out.2.2.1; omega)).mono ?_; rintro e w2 ⟨A2, k2, n2, rfl, hn2, ho2, hb2⟩; have H2 := Lib.hid (And.intro ((HT.out.drewN I 1).below I hb2) (And.intro hn2 ho2)); clear ho2 hb2 hn2)
      | (go_at_call 30; refine (rfind_any H2.out.1.q.r HS.out.2.1 x.e.s).mono ?_; rintro e w3 ⟨A3, k3, n3, rfl, hn3, ho3, hb3⟩; have H3 := Lib.hid (And.intro (H2.out.1.below I hb3) (And.intro hn3 (And.intro ho3 (own_chg H2.out.2.2 (F := Non) (Chg.of_below hb3) (fun _ _ hf => hf))))); clear ho3 hb3 hn3)
      | (go_at_call 29; refine (sameRidsE H2.out.2.1 H3.out.2.1 H3.out.2.2.2 H3.out.2.2.1 (by have h8 := List.length_filter_le (fun a : En => decide (a.s = x.e.s)) l; have h9 := HS.out.1.few; unfold fndL; omega)).mono ?_; rintro e w4 ⟨rfl, hb4⟩; have H4 := Lib.hid (H3.out.1.below I hb4); clear hb4))
  go_wp2_with fail
  go_ret
  exact ⟨rfl, _, _, _, H4.out.q, HS.out.1.more (by omega)⟩
set_option maxRecDepth 100000 in
set_option maxHeartbeats 6400000 in
theorem told8_range {T : TrP} (I : Impl 1000 T) {w0 w : World} {tb rb n : Nat} {D E : Nat → Prop} {l : List En} (h : Tq T w0 w tb rb D E l l) (hs : Sm l n) (hn : n ≤ 1000) (x : C8) (hw : x.what = 4) (hk : x.e.s.size ≤ 500) (ht : x.t.size ≤ 500) :
    Calls Try.prog 12 #[.pointer (some ⟨tb, 0, none⟩), .pointer (some ⟨rb, 0, none⟩), c8arg x] w (Told8 T w0 tb rb n) := by
  obtain ⟨b, hb'⟩ : ∃ b, b = w.heap.size := ⟨_, rfl⟩
  have HT := Lib.hid (h.made I x)
  rw [← hb'] at HT
  have HB := Lib.hid hb'
  have hsm := hs.small (by omega)
  have HS := Lib.hid (And.intro hs (And.intro hsm (And.intro hk ht)))
  obtain ⟨c0, c1, c2, c3, c4, c5⟩ := HT.out.cells
  replace c0 := c0.trans (congrArg (fun z => some (Value.int IntKind.i64 z)) hw)
  rw [hb'] at c0 c1 c2 c3 c4 c5
  have HWH := Lib.hid hw
  clear h hb' hw hs hsm hk ht
  unfold c8arg
  go_enter Try.func12, Try.ntmps12
  go_wp2_with fail
  rw [HB.out] at HT
  go_region_held3 (fun w' => w'.cell? ⟨w.heap.size, 1, none⟩ = some (.int .i64 x.nn) ∧ w'.cell? ⟨w.heap.size, 2, none⟩ = some (.string x.e.s) ∧ w'.cell? ⟨w.heap.size, 5, none⟩ = some (.string x.t))
    (first
      | exact ⟨H4.out.cells.2.1, H4.out.cells.2.2.1, H4.out.cells.2.2.2.2.2⟩
      | exact ⟨H3.out.1.cells.2.1, H3.out.1.cells.2.2.1, H3.out.1.cells.2.2.2.2.2⟩
      | exact ⟨H2.out.1.cells.2.1, H2.out.1.cells.2.2.1, H2.out.1.cells.2.2.2.2.2⟩
      | exact ⟨c1, c2, c5⟩
      | (go_split_ands; exact ⟨‹_›, ‹_›, ‹_›⟩))
    (first
      | (go_at_call 24; refine (I.range x.e.s x.t x.nn (HT.out.drewN I 1).q.t HS.out.2.1 (by have := HS.out.2.2.1; omega) (by have := HS.out.2.2.2; omega)).mono ?_; rintro e w2 ⟨A2, k2, n2, rfl, hn2, ho2, hb2⟩; have H2 := Lib.hid (And.intro ((HT.out.drewN I 1).below I hb2) (And.intro hn2 ho2)); clear ho2 hb2 hn2)
      | (go_at_call 31; refine (rrange_any H2.out.1.q.r HS.out.2.1 x.e.s x.t x.nn (by have := HS.out.2.2.1; omega) (by have := HS.out.2.2.2; omega)).mono ?_; rintro e w3 ⟨A3, k3, n3, rfl, hn3, ho3, hb3⟩; have H3 := Lib.hid (And.intro (H2.out.1.below I hb3) (And.intro hn3 (And.intro ho3 (own_chg H2.out.2.2 (F := Non) (Chg.of_below hb3) (fun _ _ hf => hf))))); clear ho3 hb3 hn3)
      | (go_at_call 15; refine (sameE_yes H2.out.2.1 H3.out.2.1 H3.out.2.2.2 H3.out.2.2.1 (by have h8 := List.length_filter_le (inR x.e.s x.t) l; have h9 := HS.out.1.few; unfold rngL; rw [List.length_take]; omega)).mono ?_; rintro e w4 ⟨rfl, hb4⟩; have H4 := Lib.hid (H3.out.1.below I hb4); clear hb4))
  go_wp2_with fail
  go_ret
  exact ⟨rfl, _, _, _, H4.out.q, HS.out.1.more (by omega)⟩
set_option maxRecDepth 100000 in
set_option maxHeartbeats 6400000 in
theorem told8_else {T : TrP} (I : Impl 1000 T) {w0 w : World} {tb rb n : Nat} {D E : Nat → Prop} {l : List En} (h : Tq T w0 w tb rb D E l l) (hs : Sm l n) (hn : n ≤ 1000) (x : C8) (hw : ¬ x.what = 0 ∧ ¬ x.what = 1 ∧ ¬ x.what = 2 ∧ ¬ x.what = 3 ∧ ¬ x.what = 4) (hk : x.e.s.size ≤ 500) (ht : x.t.size ≤ 500) :
    Calls Try.prog 12 #[.pointer (some ⟨tb, 0, none⟩), .pointer (some ⟨rb, 0, none⟩), c8arg x] w (Told8 T w0 tb rb n) := by
  obtain ⟨b, hb'⟩ : ∃ b, b = w.heap.size := ⟨_, rfl⟩
  have HT := Lib.hid (h.made I x)
  rw [← hb'] at HT
  have HB := Lib.hid hb'
  have hsm := hs.small (by omega)
  have HS := Lib.hid (And.intro hs (And.intro hsm (And.intro hk ht)))
  obtain ⟨c0, c1, c2, c3, c4, c5⟩ := HT.out.cells
  rw [hb'] at c0 c1 c2 c3 c4 c5
  have HWH := Lib.hid hw
  clear h hb' hw hs hsm hk ht
  unfold c8arg
  obtain ⟨q0, q1, q2, q3, q4⟩ := HWH.out
  go_enter Try.func12, Try.ntmps12
  go_wp2_with fail
  go_ret
  rw [HB.out] at HT
  exact ⟨rfl, _, _, _, HT.out.q, HS.out.1.more (by omega)⟩
theorem told8_any {T : TrP} (I : Impl 1000 T) {w0 w : World} {tb rb n : Nat} {D E : Nat → Prop} {l : List En} (h : Tq T w0 w tb rb D E l l) (hs : Sm l n) (hn : n ≤ 1000) (x : C8) (hk : x.e.s.size ≤ 500) (ht : x.t.size ≤ 500) (hnx : NumOk x.e) :
    Calls Try.prog 12 #[.pointer (some ⟨tb, 0, none⟩), .pointer (some ⟨rb, 0, none⟩), c8arg x] w (Told8 T w0 tb rb n) := by
  by_cases h0 : x.what = 0
  · exact told8_ins I h hs hn x h0 hk ht hnx
  by_cases h1 : x.what = 1
  · exact told8_del I h hs hn x h1 hk ht
  by_cases h2 : x.what = 2
  · exact told8_has I h hs hn x h2 hk ht
  by_cases h3 : x.what = 3
  · exact told8_find I h hs hn x h3 hk ht
  by_cases h4 : x.what = 4
  · exact told8_range I h hs hn x h4 hk ht
  exact told8_else I h hs hn x ⟨h0, h1, h2, h3, h4⟩ hk ht
end Go.Proofs.Ytiaclfldgagalaa

/-
  alive over a contract of the program's tree.
-/
namespace Go.Proofs.Ytiaclfldgagalaa
open Go.RowKit Go.Lib

def YesB (w : World) (e : Ending) (w' : World) : Prop := e = .returned (.bool true) ∧ Below w.heap.size w w'
/-- one tree, made since w0 -/
structure Tn (T : TrP) (w0 w : World) (tb : Nat) (D : Nat → Prop) (l : List En) : Prop where
  t : T w0.heap.size D w tb l
  low : Below w0.heap.size w0 w
section
variable {K : Nat} {T : TrP} (I : Impl K T) {w0 w w' : World} {tb : Nat} {D : Nat → Prop} {l l' : List En}
include I
theorem Tn.below (h : Tn T w0 w tb D l) (hb : Below w.heap.size w w') : Tn T w0 w' tb D l := ⟨I.below h.t hb, h.low.trans (hb.mono h.low.size)⟩
theorem Tn.step (h : Tn T w0 w tb D l) (ht : T w0.heap.size (Ext D w w') w' tb l') (hc : Chg D w w') : Tn T w0 w' tb (Ext D w w') l' :=
  ⟨ht, h.low.trans (hc.below (fun _ hk => (I.foot h.t hk).1) h.low.size)⟩
end
def lA : En := ⟨⟨#[97]⟩, 0, 0⟩
def lB : En := ⟨⟨#[98]⟩, 0, 0⟩
def lC : En := ⟨⟨#[99]⟩, 0, 0⟩
def lD : En := ⟨⟨#[100]⟩, 0, 0⟩
def lE : En := ⟨⟨#[101]⟩, 0, 0⟩
def lets : List En := [lA, lB, lC, lD, lE]
theorem let_num : ∀ x ∈ lets, NumOk x := fun x hx => by
  simp only [lets, List.mem_cons, List.not_mem_nil, or_false] at hx
  rcases hx with rfl | rfl | rfl | rfl | rfl <;> exact ⟨by decide, by decide⟩
theorem let_ins : ∀ j : Fin 5, plB (lets.take j.1) (lets[j.1]'(by have := j.2; simp [lets])) = false ∧ insL (lets.take j.1) (lets[j.1]'(by have := j.2; simp [lets])) = lets.take (j.1 + 1) := by decide +kernel
theorem let_fin : plB lets lA = true ∧ insL lets lA = lets ∧ rngL ⟨#[98]⟩ ⟨#[100]⟩ 9 lets = [lB, lC] := by decide +kernel
theorem let_cut : ∀ j : Fin 5, (⟨#[97, 98, 99, 100, 101]⟩ : ByteArray).extract j.1 (j.1 + 1) = (lets[j.1]'(by have := j.2; simp [lets])).s ∧ (lets[j.1]'(by have := j.2; simp [lets])).p = 0 ∧ (lets[j.1]'(by have := j.2; simp [lets])).k = 0 := by decide +kernel
theorem let_small : Small lets ∧ ∀ e ∈ lets, e.s.size ≤ 1000 := by
  have h : ∀ e ∈ lets, e.s.size ≤ 1000 := by decide +kernel
  exact ⟨⟨by decide, fun e he => by have := h e he; omega⟩, h⟩
def AlRel (T : TrP) (w0 : World) (tb : Nat) (i : Value) (wr : World) : Prop :=
  ∃ (j : Nat) (D : Nat → Prop), j ≤ 5 ∧ i = .int .i64 j ∧ Tn T w0 wr tb D (lets.take j)
set_option maxRecDepth 100000 in
set_option maxHeartbeats 12800000 in
theorem alive8_any {K : Nat} {T : TrP} (I : Impl K T) (hK : 1000 ≤ K) (w : World) : Calls Try.prog 9 #[] w (YesB w) := by
  go_enter Try.func9, Try.ntmps9
  go_wp2_with fail
  refine (I.new w w.heap.size (Nat.le_refl _)).mono ?_
  rintro e w2 ⟨tb, D, rfl, ht2, _, hb2⟩
  have H2 := Lib.hid (show AlRel T w tb (.int .i64 0) w2 from ⟨0, D, by omega, rfl, ht2, hb2⟩)
  clear ht2 hb2
  go_wp2_with fail
  go_loopw [2] (fun i wr => AlRel T w tb i wr) (fun i _ => 5 - (intOf i).toNat)
  case atStart => exact H2.out
  case round =>
    obtain ⟨j, D, hj, rfl, hT⟩ := hrel
    have hj0 : (0 : Int) ≤ (j : Int) := Int.natCast_nonneg _
    have HR := Lib.hid hT
    clear hT
    by_cases hlt : j < 5
    · have hlt1 : (j : Int) < 5 := by omega
      have hjl : j < lets.length := hlt
      obtain ⟨c1, c2, c3⟩ := let_cut ⟨j, hlt⟩
      obtain ⟨i1, i2⟩ := let_ins ⟨j, hlt⟩
      simp only at c1 c2 c3 i1 i2
      obtain ⟨x, hx⟩ : ∃ x, x = lets[j]'hjl := ⟨_, rfl⟩
      rw [← hx] at c1 c2 c3 i1 i2
      have hxs : x.s.size ≤ 1000 := let_small.2 x (by rw [hx]; exact List.getElem_mem hjl)
      have HX := Lib.hid (And.intro i1 i2)
      have hin := I.ins x HR.out.t (by have := List.length_take_le j lets; have : lets.length = 5 := rfl; omega) HR.out.low.size (Nat.le_trans hxs hK) (let_num x (by rw [hx]; exact List.getElem_mem hjl))
      unfold En.val at hin
      rw [c2, c3, i1, i2] at hin
      have HIN := Lib.hid hin
      have hst : j + 1 - j = 1 := by omega
      have c1' : (⟨#[97, 98, 99, 100, 101]⟩ : ByteArray).extract j (j + 1) = x.s := c1
      clear hin i1 i2 c1 c2 c3 hx hxs
      go_wp2_with fail
      refine HIN.out.mono ?_
      rintro e w5 ⟨rfl, ht5, hc5⟩
      have HF := Lib.hid (show AlRel T w tb (.int .i64 ((j : Int) + 1)) w5 from ⟨j + 1, _, by omega, by go_num, HR.out.step I ht5 hc5⟩)
      clear ht5 hc5
      go_wp2_with fail
      go_roundw
      case rel => exact HF.out
      case measure => simp [intOf]; omega
    · have hlt1 : ¬ (j : Int) < 5 := by omega
      have hT : Tn T w wr tb D lets := by
        have h1 := HR.out
        rwa [List.take_of_length_le (show lets.length ≤ j by show 5 ≤ j; omega)] at h1
      have HT := Lib.hid hT
      have HPG := Lib.hid (I.pages hT.t let_small.1)
      clear hT
      go_wp2_with fail
      refine HPG.out.mono ?_
      rintro e w5 ⟨A5, n5, c5, ps, rfl, hn5, hin5, hok5, hb5⟩
      obtain ⟨d, hshp⟩ := hok5.shp
      obtain ⟨q1, x, q2, q3, q4⟩ := shp_five hshp rfl
      have hn3 : n5 = 3 := by rw [hn5, q1]
      subst hn3
      have h0l : 0 < ps.length := by omega
      have hx0 : ps[0] = x := by
        have h1 := List.getElem?_eq_getElem h0l
        rw [q2] at h1
        exact (Option.some.inj h1).symm
      have H5 := Lib.hid (And.intro (HT.out.below I hb5) (And.intro hin5 (And.intro h0l (And.intro hx0 (And.intro q3 q4)))))
      have HRG := Lib.hid (I.range ⟨#[98]⟩ ⟨#[100]⟩ 9 H5.out.1.t let_small.1 (by decide) (by decide))
      clear hb5 hin5 hok5 hshp q1 q2 q3 q4 hx0 hn5 HPG
      go_wp2_with fail
      refine HRG.out.mono ?_
      rintro e w6 ⟨A6, c6, n6, rfl, hn6, ho6, hb6⟩
      rw [let_fin.2.2] at hn6 ho6
      have hn62 : n6 = 2 := hn6
      subst hn62
      obtain ⟨ad, rfl, hlt, p0, p1, _⟩ := (H5.out.2.1.below hb6).at_ H5.out.2.2.1
      have hq : ad.add (0 * 3) = ad := rfl
      rw [hq] at p0 p1
      rw [H5.out.2.2.2.1, H5.out.2.2.2.2.1] at p0
      rw [H5.out.2.2.2.1, H5.out.2.2.2.2.2] at p1
      obtain ⟨g, cap, hv, _, _⟩ := ho6.form (by omega)
      injection hv with v1 v2 v3
      clear v2 v3
      subst v1
      have r0 : w6.cell? ⟨g, 3, none⟩ = some (.string ⟨#[99]⟩) := by rw [ho6.cellAt _ (by omega)]; rfl
      have H6 := Lib.hid (H5.out.1.below I hb6)
      have HCN := Lib.hid (I.count H6.out.t let_small.1)
      have e1 : ((⟨#[99]⟩ : ByteArray).toList == (⟨#[99]⟩ : ByteArray).toList) = true := by rw [str_beq]; simp
      have P0 := Lib.hid (And.intro hlt (And.intro p0 (And.intro p1 r0)))
      clear hn6 ho6 hb6 hlt hq HRG
      go_wp2_with fail
      refine HCN.out.mono ?_
      rintro e w7 ⟨rfl, hb7⟩
      rw [show ((lets.length : Nat) : Int) = 5 from rfl]
      have r7 : w7.cell? ⟨g, 3, none⟩ = some (.string ⟨#[99]⟩) := (hb7.cell (World.block_lt_of_cell? _ _ r0)).trans r0
      have H7 := Lib.hid (H6.out.below I hb7)
      have hin := I.ins lA H7.out.t let_small.1.few H7.out.low.size (Nat.le_trans (by decide) hK) (let_num lA (by simp [lets]))
      rw [let_fin.1, let_fin.2.1] at hin
      unfold En.val at hin
      have HIN := Lib.hid hin
      clear hb7 hin p0 p1 r0 HCN
      go_wp2_with fail
      refine HIN.out.mono ?_
      rintro e w8 ⟨rfl, ht8, hc8⟩
      have H8 := Lib.hid (H7.out.step I ht8 hc8)
      have hdl := I.del lA H8.out.t let_small.1 H8.out.low.size (Nat.le_trans (by decide) hK)
      rw [let_fin.1] at hdl
      unfold En.val at hdl
      have HDL := Lib.hid hdl
      clear ht8 hc8 hdl HIN
      go_wp2_with fail
      refine HDL.out.mono ?_
      rintro e w9 ⟨rfl, ht9, hc9⟩
      have H9 := Lib.hid (H8.out.step I ht9 hc9)
      clear ht9 hc9 HDL
      go_wp2_with fail
      go_ret
      exact ⟨rfl, H9.out.low⟩
end Go.Proofs.Ytiaclfldgagalaa
