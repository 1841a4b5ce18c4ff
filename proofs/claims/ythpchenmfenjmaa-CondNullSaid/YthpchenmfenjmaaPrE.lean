/-
  The program's Right.
-/
import Derived.Test.YthpchenmfenjmaaPrD
namespace Go.Proofs.Ythpchenmfenjmaa
open Go.RowKit Go.Lib Go.Shelf

/-- what one condition tells -/
def right1 (cols : List Co) (c : Cd) : Int := match placeL cols c.col with
  | none => 13
  | some k => if knB c.op = false ∨ nullVa c.w ≠ alB c.op then 10 else fitI c.w ((cols[k]?).map (·.k) |>.getD 0)
theorem right1_rec (cols : List Co) (c : Cd) (r : List Cd) : rightC cols (c :: r) = if right1 cols c = 0 then rightC cols r else right1 cols c := by
  rw [rightC]
  unfold right1
  cases hp : placeL cols c.col with
  | none => simp
  | some k =>
    simp only
    have hk : k < cols.length := by rw [place_idx] at hp; exact idxL_lt hp
    rw [List.getElem?_eq_getElem hk]
    simp only [Option.map_some, Option.getD_some]
    have hkn : knB c.op = false ↔ (c.op < 1 ∨ 6 < c.op) := by unfold knB; simp; omega
    suffices h : ∃ V : Int, (if knB c.op = false ∨ nullVa c.w ≠ alB c.op then (10 : Int) else fitI c.w cols[k].k) = V ∧ (if c.op < 1 ∨ 6 < c.op ∨ rightVa c.w = false ∨ (decide (c.w.k = 0) ≠ decide (4 < c.op)) then 10 else if c.w.k ≠ 0 ∧ some c.w.k ≠ some cols[k].k then 14 else rightC cols r) = if V = 0 then rightC cols r else V by
      obtain ⟨V, e, h⟩ := h
      rw [e]
      exact h
    by_cases h1 : c.op < 1 ∨ 6 < c.op
    · refine ⟨10, if_pos (Or.inl (hkn.2 h1)), ?_⟩
      rw [if_pos (h1.elim Or.inl fun h => Or.inr (Or.inl h))]
      rfl
    · have h1k : ¬ knB c.op = false := fun h => h1 (hkn.1 h)
      have hal : alB c.op = decide (4 < c.op) := by
        unfold alB
        by_cases h4 : 4 < c.op
        · have : c.op = 5 ∨ c.op = 6 := by omega
          rcases this with h | h <;> simp [h]
        · have a : c.op ≠ 5 := by omega
          have b : c.op ≠ 6 := by omega
          simp [h4, a, b]
      rw [hal]
      have hrn : rightVa c.w = true → nullVa c.w = decide (c.w.k = 0) := by
        intro h
        unfold nullVa
        unfold rightVa rightV at h
        by_cases h0 : c.w.k = 0
        · rw [if_pos h0] at h; rw [h, h0]; rfl
        · simp [h0]
      cases hr : rightVa c.w with
      | false =>
        refine ⟨10, ?_, ?_⟩
        · by_cases hx : nullVa c.w ≠ decide (4 < c.op)
          · exact if_pos (Or.inr hx)
          · rw [if_neg (fun h : _ ∨ _ => h.elim h1k hx)]
            unfold fitI
            rw [if_pos hr]
        · rw [if_pos (Or.inr (Or.inr (Or.inl rfl)))]
          rfl
      | true =>
        rw [hrn hr]
        by_cases hx : decide (c.w.k = 0) ≠ decide (4 < c.op)
        · refine ⟨10, if_pos (Or.inr hx), ?_⟩
          rw [if_pos (Or.inr (Or.inr (Or.inr hx)))]
          rfl
        · refine ⟨fitI c.w cols[k].k, if_neg (fun h : _ ∨ _ => h.elim h1k hx), ?_⟩
          rw [if_neg (fun h : _ ∨ _ => h.elim (fun h => h1 (Or.inl h)) fun h => h.elim (fun h => h1 (Or.inr h)) fun h => h.elim (fun h => by cases h) hx)]
          unfold fitI
          rw [if_neg (show ¬ rightVa c.w = false by rw [hr]; decide), hrn hr]
          by_cases h0 : c.w.k = 0
          · rw [if_neg (fun h : c.w.k ≠ 0 ∧ _ => h.1 h0), if_pos (decide_eq_true h0)]
            rfl
          · rw [if_neg (show ¬ decide (c.w.k = 0) = true by simp [h0])]
            by_cases hk2 : c.w.k = cols[k].k
            · have e : (if c.w.k ≠ cols[k].k then (14 : Int) else 0) = 0 := if_neg fun h => h hk2
              rw [e, if_neg (fun h : c.w.k ≠ 0 ∧ some c.w.k ≠ some cols[k].k => h.2 (by rw [hk2]))]
              rfl
            · have e : (if c.w.k ≠ cols[k].k then (14 : Int) else 0) = 14 := if_pos hk2
              rw [e, if_pos (And.intro h0 fun h => hk2 (Option.some.inj h))]
              rfl
theorem rightC_hit (cols : List Co) : ∀ {l : List Cd} {k : Nat} (hk : k < l.length), (∀ j (hj : j < l.length), j < k → right1 cols l[j] = 0) → right1 cols l[k] ≠ 0 → rightC cols l = right1 cols l[k]
  | c :: r, 0, _, _, h => by rw [right1_rec, if_neg (by simpa using h)]; rfl
  | c :: r, k + 1, hk, hb, h => by
    have h0 := hb 0 (by simp) (by omega)
    rw [right1_rec, if_pos (by simpa using h0), rightC_hit cols (l := r) (k := k) (by simpa using hk) (fun j hj hjk => by have := hb (j + 1) (by simpa using hj) (by omega); simpa using this) (by simpa using h)]
    rfl
theorem rightC_miss (cols : List Co) : ∀ {l : List Cd}, (∀ j (hj : j < l.length), right1 cols l[j] = 0) → rightC cols l = 0
  | [], _ => rfl
  | c :: r, hb => by
    have h0 := hb 0 (by simp)
    rw [right1_rec, if_pos (by simpa using h0), rightC_miss cols (l := r) (fun j hj => by have := hb (j + 1) (by simpa using hj); simpa using this)]
theorem co_at2 {w : World} {B : Nat} {A : Option Addr} {l : List Co} (h : RowG coC 3 w B A l) {i : Nat} (hi : i < l.length) {y : Co} (hy : y = l[i]) : ∃ ad, A = some ad ∧ ad.block < B ∧ w.cell? (ad.add (i * 3)) = some (.string y.name) ∧ w.cell? ⟨(ad.add (i * 3)).block, (ad.add (i * 3)).off + 1, none⟩ = some (.int .i64 y.k) ∧ w.cell? ⟨(ad.add (i * 3)).block, (ad.add (i * 3)).off + 2, none⟩ = some (.bool y.nn) := by
  subst hy
  exact co_at h hi
/-- where right stands: its condition in a box, columns -/
structure RgS (w0 w : World) (b : Nat) (c : Cd) (A2 : Option Addr) (n2 : Nat) (cols : List Co) : Prop where
  low : Below w0.heap.size w0 w
  q : Blk w b 25 #[.string c.col, .int .i64 c.op, .int .i64 c.w.k, .int .i64 c.w.n, .string c.w.s]
  co : CoR w A2 n2 cols
section
variable {w0 w w' : World} {b : Nat} {c : Cd} {A2 : Option Addr} {n2 : Nat} {cols : List Co}
theorem RgS.below (h : RgS w0 w b c A2 n2 cols) (hb : Below w.heap.size w w') : RgS w0 w' b c A2 n2 cols := ⟨h.low.trans (hb.mono h.low.size), h.q.below hb h.q.lt, h.co.below hb⟩
theorem RgS.cells (h : RgS w0 w b c A2 n2 cols) : w.cell? ⟨b, 0, none⟩ = some (.string c.col) ∧ w.cell? ⟨b, 1, none⟩ = some (.int .i64 c.op) ∧ w.cell? ⟨b, 2, none⟩ = some (.int .i64 c.w.k) ∧ w.cell? ⟨b, 3, none⟩ = some (.int .i64 c.w.n) ∧ w.cell? ⟨b, 4, none⟩ = some (.string c.w.s) := ⟨h.q.cell 0, h.q.cell 1, h.q.cell 2, h.q.cell 3, h.q.cell 4⟩
end
theorem known_below {w : World} {p : BelowBy w} (x : Int) : Calls Try.prog 32 #[.int .i64 x] p.w' fun e w'' => e = .returned (.bool (knB x)) ∧ ∃ q : BelowBy w, w'' = q.w' := calls_below (known_any x _)
theorem alone_below {w : World} {p : BelowBy w} (x : Int) : Calls Try.prog 33 #[.int .i64 x] p.w' fun e w'' => e = .returned (.bool (alB x)) ∧ ∃ q : BelowBy w, w'' = q.w' := calls_below (alone_any x _)
theorem nullc_below {w : World} {p : BelowBy w} (v : Va) : Calls Try.prog 17 #[.agg #[.int .i64 v.k, .int .i64 v.n, .string v.s]] p.w' fun e w'' => e = .returned (.bool (nullVa v)) ∧ ∃ q : BelowBy w, w'' = q.w' := calls_below (nullc_any v _)
theorem fits_below {w : World} {p : BelowBy w} (v : Va) (k : Int) : Calls Try.prog 34 #[.agg #[.int .i64 v.k, .int .i64 v.n, .string v.s], .agg #[.string ⟨#[]⟩, .int .i64 k, .bool false]] p.w' fun e w'' => e = .returned (.int .i64 (fitI v k)) ∧ ∃ q : BelowBy w, w'' = q.w' := calls_below (fits_any v k _)
set_option maxRecDepth 100000 in
set_option maxHeartbeats 12800000 in
theorem right1_any {w : World} {A2 : Option Addr} {n2 c2 : Nat} {cols : List Co} (c : Cd) (h2 : CoR w A2 n2 cols) :
    Calls Try.prog 27 #[.agg #[.string c.col, .int .i64 c.op, .int .i64 c.w.k, .int .i64 c.w.n, .string c.w.s], .slice A2 n2 c2] w fun e w' => e = .returned (.int .i64 (right1 cols c)) ∧ Below w.heap.size w w' := by
  obtain ⟨w1, hw1⟩ : ∃ w1, w1 = w.alloc (.cells #[.string c.col, .int .i64 c.op, .int .i64 c.w.k, .int .i64 c.w.n, .string c.w.s] 25) := ⟨_, rfl⟩
  have hS : RgS w w1 w.heap.size c A2 n2 cols := by
    have hb1 : Below w.heap.size w w1 := by rw [hw1]; exact (Below.refl _ w).alloc (Nat.le_refl _) _
    exact ⟨hb1, by rw [hw1]; exact Blk.new _ _ _, h2.below hb1⟩
  have hm : Try.prog.follows .mixedOrders = true := by kernel_rfl
  have H1 := Lib.hid hS
  have HW := Lib.hid hw1
  clear hw1 hS h2
  cases hp : placeL cols c.col with
  | none =>
    have HP := Lib.hid hp
    have e : right1 cols c = 13 := by unfold right1; rw [hp]
    rw [e]
    clear e hp
    go_enter Try.func27, Try.ntmps27
    go_upto_region 1 with fail
    rw [← HW.out]
    obtain ⟨z0, z1, z2, z3, z4⟩ := H1.out.cells
    go_wp2_with (go_at_call 14; refine (place_any (c := c2) c.col H1.out.co).mono ?_; rintro e w2 ⟨rfl, hb⟩; have H2 := Lib.hid (H1.out.below hb); clear z0 z1 z2 z3 z4; obtain ⟨z0, z1, z2, z3, z4⟩ := H2.out.cells; clear hb; rw [HP.out]; simp only [Option.isSome, Option.getD])
    go_ret
    exact ⟨rfl, H2.out.low⟩
  | some k =>
    have hk : k < cols.length := by rw [place_idx] at hp; exact idxL_lt hp
    have HK := Lib.hid hk
    have hk0 : (0 : Int) ≤ (k : Int) := Int.natCast_nonneg _
    have hkn : (k : Int) < (n2 : Int) := by have := H1.out.co.len; omega
    have HP := Lib.hid hp
    obtain ⟨y, hy⟩ : ∃ y, y = cols[k] := ⟨_, rfl⟩
    have e : right1 cols c = if knB c.op = false ∨ nullVa c.w ≠ alB c.op then 10 else fitI c.w y.k := by
      unfold right1
      rw [hp]
      simp only
      rw [List.getElem?_eq_getElem hk, hy]
      rfl
    rw [e]
    have HY := Lib.hid hy
    clear e hp hy hk
    cases h1 : knB c.op with
    | false =>
      have HK1 := Lib.hid h1
      rw [if_pos (.inl rfl)]
      clear h1
      go_enter Try.func27, Try.ntmps27
      go_upto_region 1 with fail
      rw [← HW.out]
      obtain ⟨z0, z1, z2, z3, z4⟩ := H1.out.cells
      go_wp2_with (go_at_call 14; refine (place_any (c := c2) c.col H1.out.co).mono ?_; rintro e w2 ⟨rfl, hb⟩; have H2 := Lib.hid (H1.out.below hb); clear z0 z1 z2 z3 z4; obtain ⟨z0, z1, z2, z3, z4⟩ := H2.out.cells; clear hb; rw [HP.out]; simp only [Option.isSome, Option.getD])
      have g1 := BelowBy.cell z1
      have g2 := BelowBy.cell z2
      have g3 := BelowBy.cell z3
      have g4 := BelowBy.cell z4
      refine wp_region_below hm (by kernel_rfl) ?_
      repeat (quiet_step (first
        | (go_at_call 32; refine (known_below c.op).mono ?_; rw [HK1.out]; exact fun _ _ h => h)
        | (go_at_call 17; exact nullc_below c.w)
        | (go_at_call 33; exact alone_below c.op)))
      refine wpQuiet_nil ?_
      intro _ hw'
      obtain ⟨pq, hw''⟩ := hw'
      subst hw''
      have H3 := Lib.hid (H2.out.below pq.h)
      clear g1 g2 g3 g4 z0 z1 z2 z3 z4
      obtain ⟨w5, hw5⟩ : ∃ w5, w5 = pq.w' := ⟨_, rfl⟩
      rw [← hw5] at H3 ⊢
      clear hw5
      obtain ⟨z0, z1, z2, z3, z4⟩ := H3.out.cells
      go_wp2_with fail
      go_ret
      exact ⟨rfl, H3.out.low⟩
    | true =>
      have HK1 := Lib.hid h1
      clear h1
      cases ha : nullVa c.w <;> cases hb : alB c.op
      · have HA := Lib.hid ha
        have HD := Lib.hid hb
        rw [if_neg (fun h : _ ∨ _ => h.elim (fun h => by cases h) fun h => h rfl)]
        clear ha hb
        go_enter Try.func27, Try.ntmps27
        go_upto_region 1 with fail
        rw [← HW.out]
        obtain ⟨z0, z1, z2, z3, z4⟩ := H1.out.cells
        go_wp2_with (go_at_call 14; refine (place_any (c := c2) c.col H1.out.co).mono ?_; rintro e w2 ⟨rfl, hb⟩; have H2 := Lib.hid (H1.out.below hb); clear z0 z1 z2 z3 z4; obtain ⟨z0, z1, z2, z3, z4⟩ := H2.out.cells; clear hb; rw [HP.out]; simp only [Option.isSome, Option.getD])
        have g1 := BelowBy.cell z1
        have g2 := BelowBy.cell z2
        have g3 := BelowBy.cell z3
        have g4 := BelowBy.cell z4
        refine wp_region_below hm (by kernel_rfl) ?_
        repeat (quiet_step (first
          | (go_at_call 32; refine (known_below c.op).mono ?_; rw [HK1.out]; exact fun _ _ h => h)
          | (go_at_call 17; refine (nullc_below c.w).mono ?_; rw [HA.out]; exact fun _ _ h => h)
          | (go_at_call 33; refine (alone_below c.op).mono ?_; rw [HD.out]; exact fun _ _ h => h)))
        refine wpQuiet_nil ?_
        intro _ hw'
        obtain ⟨pq, hw''⟩ := hw'
        subst hw''
        have H3 := Lib.hid (H2.out.below pq.h)
        clear g1 g2 g3 g4 z0 z1 z2 z3 z4
        obtain ⟨w5, hw5⟩ : ∃ w5, w5 = pq.w' := ⟨_, rfl⟩
        rw [← hw5] at H3 ⊢
        clear hw5
        obtain ⟨z0, z1, z2, z3, z4⟩ := H3.out.cells
        obtain ⟨ad, rfl, _, a0, a1, a2⟩ := co_at2 H3.out.co.row HK.out HY.out
        go_wp2_with fail
        have f1 := BelowBy.cell a1
        have g2 := BelowBy.cell z2
        have g3 := BelowBy.cell z3
        have g4 := BelowBy.cell z4
        refine wp_region_below hm (by kernel_rfl) ?_
        repeat (quiet_step ((go_at_call 34; exact fits_below c.w y.k)))
        refine wpQuiet_nil ?_
        intro _ hw'
        obtain ⟨pq, hw''⟩ := hw'
        subst hw''
        have H4 := Lib.hid (H3.out.below pq.h)
        clear f1 g2 g3 g4 a0 a1 a2
        obtain ⟨w6, hw6⟩ : ∃ w6, w6 = pq.w' := ⟨_, rfl⟩
        rw [← hw6] at H4 ⊢
        clear hw6
        go_wp2_with fail
        go_ret
        exact ⟨rfl, H4.out.low⟩
      · have HA := Lib.hid ha
        have HD := Lib.hid hb
        rw [if_pos (Or.inr (by decide))]
        clear ha hb
        go_enter Try.func27, Try.ntmps27
        go_upto_region 1 with fail
        rw [← HW.out]
        obtain ⟨z0, z1, z2, z3, z4⟩ := H1.out.cells
        go_wp2_with (go_at_call 14; refine (place_any (c := c2) c.col H1.out.co).mono ?_; rintro e w2 ⟨rfl, hb⟩; have H2 := Lib.hid (H1.out.below hb); clear z0 z1 z2 z3 z4; obtain ⟨z0, z1, z2, z3, z4⟩ := H2.out.cells; clear hb; rw [HP.out]; simp only [Option.isSome, Option.getD])
        have g1 := BelowBy.cell z1
        have g2 := BelowBy.cell z2
        have g3 := BelowBy.cell z3
        have g4 := BelowBy.cell z4
        refine wp_region_below hm (by kernel_rfl) ?_
        repeat (quiet_step (first
          | (go_at_call 32; refine (known_below c.op).mono ?_; rw [HK1.out]; exact fun _ _ h => h)
          | (go_at_call 17; refine (nullc_below c.w).mono ?_; rw [HA.out]; exact fun _ _ h => h)
          | (go_at_call 33; refine (alone_below c.op).mono ?_; rw [HD.out]; exact fun _ _ h => h)))
        refine wpQuiet_nil ?_
        intro _ hw'
        obtain ⟨pq, hw''⟩ := hw'
        subst hw''
        have H3 := Lib.hid (H2.out.below pq.h)
        clear g1 g2 g3 g4 z0 z1 z2 z3 z4
        obtain ⟨w5, hw5⟩ : ∃ w5, w5 = pq.w' := ⟨_, rfl⟩
        rw [← hw5] at H3 ⊢
        clear hw5
        obtain ⟨z0, z1, z2, z3, z4⟩ := H3.out.cells
        go_wp2_with fail
        go_ret
        exact ⟨rfl, H3.out.low⟩
      · have HA := Lib.hid ha
        have HD := Lib.hid hb
        rw [if_pos (Or.inr (by decide))]
        clear ha hb
        go_enter Try.func27, Try.ntmps27
        go_upto_region 1 with fail
        rw [← HW.out]
        obtain ⟨z0, z1, z2, z3, z4⟩ := H1.out.cells
        go_wp2_with (go_at_call 14; refine (place_any (c := c2) c.col H1.out.co).mono ?_; rintro e w2 ⟨rfl, hb⟩; have H2 := Lib.hid (H1.out.below hb); clear z0 z1 z2 z3 z4; obtain ⟨z0, z1, z2, z3, z4⟩ := H2.out.cells; clear hb; rw [HP.out]; simp only [Option.isSome, Option.getD])
        have g1 := BelowBy.cell z1
        have g2 := BelowBy.cell z2
        have g3 := BelowBy.cell z3
        have g4 := BelowBy.cell z4
        refine wp_region_below hm (by kernel_rfl) ?_
        repeat (quiet_step (first
          | (go_at_call 32; refine (known_below c.op).mono ?_; rw [HK1.out]; exact fun _ _ h => h)
          | (go_at_call 17; refine (nullc_below c.w).mono ?_; rw [HA.out]; exact fun _ _ h => h)
          | (go_at_call 33; refine (alone_below c.op).mono ?_; rw [HD.out]; exact fun _ _ h => h)))
        refine wpQuiet_nil ?_
        intro _ hw'
        obtain ⟨pq, hw''⟩ := hw'
        subst hw''
        have H3 := Lib.hid (H2.out.below pq.h)
        clear g1 g2 g3 g4 z0 z1 z2 z3 z4
        obtain ⟨w5, hw5⟩ : ∃ w5, w5 = pq.w' := ⟨_, rfl⟩
        rw [← hw5] at H3 ⊢
        clear hw5
        obtain ⟨z0, z1, z2, z3, z4⟩ := H3.out.cells
        go_wp2_with fail
        go_ret
        exact ⟨rfl, H3.out.low⟩
      · have HA := Lib.hid ha
        have HD := Lib.hid hb
        rw [if_neg (fun h : _ ∨ _ => h.elim (fun h => by cases h) fun h => h rfl)]
        clear ha hb
        go_enter Try.func27, Try.ntmps27
        go_upto_region 1 with fail
        rw [← HW.out]
        obtain ⟨z0, z1, z2, z3, z4⟩ := H1.out.cells
        go_wp2_with (go_at_call 14; refine (place_any (c := c2) c.col H1.out.co).mono ?_; rintro e w2 ⟨rfl, hb⟩; have H2 := Lib.hid (H1.out.below hb); clear z0 z1 z2 z3 z4; obtain ⟨z0, z1, z2, z3, z4⟩ := H2.out.cells; clear hb; rw [HP.out]; simp only [Option.isSome, Option.getD])
        have g1 := BelowBy.cell z1
        have g2 := BelowBy.cell z2
        have g3 := BelowBy.cell z3
        have g4 := BelowBy.cell z4
        refine wp_region_below hm (by kernel_rfl) ?_
        repeat (quiet_step (first
          | (go_at_call 32; refine (known_below c.op).mono ?_; rw [HK1.out]; exact fun _ _ h => h)
          | (go_at_call 17; refine (nullc_below c.w).mono ?_; rw [HA.out]; exact fun _ _ h => h)
          | (go_at_call 33; refine (alone_below c.op).mono ?_; rw [HD.out]; exact fun _ _ h => h)))
        refine wpQuiet_nil ?_
        intro _ hw'
        obtain ⟨pq, hw''⟩ := hw'
        subst hw''
        have H3 := Lib.hid (H2.out.below pq.h)
        clear g1 g2 g3 g4 z0 z1 z2 z3 z4
        obtain ⟨w5, hw5⟩ : ∃ w5, w5 = pq.w' := ⟨_, rfl⟩
        rw [← hw5] at H3 ⊢
        clear hw5
        obtain ⟨z0, z1, z2, z3, z4⟩ := H3.out.cells
        obtain ⟨ad, rfl, _, a0, a1, a2⟩ := co_at2 H3.out.co.row HK.out HY.out
        go_wp2_with fail
        have f1 := BelowBy.cell a1
        have g2 := BelowBy.cell z2
        have g3 := BelowBy.cell z3
        have g4 := BelowBy.cell z4
        refine wp_region_below hm (by kernel_rfl) ?_
        repeat (quiet_step ((go_at_call 34; exact fits_below c.w y.k)))
        refine wpQuiet_nil ?_
        intro _ hw'
        obtain ⟨pq, hw''⟩ := hw'
        subst hw''
        have H4 := Lib.hid (H3.out.below pq.h)
        clear f1 g2 g3 g4 a0 a1 a2
        obtain ⟨w6, hw6⟩ : ∃ w6, w6 = pq.w' := ⟨_, rfl⟩
        rw [← hw6] at H4 ⊢
        clear hw6
        go_wp2_with fail
        go_ret
        exact ⟨rfl, H4.out.low⟩
set_option maxRecDepth 100000 in
set_option maxHeartbeats 12800000 in
theorem rightC_any {w : World} {A : Option Addr} {n c : Nat} {l : List Cd} {A2 : Option Addr} {n2 c2 : Nat} {cols : List Co} (h1 : CdR w A n l) (h2 : CoR w A2 n2 cols) :
    Calls Try.prog 15 #[.slice A n c, .slice A2 n2 c2] w fun e w' => e = .returned (.int .i64 (rightL l cols)) ∧ Below w.heap.size w w' := by
  have hn0 : (0 : Int) ≤ (n : Int) := Int.natCast_nonneg _
  have hnl := h1.len
  by_cases h8 : 8 < n
  · have h8i : (8 : Int) < (n : Int) := by omega
    have e : rightL l cols = 15 := by unfold rightL; rw [if_pos (by omega)]
    rw [e]
    clear e hnl h1 h2
    go_enter Try.func15, Try.ntmps15
    go_wp2_with fail
    go_ret
    exact ⟨rfl, Below.refl _ w⟩
  · have h8i : ¬ (8 : Int) < (n : Int) := by omega
    have e : rightL l cols = rightC cols l := by unfold rightL; rw [if_neg (by omega)]
    rw [e]
    have H := Lib.hid (And.intro h1 (And.intro h2 hnl))
    have HB := Lib.hid (Below.refl w.heap.size w)
    clear e hnl h1 h2
    go_enter Try.func15, Try.ntmps15
    go_wp2_with fail
    go_loopw [6, 7, 13] (fun _ _ iv wr => ∃ k : Nat, k ≤ n ∧ iv = .int .i64 k ∧ Below w.heap.size w wr ∧ ∀ j (hj : j < l.length), j < k → right1 cols l[j] = 0) (fun _ _ iv _ => n - (intOf iv).toNat)
    case atStart => exact ⟨0, Nat.zero_le _, rfl, HB.out, fun j _ hj => absurd hj (by omega)⟩
    case round =>
      obtain ⟨k, hk, rfl, hb, hno⟩ := hrel
      have hk0 : (0 : Int) ≤ (k : Int) := Int.natCast_nonneg _
      have HR := Lib.hid (And.intro hb hno)
      clear HB hb hno
      by_cases hlt : k < n
      · have hlt1 : (k : Int) < (n : Int) := by omega
        have hkl : k < l.length := by rw [← H.out.2.2]; exact hlt
        obtain ⟨ad, rfl, _, a0, a1, a2, a3, a4⟩ := cd_at (H.out.1.below HR.out.1).row hkl
        obtain ⟨y, hy⟩ : ∃ y, y = l[k] := ⟨_, rfl⟩
        rw [← hy] at a0 a1 a2 a3 a4
        obtain ⟨w1, hw1⟩ : ∃ w1, w1 = wr.alloc (.cells #[.string y.col, .int .i64 y.op, .int .i64 y.w.k, .int .i64 y.w.n, .string y.w.s] 25) := ⟨_, rfl⟩
        have hb1 : Below wr.heap.size wr w1 := by rw [hw1]; exact (Below.refl _ wr).alloc (Nat.le_refl _) _
        have hcall := right1_any (c2 := c2) y ((H.out.2.1.below HR.out.1).below hb1)
        have HB1 := Lib.hid (HR.out.1.trans (hb1.mono HR.out.1.size))
        have HC := Lib.hid hcall
        have HY := Lib.hid hy
        have HW := Lib.hid hw1
        clear hy hw1 hcall hb1
        by_cases hq : right1 cols y = 0
        · rw [hq] at HC
          go_wp2_with (go_at_call 27; rw [← HW.out]; refine HC.out.mono ?_; rintro e w' ⟨rfl, hb'⟩)
          go_roundw
          case rel =>
            refine ⟨k + 1, by omega, by go_num, HB1.out.trans (hb'.mono HB1.out.size), fun j hj hjk => ?_⟩
            by_cases e : j = k
            · subst e; rw [← HY.out]; exact hq
            · exact HR.out.2 j hj (by omega)
          case measure => simp [intOf]; omega
        · have hq1 : (right1 cols y != 0) = true := by simp [hq]
          have HQ := Lib.hid hq
          clear hq
          go_wp2_with (go_at_call 27; rw [← HW.out]; refine HC.out.mono ?_; rintro e w' ⟨rfl, hb'⟩)
          go_ret
          refine ⟨?_, HB1.out.trans (hb'.mono HB1.out.size)⟩
          rw [rightC_hit cols hkl HR.out.2 (by rw [← HY.out]; exact HQ.out), HY.out]
          rfl
      · have hlt1 : ¬ (k : Int) < (n : Int) := by omega
        go_wp2_with fail
        go_ret
        refine ⟨?_, HR.out.1⟩
        rw [rightC_miss cols fun j hj => HR.out.2 j hj (by have := H.out.2.2; omega)]
        rfl
end Go.Proofs.Ythpchenmfenjmaa
