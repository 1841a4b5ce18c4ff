/-
  The program's locks keep the contract.
-/
import Derived.Test.YthbbheegkhlniaaGreatInK
import Derived.Test.YthbbheegkhlniaaGreatInH
import Derived.Test.YthbbheegkhlniaaGreatLkT
import Derived.Test.YthbbheegkhlniaaGreatM03
namespace Go.Proofs.YthbbheegkhlniaaGreat
open Go.RowKit Go.Lib Go.Shelf Go.Maps

theorem implL : ImplL TI where
  below := fun h hb => by
    obtain ⟨h1, S, h2, h3⟩ := h
    exact ⟨h1, S, h2.below hb, h3⟩
  chg := fun h hc hd => by
    obtain ⟨h1, S, h2, h3⟩ := h
    exact ⟨h1, S, h2.chg hc hd, h3⟩
  foot := fun h k hk => by
    obtain ⟨h1, S, h2, h3⟩ := h
    exact h2.foot k hk
  ok := fun h => h.1
  new := fun w B hB => lnew_any w B hB
  ask := fun x t m h hz hB hx ht hm => lask_any x t m h hz hB hx ht hm
  cancel := fun x h hz hB hx => lcancel_any x h hz hB hx
  release := fun x h hz hB hx => lrelease_any x h hz hB hx
  blockers := fun x h hz hx => lblockers_any x h hz hx
  waiting := fun x h hz hx => lwaiting_any x h hx
  mode := fun x t h hz hx ht => lmode_any x t h hz ht
  state := fun t h hz ht => lstate_any t h hz ht
  things := fun x h hz hx => lthings_any x h hz hx
end Go.Proofs.YthbbheegkhlniaaGreat

/-
  alive, great, do.
-/
namespace Go.Proofs.YthbbheegkhlniaaGreat
open Go.RowKit Go.Lib

def tkT : Th := ⟨4, ⟨#[116]⟩, ⟨#[107]⟩⟩
theorem al1 : askL ⟨[], []⟩ 1 tkT 3 = (⟨[⟨tkT, 1, 3⟩], []⟩, true, 0) := by kernel_rfl
theorem al2 : askL ⟨[⟨tkT, 1, 3⟩], []⟩ 2 tkT 6 = (⟨[⟨tkT, 1, 3⟩], [⟨tkT, 2, 6⟩]⟩, false, 0) := by kernel_rfl
theorem al3 : askL ⟨[⟨tkT, 1, 3⟩], [⟨tkT, 2, 6⟩]⟩ 3 tkT 3 = (⟨[⟨tkT, 1, 3⟩], [⟨tkT, 2, 6⟩, ⟨tkT, 3, 3⟩]⟩, false, 0) := by kernel_rfl
theorem al4 : blockL ⟨[⟨tkT, 1, 3⟩], [⟨tkT, 2, 6⟩, ⟨tkT, 3, 3⟩]⟩ 3 = [2] := by kernel_rfl
theorem al5 : releaseL ⟨[⟨tkT, 1, 3⟩], [⟨tkT, 2, 6⟩, ⟨tkT, 3, 3⟩]⟩ 1 = (⟨[⟨tkT, 2, 6⟩], [⟨tkT, 3, 3⟩]⟩, [2]) := by kernel_rfl
theorem al6 : (stateL ⟨[⟨tkT, 2, 6⟩], [⟨tkT, 3, 3⟩]⟩ tkT).length = 2 := by kernel_rfl
theorem tk_in : tkT.In := ⟨by unfold NumI; decide, by decide, by decide⟩
theorem numI {x : Int} (h : -9223372036854775808 ≤ x ∧ x ≤ 9223372036854775807) : NumI x := h
theorem results_cell1 {fn : Func} {p : Tmp} {ty : TypeId} (h : fn.results = #[.cell p ty]) (tmps : Array Value) (P : Program) (w : World) :
    (results fn tmps).run P w = ((asAddr (tmps.getD p undef)).run P w).andThen fun a w₁ => (loadVar ty a).run P w₁ := by
  simp only [results, h]
  simp [Sem.run_bind, Result.andThen]

set_option maxRecDepth 100000 in
set_option maxHeartbeats 1600000 in
theorem row_thing (s : ByteArray) (w : World) : Calls Tryz.prog 25 #[.string s] w fun e w' => e = .returned (thV ⟨4, ⟨#[116]⟩, s⟩) ∧ Below w.heap.size w w' := by
  go_enter Tryz.func25, Tryz.ntmps25
  go_wp2_with fail
  first
    | refine bodyPost_end (v := thV ⟨4, ⟨#[116]⟩, s⟩) (by rw [results_cell1 rfl]; go_simp; try exact rfl) rfl ?_
    | refine bodyPost_ret (v := thV ⟨4, ⟨#[116]⟩, s⟩) (by rw [results_cell1 rfl]; go_simp; try exact rfl) rfl ?_
  refine ⟨rfl, ?_⟩
  exact (Below.refl _ w).alloc (Nat.le_refl _) _
theorem IntsRet.g {w w' : World} {xs : List Int} {v : Value} (h : IntsRet w xs w' v) : ∃ A n c, v = .slice A n c ∧ n = xs.length ∧ RowG intV 1 w' w'.heap.size A xs := by
  obtain ⟨A, n, c, rfl, hn, ho⟩ := h
  have e : intsV xs = xs.flatMap intV := by
    unfold intsV
    clear hn ho
    induction xs with
    | nil => rfl
    | cons a r ih => simp [intV, ih]
  rw [e] at ho
  exact ⟨A, n, c, rfl, hn, RowG.of_rows (fun _ => rfl) ho hn⟩
theorem lit_row (w : World) (x : Int) : RowG intV 1 (w.alloc (.cells #[.int .i64 x] 3)) (w.alloc (.cells #[.int .i64 x] 3)).heap.size (some ⟨w.heap.size, 0, none⟩) [x] := by
  have h9 := World.ownsRow_lit (base := w.heap.size) (size := 1) (e := 3) w #[.int .i64 x] 1 (by simp) (by simp [maxLen]) (by simp)
  exact RowG.of_rows (fun _ => rfl) h9 rfl
/-- the program's locks somewhere -/
def Te (T : LkP) (w0 w : World) (tb : Nat) (l : Lk) : Prop := ∃ D, Tl T w0 w tb D l
section
variable {T : LkP} (I : ImplL T) {w0 w w' : World} {tb : Nat} {l : Lk}
include I
theorem Te.ok (h : Te T w0 w tb l) : LkOk l := by
  obtain ⟨D, h⟩ := h
  exact I.ok h.t
theorem Te.below (h : Te T w0 w tb l) (hb : Below w.heap.size w w') : Te T w0 w' tb l := by
  obtain ⟨D, h⟩ := h
  exact ⟨D, h.below I hb⟩
theorem Te.ask (h : Te T w0 w tb l) (x : Int) (t : Th) (m : Int) (hs : szL l ≤ 1000) (hx : NumI x) (ht : t.In) (hm : NumI m) : Calls Tryz.prog 7 #[ptrL tb, .int .i64 x, wantV t m] w fun r w' => r = .returned (.tuple #[.bool (askL l x t m).2.1, .int .i64 (askL l x t m).2.2]) ∧ Te T w0 w' tb (askL l x t m).1 := by
  obtain ⟨D, h⟩ := h
  exact (I.ask x t m h.t hs h.low.size hx ht hm).mono fun r w' ⟨h1, h2, h3⟩ => ⟨h1, _, h.step I h2 h3⟩
theorem Te.cancel (h : Te T w0 w tb l) (x : Int) (hs : szL l ≤ 1000) (hx : NumI x) : Calls Tryz.prog 10 #[ptrL tb, .int .i64 x] w fun r w' => ∃ v, r = .returned v ∧ IntsRet w (cancelL l x).2 w' v ∧ Te T w0 w' tb (cancelL l x).1 := by
  obtain ⟨D, h⟩ := h
  exact (I.cancel x h.t hs h.low.size hx).mono fun r w' ⟨v, h1, h2, h3, h4⟩ => ⟨v, h1, h2, _, h.step I h3 h4⟩
theorem Te.release (h : Te T w0 w tb l) (x : Int) (hs : szL l ≤ 1000) (hx : NumI x) : Calls Tryz.prog 12 #[ptrL tb, .int .i64 x] w fun r w' => ∃ v, r = .returned v ∧ IntsRet w (releaseL l x).2 w' v ∧ Te T w0 w' tb (releaseL l x).1 := by
  obtain ⟨D, h⟩ := h
  exact (I.release x h.t hs h.low.size hx).mono fun r w' ⟨v, h1, h2, h3, h4⟩ => ⟨v, h1, h2, _, h.step I h3 h4⟩
theorem Te.blockers (h : Te T w0 w tb l) (x : Int) (hs : szL l ≤ 1000) (hx : NumI x) : Calls Tryz.prog 19 #[ptrL tb, .int .i64 x] w fun r w' => ∃ v, r = .returned v ∧ IntsRet w (blockL l x) w' v ∧ Te T w0 w' tb l := by
  obtain ⟨D, h⟩ := h
  exact (I.blockers x h.t hs hx).mono fun r w' ⟨v, h1, h2, h3⟩ => ⟨v, h1, h2, D, h.below I h3⟩
theorem Te.state (h : Te T w0 w tb l) (t : Th) (hs : szL l ≤ 1000) (ht : t.In) : Calls Tryz.prog 17 #[ptrL tb, thV t] w fun r w' => ∃ A n c, r = .returned (.slice A n c) ∧ n = (stateL l t).length ∧ w'.ownsRow w.heap.size 62 3 (.slice A n c) n ((stateL l t).flatMap heldC) ∧ Te T w0 w' tb l := by
  obtain ⟨D, h⟩ := h
  exact (I.state t h.t hs ht).mono fun r w' ⟨A, n, c, h1, h2, h3, h4⟩ => ⟨A, n, c, h1, h2, h3, D, h.below I h4⟩
end
set_option maxRecDepth 100000 in
set_option maxHeartbeats 12800000 in
theorem alive11_any {T : LkP} (I : ImplL T) (w : World) : Calls Tryz.prog 4 #[] w fun e w' => e = .returned (.bool true) ∧ Below w.heap.size w w' := by
  have HROW := Lib.hid fun w => row_thing ⟨#[107]⟩ w
  go_enter Tryz.func4, Tryz.ntmps4
  go_wp2_with fail
  refine (I.new w w.heap.size (Nat.le_refl _)).mono ?_
  rintro e w1 ⟨tb, D, rfl, ht1, _, hb1⟩
  have H := Lib.hid (show Te T w w1 tb ⟨[], []⟩ from ⟨D, ht1, hb1⟩)
  clear ht1 hb1
  go_upto_region 5 with (first
    | (go_at_call 25; refine (HROW.out _).mono ?_; rintro e wr ⟨rfl, hb⟩; have h2 := H.out.below I hb; clear H hb; have H := Lib.hid h2; clear h2)
    | (go_at_call 7; refine (H.out.ask I 1 tkT 3 (by decide) (by unfold NumI; decide) tk_in (by unfold NumI; decide)).mono ?_; rw [al1]; rintro e w2 ⟨rfl, h2⟩; clear H; have H := Lib.hid h2; clear h2))
  go_upto_region 6 with (first
    | (go_at_call 25; refine (HROW.out _).mono ?_; rintro e wr ⟨rfl, hb⟩; have h2 := H.out.below I hb; clear H hb; have H := Lib.hid h2; clear h2)
    | (go_at_call 7; refine (H.out.ask I 2 tkT 6 (by decide) (by unfold NumI; decide) tk_in (by unfold NumI; decide)).mono ?_; rw [al2]; rintro e w2 ⟨rfl, h2⟩; clear H; have H := Lib.hid h2; clear h2))
  go_upto_region 7 with (first
    | (go_at_call 25; refine (HROW.out _).mono ?_; rintro e wr ⟨rfl, hb⟩; have h2 := H.out.below I hb; clear H hb; have H := Lib.hid h2; clear h2)
    | (go_at_call 7; refine (H.out.ask I 3 tkT 3 (by decide) (by unfold NumI; decide) tk_in (by unfold NumI; decide)).mono ?_; rw [al3]; rintro e w2 ⟨rfl, h2⟩; clear H; have H := Lib.hid h2; clear h2))
  go_wp2_with (first
    | (go_at_call 25; refine (HROW.out _).mono ?_; rintro e wr ⟨rfl, hb⟩; have h2 := H.out.below I hb; clear H hb; have H := Lib.hid h2; clear h2)
    | (go_at_call 9; refine (sameI_yes (l := [2]) HR.out.1 rfl ((HR.out.2.below ((Below.refl _ w6).alloc (Nat.le_refl _) _) (Nat.le_refl _))) (lit_row w6 2) (by decide)).mono ?_; rintro e w8 ⟨rfl, hb⟩; have h2 := (H.out.below I ((Below.refl _ w6).alloc (Nat.le_refl _) _)).below I hb; clear H hb; have H := Lib.hid h2; clear h2)
    | (go_at_call 19; refine (H.out.blockers I 3 (by decide) (by unfold NumI; decide)).mono ?_; rw [al4]; rintro e w6 ⟨v, rfl, hi, h2⟩; obtain ⟨A, n, c, rfl, hn, hr⟩ := hi.g; have HR := Lib.hid (And.intro hn hr); clear hi hn hr H; have H := Lib.hid h2; clear h2)
    | (go_at_call 12; refine (H.out.release I 1 (by decide) (by unfold NumI; decide)).mono ?_; rw [al5]; rintro e w6 ⟨v, rfl, hi, h2⟩; obtain ⟨A, n, c, rfl, hn, hr⟩ := hi.g; have HR := Lib.hid (And.intro hn hr); clear hi hn hr H; have H := Lib.hid h2; clear h2)
    | (go_at_call 17; refine (H.out.state I tkT (by decide) tk_in).mono ?_; rw [al6]; rintro e w9 ⟨A9, n9, c9, rfl, hn9, _, h2⟩; obtain rfl := hn9; clear H; have H := Lib.hid h2; clear h2))
  go_ret
  obtain ⟨D9, h9⟩ := H.out
  exact ⟨rfl, h9.low⟩
end Go.Proofs.YthbbheegkhlniaaGreat

/-
  Rows of calls; great; do.
-/
namespace Go.Proofs.YthbbheegkhlniaaGreat
open Go.RowKit Go.Lib

/-- a call -/
structure Cl where
  w : Int
  x : Int
  th : Th
  m : Int
def clC (c : Cl) : List Value := [.int .i64 c.w, .int .i64 c.x, .int .i64 c.th.k, .string c.th.t, .string c.th.y, .int .i64 c.m]
abbrev clV (c : Cl) : Value := .agg #[.int .i64 c.w, .int .i64 c.x, .int .i64 c.th.k, .string c.th.t, .string c.th.y, .int .i64 c.m]
def Cl.In (c : Cl) : Prop := NumI c.w ∧ NumI c.x ∧ c.th.In ∧ NumI c.m
def doL (l : Lk) (c : Cl) : Lk := if c.w = 0 then (askL l c.x c.th c.m).1 else if c.w = 1 then (cancelL l c.x).1 else if c.w = 2 then (releaseL l c.x).1 else l
theorem do_sz (l : Lk) (c : Cl) : szL (doL l c) ≤ szL l + 1 := by
  unfold doL
  split
  · exact ask_sz l _ _ _
  · split
    · have := cancel_sz l c.x; omega
    · split
      · have := release_sz l c.x; omega
      · omega
theorem do_ok {l : Lk} (h : LkOk l) (c : Cl) : LkOk (doL l c) := by
  unfold doL
  split
  · exact h.ask _ _ _
  · split
    · exact h.cancel _
    · split
      · exact (h.release _).ok
      · exact h
theorem do_lives {l : Lk} (h : LkOk l) {c : Cl} {y : Int} (hy : Lives (doL l c) y) : Lives l y ∨ y = c.x := by
  unfold doL at hy
  split at hy
  · exact ask_lives h hy
  · split at hy
    · exact .inl (cancel_lives h hy)
    · split at hy
      · exact .inl (release_lives h hy).1
      · exact .inl hy
/-- what the first k calls leave -/
def runL (cl : List Cl) (k : Nat) : Lk := (cl.take k).foldl doL ⟨[], []⟩
theorem run_zero (cl : List Cl) : runL cl 0 = ⟨[], []⟩ := by unfold runL; rw [List.take_zero]; rfl
theorem run_succ {cl : List Cl} {k : Nat} (h : k < cl.length) : runL cl (k + 1) = doL (runL cl k) cl[k] := by
  unfold runL
  rw [List.take_succ_eq_append_getElem h, List.foldl_append]
  rfl
theorem run_sz (cl : List Cl) : ∀ k, k ≤ cl.length → szL (runL cl k) ≤ k
  | 0, _ => by rw [run_zero]; exact Nat.le_refl _
  | k + 1, h => by
    rw [run_succ (by omega)]
    have h1 := run_sz cl k (by omega)
    have h2 := do_sz (runL cl k) cl[k]
    omega
theorem run_ok (cl : List Cl) : ∀ k, k ≤ cl.length → LkOk (runL cl k)
  | 0, _ => by rw [run_zero]; exact LkOk.nil
  | k + 1, h => by rw [run_succ (by omega)]; exact do_ok (run_ok cl k (by omega)) _
theorem run_lives (cl : List Cl) {y : Int} : ∀ k, k ≤ cl.length → Lives (runL cl k) y → ∃ c ∈ cl, c.x = y
  | 0, _, hy => by
    rw [run_zero] at hy
    rcases hy with ⟨k, hk, _⟩ | ⟨k, hk, _⟩ <;> cases hk
  | k + 1, h, hy => by
    rw [run_succ (by omega)] at hy
    rcases do_lives (run_ok cl k (by omega)) hy with hy | hy
    · exact run_lives cl k (by omega) hy
    · exact ⟨cl[k], List.getElem_mem _, hy.symm⟩
/-- a call of a row -/
theorem cl_at {w : World} {B : Nat} {A : Option Addr} {cs : List Cl} (h : RowG clC 6 w B A cs) {i : Nat} (hi : i < cs.length) : ∃ ad, A = some ad ∧ ad.block < B ∧ w.cell? (ad.add (i * 6)) = some (.int .i64 cs[i].w) ∧
    w.cell? ⟨(ad.add (i * 6)).block, (ad.add (i * 6)).off + 1, none⟩ = some (.int .i64 cs[i].x) ∧ w.cell? ⟨(ad.add (i * 6)).block, (ad.add (i * 6)).off + 2, none⟩ = some (.int .i64 cs[i].th.k) ∧
    w.cell? ⟨(ad.add (i * 6)).block, (ad.add (i * 6)).off + 3, none⟩ = some (.string cs[i].th.t) ∧ w.cell? ⟨(ad.add (i * 6)).block, (ad.add (i * 6)).off + 4, none⟩ = some (.string cs[i].th.y) ∧ w.cell? ⟨(ad.add (i * 6)).block, (ad.add (i * 6)).off + 5, none⟩ = some (.int .i64 cs[i].m) := by
  obtain ⟨ad, rfl, hlt⟩ := h.lo (by omega)
  have get : ∀ j u, (clC cs[i])[j]? = some u → w.cell? (ad.add (i * 6 + j)) = some u := fun j u hu => by
    obtain ⟨ad', e, hc⟩ := h.cell i hi j u hu
    obtain rfl := Option.some.inj e
    exact hc
  have addr_field : ∀ (a : Addr) (j : Nat), 0 < j → (⟨a.block, a.off + j, none⟩ : Addr) = a.add j := fun a j hj => by unfold Addr.add; rw [if_neg (by omega)]
  refine ⟨ad, rfl, hlt, get 0 _ rfl, ?_, ?_, ?_, ?_, ?_⟩ <;> rw [addr_field _ _ (by omega), addr_add]
  · exact get 1 _ rfl
  · exact get 2 _ rfl
  · exact get 3 _ rfl
  · exact get 4 _ rfl
  · exact get 5 _ rfl
def Great11 (cl : List Cl) (w : World) (e : Ending) (w' : World) : Prop := w' = w ∧ (e = .returned (.bool true) ∨ (e = .returned (.bool false) ∧ cl.length ≤ 120))
set_option maxRecDepth 100000 in
set_option maxHeartbeats 6400000 in
theorem great11_any (A : Option Addr) (c : Nat) (cl : List Cl) (w : World) (B : Nat) (h : RowG clC 6 w B A cl) :
    Calls Tryz.prog 5 #[.slice A cl.length c] w (Great11 cl w) := by
  have HC := Lib.hid h
  clear h
  by_cases h80 : 120 < cl.length
  · have h80i : (120 : Int) < (cl.length : Int) := by omega
    go_enter Tryz.func5, Tryz.ntmps5
    go_wp2_with fail
    go_ret
    exact ⟨rfl, .inl rfl⟩
  · have h80i : ¬ (120 : Int) < (cl.length : Int) := by omega
    obtain ⟨n, hn⟩ : ∃ n, n = cl.length := ⟨_, rfl⟩
    rw [← hn] at h80 h80i ⊢
    have HN := Lib.hid hn
    clear hn
    go_enter Tryz.func5, Tryz.ntmps5
    go_wp2_with fail
    go_loop [3] (fun i => ∃ k : Nat, k ≤ n ∧ i = .int .i64 k) (fun i => n - (intOf i).toNat)
    case atStart => exact ⟨0, by omega, rfl⟩
    case round =>
      obtain ⟨k, hk, rfl⟩ := hrel
      have hk0 : (0 : Int) ≤ (k : Int) := Int.natCast_nonneg _
      by_cases hlt : k < n
      · have hlt1 : (k : Int) < (n : Int) := by omega
        have hkl : k < cl.length := by rw [← HN.out]; exact hlt
        obtain ⟨ad, rfl, _, d0, d1, d2, d3, d4, d5⟩ := cl_at HC.out hkl
        obtain ⟨x, hx⟩ : ∃ x, x = cl[k] := ⟨_, rfl⟩
        rw [← hx] at d3 d4
        clear hx d0 d1 d2 d5
        by_cases g1 : 100 < x.th.t.size
        · have g1i : (100 : Int) < (x.th.t.size : Int) := by omega
          have g1d : decide ((100 : Int) < (x.th.t.size : Int)) = true := decide_eq_true g1i
          go_wp2_with fail
          go_ret
          exact ⟨rfl, .inl rfl⟩
        · have g1i : ¬ (100 : Int) < (x.th.t.size : Int) := by omega
          have g1d : decide ((100 : Int) < (x.th.t.size : Int)) = false := decide_eq_false g1i
          by_cases g2 : 100 < x.th.y.size
          · have g2i : (100 : Int) < (x.th.y.size : Int) := by omega
            have g2d : decide ((100 : Int) < (x.th.y.size : Int)) = true := decide_eq_true g2i
            go_wp2_with fail
            go_ret
            exact ⟨rfl, .inl rfl⟩
          · have g2i : ¬ (100 : Int) < (x.th.y.size : Int) := by omega
            have g2d : decide ((100 : Int) < (x.th.y.size : Int)) = false := decide_eq_false g2i
            go_wp2_with fail
            go_round
            case rel => exact ⟨k + 1, by omega, by go_num⟩
            case measure => simp [intOf]; omega
      · have hlt1 : ¬ (k : Int) < (n : Int) := by omega
        have HF := Lib.hid (show cl.length ≤ 120 by rw [← HN.out]; omega)
        go_wp2_with fail
        go_ret
        exact ⟨rfl, .inr ⟨rfl, HF.out⟩⟩
end Go.Proofs.YthbbheegkhlniaaGreat

/-
  A world in which all is as it was, but for what is new.
-/
namespace Go.Proofs.YthbbheegkhlniaaGreat
open Go.RowKit Go.Lib

/-- a world in which all that lay in w is as it was -/
structure BelowBy (w : World) where
  w' : World
  h : Below w.heap.size w w'
instance (w : World) : Inhabited (BelowBy w) := ⟨⟨w, Below.refl _ _⟩⟩
theorem wp_region_below {P : Program} {id : Nat} {Q : Exit → Act → World → Prop} {a : Act} {w : World} {l : List Oper} (hm : P.follows .mixedOrders = true) (hB : Region.lexB .any l.toArray = true)
    (h : wpQuiet P l.toArray (fun w' => ∃ p : BelowBy w, w' = p.w') (fun a' => ∀ w', (∃ p : BelowBy w, w' = p.w') → Q .normal a' w') l a) : (Code.region id l.toArray true).wp P Q a w :=
  wp_region_quiet (C := fun w' => ∃ p : BelowBy w, w' = p.w') hm hB ⟨⟨w.drew, (Below.refl _ _).drew⟩, rfl⟩ (by simpa using h)
theorem calls_below {P : Program} {f : FuncId} {args : Array Value} {w : World} {p : BelowBy w} {v : Value} (h : Calls P f args p.w' fun e w' => e = .returned v ∧ Below p.w'.heap.size p.w' w') :
    Calls P f args p.w' fun e w'' => e = .returned v ∧ ∃ q : BelowBy w, w'' = q.w' :=
  h.mono fun _ w' ⟨he, hb⟩ => ⟨he, ⟨w', p.h.trans (hb.mono p.h.size)⟩, rfl⟩
theorem BelowBy.cell {w : World} {a : Addr} {v : Value} (h : w.cell? a = some v) (p : BelowBy w) : p.w'.cell? a = some v := (p.h.cell (World.block_lt_of_cell? _ _ h)).trans h
end Go.Proofs.YthbbheegkhlniaaGreat
