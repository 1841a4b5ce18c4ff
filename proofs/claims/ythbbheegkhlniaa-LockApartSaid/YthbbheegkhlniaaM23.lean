/-
  LockGone over the contract.
-/
import Derived.Test.YthbbheegkhlniaaM22
import Derived.ProofKit
import Derived.OpenShut
import Derived.ChangeOld
import Derived.Deep.Slices
import Derived.SizedLaws
import Derived.Test.YthbbheegkhlniaaM03
namespace Go.Proofs.Ythbbheegkhlniaa
open Go.RowKit Go.Lib

section
variable {T : LkP} (I : ImplL T) {w0 w w' : World} {tb : Nat} {l : Lk}
include I
theorem Te.waiting (h : Te T w0 w tb l) (x : Int) (hs : szL l ≤ 1000) (hx : NumI x) : Calls Try.prog 18 #[ptrL tb, .int .i64 x] w fun r w' => r = .returned (waitR l x) ∧ Te T w0 w' tb l := by
  obtain ⟨D, h⟩ := h
  exact (I.waiting x h.t hs hx).mono fun r w' ⟨h1, h2⟩ => ⟨h1, D, h.below I h2⟩
theorem Te.mode (h : Te T w0 w tb l) (x : Int) (t : Th) (hs : szL l ≤ 1000) (hx : NumI x) (ht : t.In) : Calls Try.prog 21 #[ptrL tb, .int .i64 x, thV t] w fun r w' => r = .returned (.int .i64 (modeL l.H x t)) ∧ Te T w0 w' tb l := by
  obtain ⟨D, h⟩ := h
  exact (I.mode x t h.t hs hx ht).mono fun r w' ⟨h1, h2⟩ => ⟨h1, D, h.below I h2⟩
theorem Te.things (h : Te T w0 w tb l) (x : Int) (hs : szL l ≤ 1000) (hx : NumI x) : Calls Try.prog 19 #[ptrL tb, .int .i64 x] w fun r w' => ∃ A n c, r = .returned (.slice A n c) ∧ n = (thingsL l.H x).length ∧ w'.ownsRow w.heap.size 29 3 (.slice A n c) n (ths (thingsL l.H x)) ∧ Te T w0 w' tb l := by
  obtain ⟨D, h⟩ := h
  exact (I.things x h.t hs hx).mono fun r w' ⟨A, n, c, h1, h2, h3, h4⟩ => ⟨A, n, c, h1, h2, h3, D, h.below I h4⟩
end
theorem Te.low {T : LkP} {w0 w : World} {tb : Nat} {l : Lk} (h : Te T w0 w tb l) : Below w0.heap.size w0 w := by
  obtain ⟨D, h⟩ := h
  exact h.low
/-- behind the first k releases -/
structure Gone (cl : List Cl) (l : Lk) (k : Nat) : Prop where
  sz : szL l ≤ 1000
  live : ∀ y, Lives l y → ∃ c ∈ cl, c.x = y
  dead : ∀ j (h : j < cl.length), j < k → ¬ Lives l cl[j].x
theorem Gone.step {cl : List Cl} {l : Lk} {k : Nat} (h : Gone cl l k) (hok : LkOk l) (hk : k < cl.length) : Gone cl (releaseL l cl[k].x).1 (k + 1) := by
  refine ⟨Nat.le_trans (release_sz _ _) h.sz, fun y hy => h.live y (release_lives hok hy).1, fun j hj hjk hl => ?_⟩
  have h1 := release_lives hok hl
  rcases Nat.lt_or_ge j k with h2 | h2
  · exact h.dead j hj h2 h1.1
  · obtain rfl : j = k := by omega
    exact h1.2 rfl
theorem Gone.all {cl : List Cl} {l : Lk} (h : Gone cl l cl.length) (y : Int) : ¬ Lives l y := fun hy => by
  obtain ⟨c, hc, e⟩ := h.live y hy
  obtain ⟨j, hj, rfl⟩ := List.mem_iff_getElem.1 hc
  exact h.dead j hj hj (e ▸ hy)
set_option maxRecDepth 100000 in
set_option maxHeartbeats 12800000 in
theorem lgone_walk {T : LkP} (I : ImplL T) (A : Option Addr) (c : Nat) (cl : List Cl) (w : World) (hc : RowG clC 6 w w.heap.size A cl) (hin : ∀ x ∈ cl, x.In) (hl : cl.length ≤ c) (hm : c ≤ maxLen) :
    Says Try.prog 4 #[.slice A cl.length c] w (.bool true) := by
  have H := Lib.hid (And.intro hc (And.intro hin (Nat.le_trans hl hm)))
  have HAL := Lib.hid fun (w : World) => alive11_any I w
  clear hc hin hl hm
  go_enter Try.func4, Try.ntmps4
  go_wp2_with fail
  refine (HAL.out w).mono ?_
  rintro e w1 ⟨rfl, hb1⟩
  have H1 := Lib.hid hb1
  clear hb1
  go_wp2_with fail
  refine (great11_any A c cl w1 w.heap.size (H.out.1.below H1.out (Nat.le_refl _))).mono ?_
  rintro e w1' ⟨rfl, rfl | ⟨rfl, hfew⟩⟩
  · go_wp2_with fail
    go_ret
    exact ⟨rfl, H1.out⟩
  go_wp2_with fail
  refine (I.new w1' w.heap.size H1.out.size).mono ?_
  rintro e w2 ⟨tb, D, rfl, ht2, _, hb2⟩
  have H2 := Lib.hid (show Te T w w2 tb ⟨[], []⟩ from ⟨D, ht2, H1.out.trans (hb2.mono H1.out.size)⟩)
  clear ht2 hb2
  obtain ⟨n, hn⟩ : ∃ n, n = cl.length := ⟨_, rfl⟩
  have hn120 : n ≤ 120 := by rw [hn]; exact hfew
  have hn0 : (0 : Int) ≤ (n : Int) := Int.natCast_nonneg _
  rw [← hn]
  have HN := Lib.hid hn
  clear hn hfew
  go_wp2_with fail
  go_loopw [4] (fun i wr => ∃ k : Nat, k ≤ n ∧ i = .int .i64 k ∧ Te T w wr tb (runL cl k)) (fun i _ => n - (intOf i).toNat)
  case atStart => exact ⟨0, by omega, rfl, by rw [run_zero]; exact H2.out⟩
  case round =>
    obtain ⟨k, hk, rfl, hT⟩ := hrel
    have HT := Lib.hid hT
    have hk0 : (0 : Int) ≤ (k : Int) := Int.natCast_nonneg _
    clear hT
    by_cases hlt : k < n
    · have hlt1 : (k : Int) < (n : Int) := by omega
      have hkl : k < cl.length := by rw [← HN.out]; exact hlt
      obtain ⟨ad, rfl, _, d0, d1, d2, d3, d4, d5⟩ := cl_at (H.out.1.below HT.out.low (Nat.le_refl _)) hkl
      have hxi := H.out.2.1 cl[k] (List.getElem_mem hkl)
      obtain ⟨x, hx⟩ : ∃ x, x = cl[k] := ⟨_, rfl⟩
      rw [← hx] at d0 d1 d2 d3 d4 d5 hxi
      have hsz := run_sz cl k (by rw [← HN.out]; exact hk)
      have HX := Lib.hid (And.intro hx (And.intro hxi (And.intro (show szL (runL cl k) ≤ 1000 by omega) hkl)))
      clear hx hxi hsz
      go_wp2_with (go_at_call 13; refine (do_any I HT.out HX.out.2.2.1 x HX.out.2.1).mono ?_; rintro e w3 ⟨rfl, h3⟩; have H3 := Lib.hid h3; clear h3)
      go_roundw
      case rel => exact ⟨k + 1, by omega, by go_num, by rw [run_succ HX.out.2.2.2, ← HX.out.1]; exact H3.out⟩
      case measure => simp [intOf]; omega
    · have hlt1 : ¬ (k : Int) < (n : Int) := by omega
      have hkn : k = cl.length := by rw [← HN.out]; omega
      have HE := Lib.hid (show Te T w wr tb (runL cl cl.length) by rw [← hkn]; exact HT.out)
      clear hkn HT
      go_wp2_with fail
      go_loopw [5] (fun i wr => ∃ (k : Nat) (l : Lk), k ≤ n ∧ i = .int .i64 k ∧ Te T w wr tb l ∧ Gone cl l k) (fun i _ => n - (intOf i).toNat)
      case atStart => exact ⟨0, _, by omega, rfl, HE.out, ⟨by have := run_sz cl cl.length (Nat.le_refl _); have := HN.out; omega, fun y hy => run_lives cl _ (Nat.le_refl _) hy, fun j _ hj => absurd hj (by omega)⟩⟩
      case round =>
        obtain ⟨k, l, hk, rfl, hT, hG⟩ := hrel
        have HT := Lib.hid hT
        have hk0 : (0 : Int) ≤ (k : Int) := Int.natCast_nonneg _
        clear hT
        by_cases hlt : k < n
        · have hlt1 : (k : Int) < (n : Int) := by omega
          have hkl : k < cl.length := by rw [← HN.out]; exact hlt
          obtain ⟨ad, rfl, _, d0, d1, d2, d3, d4, d5⟩ := cl_at (H.out.1.below HT.out.low (Nat.le_refl _)) hkl
          have hxi := H.out.2.1 cl[k] (List.getElem_mem hkl)
          obtain ⟨x, hx⟩ : ∃ x, x = cl[k] := ⟨_, rfl⟩
          rw [← hx] at d0 d1 d2 d3 d4 d5 hxi
          have hG2 := hG.step (HT.out.ok I) hkl
          rw [← hx] at hG2
          have hdead : ¬ Lives (releaseL l x.x).1 x.x := fun h9 => (release_lives (HT.out.ok I) h9).2 rfl
          have HX := Lib.hid (And.intro hxi (And.intro hG.sz (And.intro hG2 hdead)))
          have HD := Lib.hid (And.intro (show waitR (releaseL l x.x).1 x.x = .tuple #[wantV ⟨0, eS, eS⟩ 0, .bool false] by unfold waitR; rw [dead_waits hdead]) (And.intro (dead_things hdead) (blockL_none (dead_waits hdead))))
          clear hx hxi hG hG2 hdead d0 d2 d3 d4 d5
          go_upto_region 15 with (go_at_call 17; refine (HT.out.release I x.x HX.out.2.1 HX.out.1.2.1).mono ?_; rintro e w4 ⟨v, rfl, _, h4⟩; have H4 := Lib.hid h4; clear h4)
          go_wp2_with (first
            | (go_at_call 18; refine ((H4.out.below I (by first | exact Below.refl _ _ | exact (Below.refl _ _).alloc (Nat.le_refl _) _ | exact ((Below.refl _ _).alloc (Nat.le_refl _) _).drew | exact (Below.refl _ _).drew)).waiting I x.x HX.out.2.2.1.sz HX.out.1.2.1).mono ?_; rw [HD.out.1]; rintro e w5 ⟨rfl, h5⟩; clear H4; have H4 := Lib.hid h5; clear h5)
            | (go_at_call 19; refine ((H4.out.below I (by first | exact Below.refl _ _ | exact (Below.refl _ _).alloc (Nat.le_refl _) _ | exact ((Below.refl _ _).alloc (Nat.le_refl _) _).drew | exact (Below.refl _ _).drew)).things I x.x HX.out.2.2.1.sz HX.out.1.2.1).mono ?_; rw [HD.out.2.1]; rintro e w5 ⟨A5, n5, c5, rfl, hn5, _, h5⟩; obtain rfl := hn5; clear H4; have H4 := Lib.hid h5; clear h5)
            | (go_at_call 16; refine ((H4.out.below I (by first | exact Below.refl _ _ | exact (Below.refl _ _).alloc (Nat.le_refl _) _ | exact ((Below.refl _ _).alloc (Nat.le_refl _) _).drew | exact (Below.refl _ _).drew)).blockers I x.x HX.out.2.2.1.sz HX.out.1.2.1).mono ?_; rw [HD.out.2.2]; rintro e w5 ⟨v, rfl, ⟨A5, n5, c5, rfl, hn5, _⟩, h5⟩; obtain rfl := hn5; clear H4; have H4 := Lib.hid h5; clear h5))
          go_roundw
          case rel => exact ⟨k + 1, _, by omega, by go_num, H4.out, HX.out.2.2.1⟩
          case measure => simp [intOf]; omega
        · have hlt1 : ¬ (k : Int) < (n : Int) := by omega
          have hkn : k = cl.length := by rw [← HN.out]; omega
          have HA := Lib.hid (And.intro (show ∀ y, ¬ Lives l y from fun y => (show Gone cl l cl.length by rw [← hkn]; exact hG).all y) hG.sz)
          clear hkn hG
          go_wp2_with fail
          go_loopw [9] (fun i wr => ∃ k : Nat, k ≤ n ∧ i = .int .i64 k ∧ Te T w wr tb l) (fun i _ => n - (intOf i).toNat)
          case atStart => exact ⟨0, by omega, rfl, HT.out⟩
          case round =>
            obtain ⟨k, hk, rfl, hT⟩ := hrel
            clear HT
            have HT := Lib.hid hT
            have hk0 : (0 : Int) ≤ (k : Int) := Int.natCast_nonneg _
            clear hT
            by_cases hlt : k < n
            · have hlt1 : (k : Int) < (n : Int) := by omega
              have hkl : k < cl.length := by rw [← HN.out]; exact hlt
              obtain ⟨ad, rfl, _, d0, d1, d2, d3, d4, d5⟩ := cl_at (H.out.1.below HT.out.low (Nat.le_refl _)) hkl
              have hxi := H.out.2.1 cl[k] (List.getElem_mem hkl)
              obtain ⟨x, hx⟩ : ∃ x, x = cl[k] := ⟨_, rfl⟩
              rw [← hx] at d0 d1 d2 d3 d4 d5 hxi
              have d3' : wr.cell? ⟨(ad.add (k * 6)).block, (ad.add (k * 6)).off + 2 + 1, none⟩ = some (.string x.th.t) := d3
              have d4' : wr.cell? ⟨(ad.add (k * 6)).block, (ad.add (k * 6)).off + 2 + 2, none⟩ = some (.string x.th.y) := d4
              have HX := Lib.hid (And.intro hxi (dead_state HA.out.1 x.th))
              clear hx hxi d0 d1 d5
              go_wp2_with (go_at_call 14; refine (HT.out.state I x.th HA.out.2 HX.out.1.2.2.1).mono ?_; rw [HX.out.2]; rintro e w5 ⟨A5, n5, c5, rfl, hn5, _, h5⟩; obtain rfl := hn5; have H4 := Lib.hid h5; clear h5)
              go_roundw
              case rel => exact ⟨k + 1, by omega, by go_num, H4.out⟩
              case measure => simp [intOf]; omega
            · have hlt1 : ¬ (k : Int) < (n : Int) := by omega
              go_wp2_with fail
              go_ret
              exact ⟨rfl, HT.out.low⟩
end Go.Proofs.Ythbbheegkhlniaa

/-
  Layer 11's arguments opened: things, wants, rows of calls.
-/
namespace Go.Proofs.Ythbbheegkhlniaa
open Go.ChangeShapes Go.WideShapes Go.ChangeAt Go.RowKit

theorem own : ownKnob Try.prog.godebug = none := by kernel_rfl
theorem laidOut : laidOutB Try.prog = true := by kernel_rfl
section
variable {P : Program} {H : Type} {enc : TypeId × Value → H} {W : World} {B : Nat}
theorem weights_all {e : TypeId} {d : DataW H} {q : Nat} : ∀ {l : List (DataW H)}, d ∈ l → q ∈ d.weights P e → q ∈ DataW.weightsAll P e l := by
  intro l
  induction l with
  | nil => intro h; simp at h
  | cons x l ih =>
    intro h hq
    simp only [DataW.weightsAll]
    rcases List.mem_cons.1 h with rfl | h
    · exact List.mem_append.2 (.inl hq)
    · exact List.mem_append.2 (.inr (ih h hq))
/-- a text that is no longer than one of these numbers -/
def Wt (ws : List Nat) (s : ByteArray) : Prop := ∃ q ∈ ws, s.size ≤ q
theorem Wt.mono {ws ws' : List Nat} {s : ByteArray} (h : Wt ws s) (hw : ∀ q ∈ ws, q ∈ ws') : Wt ws' s := by
  obtain ⟨q, hq, hle⟩ := h
  exact ⟨q, hw q hq, hle⟩
theorem Wt.room {ws : List Nat} {s : ByteArray} (h : Wt ws s) (hw : ∀ q ∈ ws, q ≤ reachBytes) : s.size ≤ roomLen := by
  obtain ⟨q, hq, hle⟩ := h
  have := hw q hq
  unfold reachBytes at this
  unfold roomLen
  omega
def ThW (ws : List Nat) (x : Th) : Prop := NumI x.k ∧ Wt ws x.t ∧ Wt ws x.y
def ClW (c : Cl) (ws : List Nat) : Prop := NumI c.w ∧ NumI c.x ∧ ThW ws c.th ∧ NumI c.m
theorem ThW.mono {ws ws' : List Nat} {x : Th} (h : ThW ws x) (hw : ∀ q ∈ ws, q ∈ ws') : ThW ws' x := ⟨h.1, h.2.1.mono hw, h.2.2.mono hw⟩
theorem ThW.room {ws : List Nat} {x : Th} (h : ThW ws x) (hw : ∀ q ∈ ws, q ≤ reachBytes) : x.In := ⟨h.1, h.2.1.room hw, h.2.2.room hw⟩
theorem ClW.mono (y : Cl) (ws ws' : List Nat) (hw : ∀ q ∈ ws, q ∈ ws') (h : ClW y ws) : ClW y ws' := ⟨h.1, h.2.1, h.2.2.1.mono hw, h.2.2.2⟩
theorem ClW.room {y : Cl} {ws : List Nat} (h : ClW y ws) (hw : ∀ q ∈ ws, q ≤ reachBytes) : y.In := ⟨h.1, h.2.1, h.2.2.1.room hw, h.2.2.2⟩
theorem rows_of_trod {α : Type} (cell : α → List Value) (In : α → List Nat → Prop) (hmono : ∀ y ws ws', (∀ q ∈ ws, q ∈ ws') → In y ws → In y ws') (S : Nat) (hS : ∀ y, (cell y).length = S) (h0S : 0 < S) {t e : TypeId} {a : Option Addr} {len cap : Nat} {d : DataW H} {p : List MemPlace} (ht : P.underlying t = some (.slice e)) (hc : P.cellsOf e = S)
    (one : ∀ fuel cs (x : DataW H × List MemPlace), cs.length = S → DataW.trod enc P W B (fun _ => true) true fuel e cs = some x → ∃ y, In y (x.1.weights P e) ∧ cs = cell y)
    (h : DataW.Trod enc P W B (fun _ => true) true t (.slice a len cap) d p) : ∃ vs : List α, vs.length = len ∧ len ≤ cap ∧ cap ≤ maxLen ∧ (∀ x ∈ vs, In x (d.weights P t)) ∧ RowG cell S W W.heap.size a vs := by
  obtain ⟨fuel, hf⟩ := h
  rcases Go.Deep.open_slice ht hf with ⟨hcs, _⟩ | ⟨x, l, c, m, n, D, Pl, hcs, _, hl, hm, hmm, hx, hel⟩
  · simp [Value.cells] at hcs
    obtain ⟨rfl, rfl, rfl⟩ := hcs
    exact ⟨[], rfl, Nat.le_refl _, by simp [maxLen], fun x hx => by simp at hx, fun h => absurd h (by simp), fun i hi => by simp at hi⟩
  · simp [Value.cells] at hcs
    obtain ⟨rfl, rfl, rfl⟩ := hcs
    obtain rfl : m = cap := by simpa using hmm
    have hone : ∀ i, i < len → ∃ y : α, In y ((D i).weights P e) ∧ ∀ j u, (cell y)[j]? = some u → W.cell? (x.add (i * S + j)) = some u := by
      intro i hi
      obtain ⟨cs', hc', ht'⟩ := hel i (by omega)
      rw [hc] at hc'
      obtain ⟨_, hcl, hat⟩ := World.cells?_some hc'
      obtain ⟨y, hy, rfl⟩ := one _ _ _ hcl ht'
      refine ⟨y, hy, fun j u hu => ?_⟩
      have hj : j < S := by have := (List.getElem?_eq_some_iff.1 hu).1; rwa [hS] at this
      rw [← addr_add, hat j hj]
      exact hu
    have hd : d = .slice ((List.range len).map D) ((List.range (m - len)).map fun j => D (len + j)) := by
      simp only [Prod.mk.injEq] at hx
      exact hx.1
    refine ⟨(List.finRange len).map fun i => Classical.choose (hone i.1 i.2), by simp, hl, hm, fun y hy => ?_, fun h0 => ⟨x, rfl, ?_⟩, fun i hi j u hu => ⟨x, rfl, ?_⟩⟩
    · obtain ⟨i, _, rfl⟩ := List.mem_map.1 hy
      refine hmono _ _ _ (fun q hq => ?_) (Classical.choose_spec (hone i.1 i.2)).1
      rw [hd]
      simp only [DataW.weights, ht]
      refine List.mem_cons.2 (.inr (List.mem_append.2 (.inl (weights_all ?_ hq))))
      exact List.mem_map.2 ⟨i.1, List.mem_range.2 i.2, rfl⟩
    · have h0' : 0 < len := by simpa using h0
      obtain ⟨u, hu⟩ : ∃ u, (cell (Classical.choose (hone 0 h0')))[0]? = some u := ⟨_, List.getElem?_eq_getElem (by rw [hS]; exact h0S)⟩
      have h1 := World.block_lt_of_cell? _ _ ((Classical.choose_spec (hone 0 h0')).2 0 _ hu)
      rwa [addr_block] at h1
    · have hi' : i < len := by simpa using hi
      simp only [List.getElem_map, List.getElem_finRange] at hu
      exact (Classical.choose_spec (hone i hi')).2 j u hu
theorem th_of_trod {fuel : Nat} {e : TypeId} {f0 f1 f2 : Field} {cs : List Value} {x : DataW H × List MemPlace} (he : P.underlying e = some (.struct #[f0, f1, f2])) (hlen : cs.length = 3)
    (o0 : f0.offset = 0 ∧ P.cellsOf f0.type = 1 ∧ P.underlying f0.type = some (.int .i64)) (o1 : f1.offset = 1 ∧ P.cellsOf f1.type = 1 ∧ P.underlying f1.type = some .string) (o2 : f2.offset = 2 ∧ P.cellsOf f2.type = 1 ∧ P.underlying f2.type = some .string)
    (h : DataW.trod enc P W B (fun _ => true) true fuel e cs = some x) : ∃ y : Th, ThW (x.1.weights P e) y ∧ cs = thC y := by
  cases fuel with
  | zero => simp [DataW.trod] at h
  | succ fuel =>
  obtain ⟨ys, n', _, hD, _, _, hfl⟩ := DataW.trod_struct he h
  have hD' := congrArg Prod.fst hD
  simp only at hD'
  match cs, hlen with
  | [u0, u1, u2], _ =>
    have g0 := hfl 0 f0 rfl
    have g1 := hfl 1 f1 rfl
    have g2 := hfl 2 f2 rfl
    rw [o0.1, o0.2.1] at g0
    rw [o1.1, o1.2.1] at g1
    rw [o2.1, o2.2.1] at g2
    have some_of : ∀ {k : Nat} {α : Type} {l : List α}, k < l.length → ∃ y, l[k]? = some y := fun h => ⟨_, List.getElem?_eq_getElem h⟩
    have hys : ys.length = 3 := by assumption
    obtain ⟨y0, e0⟩ := some_of (k := 0) (l := ys) (by omega)
    obtain ⟨y1, e1⟩ := some_of (k := 1) (l := ys) (by omega)
    obtain ⟨y2, e2⟩ := some_of (k := 2) (l := ys) (by omega)
    obtain ⟨z0, hz0, _, w0⟩ := DataW.trod_int o0.2.2 (g0.trans e0)
    obtain ⟨s1, hs1, hx1, _⟩ := DataW.trod_string o1.2.2 (g1.trans e1)
    obtain ⟨s2, hs2, hx2, _⟩ := DataW.trod_string o2.2.2 (g2.trans e2)
    simp at hz0 hs1 hs2
    subst hz0 hs1 hs2
    refine ⟨⟨z0, s1, s2⟩, ⟨bounds_i64 w0, ⟨s1.data.toList.length, ?_, Nat.le_of_eq (Array.length_toList (xs := s1.data)).symm⟩, ⟨s2.data.toList.length, ?_, Nat.le_of_eq (Array.length_toList (xs := s2.data)).symm⟩⟩, rfl⟩
    · rw [hD']
      simp only [DataW.weights, he]
      refine DataW.weights_mem_each (j := 1) (t := f1.type) (d := y1.1) rfl (by rw [List.getElem?_map, e1]; rfl) _ ?_
      rw [hx1]
      simp [DataW.weights]
    · rw [hD']
      simp only [DataW.weights, he]
      refine DataW.weights_mem_each (j := 2) (t := f2.type) (d := y2.1) rfl (by rw [List.getElem?_map, e2]; rfl) _ ?_
      rw [hx2]
      simp [DataW.weights]
theorem want_of_trod {fuel : Nat} {e : TypeId} {f0 f1 g0 g1 g2 : Field} {cs : List Value} {x : DataW H × List MemPlace} (he : P.underlying e = some (.struct #[f0, f1])) (hlen : cs.length = 4)
    (o0 : f0.offset = 0 ∧ P.cellsOf f0.type = 3 ∧ P.underlying f0.type = some (.struct #[g0, g1, g2])) (o1 : f1.offset = 3 ∧ P.cellsOf f1.type = 1 ∧ P.underlying f1.type = some (.int .i64))
    (q0 : g0.offset = 0 ∧ P.cellsOf g0.type = 1 ∧ P.underlying g0.type = some (.int .i64)) (q1 : g1.offset = 1 ∧ P.cellsOf g1.type = 1 ∧ P.underlying g1.type = some .string) (q2 : g2.offset = 2 ∧ P.cellsOf g2.type = 1 ∧ P.underlying g2.type = some .string)
    (h : DataW.trod enc P W B (fun _ => true) true fuel e cs = some x) : ∃ (t : Th) (m : Int), ThW (x.1.weights P e) t ∧ NumI m ∧ cs = [.int .i64 t.k, .string t.t, .string t.y, .int .i64 m] := by
  obtain ⟨ys, n', _, hD, _, _, hfl⟩ := DataW.trod_struct he h
  have hD' := congrArg Prod.fst hD
  simp only at hD'
  match cs, hlen with
  | [u0, u1, u2, u3], _ =>
    have k0 := hfl 0 f0 rfl
    have k1 := hfl 1 f1 rfl
    rw [o0.1, o0.2.1] at k0
    rw [o1.1, o1.2.1] at k1
    have some_of : ∀ {k : Nat} {α : Type} {l : List α}, k < l.length → ∃ y, l[k]? = some y := fun h => ⟨_, List.getElem?_eq_getElem h⟩
    have hys : ys.length = 2 := by assumption
    obtain ⟨y0, e0⟩ := some_of (k := 0) (l := ys) (by omega)
    obtain ⟨y1, e1⟩ := some_of (k := 1) (l := ys) (by omega)
    obtain ⟨t, ht, htc⟩ := th_of_trod o0.2.2 (by rfl) q0 q1 q2 (k0.trans e0)
    obtain ⟨z, hz, _, wz⟩ := DataW.trod_int o1.2.2 (k1.trans e1)
    simp [thC] at htc hz
    obtain ⟨rfl, rfl, rfl⟩ := htc
    subst hz
    refine ⟨t, z, ht.mono (fun q hq => ?_), bounds_i64 wz, rfl⟩
    rw [hD']
    simp only [DataW.weights, he]
    exact DataW.weights_mem_each (j := 0) (t := f0.type) (d := y0.1) rfl (by rw [List.getElem?_map, e0]; rfl) _ hq
theorem want_of_wide {t : TypeId} {f0 f1 g0 g1 g2 : Field} {v : Value} {d : DataW H} {p : List MemPlace} {W' : World} {r : Reach} {b0 : Nat} (ht : P.underlying t = some (.struct #[f0, f1])) (hc : P.cellsOf t = 4)
    (o0 : f0.offset = 0 ∧ P.cellsOf f0.type = 3 ∧ P.underlying f0.type = some (.struct #[g0, g1, g2])) (o1 : f1.offset = 3 ∧ P.cellsOf f1.type = 1 ∧ P.underlying f1.type = some (.int .i64))
    (q0 : g0.offset = 0 ∧ P.cellsOf g0.type = 1 ∧ P.underlying g0.type = some (.int .i64)) (q1 : g1.offset = 1 ∧ P.cellsOf g1.type = 1 ∧ P.underlying g1.type = some .string) (q2 : g2.offset = 2 ∧ P.cellsOf g2.type = 1 ∧ P.underlying g2.type = some .string)
    (hval : Value.okWide P W' r b0 t v) (h : DataW.Trod enc P W B (fun _ => true) true t v d p) (hsz : ∀ q ∈ d.weights P t, q ≤ reachBytes) : ∃ (x : Th) (m : Int), x.In ∧ NumI m ∧ v = wantV x m := by
  obtain ⟨cs, rfl, hs⟩ := okWide_struct ht hval
  obtain ⟨fuel, hf⟩ := h
  obtain ⟨x, m, hx, hm, e⟩ := want_of_trod ht (by show cs.toList.length = 4; rw [Array.length_toList, hs, hc]) o0 o1 q0 q1 q2 hf
  refine ⟨x, m, hx.room hsz, hm, ?_⟩
  have e' : cs.toList = [.int .i64 x.k, .string x.t, .string x.y, .int .i64 m] := e
  rw [show cs = [Value.int .i64 x.k, .string x.t, .string x.y, .int .i64 m].toArray by rw [← e']]
theorem call11_of_trod {fuel : Nat} {e : TypeId} {f0 f1 f2 h0 h1 g0 g1 g2 : Field} {cs : List Value} {x : DataW H × List MemPlace} (he : P.underlying e = some (.struct #[f0, f1, f2])) (hlen : cs.length = 6)
    (o0 : f0.offset = 0 ∧ P.cellsOf f0.type = 1 ∧ P.underlying f0.type = some (.int .i64)) (o1 : f1.offset = 1 ∧ P.cellsOf f1.type = 1 ∧ P.underlying f1.type = some (.int .i64))
    (o2 : f2.offset = 2 ∧ P.cellsOf f2.type = 4 ∧ P.underlying f2.type = some (.struct #[h0, h1]))
    (p0 : h0.offset = 0 ∧ P.cellsOf h0.type = 3 ∧ P.underlying h0.type = some (.struct #[g0, g1, g2])) (p1 : h1.offset = 3 ∧ P.cellsOf h1.type = 1 ∧ P.underlying h1.type = some (.int .i64))
    (q0 : g0.offset = 0 ∧ P.cellsOf g0.type = 1 ∧ P.underlying g0.type = some (.int .i64)) (q1 : g1.offset = 1 ∧ P.cellsOf g1.type = 1 ∧ P.underlying g1.type = some .string) (q2 : g2.offset = 2 ∧ P.cellsOf g2.type = 1 ∧ P.underlying g2.type = some .string)
    (h : DataW.trod enc P W B (fun _ => true) true fuel e cs = some x) : ∃ y : Cl, ClW y (x.1.weights P e) ∧ cs = clC y := by
  obtain ⟨ys, n', _, hD, _, _, hfl⟩ := DataW.trod_struct he h
  have hD' := congrArg Prod.fst hD
  simp only at hD'
  match cs, hlen with
  | [u0, u1, u2, u3, u4, u5], _ =>
    have k0 := hfl 0 f0 rfl
    have k1 := hfl 1 f1 rfl
    have k2 := hfl 2 f2 rfl
    rw [o0.1, o0.2.1] at k0
    rw [o1.1, o1.2.1] at k1
    rw [o2.1, o2.2.1] at k2
    have some_of : ∀ {k : Nat} {α : Type} {l : List α}, k < l.length → ∃ y, l[k]? = some y := fun h => ⟨_, List.getElem?_eq_getElem h⟩
    have hys : ys.length = 3 := by assumption
    obtain ⟨y0, e0⟩ := some_of (k := 0) (l := ys) (by omega)
    obtain ⟨y1, e1⟩ := some_of (k := 1) (l := ys) (by omega)
    obtain ⟨y2, e2⟩ := some_of (k := 2) (l := ys) (by omega)
    obtain ⟨z0, hz0, _, w0⟩ := DataW.trod_int o0.2.2 (k0.trans e0)
    obtain ⟨z1, hz1, _, w1⟩ := DataW.trod_int o1.2.2 (k1.trans e1)
    obtain ⟨t, m, ht, hm, hc⟩ := want_of_trod o2.2.2 (by rfl) p0 p1 q0 q1 q2 (k2.trans e2)
    simp at hz0 hz1 hc
    obtain ⟨rfl, rfl, rfl, rfl⟩ := hc
    subst hz0 hz1
    refine ⟨⟨z0, z1, t, m⟩, ⟨bounds_i64 w0, bounds_i64 w1, ht.mono (fun q hq => ?_), hm⟩, rfl⟩
    rw [hD']
    simp only [DataW.weights, he]
    exact DataW.weights_mem_each (j := 2) (t := f2.type) (d := y2.1) rfl (by rw [List.getElem?_map, e2]; rfl) _ hq
end
end Go.Proofs.Ythbbheegkhlniaa

/-
  A world in which all is as it was, but for what is new.
-/
namespace Go.Proofs.Ythbbheegkhlniaa
open Go.RowKit Go.Lib

/-- a world in which all that lay in w is as it was -/
structure BelowBy (w : World) where
  w' : World
  h : Below w.heap.size w w'
instance (w : World) : Inhabited (BelowBy w) := ⟨⟨w, Below.refl _ _⟩⟩
theorem wp_region_below {P : Program} {id : Nat} {Q : Exit → Act → World → Prop} {a : Act} {w : World} {l : List Oper} (hm : P.follows .mixedOrders = true) (hB : Region.lexB .any l.toArray = true)
    (h : wpQuiet P l.toArray (fun w' => ∃ p : BelowBy w, w' = p.w') (fun a' => ∀ w', (∃ p : BelowBy w, w' = p.w') → Q .normal a' w') l a) : (Code.region id l.toArray true).wp P Q a w :=
  wp_region_quiet (C := fun w' => ∃ p : BelowBy w, w' = p.w') hm hB ⟨⟨w.drew, (Below.refl _ _).drew⟩, rfl⟩ (by simpa using h)
theorem calls_below {P : Program} {f : FuncId} {args : Array Value} {w : World} {p : BelowBy w} {v : Value} (h : Calls P f args p.w' fun e w' => e = .returned v ∧ Below p.w'.heap.size p.w' w') :
    Calls P f args p.w' fun e w'' => e = .returned v ∧ ∃ q : BelowBy w, w'' = q.w' :=
  h.mono fun _ w' ⟨he, hb⟩ => ⟨he, ⟨w', p.h.trans (hb.mono p.h.size)⟩, rfl⟩
theorem BelowBy.cell {w : World} {a : Addr} {v : Value} (h : w.cell? a = some v) (p : BelowBy w) : p.w'.cell? a = some v := (p.h.cell (World.block_lt_of_cell? _ _ h)).trans h
end Go.Proofs.Ythbbheegkhlniaa

/-
  LockAlone over the contract.
-/
namespace Go.Proofs.Ythbbheegkhlniaa
open Go.RowKit Go.Lib

section
variable {T : LkP} (I : ImplL T) {w0 w w1 : World} {tb : Nat} {l : Lk}
include I
/-- what others made since w is kept -/
theorem Te.ask2 (h : Te T w0 w tb l) (hb : Below w.heap.size w w1) (x : Int) (t : Th) (m : Int) (hs : szL l ≤ 1000) (hx : NumI x) (ht : t.In) (hm : NumI m) : Calls Try.prog 20 #[ptrL tb, .int .i64 x, wantV t m] w1 fun r w' => r = .returned (.tuple #[.bool (askL l x t m).2.1, .int .i64 (askL l x t m).2.2]) ∧ Te T w0 w' tb (askL l x t m).1 ∧ ∀ k, w.heap.size ≤ k → k < w1.heap.size → w'.heap[k]? = w1.heap[k]? := by
  obtain ⟨D, h⟩ := h
  have h1 := h.below I hb
  refine (I.ask x t m h1.t hs h1.low.size hx ht hm).mono fun r w' ⟨e1, e2, e3⟩ => ⟨e1, ⟨_, h1.step I e2 e3⟩, fun k hk hk1 => e3.block k hk1 fun hd => ?_⟩
  have := (I.foot h.t hd).2
  omega
theorem Te.mode_b (h : Te T w0 w tb l) (hb : Below w.heap.size w w1) (x : Int) (t : Th) (hs : szL l ≤ 1000) (hx : NumI x) (ht : t.In) : Says Try.prog 21 #[ptrL tb, .int .i64 x, thV t] w1 (.int .i64 (modeL l.H x t)) := by
  obtain ⟨D, h⟩ := h
  exact I.mode x t (I.below h.t hb) hs hx ht
end
theorem Alone.sz {x : Int} {n : Nat} {l : Lk} (h : Alone x n l) : szL l ≤ n := by
  unfold szL
  rw [h.w]
  have := h.len
  simpa using this
set_option maxRecDepth 100000 in
set_option maxHeartbeats 12800000 in
theorem lalone_walk {T : LkP} (I : ImplL T) (A : Option Addr) (c : Nat) (cl : List Cl) (w : World) (hc : RowG clC 6 w w.heap.size A cl) (hin : ∀ x ∈ cl, x.In) (hl : cl.length ≤ c) (hm : c ≤ maxLen) :
    Says Try.prog 8 #[.slice A cl.length c] w (.bool true) := by
  have hmix : Try.prog.follows .mixedOrders = true := by kernel_rfl
  have H := Lib.hid (And.intro hc (And.intro hin (Nat.le_trans hl hm)))
  have HAL := Lib.hid fun (w : World) => alive11_any I w
  clear hc hin hl hm
  go_enter Try.func8, Try.ntmps8
  go_wp2_with fail
  refine (HAL.out w).mono ?_
  rintro e w1 ⟨rfl, hb1⟩
  have H1 := Lib.hid hb1
  clear hb1
  go_wp2_with fail
  refine (great11_any A c cl w1 w.heap.size (H.out.1.below H1.out (Nat.le_refl _))).mono ?_
  rintro e w1' ⟨rfl, rfl | ⟨rfl, hfew⟩⟩
  · go_wp2_with fail
    go_ret
    exact ⟨rfl, H1.out⟩
  go_wp2_with fail
  refine (I.new w1' w.heap.size H1.out.size).mono ?_
  rintro e w2 ⟨tb, D, rfl, ht2, _, hb2⟩
  have H2 := Lib.hid (show Te T w w2 tb ⟨[], []⟩ from ⟨D, ht2, H1.out.trans (hb2.mono H1.out.size)⟩)
  clear ht2 hb2
  obtain ⟨n, hn⟩ : ∃ n, n = cl.length := ⟨_, rfl⟩
  have hn120 : n ≤ 120 := by rw [hn]; exact hfew
  have hn0 : (0 : Int) ≤ (n : Int) := Int.natCast_nonneg _
  rw [← hn]
  have HN := Lib.hid hn
  clear hn hfew
  go_wp2_with fail
  go_loopw [4] (fun i wr => ∃ (k : Nat) (l : Lk), k ≤ n ∧ i = .int .i64 k ∧ Te T w wr tb l ∧ Alone 7 k l) (fun i _ => n - (intOf i).toNat)
  case atStart => exact ⟨0, _, by omega, rfl, H2.out, LkOk.nil, rfl, fun k hk => (by cases hk), Nat.le_refl _⟩
  case round =>
    obtain ⟨k, l, hk, rfl, hT, hA⟩ := hrel
    have HT := Lib.hid hT
    have hk0 : (0 : Int) ≤ (k : Int) := Int.natCast_nonneg _
    clear hT
    by_cases hlt : k < n
    · have hlt1 : (k : Int) < (n : Int) := by omega
      have hkl : k < cl.length := by rw [← HN.out]; exact hlt
      obtain ⟨ad, rfl, _, d0, d1, d2, d3, d4, d5⟩ := cl_at (H.out.1.below HT.out.low (Nat.le_refl _)) hkl
      have hxi := H.out.2.1 cl[k] (List.getElem_mem hkl)
      obtain ⟨x, hx⟩ : ∃ x, x = cl[k] := ⟨_, rfl⟩
      rw [← hx] at d0 d1 d2 d3 d4 d5 hxi
      have d3' : wr.cell? ⟨(ad.add (k * 6)).block, (ad.add (k * 6)).off + 2 + 1, none⟩ = some (.string x.th.t) := d3
      have d4' : wr.cell? ⟨(ad.add (k * 6)).block, (ad.add (k * 6)).off + 2 + 2, none⟩ = some (.string x.th.y) := d4
      have d5' : wr.cell? ⟨(ad.add (k * 6)).block, (ad.add (k * 6)).off + 2 + 3, none⟩ = some (.int .i64 x.m) := d5
      have hsz := hA.sz
      have hask := hA.ask x.th x.m
      have HX := Lib.hid (And.intro hxi (And.intro (show szL l ≤ 1000 by omega) hask))
      clear hx hxi hsz d0 d1 hA hask
      obtain ⟨b, hb⟩ : ∃ b, b = wr.heap.size := ⟨_, rfl⟩
      obtain ⟨ws, hws⟩ : ∃ ws, ws = wr.alloc (.cells #[.int .i64 x.th.k, .string x.th.t, .string x.th.y, .int .i64 x.m] 31) := ⟨_, rfl⟩
      have hblk : Blk ws b 31 #[.int .i64 x.th.k, .string x.th.t, .string x.th.y, .int .i64 x.m] := by rw [hws, hb]; exact Blk.new wr _ _
      have hbs : Below wr.heap.size wr ws := by rw [hws]; exact (Below.refl _ wr).alloc (Nat.le_refl _) _
      have HS := Lib.hid (And.intro hb (And.intro hws (And.intro hblk hbs)))
      clear hws hblk hbs
      go_upto_region 10 with fail
      rw [← hb, ← HS.out.2.1]; clear hb
      have s0 : ws.cell? ⟨b, 0, none⟩ = some (.int .i64 x.th.k) := HS.out.2.2.1.cell 0
      have s1 : ws.cell? ⟨b, 1, none⟩ = some (.string x.th.t) := HS.out.2.2.1.cell 1
      have s2 : ws.cell? ⟨b, 2, none⟩ = some (.string x.th.y) := HS.out.2.2.1.cell 2
      have s3 : ws.cell? ⟨b, 3, none⟩ = some (.int .i64 x.m) := HS.out.2.2.1.cell 3
      clear d2 d3 d4 d5 d3' d4' d5'
      rcases HX.out.2.2.2 with ⟨q1, q2, q3⟩ | ⟨q1, q2⟩
      · have HQ := Lib.hid (And.intro q1 (And.intro q2 q3))
        clear q1 q2 q3
        go_upto_region 11 with (go_at_call 20; refine (HT.out.ask2 I HS.out.2.2.2 7 x.th x.m HX.out.2.1 (by unfold NumI; decide) HX.out.1.2.2.1 HX.out.1.2.2.2).mono ?_; rw [HQ.out.1, HQ.out.2.1]; rintro e w3 ⟨rfl, h3, hk3⟩; have H3 := Lib.hid (And.intro h3 (show Blk w3 b 31 #[.int .i64 x.th.k, .string x.th.t, .string x.th.y, .int .i64 x.m] from (hk3 b (by have := HS.out.1; omega) HS.out.2.2.1.lt).trans HS.out.2.2.1)); clear h3 hk3)
        clear s0 s1 s2 s3
        have s0 := BelowBy.cell (show w3.cell? ⟨b, 0, none⟩ = some (.int .i64 x.th.k) from H3.out.2.cell 0)
        have s1 := BelowBy.cell (show w3.cell? ⟨b, 1, none⟩ = some (.string x.th.t) from H3.out.2.cell 1)
        have s2 := BelowBy.cell (show w3.cell? ⟨b, 2, none⟩ = some (.string x.th.y) from H3.out.2.cell 2)
        have s3 := BelowBy.cell (show w3.cell? ⟨b, 3, none⟩ = some (.int .i64 x.m) from H3.out.2.cell 3)
        obtain ⟨q, hq⟩ : ∃ q, q = modeL (askL l 7 x.th x.m).1.H 7 x.th := ⟨_, rfl⟩
        have HM := Lib.hid hq
        have HCV := Lib.hid (show cvB q x.m = true by rw [hq]; exact HQ.out.2.2)
        clear hq
        refine wp_region_below hmix (by kernel_rfl) ?_
        repeat (first | go_big_quiet_step (first | (go_at_call 21; exact calls_below ((H3.out.1.mode_b I (BelowBy.h _) 7 x.th (Nat.le_trans HX.out.2.2.1.sz (by omega)) (by unfold NumI; decide) HX.out.1.2.2.1).to (congrArg (Value.int .i64) HM.out.symm))) | (go_at_call 22; exact calls_below ((rcov_any q x.m _).to (congrArg Value.bool HCV.out)))) | quiet_step (first | (go_at_call 21; exact calls_below ((H3.out.1.mode_b I (BelowBy.h _) 7 x.th (Nat.le_trans HX.out.2.2.1.sz (by omega)) (by unfold NumI; decide) HX.out.1.2.2.1).to (congrArg (Value.int .i64) HM.out.symm))) | (go_at_call 22; exact calls_below ((rcov_any q x.m _).to (congrArg Value.bool HCV.out)))))
        refine wpQuiet_nil ?_
        intro wz hw'
        obtain ⟨p, hw''⟩ := hw'
        obtain ⟨w5, hw5⟩ : ∃ w5, w5 = p.w' := ⟨_, rfl⟩
        have H5 := Lib.hid (show Te T w w5 tb (askL l 7 x.th x.m).1 by rw [hw5]; exact H3.out.1.below I p.h)
        rw [← hw5] at hw''
        subst hw''
        clear s0 s1 s2 s3 hw5
        go_wp2_with fail
        go_roundw
        case rel => exact ⟨k + 1, _, by omega, by go_num, H5.out, HX.out.2.2.1⟩
        case measure => simp [intOf]; omega
      · have HQ := Lib.hid (And.intro q1 q2)
        clear q1 q2
        go_upto_region 11 with (go_at_call 20; refine (HT.out.ask2 I HS.out.2.2.2 7 x.th x.m HX.out.2.1 (by unfold NumI; decide) HX.out.1.2.2.1 HX.out.1.2.2.2).mono ?_; rw [HQ.out.1, HQ.out.2]; rintro e w3 ⟨rfl, h3, hk3⟩; have H3 := Lib.hid (And.intro h3 (show Blk w3 b 31 #[.int .i64 x.th.k, .string x.th.t, .string x.th.y, .int .i64 x.m] from (hk3 b (by have := HS.out.1; omega) HS.out.2.2.1.lt).trans HS.out.2.2.1)); clear h3 hk3)
        clear s0 s1 s2 s3
        have s0 := BelowBy.cell (show w3.cell? ⟨b, 0, none⟩ = some (.int .i64 x.th.k) from H3.out.2.cell 0)
        have s1 := s0
        have s2 := s0
        have s3 := s0
        refine wp_region_below hmix (by kernel_rfl) ?_
        repeat (first | go_big_quiet_step (fail) | quiet_step (fail))
        refine wpQuiet_nil ?_
        intro wz hw'
        obtain ⟨p, hw''⟩ := hw'
        obtain ⟨w5, hw5⟩ : ∃ w5, w5 = p.w' := ⟨_, rfl⟩
        have H5 := Lib.hid (show Te T w w5 tb (askL l 7 x.th x.m).1 by rw [hw5]; exact H3.out.1.below I p.h)
        rw [← hw5] at hw''
        subst hw''
        clear s0 s1 s2 s3 hw5
        go_wp2_with fail
        go_roundw
        case rel => exact ⟨k + 1, _, by omega, by go_num, H5.out, HX.out.2.2.1⟩
        case measure => simp [intOf]; omega
    · have hlt1 : ¬ (k : Int) < (n : Int) := by omega
      have hsz := hA.sz
      obtain ⟨q, hq⟩ : ∃ q, q = (thingsL l.H 7).length := ⟨_, rfl⟩
      have hqn : q ≤ n := by have := thingsL_len l.H 7; have := hA.len; omega
      have hqi : (q : Int) ≤ (n : Int) := by omega
      have HX := Lib.hid (And.intro (show szL l ≤ 1000 by omega) (And.intro hA.release hq))
      clear hsz hA hq
      go_upto_region 14 with (go_at_call 19; refine (HT.out.things I 7 HX.out.1 (by unfold NumI; decide)).mono ?_; rw [← HX.out.2.2]; rintro e w5 ⟨A5, n5, c5, rfl, hn5, _, h5⟩; obtain rfl := hn5; have H4 := Lib.hid h5; clear h5)
      go_wp2_with (first
        | (go_at_call 17; refine (H4.out.release I 7 HX.out.1 (by unfold NumI; decide)).mono ?_; rw [HX.out.2.1]; rintro e w6 ⟨v, rfl, ⟨A6, n6, c6, rfl, hn6, _⟩, h6⟩; obtain rfl := hn6; clear H4; have H4 := Lib.hid h6; clear h6)
        | (go_at_call 19; refine (H4.out.things I 7 (by decide) (by unfold NumI; decide)).mono ?_; rw [show (thingsL ([] : List Od) 7) = [] from rfl]; rintro e w7 ⟨A7, n7, c7, rfl, hn7, _, h7⟩; obtain rfl := hn7; clear H4; have H4 := Lib.hid h7; clear h7))
      go_ret
      exact ⟨rfl, H4.out.low⟩
end Go.Proofs.Ythbbheegkhlniaa
