/-
  The contract of copies; of New and Pages.
-/
import Derived.Test.YtdnegfjddpdmhaaDoorHpB
namespace Go.Proofs.YtdnegfjddpdmhaaDoor
open Go.RowKit Go.Lib

theorem make_rows (w : World) (n : Nat) (x : Int) (hx : x = n) (hn : n ≤ 1000000) : (Instr.makeSlice 38 (.int .i64 x) (.int .i64 x)).run Tryd.prog w = .ok (.slice (some ⟨w.heap.size, 0, none⟩) n n) (w.alloc (.cells (List.replicate n (Value.slice none 0 0)).toArray 33)) := by
  subst hx
  obtain ⟨i0, hi, hz0, hz1, hz2⟩ := info_parts Tryd.dkinfo22
  have h := run_make (P := Tryd.prog) w 38 33 i0 _ Tryd.underlying38 hi hz0 .i64 .i64 (n : Int) (n : Int) (by omega) (Int.le_refl _) (by rw [hz2]; omega) (by omega)
  rw [hz1] at h
  rw [h]
  have e : madeCells (Value.slice none 0 0).cells ((n : Int).toNat * 1) = (List.replicate n (Value.slice none 0 0)).toArray := by
    apply Array.ext'
    apply List.ext_getElem?
    intro q
    by_cases hq : q < n
    · rw [List.getElem?_replicate, if_pos hq]; simp [madeCells, Value.cells, hq, Nat.mod_one]
    · rw [List.getElem?_replicate, if_neg hq]; simp [madeCells, Value.cells]; omega
  rw [e]
  rfl
theorem clone_pv (w : World) (x : Pv) (h : PgOk w x) : Calls Tryd.prog 64 #[.slice x.A 256 x.c] w fun e w' => ∃ y : Pv, e = .returned y.val ∧ y.s = x.s ∧ y.Ok (fun k => w.heap.size ≤ k ∧ k < w'.heap.size) w' ∧ Below w.heap.size w w' := by
  obtain ⟨g, hg⟩ := h.1.adr rfl
  have hl : (imgP x.s).length = 256 := h.2.pg.len
  rw [hg]
  have hr := h.1.rd
  rw [hg] at hr
  refine (clone_any w g 0 256 x.c (imgP x.s) hl (by omega) hr).mono ?_
  rintro e w' ⟨v, rfl, hown, hb⟩
  obtain ⟨y, rfl, h1, h2⟩ := Pv.Ok.made (D := fun k => w.heap.size ≤ k ∧ k < w'.heap.size) hown h.2 (fun k h1 h2 => ⟨h1, h2⟩)
  exact ⟨y, rfl, h1, h2, hb⟩

/-- copies of the first k pages; the row's block is g -/
def CpRel (w : World) (xs : List Pv) (i : Value) (wr : World) : Prop := ∃ (k : Nat) (ys : List Pv), k ≤ xs.length ∧ i = .int .i64 k ∧ ys.length = k ∧ pslots ys = (pslots xs).take k ∧
  Blk wr w.heap.size 33 (pvals ys ++ List.replicate (xs.length - k) (Value.slice none 0 0)).toArray ∧ (∀ y ∈ ys, y.Ok (fun k => w.heap.size ≤ k ∧ k < wr.heap.size) wr) ∧ Below w.heap.size w wr ∧ w.heap.size < wr.heap.size
/-- pages of the call's own -/
def PgsRet (w : World) (ps : Pgs) (e : Ending) (w' : World) : Prop :=
  ∃ v ys, e = .returned v ∧ w'.ownsRow w.heap.size 33 1 v ys.length (pvals ys) ∧ pslots ys = ps ∧ (∀ y ∈ ys, y.Ok (fun k => w.heap.size ≤ k ∧ k < w'.heap.size) w') ∧ Below w.heap.size w w'

theorem pslots_take_succ {xs : List Pv} {k : Nat} {x : Pv} (h : xs[k]? = some x) : (pslots xs).take (k + 1) = (pslots xs).take k ++ [x.s] := by
  rw [List.take_add_one]
  simp [pslots, h]

set_option maxRecDepth 100000 in
set_option maxHeartbeats 1600000 in
theorem copies_any (w : World) (A : Option Addr) (n c : Nat) (xs : List Pv) (h : PIn w A n c xs) (hn : n ≤ 1000000) :
    Calls Tryd.prog 38 #[.slice A n c] w (PgsRet w (pslots xs)) := by
  have hl := h.len
  subst hl
  have hmk : ∀ w, (Instr.makeSlice 38 (.int .i64 (xs.length : Int)) (.int .i64 (xs.length : Int))).run Tryd.prog w = .ok (.slice (some ⟨w.heap.size, 0, none⟩) xs.length xs.length) (w.alloc (.cells (List.replicate xs.length (Value.slice none 0 0)).toArray 33)) := fun w => make_rows w xs.length _ rfl hn
  have H := Lib.hid h
  obtain ⟨N, hN⟩ : ∃ N, N = xs.length := ⟨_, rfl⟩
  have hst : CpRel w xs (.int .i64 0) (w.alloc (.cells (List.replicate xs.length (Value.slice none 0 0)).toArray 33)) :=
    ⟨0, [], Nat.zero_le _, rfl, rfl, by simp [pslots], by simpa [pvals] using Blk.new w 33 (List.replicate xs.length (Value.slice none 0 0)).toArray, fun y hy => (by cases hy), (Below.refl _ _).alloc (Nat.le_refl _) _, by simp⟩
  rw [← hN] at hmk hst hn ⊢
  have HN := Lib.hid hN
  have HST := Lib.hid hst
  clear h hst hN
  go_enter Tryd.func38, Tryd.ntmps38
  go_wp2_with fail
  go_loopw [11] (fun i wr => CpRel w xs i wr) (fun i _ => N - (intOf i).toNat)
  case atStart => exact HST.out
  case round =>
    obtain ⟨k, ys, hk, rfl, hyk, hps, hblk, hok, hb, hlt0⟩ := hrel
    have hk0 : (0 : Int) ≤ (k : Int) := Int.natCast_nonneg _
    have hkN : k ≤ N := by rw [HN.out]; exact hk
    have HR := Lib.hid (And.intro hyk (And.intro hps (And.intro hblk (And.intro hok (And.intro hb hlt0)))))
    clear hyk hps hblk hok hb hlt0 hk
    by_cases hlt : k < N
    · have hlt1 : (k : Int) < (N : Int) := by omega
      have hin := H.out.below HR.out.2.2.2.2.1
      obtain ⟨ad, x, rfl, hx, hc, hok, hxs⟩ := hin.at_ (k := k) (by rw [← HN.out]; exact hlt)
      have HX := Lib.hid (And.intro hok (And.intro hxs hx))
      clear hin hx hok hxs
      unfold Pv.val at hc
      go_wp2_with fail
      refine (clone_pv wr x HX.out.1).mono ?_
      rintro e w1 ⟨y, rfl, hys, hyo, hb1⟩
      have hblk1 := HR.out.2.2.1.below hb1 HR.out.2.2.2.2.2
      have hcl := hblk1.cell k
      have hfz := hblk1.frozen k
      have hcl2 : w1.cell? ⟨w.heap.size, k, none⟩ = some (.slice none 0 0) := by
        rw [hcl]
        have hkr : k < N - k + k := by omega
        simp only [List.getElem?_toArray]
        rw [List.getElem?_append_right (by rw [pvals_len, HR.out.1]; exact Nat.le_refl _), pvals_len, HR.out.1, Nat.sub_self, List.getElem?_replicate, if_pos (by rw [← HN.out]; omega)]
      have hput := hblk1.put k y.val
      have hrow : (pvals ys ++ List.replicate (xs.length - k) (Value.slice none 0 0)).toArray.setIfInBounds k y.val = (pvals (ys ++ [y]) ++ List.replicate (xs.length - (k + 1)) (Value.slice none 0 0)).toArray := by
        rw [List.setIfInBounds_toArray]
        congr 1
        have hl : (pvals ys).length = k := by rw [pvals_len, HR.out.1]
        obtain ⟨r, hr⟩ : ∃ r, xs.length - k = r + 1 := ⟨xs.length - k - 1, by rw [← HN.out]; omega⟩
        rw [hr, show xs.length - (k + 1) = r by omega, List.set_append_right _ _ (by omega), hl, Nat.sub_self, List.replicate_succ, List.set_cons_zero]
        simp [pvals]
      rw [hrow] at hput
      have hb2 : Below w.heap.size w (w1.setCell ⟨w.heap.size, k, none⟩ y.val) := (below_le HR.out.2.2.2.2.1 hb1).setCell (p := ⟨w.heap.size, k, none⟩) (Nat.le_refl _) _
      have hfar : ∀ z : Pv, z.Ok (fun k => w.heap.size ≤ k ∧ k < w1.heap.size) w1 → z.Ok (fun j => w.heap.size ≤ j ∧ j < (w1.setCell ⟨w.heap.size, k, none⟩ y.val).heap.size) (w1.setCell ⟨w.heap.size, k, none⟩ y.val) := fun z hz => by
        have hz2 := hz.chg ((Chg.refl (fun j => j = w.heap.size) w1).setCell (p := ⟨w.heap.size, k, none⟩) (fun _ => rfl) y.val) (fun j cs hj hb => by subst hj; exact Blk.ne hblk1 hb (by decide) rfl)
        exact hz2.mono fun j hj => ⟨hj.1, by simpa [World.setCell] using hj.2⟩
      have HF := Lib.hid (show CpRel w xs (.int .i64 (k + 1)) (w1.setCell ⟨w.heap.size, k, none⟩ y.val) from
        ⟨k + 1, ys ++ [y], by rw [← HN.out]; omega, by go_num, by simp [HR.out.1], by
          rw [show pslots (ys ++ [y]) = pslots ys ++ [y.s] by simp [pslots], HR.out.2.1, hys, pslots_take_succ HX.out.2.2],
          hput, fun z hz => by
            rcases List.mem_append.1 hz with hz | hz
            · refine hfar z ?_
              exact (((HR.out.2.2.2.1 z hz).keep (fun j hj => hb1.block j hj.2))).mono fun j hj => ⟨hj.1, Nat.lt_of_lt_of_le hj.2 hb1.size⟩
            · rw [List.mem_singleton.1 hz]
              exact hfar y (hyo.mono fun j hj => ⟨Nat.le_trans HR.out.2.2.2.2.1.size hj.1, hj.2⟩), hb2, by have := HR.out.2.2.2.2.2; have := hb1.size; simp [World.setCell]; omega⟩)
      unfold Pv.val at HF
      clear hcl hput hb1 hblk1 hyo hrow hfar hb2
      unfold Pv.val
      go_wp2_with fail
      go_roundw
      case rel => exact HF.out
      case measure => simp [intOf]; omega
    · have hlt1 : ¬ ((k : Int) < (N : Int)) := by omega
      obtain rfl : k = N := by omega
      go_wp2_with fail
      go_ret
      have h1 := HR.out.2.2.1
      have hps := HR.out.2.1
      rw [← HN.out, Nat.sub_self, List.replicate_zero, List.append_nil] at h1
      rw [List.take_of_length_le (by rw [pslots_len, ← HN.out]; exact Nat.le_refl _)] at hps
      refine ⟨.slice (some ⟨w.heap.size, 0, none⟩) k k, ys, rfl, ⟨by rw [pvals_len]; simp, ?_⟩, hps, HR.out.2.2.2.1, HR.out.2.2.2.2.1⟩
      refine .inr ⟨w.heap.size, k, (pvals ys).toArray, by rw [HR.out.1], Nat.le_refl _, h1, by rw [HR.out.1]; exact Nat.le_refl _, by unfold maxLen; omega, by simp [pvals_len, HR.out.1], ?_⟩
      first | (simp; done) | simp [List.take_of_length_le, pvals_len]
end Go.Proofs.YtdnegfjddpdmhaaDoor
