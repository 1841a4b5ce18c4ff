/-
  The contract of Image.
-/
import Derived.Test.YtehghjakggdnpaaDkFlush
namespace Go.Proofs.Ytehghjakggdnpaa
open Go.RowKit Go.Lib

/-- the first k sectors, and noughts -/
def upto (L : List (List Int)) (k : Nat) : List (List Int) := L.take k ++ List.replicate (L.length - k) (List.replicate 64 0)
theorem upto_len {L : List (List Int)} {k : Nat} (h : k ≤ L.length) : (upto L k).length = L.length := by simp [upto]; omega
theorem upto_all {L : List (List Int)} {k : Nat} (h : ∀ b ∈ L, b.length = 64) : ∀ b ∈ upto L k, b.length = 64 := by
  intro b hb
  rcases List.mem_append.1 hb with hb | hb
  · exact h b (List.mem_of_mem_take hb)
  · rw [List.eq_of_mem_replicate hb, List.length_replicate]
theorem upto_next {L : List (List Int)} {k : Nat} (h : k < L.length) : (upto L k).set k L[k] = upto L (k + 1) := by
  have e : L.length - k = (L.length - (k + 1)) + 1 := by omega
  unfold upto
  rw [List.set_append_right _ _ (by simp; omega), e, List.replicate_succ]
  have e2 : k - (L.take k).length = 0 := by simp; omega
  rw [e2, List.set_cons_zero, List.take_succ_eq_append_getElem h, List.append_assoc]
  rfl
theorem upto_end (L : List (List Int)) : upto L L.length = L := by simp [upto]
theorem upto_zero (L : List (List Int)) : Rows' ((upto L 0).map cells) = List.replicate (L.length * 64) (.int .u8 0) := by
  have e : cells (List.replicate 64 (0 : Int)) = List.replicate 64 (.int .u8 0) := List.map_replicate
  simp only [upto, List.take_zero, List.nil_append, Nat.sub_zero]
  rw [List.map_replicate, e, Rows', List.flatten_replicate_replicate]
theorem rows_flat (L : List (List Int)) : Rows' (L.map cells) = cells L.flatten := by
  induction L with
  | nil => rfl
  | cons b L ih =>
    simp only [Rows', List.map_cons, List.flatten_cons, cells, List.map_append] at ih ⊢
    rw [ih]
theorem made_u8 (n : Nat) : madeCells (Value.int .u8 0).cells (n * 1) = (List.replicate n (Value.int .u8 0)).toArray := by
  apply Array.ext'
  apply List.ext_getElem?
  intro q
  have hz : (List.replicate n (Value.int .u8 0)).toArray.toList[q]? = if q < n then some (.int .u8 0) else none := List.getElem?_replicate
  rw [hz]
  by_cases hq : q < n
  · rw [if_pos hq]; simp [madeCells, Value.cells, hq, Nat.mod_one]
  · rw [if_neg hq]; simp [madeCells, Value.cells]; omega
theorem make_u8 (n : Nat) (hn : n ≤ 140737488355328) (w : World) : (Instr.makeSlice 38 (.int .i64 (n : Int)) (.int .i64 (n : Int))).run Try.prog w = .ok (.slice (some ⟨w.heap.size, 0, none⟩) n n) (w.alloc (.cells (List.replicate n (Value.int .u8 0)).toArray 5)) := by
  obtain ⟨i0, hi, hz0, hz1, hz2⟩ := info_parts Try.dkinfo5
  have h := run_make (P := Try.prog) w 38 5 i0 _ Try.underlying38 hi hz0 .i64 .i64 n n (by omega) (Int.le_refl _) (by rw [hz2]; omega) (by omega)
  rw [hz1] at h
  simp only [Int.toNat_natCast, made_u8] at h
  exact h

/-- bytes are handed back, in new memory -/
def BytesRet (l : List Int) (w : World) (e : Ending) (w' : World) : Prop :=
  ∃ g, e = .returned (.slice (some ⟨g, 0, none⟩) l.length l.length) ∧ Blk w' g 5 (cells l).toArray ∧ w.heap.size ≤ g ∧ Below w.heap.size w w'

def ImRel (B : Nat) (s : DS) (w : World) (i : Value) (wr : World) : Prop :=
  ∃ k : Nat, k ≤ s.last.length ∧ i = .int .i64 k ∧ Blk wr B 5 (Rows' ((upto s.last k).map cells)).toArray ∧ Below w.heap.size w wr

set_option maxRecDepth 100000 in
set_option maxHeartbeats 3200000 in
theorem image_any {w : World} {g : Nat} {F : Nat → Prop} {s : DS} (h : DiskAt w g F s) :
    Calls Try.prog 31 #[.pointer (some ⟨g, 0, none⟩)] w (BytesRet s.last.flatten w) := by
  have HD := Lib.hid h
  obtain ⟨gl, gm, W, d1, d2, d3, d4, f1, f2, f3, f4, f5, f6⟩ := h
  have c0 := d1.cell 0
  simp only [List.getElem?_toArray, List.getElem?_cons_zero] at c0
  have hle := f6.le
  have hpos := f6.pos
  obtain ⟨Z, hZ⟩ : ∃ Z, Z = (List.replicate (s.last.length * 64) (Value.int .u8 0)).toArray := ⟨_, rfl⟩
  have hmk : ∀ w : World, (Instr.makeSlice 38 (.int .i64 ((s.last.length : Int) * 64)) (.int .i64 ((s.last.length : Int) * 64))).run Try.prog w = .ok (.slice (some ⟨w.heap.size, 0, none⟩) (s.last.length * 64) (s.last.length * 64)) (w.alloc (.cells Z 5)) := by
    intro w
    have h := make_u8 (s.last.length * 64) (by omega) w
    rw [hZ]
    simpa using h
  have HZ := Lib.hid hZ
  have lg := d1.lt
  have HX := Lib.hid (And.intro d1 d2)
  clear hZ d1 d2 d3 d4
  go_enter Try.func31, Try.ntmps31
  go_wp2_with fail
  go_loopw [17] (fun i wr => ImRel w.heap.size s w i wr) (fun i _ => s.last.length - (intOf i).toNat)
  case atStart =>
    refine ⟨0, by omega, rfl, ?_, (Below.refl _ _).alloc (Nat.le_refl _) _⟩
    rw [upto_zero, ← HZ.out]
    exact Blk.new _ _ _
  case round =>
    obtain ⟨k, hk, rfl, b1, hbel⟩ := hrel
    clear hmk c0
    have hd := HD.out.below hbel
    have c0 : wr.cell? ⟨g, 0, none⟩ = some (.slice (some ⟨gl, 0, none⟩) s.last.length s.last.length) := by
      rw [hbel.cell lg]
      have := HX.out.1.cell 0
      simpa using this
    by_cases hlt : k < s.last.length
    · have hk0 : (0 : Int) ≤ (k : Int) := Int.natCast_nonneg _
      have hk1 : (k : Int) < (s.last.length : Int) := by omega
      have hk2 : (0 : Int) ≤ (k : Int) * 64 := by omega
      have hk3 : (k : Int) * 64 ≤ (s.last.length : Int) * 64 := by omega
      have hk4 : ¬ (s.last.length * 64 = k * 64) := by omega
      have hwr : IntKind.i64.wrap ((k : Int) * 64) = (k : Int) * 64 := IntWalk.i64_in _ (by omega)
      have htn : ((k : Int) * 64).toNat = k * 64 := by omega
      have hb2 : Blk wr gl 85 (Rows' (s.last.map cells)).toArray := (hbel.block gl HX.out.2.lt).trans HX.out.2
      have hrg : wr.rangeAt gl (k * 64) (cells s.last[k]) := by
        have h1 := rows_range hb2 (cells_all _ f6.len) (i := k) (by simpa using hlt)
        simpa using h1
      have hcl : (cells s.last[k]).length = 64 := by rw [cells_len]; exact f6.len _ (List.getElem_mem _)
      obtain ⟨cs, hcs⟩ : ∃ cs, cs = cells (s.last[k]'hlt) := ⟨_, rfl⟩
      rw [← hcs] at hrg hcl
      have hfit : k * 64 + cs.length ≤ (Rows' ((upto s.last k).map cells)).length := by
        rw [rows_len (cells_all _ (upto_all f6.len)), List.length_map, upto_len hk, hcl]
        omega
      have hneB : g ≠ w.heap.size := by omega
      have H1 := Lib.hid (And.intro b1 (And.intro hbel (And.intro hrg (And.intro hcl (And.intro hcs hfit)))))
      clear b1 hbel hb2 hrg hcl hcs hd hfit
      go_wp2_with fail
      refine wp_region_held_drew (S := fun w' => w'.cell? ⟨g, 0, none⟩ = some (.slice (some ⟨gl, 0, none⟩) s.last.length s.last.length)) (by kernel_rfl) c0 (fun hHeld => ?_)
      refine wpAnyH_take (i := 0) (v := ?_) rfl (by kernel_rfl) (by kernel_rfl) (by kernel_rfl) (fun _ _ _ h => h) (Or.inl ⟨by rfl, ?_⟩) (by assumption) ?_
      rotate_left
      · (intro w hSw; (try dsimp only at hSw); go_simp; (try with_reducible rfl))
      simp only [Act.put, List.getElem_toArray, List.getElem_cons_zero, List.setIfInBounds_toArray, List.set_cons_zero, List.set_cons_succ]
      refine wpAnyH_take (i := 1) (v := ?_) rfl (by kernel_rfl) (by kernel_rfl) (by kernel_rfl) (fun _ _ _ h => h) (Or.inl ⟨by rfl, ?_⟩) (by assumption) ?_
      rotate_left
      · (intro w hSw; (try dsimp only at hSw); go_simp; (try with_reducible rfl))
      simp only [Act.put, List.getElem_toArray, List.getElem_cons_succ, List.getElem_cons_zero, List.setIfInBounds_toArray, List.set_cons_zero, List.set_cons_succ]
      refine wpAnyH_take (i := 2) (v := ?_) rfl (by kernel_rfl) (by kernel_rfl) (by kernel_rfl) (fun _ _ _ h => h) (Or.inl ⟨by rfl, ?_⟩) (by assumption) ?_
      rotate_left
      · (intro w hSw; (try dsimp only at hSw); go_simp; (try with_reducible rfl))
      simp only [Act.put, List.getElem_toArray, List.getElem_cons_succ, List.getElem_cons_zero, List.setIfInBounds_toArray, List.set_cons_zero, List.set_cons_succ]
      refine wpAnyH_take (i := 3) (v := ?_) rfl (by kernel_rfl) (by kernel_rfl) (by kernel_rfl) (fun _ _ _ h => h) (Or.inl ⟨by rfl, ?_⟩) (by assumption) ?_
      rotate_left
      · (intro w hSw; (try dsimp only at hSw); go_simp; (try with_reducible rfl))
      simp only [Act.put, List.getElem_toArray, List.getElem_cons_succ, List.getElem_cons_zero, List.setIfInBounds_toArray, List.set_cons_zero, List.set_cons_succ]
      refine wpAnyH_take (i := 4) (v := ?_) rfl (by kernel_rfl) (by kernel_rfl) (by kernel_rfl) (fun _ _ _ h => h) (Or.inl ⟨by rfl, ?_⟩) (by assumption) ?_
      rotate_left
      · (intro w hSw; (try dsimp only at hSw); go_simp; (try with_reducible rfl))
      simp only [Act.put, List.getElem_toArray, List.getElem_cons_succ, List.getElem_cons_zero, List.setIfInBounds_toArray, List.set_cons_zero, List.set_cons_succ]
      refine wpAnyH_take (i := 5) (v := ?_) rfl (by kernel_rfl) (by kernel_rfl) (by kernel_rfl) (fun _ _ _ h => h) (Or.inl ⟨by rfl, ?_⟩) (by assumption) ?_
      rotate_left
      · (intro w hSw; (try dsimp only at hSw); go_simp; (try with_reducible rfl))
      simp only [Act.put, List.getElem_toArray, List.getElem_cons_succ, List.getElem_cons_zero, List.setIfInBounds_toArray, List.set_cons_zero, List.set_cons_succ]
      refine wpAnyH_take (i := 6) (v := ?_) rfl (by kernel_rfl) (by kernel_rfl) (by kernel_rfl) (fun _ _ _ h => h) (Or.inl ⟨by rfl, ?_⟩) (by assumption) ?_
      rotate_left
      · (intro w hSw; (try dsimp only at hSw); go_simp; (try with_reducible rfl))
      simp only [Act.put, List.getElem_toArray, List.getElem_cons_succ, List.getElem_cons_zero, List.setIfInBounds_toArray, List.set_cons_zero, List.set_cons_succ]
      refine wpAnyH_take (i := 7) (v := ?_) rfl (by kernel_rfl) (by kernel_rfl) (by kernel_rfl) (fun _ _ _ h => h) (Or.inl ⟨by rfl, ?_⟩) (by assumption) ?_
      rotate_left
      · (intro w hSw; (try dsimp only at hSw); go_simp; (try with_reducible rfl))
      simp only [Act.put, List.getElem_toArray, List.getElem_cons_succ, List.getElem_cons_zero, List.setIfInBounds_toArray, List.set_cons_zero, List.set_cons_succ]
      refine wpAnyH_take (i := 8) (v := ?_) rfl (by kernel_rfl) (by kernel_rfl) (by kernel_rfl) (fun _ _ _ h => h) (Or.inl ⟨by rfl, ?_⟩) (by assumption) ?_
      rotate_left
      · (intro w hSw; (try dsimp only at hSw); go_simp; (try with_reducible rfl))
      simp only [Act.put, List.getElem_toArray, List.getElem_cons_succ, List.getElem_cons_zero, List.setIfInBounds_toArray, List.set_cons_zero, List.set_cons_succ]
      refine wpAnyH_take (i := 9) (v := ?_) rfl (by kernel_rfl) (by kernel_rfl) (by kernel_rfl) (fun _ _ _ h => h) (Or.inl ⟨by rfl, ?_⟩) (by assumption) ?_
      rotate_left
      · (intro w hSw; (try dsimp only at hSw); go_simp; (try with_reducible rfl))
      simp only [Act.put, List.getElem_toArray, List.getElem_cons_succ, List.getElem_cons_zero, List.setIfInBounds_toArray, List.set_cons_zero, List.set_cons_succ]
      refine wpAnyH_take (i := 10) (v := ?_) rfl (by kernel_rfl) (by kernel_rfl) (by kernel_rfl) (fun _ _ _ h => h) (Or.inl ⟨by rfl, ?_⟩) (by assumption) ?_
      rotate_left
      · (intro w hSw; (try dsimp only at hSw); go_simp; (try with_reducible rfl))
      simp only [Act.put, List.getElem_toArray, List.getElem_cons_succ, List.getElem_cons_zero, List.setIfInBounds_toArray, List.set_cons_zero, List.set_cons_succ]
      refine wpAnyH_ready (rs := [11]) (by kernel_rfl) (by simp) ?_
      refine AllReadyH.cons rfl (fun K hK => ?_) AllReadyH.nil
      refine step_copy_chg (by rfl) (.tmp 23) (.tmp 30) 38 38 (by rfl) 5 Try.underlying38 Try.size5 _ _ _ _ _ _ (by rfl) (by rfl) w.heap.size (k * 64) _ 5 (show Blk wr.drew w.heap.size 5 _ from H1.out.1) cs (by rw [H1.out.2.2.2.1]; exact (Nat.min_eq_left (show 64 ≤ s.last.length * 64 - k * 64 by omega)).symm)
        (fun _ => ⟨rfl, ⟨gl, k * 64, none⟩, rfl, fun j v hv => by rw [Addr.add_mid]; exact H1.out.2.2.1 j v hv⟩) H1.out.2.2.2.2.2 (by rw [H1.out.2.2.2.2.1]; exact cells_one _) ?_
      intro w2 hb2 hc2' hs2
      have hc2 : Chg (fun k => k = w.heap.size) wr w2 := ⟨hc2'.os, hc2'.tape, hc2'.output, hc2'.size, hc2'.block⟩
      refine hK.out _ _ ?_ (fun hHeld => ?_)
      · exact (hc2.cell (World.block_lt_of_cell? _ _ c0) hneB).trans c0
      clear hK K
      refine wpAnyH_done (by kernel_rfl) ?_ _
      have HF : Hid (ImRel w.heap.size s w (.int .i64 ((k : Int) + 1)) w2) := by
        refine Lib.hid ⟨k + 1, by omega, by go_num, ?_, H1.out.2.1.trans (hc2.below (fun q hq => by omega) H1.out.2.1.size)⟩
        rw [H1.out.2.2.2.2.1, rows_set (cells_all _ (upto_all f6.len)) (by rw [List.length_map, upto_len hk]; exact hlt) (by rw [cells_len]; exact f6.len _ (List.getElem_mem _)), ← List.map_set, upto_next hlt] at hb2
        exact hb2
      clear hb2 hc2 hc2' hs2 H1 hHeld c0
      simp only [Act.put, List.getElem_toArray, List.getElem_cons_succ, List.getElem_cons_zero]
      go_wp2
      go_roundw
      case rel => exact HF.out
      case measure => simp [intOf]; omega
    · have hkn : k = s.last.length := by omega
      have hfl : s.last.flatten.length = s.last.length * 64 := by
        have h1 := rows_len (cells_all _ f6.len)
        rw [rows_flat, cells_len, List.length_map] at h1
        exact h1
      have HF : Hid (BytesRet s.last.flatten w (.returned (.slice (some ⟨w.heap.size, 0, none⟩) (s.last.length * 64) (s.last.length * 64))) wr) := by
        refine Lib.hid ⟨w.heap.size, by rw [hfl], ?_, Nat.le_refl _, hbel⟩
        rw [hkn, upto_end, rows_flat] at b1
        exact b1
      clear hkn hfl b1
      go_wp2
      go_ret
      exact HF.out

end Go.Proofs.Ytehghjakggdnpaa
