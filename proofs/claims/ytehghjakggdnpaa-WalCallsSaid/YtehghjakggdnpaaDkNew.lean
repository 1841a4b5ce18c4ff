/-
  The contracts of New, of Load and New where there is no such disk, of Read.
-/
import Derived.Test.YtehghjakggdnpaaDkLoad
import Derived.Test.YtehghjakggdnpaaDkIMap
namespace Go.Proofs.Ytehghjakggdnpaa
open Go.RowKit Go.Lib

set_option maxRecDepth 100000 in
theorem load_no (A : Option Addr) (n c : Nat) (w : World) (m : Int) (h : m < 1 ∨ 65536 < m) :
    Calls Try.prog 34 #[.slice A n c, .int .i64 m] w fun e w' => e = .returned (.tuple #[.pointer none, .int .i64 41]) ∧ w = w' := by
  rcases h with h | h
  · go_enter Try.func34, Try.ntmps34
    go_wp2
    go_ret2
    exact ⟨rfl, rfl⟩
  · have h' : ¬ m < 1 := by omega
    go_enter Try.func34, Try.ntmps34
    go_wp2
    go_ret2
    exact ⟨rfl, rfl⟩

set_option maxRecDepth 100000 in
theorem new_no (w : World) (m : Int) (h : m < 1 ∨ 65536 < m) :
    Calls Try.prog 10 #[.int .i64 m] w fun e w' => e = .returned (.tuple #[.pointer none, .int .i64 41]) ∧ w = w' := by
  go_enter Try.func10, Try.ntmps10
  go_wp2_with (go_at_call 34; refine (load_no _ _ _ _ m h).mono ?_; rintro e w' ⟨rfl, rfl⟩)
  go_ret2
  exact ⟨rfl, rfl⟩

theorem secs_nil (m : Nat) : secs [] m = List.replicate m (List.replicate 64 0) := by
  apply List.ext_getElem?
  intro q
  by_cases hqn : q < m
  · simp [secs, pad, hqn]
  · rw [List.getElem?_eq_none (by rw [secs_len]; omega), List.getElem?_eq_none (by simp; omega)]

set_option maxRecDepth 100000 in
theorem dknew_any (w : World) (m : Nat) (h1 : 1 ≤ m) (h2 : m ≤ 65536) :
    Calls Try.prog 10 #[.int .i64 m] w (LoadRet [] m w) := by
  go_enter Try.func10, Try.ntmps10
  go_wp2_with (go_at_call 34; refine (load_any none 0 0 [] _ Rd.empty (Nat.le_refl _) (by simp [maxLen]) m h1 h2).mono ?_; rintro e w' ⟨g, rfl, hd, hb⟩)
  have HD := Lib.hid (And.intro hd hb)
  clear hd hb
  go_ret2
  exact ⟨g, rfl, HD.out⟩

theorem splice_whole {α : Type} {cur cs : List α} (h : cs.length = cur.length) : splice cur 0 cs = cs := by
  unfold splice
  simp [h]
theorem Blk.arr {w : World} {g : Nat} {t : TypeId} {cs cs' : Array Value} (h : Blk w g t cs) (e : cs = cs') : Blk w g t cs' := e ▸ h
theorem Blk.src {w : World} {g : Nat} {t : TypeId} {cs : List Value} (h : Blk w g t cs.toArray) : ∀ j v, cs[j]? = some v → w.cell? ⟨g, j, none⟩ = some v := fun j v hv => by rw [h.cell]; simpa using hv
theorem Try.size85 : (Try.prog.info? 85).map (·.size) = some 64 := by kernel_rfl
def zeros64 : List Value := List.replicate 64 (.int .u8 0)
theorem zeros64_len : zeros64.length = 64 := by simp [zeros64]
/-- 64 cells of nought, as make lays them -/
def zarr : Array Value := zeros64.toArray
theorem make64 (w : World) : (Instr.makeSlice 38 (.int .i64 64) (.int .i64 64)).run Try.prog w = .ok (.slice (some ⟨w.heap.size, 0, none⟩) 64 64) (w.alloc (.cells zarr 5)) := by
  obtain ⟨i0, hi, hz0, hz1, hz2⟩ := info_parts Try.dkinfo5
  have h := run_make (P := Try.prog) w 38 5 i0 _ Try.underlying38 hi hz0 .i64 .i64 64 64 (by omega) (Int.le_refl _) (by rw [hz2]; omega) (by omega)
  rw [hz1] at h
  rw [h]
  have e : madeCells (Value.int .u8 0).cells ((64 : Int).toNat * 1) = zarr := by
    apply Array.ext'
    apply List.ext_getElem?
    intro q
    have hz : zarr.toList[q]? = if q < 64 then some (.int .u8 0) else none := List.getElem?_replicate
    rw [hz]
    by_cases hq : q < 64
    · rw [if_pos hq]; simp [madeCells, Value.cells, hq, Nat.mod_one]
    · rw [if_neg hq]; simp [madeCells, Value.cells]; omega
  rw [e]; rfl
theorem zero64 (w : World) : (zeroValue 85).run Try.prog w = .ok (.agg (Array.replicate 64 (.int .u8 0))) w := by kernel_rfl

/-- the bytes of a sector, in new memory -/
theorem read_state {s : DS} {k : Nat} : s.read k = match lastWr s.wr k with | some b => b | none => s.last.getD k [] := by
  unfold DS.read
  cases lastWr s.wr k <;> rfl

set_option maxRecDepth 100000 in
theorem read_no {w : World} {g : Nat} {F : Nat → Prop} {s : DS} (h : DiskAt w g F s) (k : Int) (h0 : ¬ (0 ≤ k ∧ k < s.last.length)) :
    Calls Try.prog 71 #[.pointer (some ⟨g, 0, none⟩), .int .i64 k] w fun e w' => e = .returned (.tuple #[.slice none 0 0, .int .i64 40]) ∧ w = w' := by
  go_enter Try.func71, Try.ntmps71
  go_wp2_with (go_at_call 72; refine (has_no h k h0).mono ?_; rintro e w' ⟨rfl, rfl⟩)
  go_ret2
  exact ⟨rfl, rfl⟩

/-- a sector's bytes are handed back, in new memory -/
def ReadRet (b : List Int) (w : World) (e : Ending) (w' : World) : Prop :=
  ∃ g, e = .returned (.tuple #[.slice (some ⟨g, 0, none⟩) 64 64, .int .i64 0]) ∧ Blk w' g 5 (cells b).toArray ∧ w.heap.size ≤ g ∧ Below w.heap.size w w'

set_option maxRecDepth 100000 in
set_option maxHeartbeats 1600000 in
theorem read_some {w : World} {g : Nat} {F : Nat → Prop} {s : DS} (h : DiskAt w g F s) (k : Nat) (hk : k < s.last.length) (b : List Int) (hb : lastWr s.wr k = some b) :
    Calls Try.prog 71 #[.pointer (some ⟨g, 0, none⟩), .int .i64 k] w (ReadRet b w) := by
  have hlen : b.length = 64 := by
    obtain ⟨p, hp, _, rfl⟩ := lastWr_mem hb
    exact (h.ok.wlen p hp).2
  have hle := h.ok.le
  have H := Lib.hid h
  obtain ⟨gl, gm, W, hblk, hl, hm, _, _, _, _, _, _, _⟩ := h
  have c1 := hblk.cell 1
  simp only [List.getElem?_toArray, List.getElem?_cons_zero, List.getElem?_cons_succ] at c1
  have hlk := hm.look Try.underlying3 Try.underlying80 (zero64 w) (k : Int) (WalkArith.wf_i64 (by omega))
  have hc : cached s (k : Int) = some (.agg (cells b).toArray) := by simp [cached, hb]
  rw [hc] at hlk
  simp only [Option.getD_some, Option.isSome_some] at hlk
  clear hblk hl hm hc
  go_enter Try.func71, Try.ntmps71
  go_wp2_with fail
  refine (has_yes H.out (k : Int) (by omega) (by omega)).mono ?_
  rintro e w' ⟨rfl, rfl⟩
  have hcl : (cells b).length = 64 := by rw [cells_len]; exact hlen
  have HC := Lib.hid hcl
  have hmk := make64
  clear hcl hlen
  go_wp2_with (refine wpList_store_blk rfl 85 (.tmp 6) (.tmp 20) rfl w.heap.size 0 (cells b) rfl rfl zeros64 85 ?c1 ?c2 ?c3 ?c4 ?_)
  case c1 => exact Blk.new_at _ _ _ rfl
  case c2 => rw [HC.out, zeros64_len]; omega
  case c3 => rw [HC.out]; exact Try.size85
  case c4 => exact cells_one _
  intro w1 hb1 hc1 hs1
  rw [splice_whole (by rw [HC.out, zeros64_len])] at hb1
  have HB1 := Lib.hid hb1
  have HS1 := Lib.hid hs1
  clear hb1 hs1
  go_wp2_with (refine wpList_copy_chg rfl (.tmp 32) (.tmp 33) 38 38 rfl 5 Try.underlying38 Try.size5 _ _ _ _ _ _ rfl rfl w1.heap.size 0 zeros64 5 ?c1 (cells b) ?c2 ?c3 ?c4 ?c5 ?_)
  case c1 => exact Blk.new _ _ _
  case c2 => rw [HC.out]; rfl
  case c3 => exact fun _ j v hv => (HB1.out.alloc _).src j v hv
  case c4 => rw [HC.out, zeros64_len]; omega
  case c5 => exact cells_one _
  intro w2 hb2 hc2 hs2
  rw [splice_whole (by rw [HC.out, zeros64_len])] at hb2
  have hb : Below w.heap.size w w2 := by
    have h1 := HS1.out
    have e1 := ((Below.refl w.heap.size w).alloc (Nat.le_refl _) _).trans (hc1.below (B := w.heap.size) (fun k hk => by omega) (by simp))
    have e2 := (e1.alloc (by omega) (.cells zarr 5))
    exact e2.trans (hc2.below (B := w.heap.size) (fun k hk => by omega) (by simp; omega))
  have HF := Lib.hid (show ReadRet b w (.returned (.tuple #[.slice (some ⟨w1.heap.size, 0, none⟩) 64 64, .int .i64 0])) w2 from
    ⟨_, rfl, hb2, by have := HS1.out; omega, hb⟩)
  clear hb hb2 hs2 hc2 hc1
  go_wp2
  go_ret2
  exact HF.out

set_option maxRecDepth 100000 in
set_option maxHeartbeats 1600000 in
theorem read_none {w : World} {g : Nat} {F : Nat → Prop} {s : DS} (h : DiskAt w g F s) (k : Nat) (hk : k < s.last.length) (b : List Int) (hb : lastWr s.wr k = none) (hbk : s.last[k] = b) :
    Calls Try.prog 71 #[.pointer (some ⟨g, 0, none⟩), .int .i64 k] w (ReadRet b w) := by
  have hlen : b.length = 64 := by rw [← hbk]; exact h.ok.len _ (List.getElem_mem hk)
  have hle := h.ok.le
  have H := Lib.hid h
  obtain ⟨gl, gm, W, hblk, hl, hm, _, _, _, _, _, _, hok⟩ := h
  have c0 := hblk.cell 0
  have c1 := hblk.cell 1
  simp only [List.getElem?_toArray, List.getElem?_cons_zero, List.getElem?_cons_succ] at c0 c1
  have hlk := hm.look Try.underlying3 Try.underlying80 (zero64 w) (k : Int) (WalkArith.wf_i64 (by omega))
  have hc : cached s (k : Int) = none := by simp [cached, hb]
  rw [hc] at hlk
  simp only [Option.getD_none, Option.isSome_none] at hlk
  have hrg : w.rangeAt gl (k * 64) (cells b) := by
    have := rows_range hl (cells_all _ hok.len) (i := k) (by simpa using hk)
    simpa [hbk] using this
  have lg := hblk.lt
  have ll := hl.lt
  have hcl : (cells b).length = 64 := by rw [cells_len]; exact hlen
  have HC := Lib.hid hcl
  have HR := Lib.hid hrg
  have HZ := Lib.hid (show (Value.agg (Array.replicate 64 (Value.int .u8 0))) = .agg zeros64.toArray from rfl)
  rw [HZ.out] at hlk
  have hmk := make64
  have hk0 : (0 : Int) ≤ (k : Int) := Int.natCast_nonneg _
  have hk1 : (k : Int) < (s.last.length : Int) := by omega
  clear hblk hl hm hc hcl hlen hrg hbk
  go_enter Try.func71, Try.ntmps71
  go_wp2_with fail
  refine (has_yes H.out (k : Int) (by omega) (by omega)).mono ?_
  rintro e w' ⟨rfl, rfl⟩
  go_wp2_with (refine wpList_store_blk rfl 85 (.tmp 6) (.tmp 20) rfl w.heap.size 0 zeros64 rfl rfl zeros64 85 ?f1 ?f2 ?f3 ?f4 ?_)
  case f1 => exact Blk.new_at _ _ _ rfl
  case f2 => omega
  case f3 => exact Try.size85
  case f4 => exact cells_one (List.replicate 64 0)
  intro w1 hb1 hc1 hs1
  rw [splice_whole rfl] at hb1
  have HB1 := Lib.hid hb1
  have HS1 := Lib.hid hs1
  have c0' : w1.cell? ⟨g, 0, none⟩ = w.cell? ⟨g, 0, none⟩ := by
    rw [hc1.cell (by simp; omega) (by simp; omega)]
    exact World.cell?_alloc_lt w _ _ lg
  rw [c0] at c0'
  have HR1 : Hid (w1.rangeAt gl (k * 64) (cells b)) := by
    refine Lib.hid fun j v hv => ?_
    rw [hc1.cell (by simp; omega) (by simp; omega)]
    rw [World.cell?_alloc_lt w _ _ ll]
    exact HR.out j v hv
  clear hb1 hs1 c0
  have HL := Lib.hid (show (Try.prog.info? 85).map (·.size) = some (cells b).length by rw [HC.out]; exact Try.size85)
  go_wp2_with (first | refine wpList_load_mid rfl 85 (.tmp 29) rfl gl (k * 64) rfl (cells b) _ HR1.out Try.underlying85 rfl HL.out ?_ | refine wpList_store_blk rfl 85 (.tmp 6) (.tmp 30) rfl w.heap.size 0 (cells b) rfl rfl zeros64 85 HB1.out ?h2 ?h3 ?h4 ?_)
  case h2 => rw [HC.out, zeros64_len]; omega
  case h3 => rw [HC.out]; exact Try.size85
  case h4 => exact cells_one _
  intro w1' hb1' hc1' hs1'
  rw [splice_whole (by rw [HC.out, zeros64_len])] at hb1'
  have HB1' := Lib.hid hb1'
  have HS1' := Lib.hid hs1'
  clear hb1' hs1'
  go_wp2_with (refine wpList_copy_chg rfl (.tmp 32) (.tmp 33) 38 38 rfl 5 Try.underlying38 Try.size5 _ _ _ _ _ _ rfl rfl w1'.heap.size 0 zeros64 5 ?i1 (cells b) ?i2 ?i3 ?i4 ?i5 ?_)
  case i1 => exact Blk.new _ _ _
  case i2 => rw [HC.out]; rfl
  case i3 => exact fun _ j v hv => (HB1'.out.alloc _).src j v hv
  case i4 => rw [HC.out, zeros64_len]; omega
  case i5 => exact cells_one _
  intro w2 hb2 hc2 hs2
  rw [splice_whole (by rw [HC.out, zeros64_len])] at hb2
  have hb : Below w.heap.size w w2 := by
    have h1 := HS1.out
    have h1' := HS1'.out
    have e1 := ((Below.refl w.heap.size w).alloc (Nat.le_refl _) _).trans (hc1.below (B := w.heap.size) (fun k hk => by omega) (by simp))
    have e1' := e1.trans (hc1'.below (B := w.heap.size) (fun k hk => by omega) (by omega))
    have e2 := (e1'.alloc (by omega) (.cells zarr 5))
    exact e2.trans (hc2.below (B := w.heap.size) (fun k hk => by omega) (by simp; omega))
  have HF := Lib.hid (show ReadRet b w (.returned (.tuple #[.slice (some ⟨w1'.heap.size, 0, none⟩) 64 64, .int .i64 0])) w2 from
    ⟨_, rfl, hb2, by have := HS1.out; have := HS1'.out; omega, hb⟩)
  clear hb hb2 hs2 hc2 hc1 hc1'
  go_wp2
  go_ret2
  exact HF.out

theorem read_any {w : World} {g : Nat} {F : Nat → Prop} {s : DS} (h : DiskAt w g F s) (k : Nat) (hk : k < s.last.length) :
    Calls Try.prog 71 #[.pointer (some ⟨g, 0, none⟩), .int .i64 k] w (ReadRet (s.read k) w) := by
  cases hb : lastWr s.wr k with
  | some b => rw [show s.read k = b by simp [DS.read, hb]]; exact read_some h k hk b hb
  | none => rw [show s.read k = s.last[k] by simp [DS.read, hb, hk]]; exact read_none h k hk _ hb rfl

end Go.Proofs.Ytehghjakggdnpaa
