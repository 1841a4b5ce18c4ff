/-
  The contracts of Load and New.
-/
import Derived.Test.YtehghjakggdnpaaDkDisk
import Derived.Laws.MakeOwn
namespace Go.Proofs.Ytehghjakggdnpaa
open Go.RowKit Go.Lib

theorem Try.info85 : (Try.prog.info? 85).map (fun i => (i.zero, i.size, i.bytes)) = some (some (.agg (Array.replicate 64 (.int .u8 0))), 64, 64) := by kernel_rfl
theorem Try.size5 : (Try.prog.info? 5).map (·.size) = some 1 := by kernel_rfl

theorem Blk.new_at (w : World) (t : TypeId) (cs : Array Value) {g : Nat} (h : g = w.heap.size) : Blk (w.alloc (.cells cs t)) g t cs := by subst h; exact Blk.new w t cs

/-- bytes, with noughts behind them to 64 -/
def pad (l : List Int) : List Int := l.take 64 ++ List.replicate (64 - l.length) 0
theorem pad_len (l : List Int) : (pad l).length = 64 := by simp [pad]; omega
/-- the sectors of an image -/
def secs (l : List Int) (n : Nat) : List (List Int) := (List.range n).map fun i => pad (l.drop (64 * i))
theorem secs_len (l : List Int) (n : Nat) : (secs l n).length = n := by simp [secs]
theorem secs_all (l : List Int) (n : Nat) : ∀ b ∈ secs l n, b.length = 64 := by
  intro b hb
  obtain ⟨i, _, rfl⟩ := List.mem_map.1 hb
  exact pad_len _
/-- the sectors as far as the first k are filled -/
def part (l : List Int) (n k : Nat) : List (List Int) := (List.range n).map fun i => if i < k then pad (l.drop (64 * i)) else List.replicate 64 0
theorem part_len (l : List Int) (n k : Nat) : (part l n k).length = n := by simp [part]
theorem part_all (l : List Int) (n k : Nat) : ∀ b ∈ part l n k, b.length = 64 := by
  intro b hb
  obtain ⟨i, _, rfl⟩ := List.mem_map.1 hb
  split
  · exact pad_len _
  · simp
theorem part_end (l : List Int) (n : Nat) : part l n n = secs l n := by
  unfold part secs
  refine List.map_congr_left fun i hi => ?_
  rw [if_pos (List.mem_range.1 hi)]
theorem part_step {l : List Int} {n k : Nat} (hk : k < n) : (part l n k).set k (pad (l.drop (64 * k))) = part l n (k + 1) := by
  apply List.ext_getElem?
  intro q
  by_cases hq : q = k
  · subst hq
    rw [List.getElem?_set_self (by rw [part_len]; exact hk)]
    simp [part, hk]
  · rw [List.getElem?_set_ne (Ne.symm hq)]
    by_cases hqn : q < n
    · simp only [part, List.getElem?_map, List.getElem?_range hqn, Option.map_some]
      by_cases h : q < k
      · rw [if_pos h, if_pos (by omega)]
      · rw [if_neg h, if_neg (by omega)]
    · rw [List.getElem?_eq_none (by rw [part_len]; omega), List.getElem?_eq_none (by rw [part_len]; omega)]
theorem part_zero (l : List Int) (n : Nat) : part l n 0 = List.replicate n (List.replicate 64 0) := by
  apply List.ext_getElem?
  intro q
  by_cases hqn : q < n
  · simp [part, hqn]
  · rw [List.getElem?_eq_none (by rw [part_len]; omega), List.getElem?_eq_none (by simp; omega)]
/-- what the copy of one round lays -/
theorem part_copy {l : List Int} {n k : Nat} (hk : k < n) :
    splice (Rows' ((part l n k).map cells)) (k * 64) (cells ((l.drop (64 * k)).take 64)) = Rows' ((part l n (k + 1)).map cells) := by
  have hl : k < ((part l n k).map cells).length := by simp [part_len, hk]
  rw [rows_splice (cells_all _ (part_all l n k)) hl (by simp [cells_len]; omega), ← part_step hk, List.map_set]
  congr 2
  have e : (part l n k)[k]'(by rw [part_len]; exact hk) = List.replicate 64 0 := by simp [part]
  simp only [List.getElem_map, e, pad, cells_append]
  congr 1
  simp only [cells, List.map_replicate, List.drop_replicate, List.length_map, List.length_take, List.length_drop]
  congr 1
  omega
theorem made_zero (n : Nat) : madeCells (Array.replicate 64 (.int .u8 0)) (n * 64) = (Rows' ((part [] n 0).map cells)).toArray := by
  apply Array.ext'
  rw [part_zero]
  apply List.ext_getElem?
  intro q
  have hf : Rows' ((List.replicate n (List.replicate 64 (0 : Int))).map cells) = List.replicate (n * 64) (.int .u8 0) := by
    have e : cells (List.replicate 64 (0 : Int)) = List.replicate 64 (.int .u8 0) := List.map_replicate
    rw [List.map_replicate, e, Rows', List.flatten_replicate_replicate]
  simp only [hf]
  by_cases hq : q < n * 64
  · have h64 : q % 64 < 64 := Nat.mod_lt _ (by omega)
    simp [madeCells, hq, h64]
  · simp [madeCells, hq]

def LoadRet (img : List Int) (m : Nat) (w : World) (e : Ending) (w' : World) : Prop :=
  ∃ g, e = .returned (.tuple #[.pointer (some ⟨g, 0, none⟩), .int .i64 0]) ∧ DiskAt w' g (Ext Non w w') ⟨secs img m, []⟩ ∧ Below w.heap.size w w'

def LoadRel (img : List Int) (m : Nat) (w : World) (v i : Value) (wr : World) : Prop :=
  ∃ (k : Nat) (A : Option Addr) (n c : Nat), k ≤ m ∧ i = .int .i64 k ∧ v = .slice A n c ∧ Rd wr w.heap.size A n (cells (img.drop (64 * k))) ∧ n ≤ c ∧ c ≤ maxLen ∧
    Blk wr (w.heap.size + 1 + 1) 83 #[.slice (some ⟨w.heap.size, 0, none⟩) m m, .map (some (w.heap.size + 1)), .slice none 0 0] ∧
    Blk wr w.heap.size 85 (Rows' ((part img m k).map cells)).toArray ∧ wr.heap[w.heap.size + 1]? = some (.map #[] 0) ∧ Below w.heap.size w wr ∧ wr.heap.size = w.heap.size + 3

theorem LoadRel.done {img : List Int} {m : Nat} {w wr : World} (h1 : 1 ≤ m) (h2 : m ≤ 65536)
    (b1 : Blk wr (w.heap.size + 1 + 1) 83 #[.slice (some ⟨w.heap.size, 0, none⟩) m m, .map (some (w.heap.size + 1)), .slice none 0 0])
    (b2 : Blk wr w.heap.size 85 (Rows' ((part img m m).map cells)).toArray) (b3 : wr.heap[w.heap.size + 1]? = some (.map #[] 0)) (hb : Below w.heap.size w wr) (hs : wr.heap.size = w.heap.size + 3) :
    LoadRet img m w (.returned (.tuple #[.pointer (some ⟨w.heap.size + 1 + 1, 0, none⟩), .int .i64 0])) wr := by
  refine ⟨_, rfl, ⟨w.heap.size, w.heap.size + 1, .slice none 0 0, ?_, ?_, ?_, ?_, .inr ⟨by omega, by omega⟩, .inr ⟨by omega, by omega⟩, .inr ⟨by omega, by omega⟩, fun k hk => (by cases hk), fun k hk => hk.elim (fun h => h.elim) fun h => h.2, ?_⟩, hb⟩
  · simpa [secs_len] using b1
  · rw [part_end] at b2; exact b2
  · refine ⟨.map [], ⟨#[], 0, b3, ⟨by simp, MapKept.stamped_empty 0, by simp⟩, Nat.le_refl _, rfl⟩, ⟨[], rfl⟩, fun s z => ?_⟩
    simp [cached, lastWr, DataW.atKey, Maps.has_eq]
  · exact World.ownsRow_nil _ _ _ _
  · exact ⟨by simp [secs_len, h1], by simp [secs_len, h2], secs_all _ _, fun p hp => (by simp at hp), by simp⟩

set_option maxRecDepth 100000 in
set_option maxHeartbeats 1600000 in
theorem load_any (A : Option Addr) (n c : Nat) (img : List Int) (w : World) (hr : Rd w w.heap.size A n (cells img)) (hnc : n ≤ c) (hcm : c ≤ maxLen) (m : Nat) (h1 : 1 ≤ m) (h2 : m ≤ 65536) :
    Calls Try.prog 34 #[.slice A n c, .int .i64 m] w (LoadRet img m w) := by
  obtain ⟨i0, hi, hz0, hz1, hz2⟩ := info_parts Try.info85
  obtain ⟨Z, hZ⟩ : ∃ Z, Z = (Rows' ((part [] m 0).map cells)).toArray := ⟨_, rfl⟩
  have hmk : ∀ w : World, (Instr.makeSlice 79 (.int .i64 (m : Int)) (.int .i64 (m : Int))).run Try.prog w = .ok (.slice (some ⟨w.heap.size, 0, none⟩) m m) (w.alloc (.cells Z 85)) := by
    intro w
    have h := run_make (P := Try.prog) w 79 85 i0 _ Try.underlying79 hi hz0 .i64 .i64 m m (by omega) (Int.le_refl _) (by rw [hz2]; omega) (by omega)
    rw [hz1] at h
    simp only [Int.toNat_natCast, Value.cells, made_zero] at h
    rw [hZ]; exact h
  have hmm := @run_makeMap Try.prog
  have HZ := Lib.hid hZ
  clear hZ hi hz0 hz1 hz2
  have hm0 : (1 : Int) ≤ (m : Int) := by omega
  have hm1 : (m : Int) ≤ 65536 := by omega
  go_enter Try.func34, Try.ntmps34
  go_wp2
  go_loopw [0, 24] (fun v i wr => LoadRel img m w v i wr) (fun _ i _ => m - (intOf i).toNat)
  case atStart =>
    refine ⟨0, A, n, c, by omega, rfl, rfl, ?_, hnc, hcm, Blk.new_at _ _ _ (by simp), ?_, ?_, ?_, by simp⟩
    · simpa using ((hr.alloc (Nat.le_refl _) _).alloc (by simp) _).alloc (by simp; omega) _
    · have := ((Blk.new w 85 Z).alloc (.map #[] 0)).alloc (.cells #[.slice (some ⟨w.heap.size, 0, none⟩) m m, .map (some (w.heap.size + 1)), .slice none 0 0] 83)
      rw [HZ.out] at this
      rw [HZ.out]
      rw [part_zero] at this
      rw [part_zero, part_zero]
      exact this
    · rw [Below.heap_alloc _ _ _ (by simp)]
      have := heap_alloc_new (w.alloc (.cells Z 85)) (.map #[] 0)
      simpa using this
    · exact (((Below.refl _ _).alloc (Nat.le_refl _) _).alloc (by simp) _).alloc (by simp; omega) _
  case round =>
    obtain ⟨k, A', n', c', hk, rfl, rfl, hr', hnc', hcm', b1, b2, b3, hbel, hsz⟩ := hrel
    have c0 := b1.cell 0
    simp only [List.getElem?_toArray, List.getElem?_cons_zero] at c0
    by_cases hlt : k < m
    · have HL := Lib.hid (hr'.len)
      have HB := Lib.hid b2
      have HS := Lib.hid (And.intro hsz b3)
      have hk0 : (0 : Int) ≤ (k : Int) := Int.natCast_nonneg _
      have hk1 : (k : Int) < (m : Int) := by omega
      clear hr hmk hmm hsz b3
      obtain ⟨cs, hcs⟩ : ∃ cs, cs = cells ((img.drop (64 * k)).take 64) := ⟨_, rfl⟩
      have hln := hr'.len
      have hq : cs.length = min 64 n' := by rw [hcs, cells_len, List.length_take, ← hln, cells_len]
      have hq1 : cs.length ≤ n' := by omega
      have hq2 : (cs.length : Int) ≤ (n' : Int) := by omega
      have hpre : cs = (cells (img.drop (64 * k))).take cs.length := by
        have h9 := hln
        rw [cells_len] at h9
        rw [hq, hcs]
        simp only [cells, List.map_take]
        rw [List.take_eq_take_iff, List.length_map]
        omega
      have H1 := Lib.hid (And.intro hq (And.intro hpre (And.intro hcs hln)))
      clear hq hpre hcs hln
      go_wp2_with (refine wpList_copy_chg rfl (.tmp 34) (.tmp 35) 38 38 rfl 5 Try.underlying38 Try.size5 _ _ _ _ _ _ rfl rfl w.heap.size (k * 64) _ 85 HB.out cs ?c1 ?c2 ?c3 ?c4 ?_)
      case c1 => rw [H1.out.1]; exact Nat.min_comm _ _
      case c2 =>
        intro h0
        have h3 := hr'.2 (by omega)
        obtain ⟨ad, rfl, _, hc⟩ := h3
        refine ⟨ad, rfl, fun j v hv => hc j v ?_⟩
        rw [H1.out.2.1, List.getElem?_take] at hv
        split at hv
        · exact hv
        · cases hv
      case c3 =>
        rw [rows_len (cells_all _ (part_all img m k))]
        have := H1.out.1
        simp only [List.length_map, part_len]
        omega
      case c4 => rw [H1.out.2.2.1]; exact cells_one _
      intro w3 hb3 hc3 hs3
      have hfin : ∀ v, v = Value.slice (if c' = cs.length then A' else A'.map (·.add cs.length)) (n' - cs.length) (c' - cs.length) → LoadRel img m w v (.int .i64 ((k : Int) + 1)) w3 := by
        rintro v rfl
        have hs0 := HS.out.1
        have h5 := hr'.cutl (k := cs.length) (cap := c') hq1 hnc'
        have hrd : Rd w3 w.heap.size (if c' = cs.length then A' else A'.map (·.add cs.length)) (n' - cs.length) (cells (img.drop (64 * (k + 1)))) := by
          have h6 := h5.keep (w' := w3) fun p hp => hc3.cell (by omega) (by intro e; omega)
          have e : (cells (img.drop (64 * k))).drop cs.length = cells (img.drop (64 * (k + 1))) := by
            have h7 := H1.out.1
            have h8 := H1.out.2.2.2
            rw [cells_len, List.length_drop] at h8
            rw [cells, ← List.map_drop, List.drop_drop, cells]
            by_cases h64 : 64 ≤ n'
            · rw [show 64 * k + cs.length = 64 * (k + 1) by omega]
            · rw [List.drop_eq_nil_of_le (by omega), List.drop_eq_nil_of_le (by omega)]
          rwa [e] at h6
        refine ⟨k + 1, _, _, _, by omega, by go_num, rfl, hrd, by omega, by omega, b1.chg hc3 (by omega), ?_, ?_, ?_, ?_⟩
        · rw [H1.out.2.2.1, part_copy hlt] at hb3
          exact hb3
        · rw [hc3.block _ (by have := HS.out.1; omega) (by omega)]; exact HS.out.2
        · exact hbel.trans (hc3.below (fun k hk => by omega) (by have := HS.out.1; omega))
        · rw [hs3]; exact HS.out.1
      have HF := Lib.hid hfin
      clear hfin hs3 hb3 hr' b1 b2 HB
      go_wp2
      go_roundw
      case rel => exact HF.out _ rfl
      case measure => simp [intOf]; omega
    · have hkm : k = m := by omega
      subst hkm
      have HF := Lib.hid (LoadRel.done h1 h2 b1 b2 b3 hbel hsz)
      clear b1 b2 b3 hr hr'
      go_wp2
      exact bodyPost_ret (v := .tuple #[.pointer (some ⟨w.heap.size + 1 + 1, 0, none⟩), .int .i64 0]) (by simp [results, Try.results34, go_sem]) rfl HF.out

end Go.Proofs.Ytehghjakggdnpaa
