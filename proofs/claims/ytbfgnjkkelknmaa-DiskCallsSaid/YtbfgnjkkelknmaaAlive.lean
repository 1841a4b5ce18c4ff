/-
  alive: a crash that the document fixes: it answers true.
-/
import Derived.Test.YtbfgnjkkelknmaaImage
namespace Go.Proofs.Ytbfgnjkkelknmaa
open Go.RowKit Go.Lib

/-- k times x, and noughts to 64 -/
def fillN (x : Int) (k : Nat) : List Int := List.replicate k x ++ List.replicate (64 - k) 0
theorem fillN_len {x : Int} {k : Nat} (h : k ≤ 64) : (fillN x k).length = 64 := by simp only [fillN, List.length_append, List.length_replicate]; omega
theorem fillN_next {x : Int} {k : Nat} (h : k < 64) : (cells (fillN x k)).toArray.setIfInBounds k (.int .u8 x) = (cells (fillN x (k + 1))).toArray := by
  rw [List.setIfInBounds_toArray]
  congr 1
  have e : 64 - k = (64 - (k + 1)) + 1 := by omega
  unfold cells fillN
  rw [← List.map_set (f := Value.int .u8) (a := x)]
  congr 1
  rw [List.set_append_right _ _ (by simp), e, List.replicate_succ, List.length_replicate, Nat.sub_self, List.set_cons_zero, List.replicate_succ']
  simp only [List.append_assoc, List.cons_append, List.nil_append]
theorem fillN_zero (x : Int) : (cells (fillN x 0)).toArray = zarr := by
  unfold fillN zarr zeros64 cells
  simp only [List.replicate_zero, List.nil_append, Nat.sub_zero]
  rw [List.map_replicate]
theorem fillN_full (x : Int) : fillN x 64 = List.replicate 64 x := by unfold fillN; rw [Nat.sub_self, List.replicate_zero, List.append_nil]

def AlRel (B : Nat) (w1 : World) (i : Value) (wr : World) : Prop :=
  ∃ k : Nat, k ≤ 64 ∧ i = .int .i64 k ∧ Blk wr B 5 (cells (fillN 1 k)).toArray ∧ Blk wr (B + 1) 5 (cells (fillN 2 k)).toArray ∧ Below B w1 wr ∧ wr.heap.size = B + 2

theorem Blk.rd {w : World} {g n : Nat} {t : TypeId} {xs : List Value} (h : Blk w g t xs.toArray) (hn : xs.length = n) : Rd w w.heap.size (some ⟨g, 0, none⟩) n xs := by
  refine ⟨hn, fun _ => ⟨_, rfl, h.lt, fun j u hu => ?_⟩⟩
  rw [Addr.add_mid, Nat.zero_add]
  exact h.src j u hu

/-- the state behind what the document fixes -/
def alSt : DS := ((⟨secs [] 4, []⟩ : DS).write 3 (List.replicate 64 1)).write 3 (List.replicate 64 2)
theorem alSt_crash : alSt.crash 1 2 = ⟨(secs [] 4).set 3 (tear (List.replicate 64 1) (List.replicate 64 2) 2), []⟩ := by
  rw [crash_at (k := 1) (by simp [alSt, DS.write, clampN]) (by simp [alSt, DS.write])]
  have h3 : 3 < (secs [] 4).length := by rw [secs_len]; omega
  have e1 : lay alSt.last (alSt.wr.take 1) = (secs [] 4).set 3 (List.replicate 64 1) := rfl
  have e2 : alSt.wr[1]'(by simp [alSt, DS.write]) = (3, List.replicate 64 2) := rfl
  rw [e1, e2, getD_lt (by rw [List.length_set]; exact h3), List.getElem_set_self, List.set_set]
  rfl
theorem alSt_read : (alSt.crash 1 2).read 3 = tear (List.replicate 64 1) (List.replicate 64 2) 2 := by
  rw [alSt_crash]
  have h3 : 3 < (secs [] 4).length := by rw [secs_len]; omega
  unfold DS.read
  simp only [lastWr, List.foldl_nil, Option.getD_none]
  rw [getD_lt (by rw [List.length_set]; exact h3), List.getElem_set_self]

set_option maxRecDepth 100000 in
set_option maxHeartbeats 3200000 in
theorem alive_any (w : World) : Calls Try.prog 9 #[] w (YesBelow w) := by
  have hmk := make64
  go_enter Try.func9, Try.ntmps9
  go_wp2_with (go_at_call 11; refine (new_any w 4 (by omega) (by omega)).mono ?_; rintro e w1 ⟨g, rfl, hd, hb⟩)
  have hlt := hd.lt
  have HD := Lib.hid (And.intro hd hb)
  clear hd hb
  go_loopw [5] (fun i wr => AlRel w1.heap.size w1 i wr) (fun i _ => 64 - (intOf i).toNat)
  case atStart =>
    refine ⟨0, by omega, rfl, ?_, ?_, ((Below.refl _ _).alloc (Nat.le_refl _) _).alloc (by simp) _, by simp⟩
    · rw [fillN_zero]; exact (Blk.new _ _ _).alloc _
    · rw [fillN_zero]; exact Blk.new_at _ _ _ (by simp)
  case round =>
    obtain ⟨k, hk, rfl, b1, b2, hbel, hsz⟩ := hrel
    clear hmk
    by_cases hlt' : k < 64
    · have hk0 : (0 : Int) ≤ (k : Int) := Int.natCast_nonneg _
      have hk1 : (k : Int) < 64 := by omega
      obtain ⟨u1, x1⟩ : ∃ u, wr.cell? ⟨w1.heap.size, k, none⟩ = some u := ⟨_, b1.src k _ (List.getElem?_eq_getElem (by rw [cells_len, fillN_len hk]; exact hlt'))⟩
      obtain ⟨u2, x2⟩ : ∃ u, wr.cell? ⟨w1.heap.size + 1, k, none⟩ = some u := ⟨_, b2.src k _ (List.getElem?_eq_getElem (by rw [cells_len, fillN_len hk]; exact hlt'))⟩
      have y1 := b1.frozen k
      have y2 := b2.frozen k
      have z1 := (b1.put k (.int .u8 1)).far (p := ⟨w1.heap.size + 1, k, none⟩) (by simp) (.int .u8 2)
      have z2 := (b2.far (p := ⟨w1.heap.size, k, none⟩) (by simp) (.int .u8 1)).put k (.int .u8 2)
      rw [fillN_next hlt'] at z1 z2
      have z3 := (hbel.setCell (p := ⟨w1.heap.size, k, none⟩) (Nat.le_refl _) (.int .u8 1)).setCell (p := ⟨w1.heap.size + 1, k, none⟩) (by simp) (.int .u8 2)
      have HZ := Lib.hid (And.intro z1 (And.intro z2 (And.intro z3 hsz)))
      clear z1 z2 z3 b1 b2 hbel hsz
      go_wp2
      go_roundw
      case rel => exact ⟨k + 1, by omega, by go_num, HZ.out.1, HZ.out.2.1, HZ.out.2.2.1, by have := HZ.out.2.2.2; simpa [World.setCell] using this⟩
      case measure => simp [intOf]; omega
    · have hk64 : k = 64 := by omega
      subst hk64
      rw [fillN_full] at b1 b2
      have hd := HD.out.1.below hbel
      have hB := HD.out.2.trans (hbel.mono HD.out.2.size)
      have HR := Lib.hid (And.intro b1 b2)
      have HH := Lib.hid (And.intro hd hB)
      clear hd hB hbel b1 b2 hsz
      go_wp2_with fail
      refine (write_yes HH.out.1 3 (by rw [secs_len]; omega) _ _ _ (HR.out.1.rd (by simp [cells])) (by simp)).mono ?_
      rintro e w2 ⟨rfl, hd2, hc2⟩
      have hlt1 : w1.heap.size ≤ wr.heap.size := by have := HR.out.1.lt; omega
      have b2 := HR.out.2.chg hc2 (by rintro (h | ⟨_, h⟩); exact h; omega)
      have HH2 := Lib.hid (And.intro hd2 (And.intro hc2 b2))
      clear hd2 hc2 b2
      go_wp2_with fail
      refine (write_yes HH2.out.1 3 (by simp [DS.write, secs_len]) _ _ _ (HH2.out.2.2.rd (by simp [cells])) (by simp [DS.write])).mono ?_
      rintro e w3 ⟨rfl, hd3, hc3⟩
      have HH3 := Lib.hid (And.intro hd3 hc3)
      clear hd3 hc3
      go_wp2_with fail
      refine (pending_any HH3.out.1).mono ?_
      rintro e w3' ⟨rfl, rfl⟩
      go_wp2_with fail
      refine (crash_any HH3.out.1 1 2).mono ?_
      rintro e w4 ⟨rfl, hd4, hc4⟩
      have HH4 := Lib.hid (And.intro hd4 hc4)
      clear hd4 hc4
      go_wp2_with fail
      rw [show ((DS.write ⟨secs [] 4, []⟩ 3 (List.replicate 64 1)).write 3 (List.replicate 64 2)) = alSt from rfl] at HH4
      have hlen4 : 3 < (alSt.crash 1 2).last.length := by rw [alSt_crash, List.length_set, secs_len]; omega
      refine (read_any HH4.out.1 3 hlen4).mono ?_
      rintro e w5 ⟨g5, rfl, hb5, hg5, hl5⟩
      rw [alSt_read] at hb5
      have p1 := hb5.cell 1
      have p2 := hb5.cell 2
      rw [show (cells (tear (List.replicate 64 1) (List.replicate 64 2) 2)).toArray[1]? = some (.int .u8 2) from rfl] at p1
      rw [show (cells (tear (List.replicate 64 1) (List.replicate 64 2) 2)).toArray[2]? = some (.int .u8 1) from rfl] at p2
      have hd5 := HH4.out.1.below hl5
      have hfin : Below w.heap.size w w5 := by
        have B1 := HH.out.2
        have q : ∀ k, Ext Non w w1 k → w.heap.size ≤ k := fun k h => h.elim (fun h => h.elim) fun h => h.1
        have B2 := B1.trans (HH2.out.2.1.below q B1.size)
        have q2 : ∀ k, Ext (Ext Non w w1) wr w2 k → w.heap.size ≤ k := fun k h => h.elim (q k) fun h => by have := B1.size; omega
        have B3 := B2.trans (HH3.out.2.below q2 B2.size)
        have q3 : ∀ k, Ext (Ext (Ext Non w w1) wr w2) w2 w3 k → w.heap.size ≤ k := fun k h => h.elim (q2 k) fun h => by have := B2.size; omega
        have B4 := B3.trans (HH4.out.2.below q3 B3.size)
        exact B4.trans (hl5.mono B4.size)
      have HF := Lib.hid (And.intro hd5 hfin)
      clear hb5 hg5 hl5 hd5 hfin HH HH2 HH3 HH4 HR
      go_wp2_with fail
      refine (pending_any HF.out.1).mono ?_
      rw [alSt_crash]
      rintro e w5' ⟨rfl, rfl⟩
      go_wp2
      go_ret
      exact ⟨rfl, HF.out.2⟩

end Go.Proofs.Ytbfgnjkkelknmaa
