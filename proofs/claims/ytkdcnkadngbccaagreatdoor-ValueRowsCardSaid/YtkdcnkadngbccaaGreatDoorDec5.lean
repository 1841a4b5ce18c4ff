/-
  The contract of Decode.
-/
import Derived.Test.YtkdcnkadngbccaaGreatDoorDec4
import Derived.Test.YtkdcnkadngbccaaGreatDoorEncd
namespace Go.Proofs.YtkdcnkadngbccaaGreatDoor
open Go.RowKit Go.Lib

def DlRel (n g rb : Nat) (s : St) (w : World) (i : Value) (wr : World) : Prop :=
  ∃ k : Nat, k ≤ n ∧ i = .int .i64 k ∧ BR wr g (dVs k s).2 ∧ Blk wr rb 40 (cellsR ((dVs k s).1 ++ List.replicate (n - k) zva)).toArray ∧ Below w.heap.size w wr

/-- what Decode hands back: a right row whose bytes these are, or nothing -/
def DcRet (l : List Int) (w : World) (e : Ending) (w' : World) : Prop :=
  Below w.heap.size w w' ∧ ((decOk l = true ∧ ∃ A c, e = .returned (.tuple #[.slice A (dR (some l)).1.length c, .bool true]) ∧ RowIn w' w'.heap.size A (dR (some l)).1 ∧ (dR (some l)).1.length ≤ 8) ∨
    (decOk l = false ∧ e = .returned (.tuple #[.slice none 0 0, .bool false])))

theorem rCount_bd (s : St) : 0 ≤ (rCount s 8).1 ∧ (rCount s 8).1 ≤ 8 := by
  rw [rCount_eq]
  split
  · exact ⟨by decide, by decide⟩
  · rename_i h
    omega

set_option maxRecDepth 100000 in
set_option maxHeartbeats 6400000 in
theorem decode_any (A : Option Addr) (c : Nat) (l : List Int) (w : World) (h : Rd w w.heap.size A l.length (cells l)) (hb : IsBytes l) (hn : l.length ≤ 8000000000) :
    Calls Tryz.prog 9 #[.slice A l.length c] w (DcRet l w) := by
  go_enter Tryz.func9, Tryz.ntmps9
  go_wp2_with fail
  refine (new_any A l.length c l w h hb (by omega)).mono ?_
  rintro e w1 ⟨g, rfl, hr1, hb1, hg1⟩
  have hglt := hr1.lt
  have H1 := Lib.hid (And.intro hr1 hb1)
  clear h hb hr1 hb1
  go_wp2_with fail
  refine (rcount_any g (some l) 8 w1 H1.out.1).mono ?_
  rintro e w2 ⟨rfl, hr2, hg2⟩
  have hbd := rCount_bd (some l)
  obtain ⟨n, hnn⟩ : ∃ n : Nat, (rCount (some l) 8).1 = (n : Int) := ⟨(rCount (some l) 8).1.toNat, by omega⟩
  rw [hnn] at hbd ⊢
  obtain ⟨s1, hs1⟩ : ∃ s1, s1 = (rCount (some l) 8).2 := ⟨_, rfl⟩
  rw [← hs1] at hr2
  have hdr : dR (some l) = dVs n s1 := by unfold dR; rw [hnn, hs1]; rfl
  have hn8 : n ≤ 8 := by omega
  have hb2 : Below w.heap.size w w2 := H1.out.2.trans ⟨hg2.os, hg2.tape, hg2.output, hg2.size, fun k hk => hg2.block k (Nat.lt_of_lt_of_le hk H1.out.2.size) (by simp; omega)⟩
  have hg2lt := hr2.lt
  have H2 := Lib.hid (And.intro hr2 (And.intro hb2 hdr))
  have hmk := make_va n (by omega) w2
  obtain ⟨Z, hZ⟩ : ∃ Z, Z = (cellsR (List.replicate n zva)).toArray := ⟨_, rfl⟩
  rw [← hZ] at hmk
  have HZ := Lib.hid hZ
  clear hr2 hg2 hbd hs1 hnn hdr hb2 hZ
  go_wp2_with fail
  go_loopw [14] (fun i wr => DlRel n g w2.heap.size s1 w i wr) (fun i _ => n - (intOf i).toNat)
  case atStart =>
    refine ⟨0, by omega, rfl, H2.out.1.below ((Below.refl _ w2).alloc (Nat.le_refl _) _) hg2lt, ?_, H2.out.2.1.alloc H2.out.2.1.size _⟩
    rw [Nat.sub_zero]
    show Blk _ _ _ (cellsR ([] ++ List.replicate n zva)).toArray
    rw [List.nil_append, ← HZ.out]
    exact Blk.new _ _ _
  case round =>
    obtain ⟨k, hk, rfl, hr, hblk, hbw⟩ := hrel
    have hk0 : (0 : Int) ≤ (k : Int) := Int.natCast_nonneg _
    have HR := Lib.hid (And.intro hr (And.intro hblk hbw))
    have hwb := hblk.lt
    clear hmk hr hblk hbw
    by_cases hlt : k < n
    · have hlt1 : (k : Int) < (n : Int) := by omega
      go_wp2_with fail
      refine (decoded_any g (dVs k s1).2 wr HR.out.1).mono ?_
      rintro e w4 ⟨rfl, hr4, hg4⟩
      have hblk4 := HR.out.2.1.grown hg4 (by omega)
      have hb4 : Below w.heap.size w w4 := HR.out.2.2.trans ⟨hg4.os, hg4.tape, hg4.output, hg4.size, fun j hj => hg4.block j (Nat.lt_of_lt_of_le hj HR.out.2.2.size) (by simp; omega)⟩
      have hsn := dVs_snoc k s1
      obtain ⟨x, hx⟩ : ∃ x, x = (dV (dVs k s1).2).1 := ⟨_, rfl⟩
      rw [← hx] at hsn ⊢
      have hlen : (cellsR ((dVs k s1).1 ++ List.replicate (n - k) zva)).length = n * 3 := by rw [cellsR_len, List.length_append, List.length_replicate, dVs_len]; congr 1; omega
      have hex : ∀ j, j < n * 3 → ∃ v, w4.cell? ⟨w2.heap.size, j, none⟩ = some v := fun j hj => by
        have h := hblk4.cell j
        rw [List.getElem?_toArray, List.getElem?_eq_getElem (by rw [hlen]; exact hj)] at h
        exact ⟨_, h⟩
      obtain ⟨z0, d0⟩ := hex (k * 3) (by omega)
      obtain ⟨z1, d1⟩ := hex (k * 3 + 1) (by omega)
      obtain ⟨z2, d2⟩ := hex (k * 3 + 2) (by omega)
      have f0 := hblk4.frozen (k * 3)
      have f1 := hblk4.frozen (k * 3 + 1)
      have f2 := hblk4.frozen (k * 3 + 2)
      have hbp := ((hblk4.put (k * 3) (.int .i64 x.k)).put (k * 3 + 1) (.int .i64 x.n)).put (k * 3 + 2) (.string x.s)
      have harr : (((cellsR ((dVs k s1).1 ++ List.replicate (n - k) zva)).toArray.setIfInBounds (k * 3) (.int .i64 x.k)).setIfInBounds (k * 3 + 1) (.int .i64 x.n)).setIfInBounds (k * 3 + 2) (.string x.s) = (cellsR (((dVs k s1).1 ++ [x]) ++ List.replicate (n - (k + 1)) zva)).toArray := by
        rw [← set_front (dVs_len k s1) hlt x, ← set_va x _ k (by rw [List.length_append, List.length_replicate, dVs_len]; omega)]
        simp
      rw [harr] at hbp
      have hb2s : w.heap.size ≤ w2.heap.size := H2.out.2.1.size
      have hbz : Below w2.heap.size w4 (((w4.setCell ⟨w2.heap.size, k * 3, none⟩ (.int .i64 x.k)).setCell ⟨w2.heap.size, k * 3 + 1, none⟩ (.int .i64 x.n)).setCell ⟨w2.heap.size, k * 3 + 2, none⟩ (.string x.s)) :=
        (((Below.refl _ w4).setCell (p := ⟨w2.heap.size, k * 3, none⟩) (Nat.le_refl _) _).setCell (p := ⟨w2.heap.size, k * 3 + 1, none⟩) (Nat.le_refl _) _).setCell (p := ⟨w2.heap.size, k * 3 + 2, none⟩) (Nat.le_refl _) _
      have HN := Lib.hid (show DlRel n g w2.heap.size s1 w (.int .i64 ((k : Int) + 1)) (((w4.setCell ⟨w2.heap.size, k * 3, none⟩ (.int .i64 x.k)).setCell ⟨w2.heap.size, k * 3 + 1, none⟩ (.int .i64 x.n)).setCell ⟨w2.heap.size, k * 3 + 2, none⟩ (.string x.s)) from
        ⟨k + 1, by omega, by go_num, by rw [hsn]; exact hr4.below hbz hg2lt, by rw [hsn]; exact hbp, hb4.trans (hbz.mono hb2s)⟩)
      clear hr4 hg4 hblk4 hb4 hsn hx hlen hex hbp harr hbz
      go_wp2
      go_roundw
      case rel => exact HN.out
      case measure => simp [intOf]; omega
    · have hlt1 : ¬ (k : Int) < (n : Int) := by omega
      obtain rfl : k = n := by omega
      have hblk := HR.out.2.1
      rw [Nat.sub_self, List.replicate_zero, List.append_nil, ← H2.out.2.2] at hblk
      have hl : (dR (some l)).1.length = k := by rw [H2.out.2.2]; exact dVs_len k s1
      have hrow := RowIn.of_own (Blk.row (base := 0) hblk (Nat.zero_le _) (by unfold maxLen; omega))
      have hst : (dVs k s1).2 = (dR (some l)).2 := by rw [H2.out.2.2]
      obtain ⟨vs, hvs⟩ : ∃ vs, vs = (dR (some l)).1 := ⟨_, rfl⟩
      have hrs := HR.out.1
      rw [hst] at hrs
      have HD := Lib.hid (show decOk l = (decide ((dR (some l)).2 = some []) && rightR vs) by rw [hvs]; rfl)
      rw [← hvs] at hl hrow
      have HL := Lib.hid (And.intro hrow (And.intro hrs (And.intro hvs hl)))
      clear hblk hl hrow hst hvs hrs
      go_wp2_with fail
      refine (rdone_any g _ wr HL.out.2.1).mono ?_
      rintro e w5 ⟨rfl, rfl⟩
      cases hsd : (dR (some l)).2 with
      | none =>
        have HF := Lib.hid (show DcRet l w (.returned (.tuple #[.slice none 0 0, .bool false])) wr from ⟨HR.out.2.2, .inr ⟨by rw [HD.out, hsd]; rfl, rfl⟩⟩)
        clear hsd
        go_wp2
        refine bodyPost_ret (results_tmp2 rfl _ _ _) rfl ?_
        exact HF.out
      | some lr =>
        cases lr with
        | cons y lr =>
          have HF := Lib.hid (show DcRet l w (.returned (.tuple #[.slice none 0 0, .bool false])) wr from ⟨HR.out.2.2, .inr ⟨by rw [HD.out, hsd]; simp, rfl⟩⟩)
          clear hsd
          have hd : decide (left (some (y :: lr)) = 0) = false := by simp [left]
          rw [hd]
          go_wp2
          refine bodyPost_ret (results_tmp2 rfl _ _ _) rfl ?_
          exact HF.out
        | nil =>
          have HS := Lib.hid hsd
          clear hsd
          have hd : decide (left (some []) = 0) = true := by simp [left]
          rw [hd]
          have hrow := HL.out.1
          have hlk : vs.length = k := HL.out.2.2.2
          have HLK := Lib.hid hlk
          clear hlk
          go_wp2_with fail
          have hcall := rightRow_any (some ⟨w2.heap.size, 0, none⟩) k vs wr (by simpa using hrow) (by have := HLK.out; unfold maxLen; omega)
          rw [HLK.out] at hcall
          refine hcall.mono ?_
          rintro e w6 ⟨rfl, hb6⟩
          have HB6 := Lib.hid (And.intro (HR.out.2.2.trans (hb6.mono HR.out.2.2.size)) ((HL.out.1.below hb6 (Nat.le_refl _)).more hb6.size))
          clear hb6 hcall hrow
          cases hrr : rightR vs with
          | false =>
            have HF := Lib.hid (show DcRet l w (.returned (.tuple #[.slice none 0 0, .bool false])) w6 from ⟨HB6.out.1, .inr ⟨by rw [HD.out, hrr, Bool.and_false], rfl⟩⟩)
            clear hrr
            go_wp2
            refine bodyPost_ret (results_tmp2 rfl _ _ _) rfl ?_
            exact HF.out
          | true =>
            have HF := Lib.hid (show DcRet l w (.returned (.tuple #[.slice (some ⟨w2.heap.size, 0, none⟩) k k, .bool true])) w6 from ⟨HB6.out.1, .inl ⟨by rw [HD.out, hrr, HS.out]; rfl, some ⟨w2.heap.size, 0, none⟩, k, by rw [← HL.out.2.2.1, HLK.out], by rw [← HL.out.2.2.1]; simpa using HB6.out.2, by rw [← HL.out.2.2.1, HLK.out]; exact hn8⟩⟩)
            clear hrr
            go_wp2
            refine bodyPost_ret (results_tmp2 rfl _ _ _) rfl ?_
            exact HF.out
end Go.Proofs.YtkdcnkadngbccaaGreatDoor
