/-
  same: the disk and the document's are alike where both are s.
-/
import Derived.Test.YtbfgnjkkelknmaaRefRead
import Derived.Test.YtbfgnjkkelknmaaLift
namespace Go.Proofs.Ytbfgnjkkelknmaa
open Go.RowKit Go.Lib

def SmRel (s : DS) (g gr : Nat) (F G : Nat → Prop) (w : World) (i : Value) (wr : World) : Prop :=
  ∃ k : Nat, k ≤ s.last.length ∧ i = .int .i64 k ∧ DiskAt wr g F s ∧ RefAt wr gr G s ∧ Below w.heap.size w wr
/-- a held condition: both disks are s, and the document's lengths -/
def Both (g gr : Nat) (F G : Nat → Prop) (s : DS) (w : World) : Prop := DiskAt w g F s ∧ RefAt w gr G s
theorem Both.below {g gr : Nat} {F G : Nat → Prop} {s : DS} {w w' : World} (h : Both g gr F G s w) (hb : Below w.heap.size w w') : Both g gr F G s w' := ⟨h.1.below hb, h.2.below hb⟩
theorem OwnRet.shaped {base : Nat} {l : List Int} {w : World} {e : Ending} {w' : World} (h : OwnRet base l w e w') : ∃ A c, e = .returned (.slice A l.length c) ∧ w'.ownsRow base 5 1 (.slice A l.length c) l.length (cells l) ∧ Below base w w' := by
  obtain ⟨v, rfl, h1, h2⟩ := h
  obtain ⟨A, c, rfl, _, _⟩ := own_shape h1
  exact ⟨A, c, rfl, h1, h2⟩

/-- what is held in same's great region -/
def SmS (g gr : Nat) (F G : Nat → Prop) (s : DS) (A0 A1 : Option Addr) (k0 k1 : Nat) (w : World) : Prop :=
  Both g gr F G s w ∧ w.cell? ⟨gr, 0, none⟩ = some (.slice A0 s.last.length k0) ∧ w.cell? ⟨gr, 1, none⟩ = some (.slice A1 s.wr.length k1)
theorem smS_below {g gr : Nat} {F G : Nat → Prop} {s : DS} {A0 A1 : Option Addr} {k0 k1 : Nat} {w w' : World} (h : Both g gr F G s w ∧ w.cell? ⟨gr, 0, none⟩ = some (.slice A0 s.last.length k0) ∧ w.cell? ⟨gr, 1, none⟩ = some (.slice A1 s.wr.length k1)) (hb : Below w.heap.size w w') :
    Both g gr F G s w' ∧ w'.cell? ⟨gr, 0, none⟩ = some (.slice A0 s.last.length k0) ∧ w'.cell? ⟨gr, 1, none⟩ = some (.slice A1 s.wr.length k1) :=
  ⟨h.1.below hb, (hb.cell h.1.2.lt).trans h.2.1, (hb.cell h.1.2.lt).trans h.2.2⟩

set_option maxRecDepth 100000 in
set_option maxHeartbeats 6400000 in
theorem same_any {w : World} {g gr : Nat} {F G : Nat → Prop} {s : DS} (hd : DiskAt w g F s) (hr : RefAt w gr G s) :
    Calls Try.prog 14 #[.pointer (some ⟨g, 0, none⟩), .pointer (some ⟨gr, 0, none⟩)] w (YesBelow w) := by
  obtain ⟨A0, k0, c0⟩ := hr.last_len
  obtain ⟨A1, k1, c1⟩ := hr.wr_len
  have hle := hd.ok.le
  have few := hd.ok.wfew
  have lg := hr.lt
  have HB : Both g gr F G s w := ⟨hd, hr⟩
  have hfl : s.last.flatten.length ≤ 140000000000000 := by
    have h1 := rows_len (cells_all _ hd.ok.len)
    rw [rows_flat, cells_len, List.length_map] at h1
    omega
  obtain ⟨X, hX⟩ : ∃ X, X = s.last.flatten := ⟨_, rfl⟩
  rw [← hX] at hfl
  have HX := Lib.hid hX
  have HD := Lib.hid (And.intro hd hr)
  clear hd hr hX
  go_enter Try.func14, Try.ntmps14
  go_wp2_with fail
  go_region_held3 (fun w' => Both g gr F G s w' ∧ w'.cell? ⟨gr, 0, none⟩ = some (.slice A0 s.last.length k0) ∧ w'.cell? ⟨gr, 1, none⟩ = some (.slice A1 s.wr.length k1))
    (first
      | exact smS_below ‹Both g gr F G s _ ∧ _› hl8
      | exact smS_below ‹Both g gr F G s _ ∧ _› hl7
      | exact smS_below ‹Both g gr F G s _ ∧ _› hl6
      | (go_split_ands; exact ⟨‹Both g gr F G s _›, ‹_›, ‹_›⟩))
    (first
      | (go_at_call 29; refine (size_any (‹Both g gr F G s _ ∧ _›).1.1).mono ?_; rintro e w' ⟨rfl, rfl⟩)
      | (go_at_call 24; refine (pending_any (‹Both g gr F G s _ ∧ _›).1.1).mono ?_; rintro e w' ⟨rfl, rfl⟩)
      | (go_at_call 23; refine (image_any (‹Both g gr F G s _ ∧ _›).1.1).mono ?_; rw [← HX.out]; rintro e w6 ⟨g6, rfl, hb6, _, hl6⟩)
      | (go_at_call 30; refine (refImage_any (‹Both g gr F G s _ ∧ _›).1.2).mono ?_; rw [← HX.out]; intro e w7 ho7; obtain ⟨A7, k7, rfl, o7, hl7⟩ := ho7.shaped; clear ho7; have hb7 := hb6.below hl7 hb6.lt)
      | (go_at_call 18; refine (sameBytes_below _ _ _ _ _ X _ _ _ (hb7.rd (cells_len _)) (Rd.own o7) hfl).mono ?_; rintro e w8 ⟨rfl, hl8⟩))
  have b6 : Below w.heap.size w w6 := ⟨hl6.os, hl6.tape, hl6.output, hl6.size, hl6.block⟩
  have b7 := b6.trans (hl7.mono b6.size)
  have b8 := b7.trans (hl8.mono b7.size)
  have H8 := Lib.hid (And.intro (HB.below b8) b8)
  clear b6 b7 b8 hl6 hl7 hl8 hb6 hb7 o7 HB c0 c1
  go_wp2_with fail
  go_loopw [5] (fun i wr => SmRel s g gr F G w i wr) (fun i _ => s.last.length - (intOf i).toNat)
  case atStart => exact ⟨0, by omega, rfl, H8.out.1.1, H8.out.1.2, H8.out.2⟩
  case round =>
    obtain ⟨k, hk, rfl, hd', hr', hbel⟩ := hrel
    have HH := Lib.hid (And.intro hd' (And.intro hr' hbel))
    clear hd' hr' hbel
    by_cases hlt : k < s.last.length
    · have hk0 : (0 : Int) ≤ (k : Int) := Int.natCast_nonneg _
      have hk1 : (k : Int) < (s.last.length : Int) := by omega
      have H64 := Lib.hid (HD.out.1.ok.read_len hlt)
      go_wp2_with fail
      refine (size_any HH.out.1).mono ?_
      rintro e w' ⟨rfl, rfl⟩
      go_wp2_with fail
      refine (read_any HH.out.1 k hlt).mono ?_
      rintro e w1 ⟨g1, rfl, hb1, _, hl1⟩
      have H1 := Lib.hid (And.intro hb1 (And.intro (HH.out.1.below hl1) (And.intro (HH.out.2.1.below hl1) (HH.out.2.2.trans (hl1.mono HH.out.2.2.size)))))
      clear hb1 hl1
      go_wp2_with fail
      refine (refRead_any H1.out.2.2.1 k hlt).mono ?_
      rintro e w2 ⟨v2, rfl, o2, hl2⟩
      obtain ⟨A2, c2, rfl, _, _⟩ := own_shape o2
      have H2 := Lib.hid (And.intro (H1.out.1.below hl2 H1.out.1.lt) (And.intro o2 (And.intro (H1.out.2.1.below hl2) (And.intro (H1.out.2.2.1.below hl2) (H1.out.2.2.2.trans (hl2.mono H1.out.2.2.2.size))))))
      clear o2 hl2
      go_wp2_with fail
      refine (sameBytes_below _ _ 64 _ _ (s.read k) _ _ _ (H2.out.1.rd (by rw [cells_len]; exact H64.out)) (Rd.own H2.out.2.1) (by omega)).mono ?_
      rintro e w3 ⟨rfl, hl3⟩
      have HF : Hid (SmRel s g gr F G w (.int .i64 ((k : Int) + 1)) w3) := Lib.hid ⟨k + 1, by omega, by go_num, H2.out.2.2.1.below hl3, H2.out.2.2.2.1.below hl3, H2.out.2.2.2.2.trans (hl3.mono H2.out.2.2.2.2.size)⟩
      clear hl3
      go_wp2
      go_roundw
      case rel => exact HF.out
      case measure => simp [intOf]; omega
    · have hkn : ¬ ((k : Int) < (s.last.length : Int)) := by omega
      go_wp2_with fail
      refine (size_any HH.out.1).mono ?_
      rintro e w' ⟨rfl, rfl⟩
      go_wp2
      go_ret
      exact ⟨rfl, HH.out.2.2⟩

end Go.Proofs.Ytbfgnjkkelknmaa
