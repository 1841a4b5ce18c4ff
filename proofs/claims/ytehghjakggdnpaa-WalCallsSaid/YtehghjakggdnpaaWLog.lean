/-
  A log in memory; the contracts of Room, start, isLast, hasStamps.
-/
import Derived.Test.YtehghjakggdnpaaWRead
import Derived.StillTailTactics
namespace Go.Proofs.Ytehghjakggdnpaa
open Go.RowKit Go.Lib

/-- block l is a log on the disk at g -/
def LogAt (w : World) (l g : Nat) (gen area used next : Int) : Prop :=
  Blk w l 71 #[.pointer (some ⟨g, 0, none⟩), .int .i64 gen, .int .i64 area, .int .i64 used, .int .i64 next]
/-- how many sectors an area has -/
def DS.half (s : DS) : Nat := (s.last.length - 2) / 2
theorem LogAt.c {w : World} {l g : Nat} {gen area used next : Int} (h : LogAt w l g gen area used next) :
    w.cell? ⟨l, 0, none⟩ = some (.pointer (some ⟨g, 0, none⟩)) ∧ w.cell? ⟨l, 1, none⟩ = some (.int .i64 gen) ∧ w.cell? ⟨l, 2, none⟩ = some (.int .i64 area) ∧ w.cell? ⟨l, 3, none⟩ = some (.int .i64 used) ∧ w.cell? ⟨l, 4, none⟩ = some (.int .i64 next) :=
  ⟨h.cell 0, h.cell 1, h.cell 2, h.cell 3, h.cell 4⟩

section
variable {w : World} {g l : Nat} {F : Nat → Prop} {s : DS} {gen area used next : Int}

theorem halfq (h : DiskAt w g F s) (h2 : 2 ≤ s.last.length) (k : Nat) : Calls Try.prog 51 #[.pointer (some ⟨g, 0, none⟩)] (w.drewN k) fun e w' => e = .returned (.int .i64 (s.half : Nat)) ∧ ∃ m, w' = w.drewN m :=
  (half_any (w := w.drewN k) h h2).mono fun _ _ ⟨h1, h2⟩ => ⟨h1, k, h2.symm⟩
theorem DiskAt.half_le (h : DiskAt w g F s) : s.half ≤ 32767 := by
  have := h.ok.le
  unfold DS.half
  omega

set_option maxRecDepth 100000 in
theorem room_any (h : DiskAt w g F s) (hl : LogAt w l g gen area used next) (h2 : 2 ≤ s.last.length) (hu : 0 ≤ used ∧ used ≤ 65536) :
    Calls Try.prog 28 #[.pointer (some ⟨l, 0, none⟩)] w (Quiet (.int .i64 ((s.half : Int) - used)) w) := by
  obtain ⟨c0, c1, c2, c3, c4⟩ := hl.c
  have hh := h.half_le
  have HK := Lib.hid (halfq h h2)
  clear h hl
  go_enter Try.func28, Try.ntmps28
  go_wp2_with fail
  go_quiet (first | (go_at_call 51; exact HK.out _))
  go_wp2
  go_ret
  exact ⟨rfl, _, rfl⟩

set_option maxRecDepth 100000 in
theorem start_any (h : DiskAt w g F s) (hl : LogAt w l g gen area used next) (h2 : 2 ≤ s.last.length) (a : Int) (ha : a = 0 ∨ a = 1) :
    Calls Try.prog 47 #[.pointer (some ⟨l, 0, none⟩), .int .i64 a] w fun e w' => e = .returned (.int .i64 (2 + a * (s.half : Int))) ∧ w = w' := by
  obtain ⟨c0, c1, c2, c3, c4⟩ := hl.c
  have hh := h.half_le
  have HK := Lib.hid (half_any h h2)
  clear h hl
  rcases ha with rfl | rfl
  all_goals
    go_enter Try.func47, Try.ntmps47
    go_wp2_with fail
    refine HK.out.mono ?_
    rw [show (s.last.length - 2) / 2 = s.half from rfl]
    rintro e w' ⟨rfl, rfl⟩
    go_wp2
    go_ret
    exact ⟨by simp, rfl⟩

set_option maxRecDepth 100000 in
theorem isLast_any (hl : LogAt w l g gen area used next) (hg : 0 ≤ gen ∧ gen < 4294967296) :
    Calls Try.prog 39 #[.pointer (some ⟨l, 0, none⟩)] w fun e w' => e = .returned (.bool (decide (2147483648 ≤ gen + 1))) ∧ w = w' := by
  obtain ⟨c0, c1, c2, c3, c4⟩ := hl.c
  clear hl
  go_enter Try.func39, Try.ntmps39
  go_wp2
  go_ret
  exact ⟨rfl, rfl⟩

/-- are there so many stamps yet? -/
def hasSt (next need : Int) : Bool := decide (need = 0) || decide (next + need ≤ 2147483648)
set_option maxRecDepth 100000 in
theorem hasStamps_any (hl : LogAt w l g gen area used next) (need : Int) (hn : 0 ≤ need ∧ need ≤ 1000000000000) (hx : 0 ≤ next ∧ next ≤ 1000000000000) :
    Calls Try.prog 45 #[.pointer (some ⟨l, 0, none⟩), .int .i64 need] w fun e w' => e = .returned (.bool (hasSt next need)) ∧ w = w' := by
  obtain ⟨c0, c1, c2, c3, c4⟩ := hl.c
  clear hl
  by_cases h0 : need = 0
  · subst h0
    go_enter Try.func45, Try.ntmps45
    go_wp2
    go_ret
    exact ⟨rfl, rfl⟩
  · go_enter Try.func45, Try.ntmps45
    go_wp2
    go_ret
    refine ⟨?_, rfl⟩
    unfold hasSt
    rw [← beq_int]
    rfl
end
end Go.Proofs.Ytehghjakggdnpaa
