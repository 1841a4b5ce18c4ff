/-
  The document's log: number, put, half, pieces, stamped.
  The document's log in memory; sector, most.
  The document's head and write.
  The document's write.
  The document's Append and Room.
-/
import Derived.Test.YtehghjakggdnpaaDkTwo
import Derived.Test.YtehghjakggdnpaaWHead
import Derived.Test.YtehghjakggdnpaaWLog
import Derived.Test.YtehghjakggdnpaaWRecM
import Derived.StillTailTactics
import Derived.Deep.RegionHeld3
import Derived.Test.YtehghjakggdnpaaWPutR
import Derived.Test.YtehghjakggdnpaaWSw
import Derived.Test.YtehghjakggdnpaaWApp
namespace Go.Proofs.Ytehghjakggdnpaa
open Go.RowKit Go.Lib

/-- a place in a sector where numbers lie -/
def At3 (i : Int) (k : Nat) : Prop := (i = 0 ∧ k = 0) ∨ (i = 5 ∧ k = 5) ∨ (i = 60 ∧ k = 60)

set_option maxRecDepth 100000 in
set_option maxHeartbeats 3200000 in
theorem refNumber_any (A : Option Addr) (n c : Nat) (b : List Int) (w : World) (B : Nat) (hr : Rd w B A n (cells b)) (hb : IsBytes b) (i : Int) (k : Nat) (hi : At3 i k) (h4 : 64 ≤ n) :
    Calls Try.prog 61 #[.slice A n c, .int .i64 i] w (Quiet (.int .i64 (num4 b k)) w) := by
  rcases hi with ⟨rfl, rfl⟩ | ⟨rfl, rfl⟩ | ⟨rfl, rfl⟩
  · obtain ⟨ad, rfl, c0⟩ := hr.cellAt (k := 0) (by omega)
    obtain ⟨_, e1, c1⟩ := hr.cellAt (k := 1) (by omega)
    obtain rfl := Option.some.inj e1
    obtain ⟨_, e1, c2⟩ := hr.cellAt (k := 2) (by omega)
    obtain rfl := Option.some.inj e1
    obtain ⟨_, e1, c3⟩ := hr.cellAt (k := 3) (by omega)
    obtain rfl := Option.some.inj e1
    rw [addr_zero] at c0
    rw [addr_pos] at c1 c2 c3
    have q0 : 0 < n := by omega
    have q1 : (1 : Int) < (n : Int) := by omega
    have q2 : (2 : Int) < (n : Int) := by omega
    have q3 : (3 : Int) < (n : Int) := by omega
    have h0 := hb.at_ 0
    have h1 := hb.at_ 1
    have h2 := hb.at_ 2
    have h3 := hb.at_ 3
    have e0 : num4 b 0 = b.getD 0 0 + 256 * b.getD 1 0 + 65536 * b.getD 2 0 + 16777216 * b.getD 3 0 := rfl
    generalize b.getD 0 0 = x0 at *
    generalize b.getD 1 0 = x1 at *
    generalize b.getD 2 0 = x2 at *
    generalize b.getD 3 0 = x3 at *
    have HE := Lib.hid e0
    clear hr hb e0
    go_enter Try.func61, Try.ntmps61
    go_wp2_with fail
    go_quiet (fail)
    go_wp2
    go_ret
    refine ⟨?_, _, rfl⟩
    rw [HE.out, show x0 + 256 * x1 + 65536 * x2 + 16777216 * x3 = x0 + x1 * 256 + x2 * 65536 + x3 * 16777216 by omega]
    rfl
  · obtain ⟨ad, rfl, c0⟩ := hr.cellAt (k := 5) (by omega)
    obtain ⟨_, e1, c1⟩ := hr.cellAt (k := 6) (by omega)
    obtain rfl := Option.some.inj e1
    obtain ⟨_, e1, c2⟩ := hr.cellAt (k := 7) (by omega)
    obtain rfl := Option.some.inj e1
    obtain ⟨_, e1, c3⟩ := hr.cellAt (k := 8) (by omega)
    obtain rfl := Option.some.inj e1
    rw [addr_pos] at c0 c1 c2 c3
    have q0 : (5 : Int) < (n : Int) := by omega
    have q1 : (6 : Int) < (n : Int) := by omega
    have q2 : (7 : Int) < (n : Int) := by omega
    have q3 : (8 : Int) < (n : Int) := by omega
    have h0 := hb.at_ 5
    have h1 := hb.at_ 6
    have h2 := hb.at_ 7
    have h3 := hb.at_ 8
    have e0 : num4 b 5 = b.getD 5 0 + 256 * b.getD 6 0 + 65536 * b.getD 7 0 + 16777216 * b.getD 8 0 := rfl
    generalize b.getD 5 0 = x0 at *
    generalize b.getD 6 0 = x1 at *
    generalize b.getD 7 0 = x2 at *
    generalize b.getD 8 0 = x3 at *
    have HE := Lib.hid e0
    clear hr hb e0
    go_enter Try.func61, Try.ntmps61
    go_wp2_with fail
    go_quiet (fail)
    go_wp2
    go_ret
    refine ⟨?_, _, rfl⟩
    rw [HE.out, show x0 + 256 * x1 + 65536 * x2 + 16777216 * x3 = x0 + x1 * 256 + x2 * 65536 + x3 * 16777216 by omega]
    rfl
  · obtain ⟨ad, rfl, c0⟩ := hr.cellAt (k := 60) (by omega)
    obtain ⟨_, e1, c1⟩ := hr.cellAt (k := 61) (by omega)
    obtain rfl := Option.some.inj e1
    obtain ⟨_, e1, c2⟩ := hr.cellAt (k := 62) (by omega)
    obtain rfl := Option.some.inj e1
    obtain ⟨_, e1, c3⟩ := hr.cellAt (k := 63) (by omega)
    obtain rfl := Option.some.inj e1
    rw [addr_pos] at c0 c1 c2 c3
    have q0 : (60 : Int) < (n : Int) := by omega
    have q1 : (61 : Int) < (n : Int) := by omega
    have q2 : (62 : Int) < (n : Int) := by omega
    have q3 : (63 : Int) < (n : Int) := by omega
    have h0 := hb.at_ 60
    have h1 := hb.at_ 61
    have h2 := hb.at_ 62
    have h3 := hb.at_ 63
    have e0 : num4 b 60 = b.getD 60 0 + 256 * b.getD 61 0 + 65536 * b.getD 62 0 + 16777216 * b.getD 63 0 := rfl
    generalize b.getD 60 0 = x0 at *
    generalize b.getD 61 0 = x1 at *
    generalize b.getD 62 0 = x2 at *
    generalize b.getD 63 0 = x3 at *
    have HE := Lib.hid e0
    clear hr hb e0
    go_enter Try.func61, Try.ntmps61
    go_wp2_with fail
    go_quiet (fail)
    go_wp2
    go_ret
    refine ⟨?_, _, rfl⟩
    rw [HE.out, show x0 + 256 * x1 + 65536 * x2 + 16777216 * x3 = x0 + x1 * 256 + x2 * 65536 + x3 * 16777216 by omega]
    rfl

/-- what is left of a number behind k bytes -/
def qk (x : Int) : Nat → Int
  | 0 => x
  | 1 => x / 256
  | 2 => x / 65536
  | 3 => x / 16777216
  | _ => x / 4294967296
def RPutRel (b : List Int) (o : Nat) (x : Int) (g : Nat) (w : World) (n i : Value) (wr : World) : Prop :=
  ∃ k : Nat, k ≤ 4 ∧ i = .int .i64 k ∧ n = .int .i64 (qk x k) ∧ Blk wr g 5 (cells (putk b o x k)).toArray ∧ Chg (One g) w wr

set_option maxRecDepth 100000 in
set_option maxHeartbeats 6400000 in
theorem refPut_any (w : World) (g : Nat) (b : List Int) (x : Int) (h : Blk w g 5 (cells b).toArray) (hb : b.length = 64) (oi : Int) (o : Nat) (ho : At3 oi o) (hx : 0 ≤ x ∧ x < 4294967296) :
    Calls Try.prog 62 #[.slice (some ⟨g, 0, none⟩) 64 64, .int .i64 oi, .int .i64 x] w fun e w' => e = .returned (.tuple #[]) ∧ Blk w' g 5 (cells (put4 b o x)).toArray ∧ Chg (One g) w w' := by
  have HB := Lib.hid hb
  clear hb
  have d2 : x / 256 / 256 = x / 65536 := by omega
  have d3 : x / 65536 / 256 = x / 16777216 := by omega
  have d4 : x / 16777216 / 256 = x / 4294967296 := by omega
  have d5 : x / 16777216 % 256 = x / 16777216 := by omega
  have HD := Lib.hid (And.intro d2 (And.intro d3 (And.intro d4 d5)))
  clear d2 d3 d4 d5
  rcases ho with ⟨rfl, rfl⟩ | ⟨rfl, rfl⟩ | ⟨rfl, rfl⟩
  · have H := Lib.hid h
    clear h
    go_enter Try.func62, Try.ntmps62
    go_wp2_with fail
    go_loopw [2, 6] (fun n i wr => RPutRel b 0 x g w n i wr) (fun _ i _ => 4 - (intOf i).toNat)
    case atStart => exact ⟨0, by omega, rfl, rfl, H.out, Chg.refl _ _⟩
    case round =>
      obtain ⟨k, hk, rfl, rfl, hb, hc⟩ := hrel
      have hu : ∀ j, j < 64 → ∃ u, wr.cell? ⟨g, j, none⟩ = some u := fun j hj => ⟨_, hb.src j _ (List.getElem?_eq_getElem (by rw [cells_len, putk_len, HB.out]; exact hj))⟩
      rcases (by omega : k = 0 ∨ k = 1 ∨ k = 2 ∨ k = 3 ∨ k = 4) with rfl | rfl | rfl | rfl | rfl
      · rw [show qk x 0 = x from rfl]
        obtain ⟨u, hu⟩ := hu 0 (by omega)
        have hf := hb.frozen 0
        have hz := hb.put 0 (.int .u8 (x % 256))
        have hz2 := hc.setCell (p := ⟨g, 0, none⟩) (fun _ => rfl) (.int .u8 (x % 256))
        rw [cells_put] at hz
        have HZ := Lib.hid (And.intro hz hz2)
        clear hz hz2 hb hc
        go_wp2
        go_roundw
        case rel => exact ⟨1, by omega, rfl, rfl, HZ.out.1, HZ.out.2⟩
        case measure => simp [intOf]
      · rw [show qk x 1 = x / 256 from rfl]
        obtain ⟨u, hu⟩ := hu 1 (by omega)
        have hf := hb.frozen 1
        have hz := hb.put 1 (.int .u8 (x / 256 % 256))
        have hz2 := hc.setCell (p := ⟨g, 1, none⟩) (fun _ => rfl) (.int .u8 (x / 256 % 256))
        rw [cells_put] at hz
        have HZ := Lib.hid (And.intro hz hz2)
        clear hz hz2 hb hc
        go_wp2
        go_roundw
        case rel => exact ⟨2, by omega, rfl, by rw [HD.out.1]; rfl, HZ.out.1, HZ.out.2⟩
        case measure => simp [intOf]
      · rw [show qk x 2 = x / 65536 from rfl]
        obtain ⟨u, hu⟩ := hu 2 (by omega)
        have hf := hb.frozen 2
        have hz := hb.put 2 (.int .u8 (x / 65536 % 256))
        have hz2 := hc.setCell (p := ⟨g, 2, none⟩) (fun _ => rfl) (.int .u8 (x / 65536 % 256))
        rw [cells_put] at hz
        have HZ := Lib.hid (And.intro hz hz2)
        clear hz hz2 hb hc
        go_wp2
        go_roundw
        case rel => exact ⟨3, by omega, rfl, by rw [HD.out.2.1]; rfl, HZ.out.1, HZ.out.2⟩
        case measure => simp [intOf]
      · rw [show qk x 3 = x / 16777216 from rfl]
        obtain ⟨u, hu⟩ := hu 3 (by omega)
        have hf := hb.frozen 3
        have hz := hb.put 3 (.int .u8 (x / 16777216 % 256))
        have hz2 := hc.setCell (p := ⟨g, 3, none⟩) (fun _ => rfl) (.int .u8 (x / 16777216 % 256))
        rw [cells_put] at hz
        have HZ := Lib.hid (And.intro hz hz2)
        clear hz hz2 hb hc
        go_wp2
        go_roundw
        case rel => exact ⟨4, by omega, rfl, by rw [HD.out.2.2.1]; rfl, HZ.out.1, HZ.out.2⟩
        case measure => simp [intOf]
      · go_wp2
        go_end0
        exact ⟨rfl, hb, hc⟩
  · have H := Lib.hid h
    clear h
    go_enter Try.func62, Try.ntmps62
    go_wp2_with fail
    go_loopw [2, 6] (fun n i wr => RPutRel b 5 x g w n i wr) (fun _ i _ => 4 - (intOf i).toNat)
    case atStart => exact ⟨0, by omega, rfl, rfl, H.out, Chg.refl _ _⟩
    case round =>
      obtain ⟨k, hk, rfl, rfl, hb, hc⟩ := hrel
      have hu : ∀ j, j < 64 → ∃ u, wr.cell? ⟨g, j, none⟩ = some u := fun j hj => ⟨_, hb.src j _ (List.getElem?_eq_getElem (by rw [cells_len, putk_len, HB.out]; exact hj))⟩
      rcases (by omega : k = 0 ∨ k = 1 ∨ k = 2 ∨ k = 3 ∨ k = 4) with rfl | rfl | rfl | rfl | rfl
      · rw [show qk x 0 = x from rfl]
        obtain ⟨u, hu⟩ := hu 5 (by omega)
        have hf := hb.frozen 5
        have hz := hb.put 5 (.int .u8 (x % 256))
        have hz2 := hc.setCell (p := ⟨g, 5, none⟩) (fun _ => rfl) (.int .u8 (x % 256))
        rw [cells_put] at hz
        have HZ := Lib.hid (And.intro hz hz2)
        clear hz hz2 hb hc
        go_wp2
        go_roundw
        case rel => exact ⟨1, by omega, rfl, rfl, HZ.out.1, HZ.out.2⟩
        case measure => simp [intOf]
      · rw [show qk x 1 = x / 256 from rfl]
        obtain ⟨u, hu⟩ := hu 6 (by omega)
        have hf := hb.frozen 6
        have hz := hb.put 6 (.int .u8 (x / 256 % 256))
        have hz2 := hc.setCell (p := ⟨g, 6, none⟩) (fun _ => rfl) (.int .u8 (x / 256 % 256))
        rw [cells_put] at hz
        have HZ := Lib.hid (And.intro hz hz2)
        clear hz hz2 hb hc
        go_wp2
        go_roundw
        case rel => exact ⟨2, by omega, rfl, by rw [HD.out.1]; rfl, HZ.out.1, HZ.out.2⟩
        case measure => simp [intOf]
      · rw [show qk x 2 = x / 65536 from rfl]
        obtain ⟨u, hu⟩ := hu 7 (by omega)
        have hf := hb.frozen 7
        have hz := hb.put 7 (.int .u8 (x / 65536 % 256))
        have hz2 := hc.setCell (p := ⟨g, 7, none⟩) (fun _ => rfl) (.int .u8 (x / 65536 % 256))
        rw [cells_put] at hz
        have HZ := Lib.hid (And.intro hz hz2)
        clear hz hz2 hb hc
        go_wp2
        go_roundw
        case rel => exact ⟨3, by omega, rfl, by rw [HD.out.2.1]; rfl, HZ.out.1, HZ.out.2⟩
        case measure => simp [intOf]
      · rw [show qk x 3 = x / 16777216 from rfl]
        obtain ⟨u, hu⟩ := hu 8 (by omega)
        have hf := hb.frozen 8
        have hz := hb.put 8 (.int .u8 (x / 16777216 % 256))
        have hz2 := hc.setCell (p := ⟨g, 8, none⟩) (fun _ => rfl) (.int .u8 (x / 16777216 % 256))
        rw [cells_put] at hz
        have HZ := Lib.hid (And.intro hz hz2)
        clear hz hz2 hb hc
        go_wp2
        go_roundw
        case rel => exact ⟨4, by omega, rfl, by rw [HD.out.2.2.1]; rfl, HZ.out.1, HZ.out.2⟩
        case measure => simp [intOf]
      · go_wp2
        go_end0
        exact ⟨rfl, hb, hc⟩
  · have H := Lib.hid h
    clear h
    go_enter Try.func62, Try.ntmps62
    go_wp2_with fail
    go_loopw [2, 6] (fun n i wr => RPutRel b 60 x g w n i wr) (fun _ i _ => 4 - (intOf i).toNat)
    case atStart => exact ⟨0, by omega, rfl, rfl, H.out, Chg.refl _ _⟩
    case round =>
      obtain ⟨k, hk, rfl, rfl, hb, hc⟩ := hrel
      have hu : ∀ j, j < 64 → ∃ u, wr.cell? ⟨g, j, none⟩ = some u := fun j hj => ⟨_, hb.src j _ (List.getElem?_eq_getElem (by rw [cells_len, putk_len, HB.out]; exact hj))⟩
      rcases (by omega : k = 0 ∨ k = 1 ∨ k = 2 ∨ k = 3 ∨ k = 4) with rfl | rfl | rfl | rfl | rfl
      · rw [show qk x 0 = x from rfl]
        obtain ⟨u, hu⟩ := hu 60 (by omega)
        have hf := hb.frozen 60
        have hz := hb.put 60 (.int .u8 (x % 256))
        have hz2 := hc.setCell (p := ⟨g, 60, none⟩) (fun _ => rfl) (.int .u8 (x % 256))
        rw [cells_put] at hz
        have HZ := Lib.hid (And.intro hz hz2)
        clear hz hz2 hb hc
        go_wp2
        go_roundw
        case rel => exact ⟨1, by omega, rfl, rfl, HZ.out.1, HZ.out.2⟩
        case measure => simp [intOf]
      · rw [show qk x 1 = x / 256 from rfl]
        obtain ⟨u, hu⟩ := hu 61 (by omega)
        have hf := hb.frozen 61
        have hz := hb.put 61 (.int .u8 (x / 256 % 256))
        have hz2 := hc.setCell (p := ⟨g, 61, none⟩) (fun _ => rfl) (.int .u8 (x / 256 % 256))
        rw [cells_put] at hz
        have HZ := Lib.hid (And.intro hz hz2)
        clear hz hz2 hb hc
        go_wp2
        go_roundw
        case rel => exact ⟨2, by omega, rfl, by rw [HD.out.1]; rfl, HZ.out.1, HZ.out.2⟩
        case measure => simp [intOf]
      · rw [show qk x 2 = x / 65536 from rfl]
        obtain ⟨u, hu⟩ := hu 62 (by omega)
        have hf := hb.frozen 62
        have hz := hb.put 62 (.int .u8 (x / 65536 % 256))
        have hz2 := hc.setCell (p := ⟨g, 62, none⟩) (fun _ => rfl) (.int .u8 (x / 65536 % 256))
        rw [cells_put] at hz
        have HZ := Lib.hid (And.intro hz hz2)
        clear hz hz2 hb hc
        go_wp2
        go_roundw
        case rel => exact ⟨3, by omega, rfl, by rw [HD.out.2.1]; rfl, HZ.out.1, HZ.out.2⟩
        case measure => simp [intOf]
      · rw [show qk x 3 = x / 16777216 from rfl]
        obtain ⟨u, hu⟩ := hu 63 (by omega)
        have hf := hb.frozen 63
        have hz := hb.put 63 (.int .u8 (x / 16777216 % 256))
        have hz2 := hc.setCell (p := ⟨g, 63, none⟩) (fun _ => rfl) (.int .u8 (x / 16777216 % 256))
        rw [cells_put] at hz
        have HZ := Lib.hid (And.intro hz hz2)
        clear hz hz2 hb hc
        go_wp2
        go_roundw
        case rel => exact ⟨4, by omega, rfl, by rw [HD.out.2.2.1]; rfl, HZ.out.1, HZ.out.2⟩
        case measure => simp [intOf]
      · go_wp2
        go_end0
        exact ⟨rfl, hb, hc⟩

/-- a sector's stamp as the document says it -/
def stmM (b : List Int) : Int := if num4 b 0 = num4 b 60 ∧ num4 b 0 < 2147483648 then num4 b 0 else 0

set_option maxRecDepth 100000 in
set_option maxHeartbeats 1600000 in
theorem refStamped_any (A : Option Addr) (c : Nat) (b : List Int) (w : World) (B : Nat) (hr : Rd w B A 64 (cells b)) (hb : IsBytes b) :
    Calls Try.prog 69 #[.slice A 64 c] w (Quiet (.int .i64 (stmM b)) w) := by
  have hn0 := num4_bd hb 0
  have hn6 := num4_bd hb 60
  have K0 := Lib.hid (show ∀ k, Calls Try.prog 61 #[.slice A 64 c, .int .i64 0] (w.drewN k) (Quiet (.int .i64 (num4 b 0)) (w.drewN k)) from fun k => refNumber_any A 64 c b (w.drewN k) B hr hb 0 0 (.inl ⟨rfl, rfl⟩) (by omega))
  have K6 := Lib.hid (show ∀ k, Calls Try.prog 61 #[.slice A 64 c, .int .i64 60] (w.drewN k) (Quiet (.int .i64 (num4 b 60)) (w.drewN k)) from fun k => refNumber_any A 64 c b (w.drewN k) B hr hb 60 60 (.inr (.inr ⟨rfl, rfl⟩)) (by omega))
  have e : stmM b = if num4 b 0 = num4 b 60 ∧ num4 b 0 < 2147483648 then num4 b 0 else 0 := rfl
  generalize stmM b = z at *
  generalize num4 b 0 = x at *
  generalize num4 b 60 = y at *
  clear hr hb
  by_cases h1 : x = y
  · subst h1
    by_cases h2 : x < 2147483648
    · rw [if_pos ⟨rfl, h2⟩] at e
      subst e
      have h3 : ¬ (2147483648 ≤ z) := by omega
      go_enter Try.func69, Try.ntmps69
      go_wp2_with fail
      refine (K0.out 0).mono ?_
      rintro e w' ⟨rfl, p, rfl⟩
      go_wp2_with fail
      refine (K6.out _).mono ?_
      rintro e w' ⟨rfl, p2, rfl⟩
      go_wp2
      go_ret
      exact ⟨rfl, _, rfl⟩
    · rw [if_neg (by omega)] at e
      subst e
      have h3 : 2147483648 ≤ x := by omega
      go_enter Try.func69, Try.ntmps69
      go_wp2_with fail
      refine (K0.out 0).mono ?_
      rintro e w' ⟨rfl, p, rfl⟩
      go_wp2_with fail
      refine (K6.out _).mono ?_
      rintro e w' ⟨rfl, p2, rfl⟩
      go_wp2
      go_ret
      exact ⟨rfl, _, rfl⟩
  · rw [if_neg (fun h => h1 h.1)] at e
    subst e
    go_enter Try.func69, Try.ntmps69
    go_wp2_with fail
    refine (K0.out 0).mono ?_
    rintro e w' ⟨rfl, p, rfl⟩
    go_wp2_with fail
    refine (K6.out _).mono ?_
    rintro e w' ⟨rfl, p2, rfl⟩
    go_wp2
    go_ret
    exact ⟨rfl, _, rfl⟩

set_option maxRecDepth 100000 in
theorem refPieces_any (n : Nat) (hn : n ≤ 140000000000000) (w : World) :
    Calls Try.prog 48 #[.int .i64 n] w fun e w' => e = .returned (.int .i64 (secsOf n : Nat)) ∧ w = w' := by
  go_enter Try.func48, Try.ntmps48
  go_wp2
  go_ret
  refine ⟨?_, rfl⟩
  have e : (2 + (n : Int) + 55) / 56 = (secsOf n : Nat) := by unfold secsOf; omega
  rw [e]
  rfl

set_option maxRecDepth 100000 in
theorem refHalf_any {w : World} {g : Nat} {G : Nat → Prop} {s : DS} (h : RefAt w g G s) (h2 : 2 ≤ s.last.length) :
    Calls Try.prog 42 #[.pointer (some ⟨g, 0, none⟩)] w fun e w' => e = .returned (.int .i64 (s.half : Nat)) ∧ w = w' := by
  have hle := h.ok.le
  obtain ⟨A, c, c0⟩ := h.last_len
  clear h
  go_enter Try.func42, Try.ntmps42
  go_wp2
  go_ret
  refine ⟨?_, rfl⟩
  have e : ((s.last.length : Int) - 2) / 2 = ((s.half : Nat) : Int) := by unfold DS.half; omega
  rw [e]
  rfl

end Go.Proofs.Ytehghjakggdnpaa

namespace Go.Proofs.Ytehghjakggdnpaa
open Go.RowKit Go.Lib

/-- block l is the document's log on the document's disk at g -/
def RLogAt (w : World) (l g : Nat) (gen area pos stamp : Int) : Prop :=
  Blk w l 46 #[.pointer (some ⟨g, 0, none⟩), .int .i64 gen, .int .i64 area, .int .i64 pos, .int .i64 stamp]
section
variable {w w' : World} {g l : Nat} {G : Nat → Prop} {s : DS} {gen area pos stamp : Int}
theorem RLogAt.c (h : RLogAt w l g gen area pos stamp) :
    w.cell? ⟨l, 0, none⟩ = some (.pointer (some ⟨g, 0, none⟩)) ∧ w.cell? ⟨l, 1, none⟩ = some (.int .i64 gen) ∧ w.cell? ⟨l, 2, none⟩ = some (.int .i64 area) ∧ w.cell? ⟨l, 3, none⟩ = some (.int .i64 pos) ∧ w.cell? ⟨l, 4, none⟩ = some (.int .i64 stamp) :=
  ⟨h.cell 0, h.cell 1, h.cell 2, h.cell 3, h.cell 4⟩
theorem RLogAt.drew (h : RLogAt w l g gen area pos stamp) : RLogAt w.drew l g gen area pos stamp := h
theorem RLogAt.drewN (h : RLogAt w l g gen area pos stamp) (n : Nat) : RLogAt (w.drewN n) l g gen area pos stamp := h
theorem RLogAt.below (h : RLogAt w l g gen area pos stamp) (hb : Below w.heap.size w w') : RLogAt w' l g gen area pos stamp := Blk.below h hb h.lt
theorem RLogAt.chg (h : RLogAt w l g gen area pos stamp) (hc : Chg G w w') (hn : ¬ G l) : RLogAt w' l g gen area pos stamp := Blk.chg h hc hn
theorem RefAt.half_le (h : RefAt w g G s) : s.half ≤ 32767 := by
  have := h.ok.le
  unfold DS.half
  omega
theorem RefAt.drew (h : RefAt w g G s) : RefAt w.drew g G s := h
theorem RefAt.drewN (h : RefAt w g G s) (n : Nat) : RefAt (w.drewN n) g G s := h

/-- a sector that was read -/
def SecQ (b : List Int) (w : World) (e : Ending) (w' : World) : Prop :=
  ∃ q c, e = .returned (.tuple #[.slice (some ⟨q, 0, none⟩) 64 c, .int .i64 0]) ∧ Rd w' w'.heap.size (some ⟨q, 0, none⟩) 64 (cells b) ∧ 64 ≤ c ∧ c ≤ maxLen ∧ w.heap.size ≤ q ∧ Below w.heap.size w w'
theorem wri {x : Int} (h0 : -4611686018427387904 ≤ x) (h1 : x < 4611686018427387904) : IntKind.i64.wrap x = x := by
  unfold IntKind.wrap; simp [IntKind.bits, IntKind.signed]; omega
theorem refReadQ (h : RefAt w g G s) (i : Int) (k : Nat) (hi : i = (k : Int)) (hk : k < s.last.length) (b : List Int) (hb : b = s.cur.getD k []) :
    Calls Try.prog 60 #[.pointer (some ⟨g, 0, none⟩), .int .i64 i] w (SecQ b w) := by
  subst hb hi
  refine (refRead_any h k hk).mono ?_
  rintro e w' ⟨v, rfl, hv, hl⟩
  rw [cur_at hk] at hv
  obtain ⟨q, c, rfl, hlo, hq⟩ := hv.form (by omega)
  obtain ⟨A, c', e, hc1, hc2⟩ := own_shape hv
  cases e
  exact ⟨q, c, rfl, Rd.of_own hv, hc1, hc2, hlo, hl⟩
/-- a sector of an area -/
def SecV (b : List Int) (w : World) (e : Ending) (w' : World) : Prop :=
  ∃ q c, e = .returned (.slice (some ⟨q, 0, none⟩) 64 c) ∧ Rd w' w'.heap.size (some ⟨q, 0, none⟩) 64 (cells b) ∧ 64 ≤ c ∧ c ≤ maxLen ∧ w.heap.size ≤ q ∧ Below w.heap.size w w'

set_option maxRecDepth 100000 in
set_option maxHeartbeats 1600000 in
theorem refSector_any (h : RefAt w g G s) (hl : RLogAt w l g gen area pos stamp) (h2 : 2 ≤ s.last.length) (a p : Int) (k : Nat) (ha : a = 0 ∨ a = 1) (hp : 0 ≤ p ∧ p ≤ 65536) (hk : (k : Int) = 2 + a * (s.half : Int) + p) (hkl : k < s.last.length) (b : List Int) (hb : b = s.cur.getD k []) :
    Calls Try.prog 70 #[.pointer (some ⟨l, 0, none⟩), .int .i64 a, .int .i64 p] w (SecV b w) := by
  obtain ⟨c0, c1, c2, c3, c4⟩ := hl.c
  have hh := h.half_le
  have HL := Lib.hid hl
  have H := Lib.hid h
  have HB := Lib.hid hb
  have HK := Lib.hid hk
  clear h hl hb hk
  rcases ha with rfl | rfl
  all_goals
    go_enter Try.func70, Try.ntmps70
    go_wp2_with fail
    go_region_held3 (fun w' => w'.cell? ⟨l, 0, none⟩ = some (.pointer (some ⟨g, 0, none⟩)))
      (first | exact HE.out | exact c0 | go_keep)
      (first
        | (go_at_call 42; refine (refHalf_any H.out.drew h2).mono ?_; rintro e w' ⟨rfl, rfl⟩)
        | (go_at_call 60; refine (refReadQ H.out.drew _ k (by have := HK.out; simp (disch := omega) only [wri]; omega) hkl b HB.out).mono ?_; rintro e w5 ⟨q, c, rfl, hr5, hc5, hm5, hq5, hl5⟩; have HE := Lib.hid ((HL.out.below (Below.drew (Below.refl w.heap.size w) |>.trans hl5)).c.1); have HR := Lib.hid (And.intro hr5 (And.intro hc5 (And.intro hm5 (And.intro hq5 ((Below.refl w.heap.size w).drew.trans hl5))))); clear hr5 hc5 hm5 hq5 hl5))
    go_wp2
    go_ret
    exact ⟨q, c, rfl, HR.out⟩

theorem RefAt.to_below (h : RefAt w g G s) (hb : Below w.heap.size w w') : RefAt w' g G s := h.below hb

set_option maxRecDepth 100000 in
set_option maxHeartbeats 3200000 in
theorem refMost_any (h : RefAt w g G s) (hb : AllBytes s.cur) (a to : Nat) (hat : a ≤ to) (ham : to ≤ s.last.length) :
    Calls Try.prog 41 #[.pointer (some ⟨g, 0, none⟩), .int .i64 a, .int .i64 to] w fun e w' => e = .returned (.int .i64 (great4 s.cur a (to - a))) ∧ Below w.heap.size w w' := by
  have hle := h.ok.le
  have H := Lib.hid h
  have HB := Lib.hid hb
  clear h hb
  go_enter Try.func41, Try.ntmps41
  go_wp2_with fail
  go_loopw [7, 8] (fun n k wr => GrRel w s.cur a to n k wr) (fun _ k _ => to - (intOf k).toNat)
  case atStart => exact ⟨a, by omega, by omega, by rw [Nat.sub_self]; rfl, rfl, Below.refl _ _⟩
  case round =>
    obtain ⟨q, ha, hj, rfl, rfl, hl⟩ := hrel
    have hbd := great4_bd HB.out a (q - a)
    by_cases hlt : q < to
    · have hlt' : (q : Int) < (to : Int) := by omega
      have hnb := num4_bd (HB.out.at_ q) 0
      have hgs := great4_next s.cur ha
      obtain ⟨x, hx⟩ : ∃ x, x = great4 s.cur a (q - a) := ⟨_, rfl⟩
      obtain ⟨y, hy⟩ : ∃ y, y = num4 (s.cur.getD q []) 0 := ⟨_, rfl⟩
      rw [← hx] at hbd hgs ⊢
      rw [← hy] at hgs hnb
      have HG := Lib.hid hgs
      have HL := Lib.hid hl
      have HY := Lib.hid hy
      clear hgs hl hx hy
      go_wp2_with fail
      refine (refReadQ (H.out.below HL.out) (q : Int) q rfl (by omega) _ rfl).mono ?_
      rintro e w1 ⟨g1, c1, rfl, hr1, hc1, hm1, hq1, hl1⟩
      have H1 := Lib.hid (And.intro hr1 (HL.out.trans (hl1.mono HL.out.size)))
      clear hr1 hl1
      go_wp2_with fail
      refine (refNumber_any _ 64 c1 _ w1 _ H1.out.1 (HB.out.at_ _) 0 0 (.inl ⟨rfl, rfl⟩) (by omega)).mono ?_
      rintro e w1' ⟨rfl, p, rfl⟩
      rw [← HY.out]
      go_wp2
      go_roundw
      case rel => exact ⟨q + 1, by omega, by omega, by rw [HG.out, show max x y = (if x < y then y else x) by split <;> omega], by go_num, bdr H1.out.2 p⟩
      case measure => simp [intOf]; omega
    · obtain rfl : q = to := by omega
      go_wp2
      go_ret
      exact ⟨rfl, hl⟩
theorem refMost_at (h : RefAt w g G s) (hb : AllBytes s.cur) (ia ito : Int) (a to : Nat) (h1 : ia = (a : Int)) (h2 : ito = (to : Int)) (hat : a ≤ to) (ham : to ≤ s.last.length) (x : Int) (hx : great4 s.cur a (to - a) = x) :
    Calls Try.prog 41 #[.pointer (some ⟨g, 0, none⟩), .int .i64 ia, .int .i64 ito] w fun e w' => e = .returned (.int .i64 x) ∧ Below w.heap.size w w' := by
  subst h1 h2 hx
  exact refMost_any h hb a to hat ham

end
end Go.Proofs.Ytehghjakggdnpaa

namespace Go.Proofs.Ytehghjakggdnpaa
open Go.RowKit Go.Lib

theorem RefAt.ext {w : World} {g : Nat} {F G : Nat → Prop} {s : DS} (h : RefAt w g F s) (hF : ∀ k, F k → G k) (hG : ∀ k, G k → k < w.heap.size) : RefAt w g G s := by
  obtain ⟨L, W, lv, wv, h1, h2, h3, h4, h5, f1, f2, f3, f4, h6⟩ := h
  exact ⟨L, W, lv, wv, h1, h2, h3.mono hF, h4, h5.mono hF, hF _ f1, fun k hk => hF k (f2 k hk), fun k hk => hF k (f3 k hk), hG, h6⟩

/-- the document's disk and log, some calls behind -/
def RSt (w : World) (g l : Nat) (G : Nat → Prop) (s : DS) (gen area pos stamp : Int) (wr : World) : Prop := RefAt wr g (Ext G w wr) s ∧ RLogAt wr l g gen area pos stamp ∧ Chg (FL G l) w wr
section
variable {w wr w' : World} {g l : Nat} {G : Nat → Prop} {s s' : DS} {gen area pos stamp gen' area' pos' stamp' : Int}
theorem RSt.nf (_h : RSt w g l G s gen area pos stamp wr) (hnf : ¬ G l) (hlw : l < w.heap.size) : ¬ Ext G w wr l := fun h => h.elim hnf fun h => by omega
theorem RSt.refl (h : RefAt w g G s) (hl : RLogAt w l g gen area pos stamp) : RSt w g l G s gen area pos stamp w := ⟨h.same_ext, hl, Chg.refl _ _⟩
theorem RSt.step (h : RSt w g l G s gen area pos stamp wr) (hF : ∀ k, G k → k < w.heap.size) (hd : RefAt w' g (Ext (Ext G w wr) wr w') s') (hl : RLogAt w' l g gen' area' pos' stamp') (hc : Chg (FL (Ext G w wr) l) wr w') : RSt w g l G s' gen' area' pos' stamp' w' := by
  have s1 := h.2.2.size
  have s2 := hc.size
  refine ⟨hd.ext (fun k hk => hk.elim (fun hk => hk.elim .inl fun hk => .inr ⟨hk.1, by omega⟩) fun hk => .inr ⟨by omega, hk.2⟩) (fun k hk => hk.elim (fun hf => by have := hF k hf; omega) fun h => h.2), hl, h.2.2.trans' hc fun k hk hg => ?_⟩
  rcases hg with (hg | hg) | hg
  · exact .inl hg
  · omega
  · exact .inr hg
theorem RSt.stepG (h : RSt w g l G s gen area pos stamp w) (hF : ∀ k, G k → k < w.heap.size) (hd : RefAt w' g (Ext G w w') s') (hl : RLogAt w' l g gen' area' pos' stamp') (hc : Chg G w w') : RSt w g l G s' gen' area' pos' stamp' w' :=
  h.step hF (hd.ext (fun k hk => hk.elim (fun h => .inl (.inl h)) .inr) (fun k hk => hk.elim (fun h => h.elim (fun h => Nat.lt_of_lt_of_le (hF k h) hc.size) (fun h => by omega)) fun h => h.2)) hl (hc.mono fun k _ hk => .inl (.inl hk))
theorem RSt.below (h : RSt w g l G s gen area pos stamp wr) (hF : ∀ k, G k → k < w.heap.size) (hb : Below wr.heap.size wr w') : RSt w g l G s gen area pos stamp w' := by
  have s1 := h.2.2.size
  have s2 := hb.size
  exact ⟨(h.1.below hb).ext (fun k hk => hk.elim .inl fun hk => .inr ⟨hk.1, by omega⟩) (fun k hk => hk.elim (fun hf => by have := hF k hf; omega) fun h => h.2), h.2.1.below hb, h.2.2.trans (Chg.of_below hb)⟩
/-- from an earlier world, that what was handed in lay in -/
theorem RSt.base {v : World} (h : RSt w g l G s gen area pos stamp wr) (hb : Below v.heap.size v w) (hF : ∀ k, G k → k < v.heap.size) : RSt v g l G s gen area pos stamp wr := by
  have s1 := h.2.2.size
  have s2 := hb.size
  exact ⟨h.1.ext (fun k hk => hk.elim .inl fun hk => .inr ⟨by omega, hk.2⟩) (fun k hk => hk.elim (fun hf => by have := hF k hf; omega) fun h => h.2), h.2.1, (Chg.of_below hb).trans' h.2.2 fun _ _ hg => hg⟩

theorem refWriteAt (h : RefAt w g G s) (i : Int) (k : Nat) (hi : i = (k : Int)) (hk : k < s.last.length) (A : Option Addr) (c : Nat) (b : List Int) (hr : Rd w w.heap.size A 64 (cells b)) (few : s.wr.length < 1000000) :
    Calls Try.prog 63 #[.pointer (some ⟨g, 0, none⟩), .int .i64 i, .slice A 64 c] w (RefRet g G (s.write k b) (.int .i64 0) w) := by
  subst hi
  exact refWrite_yes h k hk A c b hr few

set_option maxRecDepth 100000 in
set_option maxHeartbeats 3200000 in
theorem refHead_any (h : RefAt w g G s) (hl : RLogAt w l g gen area pos stamp) (hn : ¬ G l) (hg : 0 ≤ gen ∧ gen < 4294967290) (ha : area = 0 ∨ area = 1) (first : Int) (hf : 0 ≤ first ∧ first < 4294967296) (few : s.wr.length < 1000000) (h2 : 2 ≤ s.last.length) :
    Calls Try.prog 43 #[.pointer (some ⟨l, 0, none⟩), .int .i64 first] w fun e w' => e = .returned (.tuple #[]) ∧ RSt w g l G (s.write (gen % 2).toNat (headB gen area first)).flush gen area pos stamp w' := by
  have hmk := make64
  have H := Lib.hid (And.intro h hl)
  have hlw := hl.lt
  have HG := Lib.hid h.foot
  clear h hl
  have hab : 0 ≤ area ∧ area < 256 := by omega
  obtain ⟨c0, c1, c2, c3, c4⟩ := H.out.2.c
  go_enter Try.func43, Try.ntmps43
  go_wp2_with fail
  clear c0 c1 c2 c3 c4
  obtain ⟨w0, hw0⟩ : ∃ w0, w0 = w.alloc (.cells zarr 5) := ⟨_, rfl⟩
  have k1 : Blk w0 w.heap.size 5 (cells zeros).toArray := by rw [hw0, zeros_cells]; exact Blk.new _ _ _
  have hl0 : Below w.heap.size w w0 := by rw [hw0]; exact (Below.refl _ _).alloc (Nat.le_refl _) _
  rw [← hw0]
  clear hw0
  have hlog := H.out.2.below hl0
  obtain ⟨c0, c1, c2, c3, c4⟩ := hlog.c
  have H0 := Lib.hid (And.intro k1 hl0)
  clear k1 hl0 hlog
  refine (refPut_any w0 w.heap.size zeros gen H0.out.1 rfl 0 0 (.inl ⟨rfl, rfl⟩) ⟨hg.1, by omega⟩).mono ?_
  rintro e w1 ⟨rfl, b1, q1⟩
  have B1 := Lib.hid (H0.out.2.trans (q1.below (B := w.heap.size) (fun k hk => by unfold One at hk; omega) H0.out.2.size))
  have H1 := Lib.hid b1
  have hlog := H.out.2.below B1.out
  clear c0 c1 c2 c3 c4 b1 q1
  obtain ⟨c0, c1, c2, c3, c4⟩ := hlog.c
  clear hlog
  go_wp2_with fail
  refine (refPut_any w1 w.heap.size _ gen H1.out (by rw [put4_len]; rfl) 60 60 (.inr (.inr ⟨rfl, rfl⟩)) ⟨hg.1, by omega⟩).mono ?_
  rintro e w2 ⟨rfl, b2, q2⟩
  have B2 := Lib.hid (B1.out.trans (q2.below (B := w.heap.size) (fun k hk => by unfold One at hk; omega) B1.out.size))
  have hlog := H.out.2.below B2.out
  clear c0 c1 c2 c3 c4 q2
  obtain ⟨c0, c1, c2, c3, c4⟩ := hlog.c
  clear hlog
  have u4 : ∃ u, w2.cell? ⟨w.heap.size, 4, none⟩ = some u := ⟨_, b2.src 4 _ (List.getElem?_eq_getElem (by rw [cells_len, put4_len, put4_len]; decide))⟩
  have f4 := b2.frozen 4
  obtain ⟨u4, hu4⟩ := u4
  have b3 := b2.put 4 (.int .u8 area)
  rw [cells_put] at b3
  have B3 := Lib.hid (show Below w.heap.size w (w2.setCell ⟨w.heap.size, 4, none⟩ (.int .u8 area)) from B2.out.trans (((Chg.refl (One w.heap.size) w2).setCell (p := ⟨w.heap.size, 4, none⟩) (fun _ => rfl) _).below (B := w.heap.size) (fun k hk => by unfold One at hk; omega) B2.out.size))
  have H3 := Lib.hid b3
  clear b2 b3
  go_wp2_with fail
  clear c0 c1 c2 c3 c4 f4 hu4
  obtain ⟨w3, hw3⟩ : ∃ w3, w3 = w2.setCell ⟨w.heap.size, 4, none⟩ (.int .u8 area) := ⟨_, rfl⟩
  rw [← hw3]
  have B3' := Lib.hid (hw3 ▸ B3.out)
  have H3' := Lib.hid (hw3 ▸ H3.out)
  clear B3 H3 hw3
  refine (refPut_any w3 w.heap.size _ first H3'.out (by rw [List.length_set, put4_len, put4_len]; rfl) 5 5 (.inr (.inl ⟨rfl, rfl⟩)) hf).mono ?_
  rintro e w4 ⟨rfl, b4, q4⟩
  have B4 := Lib.hid (B3'.out.trans (q4.below (B := w.heap.size) (fun k hk => by unfold One at hk; omega) B3'.out.size))
  have hbuf : Rd w4 w4.heap.size (some ⟨w.heap.size, 0, none⟩) 64 (cells (headB gen area first)) := Blk.rd b4 (by rw [cells_len]; rfl)
  have HB4 := Lib.hid hbuf
  have hlog := H.out.2.below B4.out
  obtain ⟨c0, c1, c2, c3, c4⟩ := hlog.c
  clear hlog hbuf b4 q4
  go_wp2_with fail
  go_still_tail 10, (by kernel_rfl)
  repeat still_step
  go_wp2_with fail
  refine (refWriteAt (H.out.1.below B4.out).drew (gen % 2) (gen % 2).toNat (by omega) (by omega) _ _ _ HB4.out few).mono ?_
  rintro e w5 ⟨rfl, hd5, hc5⟩
  have hc5' : Chg G w4 w5 := ⟨hc5.os, hc5.tape, hc5.output, hc5.size, hc5.block⟩
  have S5 := Lib.hid (((RSt.refl (H.out.1.below B4.out) (H.out.2.below B4.out)).stepG (fun k hk => Nat.lt_of_lt_of_le (HG.out k hk) B4.out.size) hd5 ((H.out.2.below B4.out).chg hc5' hn) hc5'))
  have hlog := S5.out.2.1
  obtain ⟨c0, c1, c2, c3, c4⟩ := hlog.c
  clear hlog hd5 hc5 hc5'
  go_wp2_with fail
  refine (refFlush_any S5.out.1).mono ?_
  rintro e w6 ⟨rfl, hd6, hc6⟩
  have S6 := Lib.hid ((S5.out.step (fun k hk => Nat.lt_of_lt_of_le (HG.out k hk) B4.out.size) hd6 (S5.out.2.1.chg hc6 (S5.out.nf hn (Nat.lt_of_lt_of_le hlw B4.out.size))) (hc6.mono fun k _ hk => .inl hk)).base B4.out HG.out)
  clear hd6 hc6
  go_wp2
  go_end0
  exact ⟨rfl, S6.out⟩
end
end Go.Proofs.Ytehghjakggdnpaa

namespace Go.Proofs.Ytehghjakggdnpaa
open Go.RowKit Go.Lib

/-- p laid at 4 -/
def spl (b p : List Int) : List Int := b.take 4 ++ p ++ b.drop (4 + p.length)
theorem spl_set_lo {b p : List Int} {i : Nat} {x : Int} (hi : i < 4) (hb : 4 ≤ b.length) : spl (b.set i x) p = (spl b p).set i x := by
  unfold spl
  rw [List.take_set, List.drop_set_of_lt (by omega), List.append_assoc, List.append_assoc, List.set_append_left _ _ (by rw [List.length_take]; omega)]
theorem spl_set_hi {b p : List Int} {i : Nat} {x : Int} (hi : 60 ≤ i) (hp : p.length ≤ 56) (hb : 60 ≤ b.length) : spl (b.set i x) p = (spl b p).set i x := by
  unfold spl
  rw [List.take_set_of_le (by omega), List.drop_set, if_neg (by omega), List.set_append_right _ _ (by simp; omega)]
  congr 2
  simp; omega
theorem spl_put {b p : List Int} {i : Nat} {x : Int} (hi : i = 0 ∨ i = 60) (hp : p.length ≤ 56) (hb : 60 ≤ b.length) : spl (put4 b i x) p = put4 (spl b p) i x := by
  unfold put4
  simp only [putk]
  rcases hi with rfl | rfl
  · rw [spl_set_lo (by omega) (by simp; omega), spl_set_lo (by omega) (by simp; omega), spl_set_lo (by omega) (by simp; omega), spl_set_lo (by omega) (by omega)]
  · rw [spl_set_hi (by omega) hp (by simp; omega), spl_set_hi (by omega) hp (by simp; omega), spl_set_hi (by omega) hp (by simp; omega), spl_set_hi (by omega) hp (by omega)]
theorem spl_sec {p : List Int} {x : Int} (hp : p.length ≤ 56) : spl (put4 (put4 zeros 0 x) 60 x) p = secB p x := by
  rw [spl_put (.inr rfl) hp (by rw [put4_len]; decide), spl_put (.inl rfl) hp (by decide)]
  rfl
theorem spl_cells (b p : List Int) (hb : 4 + p.length ≤ b.length) : splice (cells b) 4 (cells p) = cells (spl b p) := by
  unfold splice spl
  rw [cells_append, cells_append, cells_len]
  simp [cells, List.map_take, List.map_drop]

theorem wpStill_slice_lo {P : Program} {w : World} {ops : Array Oper} {rest : List Oper} {o : Oper} {a : Act} {Qs : Act → Prop} (hgd : o.guard = none) (t e : TypeId) (x lo : Operand) (ho : o.op = .slice t x (some lo) none none) (ht : P.underlying t = some (.slice e)) (hsz : (P.info? e).map (·.size) = some 1)
    (g n c k : Nat) (hx : a.eval x = .slice (some ⟨g, 0, none⟩) n c) (q : Int) (hlo : a.eval lo = .int .i64 q) (hq : q = k) (hk : k ≤ n) (hc : n ≤ c) (hne : c ≠ k)
    (h : wpStill P ops w Qs rest (a.put o.dst (.slice (some ⟨g, k, none⟩) (n - k) (c - k)))) : wpStill P ops w Qs (o :: rest) a := by
  subst hq
  have hw : Region.wanted o (yielded ops a.tmps) = true := by simp [Region.wanted, hgd]
  refine wpStill_step fun K hK => ?_
  rw [if_pos hw]
  cases hi : P.info? e with
  | none => simp [hi] at hsz
  | some i =>
    have hs : i.size = 1 := by simpa [hi] using hsz
    have hrun : (Instr.slice t (.slice (some ⟨g, 0, none⟩) n c) (some (.int .i64 (k : Int))) none none).run P w = .ok (.slice (some ⟨g, k, none⟩) (n - k) (c - k)) w := by
      have h0 : (k : Int) ≤ n := by omega
      simp [Instr.slice, run_underlying ht, Instr.sliceBounds, sizeOf, typeInfo, hi, hs, run_sliceBound w .i64 (k : Int) n _ (by omega) h0, hne, Addr.add_mid]
    unfold Oper.still execOp
    simp only [ho, hx, hlo, Instr.sliceAt, run_underlying ht, hrun, Sem.run_bind, Sem.run_pure, Result.andThen_ok, Option.map_some, Option.map_none]
    exact ⟨rfl, hK _ h⟩

section
variable {w wr w' : World} {g l : Nat} {G : Nat → Prop} {s s' : DS} {gen area pos stamp gen' area' pos' stamp' : Int}
theorem RSt.put (h : RSt w g l G s gen area pos stamp wr) (hF : ∀ k, G k → k < w.heap.size) (hnf : ¬ G l) (hlw : l < w.heap.size) (j : Nat) (v : Value) (hl : RLogAt (wr.setCell ⟨l, j, none⟩ v) l g gen' area' pos' stamp') : RSt w g l G s gen' area' pos' stamp' (wr.setCell ⟨l, j, none⟩ v) := by
  have hc := (Chg.refl (fun k => k = l) wr).setCell (p := ⟨l, j, none⟩) (fun _ => rfl) v
  have hs := hc.size
  have hn := h.nf hnf hlw
  have s1 := h.2.2.size
  exact ⟨(h.1.chg hc fun k hk e => hn (e ▸ hk)).ext (fun k hk => hk.elim .inl fun hk => .inr ⟨hk.1, by omega⟩) (fun k hk => hk.elim (fun hf => by have := hF k hf; omega) fun h => h.2), hl, h.2.2.setCell (p := ⟨l, j, none⟩) (fun _ => .inr rfl) _⟩
/-- memory first, then the disk -/
theorem RSt.stepB {w4 : World} (h : RSt w g l G s gen area pos stamp wr) (hF : ∀ k, G k → k < w.heap.size) (hb : Below wr.heap.size wr w4) (hd : RefAt w' g (Ext (Ext G w wr) w4 w') s') (hl : RLogAt w' l g gen' area' pos' stamp') (hc : Chg (Ext G w wr) w4 w') : RSt w g l G s' gen' area' pos' stamp' w' := by
  have s1 := h.2.2.size
  have s2 := hb.size
  have s3 := hc.size
  refine (h.below hF hb).step hF (hd.ext (fun k hk => hk.elim (fun hk => .inl (hk.elim .inl fun hk => .inr ⟨hk.1, by omega⟩)) .inr) (fun k hk => hk.elim (fun hk => hk.elim (fun hf => by have := hF k hf; omega) fun h => by omega) fun h => h.2)) hl (hc.mono fun k _ hk => .inl (hk.elim .inl fun hk => .inr ⟨hk.1, by omega⟩))
theorem RLogAt.put1 (h : RLogAt wr l g gen area pos stamp) (v : Int) : RLogAt (wr.setCell ⟨l, 1, none⟩ (.int .i64 v)) l g v area pos stamp := Blk.put h 1 (.int .i64 v)
theorem RLogAt.put2 (h : RLogAt wr l g gen area pos stamp) (v : Int) : RLogAt (wr.setCell ⟨l, 2, none⟩ (.int .i64 v)) l g gen v pos stamp := Blk.put h 2 (.int .i64 v)
theorem RLogAt.put3 (h : RLogAt wr l g gen area pos stamp) (v : Int) : RLogAt (wr.setCell ⟨l, 3, none⟩ (.int .i64 v)) l g gen area v stamp := Blk.put h 3 (.int .i64 v)
theorem RLogAt.put4' (h : RLogAt wr l g gen area pos stamp) (v : Int) : RLogAt (wr.setCell ⟨l, 4, none⟩ (.int .i64 v)) l g gen area pos v := Blk.put h 4 (.int .i64 v)

def RwRel (w : World) (g l : Nat) (G : Nat → Prop) (s : DS) (gen area pos stamp : Int) (r : List Int) (sec need : Nat) (i : Value) (wr : World) : Prop :=
  ∃ k : Nat, k ≤ need ∧ i = .int .i64 k ∧ RSt w g l G ⟨s.last, s.wr ++ putWs (recBody r) sec stamp (List.range k)⟩ gen area pos (stamp + (k : Int)) wr

set_option maxRecDepth 100000 in
set_option maxHeartbeats 6400000 in
theorem refRecWrite_any (h : RefAt w g G s) (hl : RLogAt w l g gen area pos stamp) (hn : ¬ G l) (h2 : 2 ≤ s.last.length) (a p : Int) (sec : Nat) (ha : a = 0 ∨ a = 1) (hp : 0 ≤ p ∧ p ≤ 65536) (hsec : (sec : Int) = 2 + a * (s.half : Int) + p) (A : Option Addr) (n c : Nat) (r : List Int) (hr : Rd w w.heap.size A n (cells r)) (hn4 : n ≤ 4096)
    (hx : 0 ≤ stamp ∧ stamp + 100 < 4294967296) (hs : sec + secsOf n ≤ s.last.length) (few : s.wr.length + 100 < 1000000) :
    Calls Try.prog 49 #[.pointer (some ⟨l, 0, none⟩), .int .i64 a, .int .i64 p, .slice A n c] w fun e w' => e = .returned (.tuple #[]) ∧
      RSt w g l G ⟨s.last, s.wr ++ putWs (recBody r) sec stamp (List.range (secsOf n))⟩ gen area pos (stamp + (secsOf n : Nat)) w' := by
  have hnl : r.length = n := by have := hr.len; rwa [cells_len] at this
  have hle := h.ok.le
  have hmk := make64
  have hlw := hl.lt
  have hh := h.half_le
  have hpos0 : 0 < r.length + 2 := by omega
  have hbu : Try.prog.underlying 38 = some (.slice 5) := Try.underlying38
  obtain ⟨i0, hi, hz0, hz1, hz2⟩ := info_parts Try.dkinfo5
  have H := Lib.hid (And.intro h (And.intro hl (And.intro hr (And.intro hnl hsec))))
  have HG := Lib.hid h.foot
  clear h hl hr hnl hsec
  have hn0 : (0 : Int) ≤ (n : Int) := by omega
  have hn4i : (n : Int) ≤ 4096 := by omega
  obtain ⟨need, hne⟩ : ∃ need, need = secsOf n := ⟨_, rfl⟩
  rw [← hne] at hs ⊢
  have hneb : 1 ≤ need ∧ need ≤ 74 ∧ 56 * need ≤ n + 57 := by rw [hne]; unfold secsOf; omega
  have HNE := Lib.hid hne
  clear hne
  have own0 : (w.alloc (.cells #[.int .u8 ((n : Int) % 256), .int .u8 ((n : Int) / 256)] 5)).ownsRow w.heap.size 5 1 (.slice (some ⟨w.heap.size, 0, none⟩) 2 2) 2 (cells [(n : Int) % 256, (n : Int) / 256]) :=
    World.ownsRow_lit w #[.int .u8 ((n : Int) % 256), .int .u8 ((n : Int) / 256)] 2 (Nat.le_refl _) (by simp [maxLen]) (by rfl)
  have hr0 := H.out.2.2.1.alloc (Nat.le_refl _) (.cells #[.int .u8 ((n : Int) % 256), .int .u8 ((n : Int) / 256)] 5)
  go_enter Try.func49, Try.ntmps49
  go_wp2_with (at_builtin; refine wpList_append_rd _ rfl (.tmp 20) (.tmp 21) 38 rfl w.heap.size 5 i0 (.int .u8 0) 1 Try.underlying38 hi hz0 hz1 hz2 rfl _ _ _ rfl (by exact own0) w.heap.size A n c _ rfl (by exact hr0) (cells_one _) ?e3 ?e4 ?e5 ?_)
  case e3 => unfold maxLen; omega
  case e4 => omega
  case e5 => simp
  intro v6 w6 ho6 hg6
  have hl6 : Below w.heap.size w w6 := ((Below.refl _ w).alloc (Nat.le_refl _) _).trans (below_own own0 hg6 (by simp))
  have hbody : cells [(n : Int) % 256, (n : Int) / 256] ++ cells r = cells (recBody r) := by rw [← cells_append]; unfold recBody; rw [H.out.2.2.2.1]
  rw [hbody] at ho6
  obtain ⟨qa, ca, rfl, hqa, hqb⟩ := ho6.form (by omega)
  have hca : 2 + n ≤ ca ∧ ca ≤ maxLen := by
    obtain ⟨_, c', e, h1, h2⟩ := own_shape ho6
    injection e with e1 e2 e3
    subst e3
    exact ⟨h1, h2⟩
  have H6 := Lib.hid (And.intro hl6 (And.intro (Rd.own ho6) (And.intro hqa hca)))
  have hq6 : qa < w6.heap.size := by
    obtain ⟨cur, hc⟩ := own_blk ho6 qa rfl
    exact hc.lt
  have hlq : l ≠ qa := by omega
  have HC6 := Lib.hid (show ∀ j v, (cells (recBody r))[j]? = some v → w6.cell? ⟨qa, j, none⟩ = some v from fun j v hv => by
    obtain ⟨ad, e, _, hc⟩ := (Rd.own ho6).2 (by omega)
    cases e
    have := hc j v hv
    rwa [Addr.add_mid, Nat.zero_add] at this)
  clear own0 hr0 ho6 hg6 hl6 hbody hi hz0 hz1 hz2 hqb
  rcases ha with rfl | rfl
  all_goals
    go_wp2_with fail
    go_loopw [9] (fun i wr => RwRel w6 g l G s gen area pos stamp r sec need i wr) (fun i _ => need - (intOf i).toNat)
  case atStart => exact ⟨0, by omega, rfl, by simpa [putWs] using (RSt.refl (H.out.1.below H6.out.1) (H.out.2.1.below H6.out.1))⟩
  case atStart => exact ⟨0, by omega, rfl, by simpa [putWs] using (RSt.refl (H.out.1.below H6.out.1) (H.out.2.1.below H6.out.1))⟩
  all_goals
    obtain ⟨k, hk, rfl, hst⟩ := hrel
    by_cases hlt : k < need
    · have hki : (k : Int) < (need : Int) := by omega
      have hsz := hst.2.2.size
      have hlq' : l < w6.heap.size := Nat.lt_of_lt_of_le hlw H6.out.1.size
      have hsrc : ∀ j v, (cells (chunkOf (recBody r) k))[j]? = some v → wr.cell? ⟨qa, 56 * k + j, none⟩ = some v := by
        intro j v hv
        rw [hst.2.2.cell (p := ⟨qa, 56 * k + j, none⟩) hq6 (fun hf => hf.elim (fun hg => by have := HG.out _ hg; simp only at this; omega) (fun e => hlq e.symm))]
        refine HC6.out _ _ ?_
        unfold chunkOf at hv
        rw [cells, List.getElem?_map, List.getElem?_take] at hv
        split at hv
        · rw [cells, List.getElem?_map, ← hv, List.getElem?_drop]
        · cases hv
      have HS := Lib.hid hst
      have HRA := Lib.hid hsrc
      have hlog := hst.2.1
      obtain ⟨c0, c1, c2, c3, c4⟩ := hlog.c
      have hlr := hlog.lt
      clear hlog hst hsrc
      go_wp2_with fail
      refine (refPieces_any n (by omega) _).mono ?_
      rw [← HNE.out]
      rintro e w1 ⟨rfl, rfl⟩
      go_wp2_with fail
      clear c0 c1 c2 c3 c4
      obtain ⟨w0, hw0⟩ : ∃ w0, w0 = wr.alloc (.cells zarr 5) := ⟨_, rfl⟩
      have k1 : Blk w0 wr.heap.size 5 (cells zeros).toArray := by rw [hw0, zeros_cells]; exact Blk.new _ _ _
      have hl0 : Below wr.heap.size wr w0 := by rw [hw0]; exact (Below.refl _ _).alloc (Nat.le_refl _) _
      rw [← hw0]
      clear hw0
      have H0 := Lib.hid (And.intro k1 hl0)
      clear k1 hl0
      refine (refPut_any w0 wr.heap.size zeros (stamp + (k : Int)) H0.out.1 rfl 0 0 (.inl ⟨rfl, rfl⟩) ⟨by omega, by omega⟩).mono ?_
      rintro e w2 ⟨rfl, b1, q1⟩
      have B1 := Lib.hid (H0.out.2.trans (q1.below (B := wr.heap.size) (fun k hk => by unfold One at hk; omega) H0.out.2.size))
      have H1 := Lib.hid b1
      have hlog := HS.out.2.1.below B1.out
      clear b1 q1
      obtain ⟨c0, c1, c2, c3, c4⟩ := hlog.c
      clear hlog
      go_wp2_with fail
      refine (refPut_any w2 wr.heap.size _ (stamp + (k : Int)) H1.out (by rw [put4_len]; rfl) 60 60 (.inr (.inr ⟨rfl, rfl⟩)) ⟨by omega, by omega⟩).mono ?_
      rintro e w3 ⟨rfl, b2, q2⟩
      have B2 := Lib.hid (B1.out.trans (q2.below (B := wr.heap.size) (fun k hk => by unfold One at hk; omega) B1.out.size))
      have H2 := Lib.hid b2
      clear c0 c1 c2 c3 c4 b2 q2
      go_wp2_with fail
      have hk0 : (0 : Int) ≤ (k : Int) := Int.natCast_nonneg _
      have htn : (56 * (k : Int)).toNat = 56 * k := by omega
      have hwp : IntKind.i64.wrap (56 * (k : Int)) = 56 * (k : Int) := IntWalk.i64_in _ (by omega)
      have hlt1 : 56 * (k : Int) < 2 + (n : Int) := by omega
      have hlt2 : 56 * k < 2 + n := by omega
      have hcn : ¬ ca = 56 * k := by omega
      go_still_tail 6, (by kernel_rfl)
      repeat still_step
      refine wpStill_slice_lo rfl 38 5 (.tmp 45) (.tmp 47) rfl Try.underlying38 Try.size5 qa (2 + n) ca (56 * k) rfl _ rfl (by omega) (by omega) (by omega) hcn ?_
      repeat still_step
      refine wpStill_nil ?_
      go_wp2_with (refine wpList_copy_chg rfl (.tmp 44) (.tmp 48) 38 38 rfl 5 Try.underlying38 Try.size5 _ _ _ _ _ _ rfl rfl wr.heap.size 4 (cells (put4 (put4 zeros 0 (stamp + (k : Int))) 60 (stamp + (k : Int)))) 5 (by exact H2.out) (cells (chunkOf (recBody r) k)) ?b2 ?b3 ?b4 ?b5 ?_)
      case b2 => rw [cells_len]; unfold chunkOf; rw [List.length_take, List.length_drop, recBody_len, H.out.2.2.2.1]; exact Nat.min_comm _ _
      case b3 =>
        intro _ j v hv
        exact (B2.out.cell (p := ⟨qa, 56 * k + j, none⟩) (by show qa < _; omega)).trans (HRA.out j v hv)
      case b4 =>
        have h1 := chunk_len (recBody r) k
        rw [cells_len, cells_len, put4_len, put4_len]
        show _ ≤ 64
        omega
      case b5 => exact cells_one _
      intro w4 hb4 hc4 hs4
      rw [spl_cells _ _ (by have h1 := chunk_len (recBody r) k; rw [put4_len, put4_len]; show _ ≤ 64; omega), spl_sec (chunk_len _ _)] at hb4
      have B4 := Lib.hid (B2.out.drew.trans (hc4.below (B := wr.heap.size) (fun q hq => by omega) B2.out.size))
      have HB4 := Lib.hid (show Rd w4 w4.heap.size (some ⟨wr.heap.size, 0, none⟩) 64 (cells (secB (chunkOf (recBody r) k) (stamp + (k : Int)))) from Blk.rd hb4 (by rw [cells_len, secB_len (chunk_len _ _)]))
      clear hb4 hc4 hs4 htn hwp hlt1 hlt2 hcn
      have hlog := HS.out.2.1.below B4.out
      obtain ⟨c0, c1, c2, c3, c4⟩ := hlog.c
      have HD4 := Lib.hid (HS.out.1.below B4.out)
      have HHf := Lib.hid (show Calls Try.prog 42 #[.pointer (some ⟨g, 0, none⟩)] w4.drew fun e w' => e = .returned (.int .i64 (s.half : Nat)) ∧ w4.drew = w' from by have := refHalf_any HD4.out.drew (by exact h2); exact this)
      clear hlog
      go_wp2_with fail
      go_still_tail 17, (by kernel_rfl)
      still_call (HHf.out.mono fun e w' h => ⟨h.1, h.2.symm⟩)
      repeat still_step
      refine wpStill_nil ?_
      go_wp2_with fail
      refine (refWriteAt HD4.out.drew _ (sec + k) (by have := H.out.2.2.2.2; omega) (by show _ < s.last.length; omega) _ _ _ HB4.out (by show (s.wr ++ _).length < _; rw [List.length_append, putWs_len, List.length_range]; omega)).mono ?_
      rintro e w5 ⟨rfl, hd5, hc5⟩
      have hc5' : Chg (Ext G w6 wr) w4 w5 := ⟨hc5.os, hc5.tape, hc5.output, hc5.size, hc5.block⟩
      have hlx : ¬ Ext G w6 wr l := HS.out.nf hn hlq'
      have HG6 := Lib.hid (show ∀ k, G k → k < w6.heap.size from fun k hk => Nat.lt_of_lt_of_le (HG.out k hk) H6.out.1.size)
      have hsk : (⟨s.last, s.wr ++ putWs (recBody r) sec stamp (List.range k)⟩ : DS).write (sec + k) (secB (chunkOf (recBody r) k) (stamp + (k : Int))) = ⟨s.last, s.wr ++ putWs (recBody r) sec stamp (List.range (k + 1))⟩ := by
        unfold DS.write
        rw [List.range_succ, putWs_snoc, List.length_range, List.append_assoc]
      rw [hsk] at hd5
      have S5 := Lib.hid (HS.out.stepB HG6.out B4.out hd5 ((HS.out.2.1.below B4.out).chg hc5' hlx) hc5')
      clear hd5 hc5 hc5' hsk c0 c1 c2 c3 c4
      have hlog := S5.out.2.1
      obtain ⟨c0, c1, c2, c3, c4⟩ := hlog.c
      have f4 := hlog.frozen 4
      have SF := Lib.hid (S5.out.put HG6.out hn hlq' 4 (.int .i64 (stamp + (k : Int) + 1)) (S5.out.2.1.put4' _))
      clear hlog
      go_wp2
      go_roundw
      case rel => exact ⟨k + 1, by omega, by go_num, by rw [show stamp + ((k + 1 : Nat) : Int) = stamp + (k : Int) + 1 by omega]; exact SF.out⟩
      case measure => simp [intOf]; omega
    · obtain rfl : k = need := by omega
      have SE := Lib.hid (hst.base H6.out.1 HG.out)
      clear hst
      go_wp2_with fail
      refine (refPieces_any n (by omega) _).mono ?_
      rw [← HNE.out]
      rintro e w1 ⟨rfl, rfl⟩
      go_wp2
      go_end0
      exact ⟨rfl, SE.out⟩
end
end Go.Proofs.Ytehghjakggdnpaa

namespace Go.Proofs.Ytehghjakggdnpaa
open Go.RowKit Go.Lib

section
variable {w wr w' : World} {g l : Nat} {G : Nat → Prop} {s s' : DS} {gen area pos next : Int} {u : Nat}

theorem refHalf_q (h : RefAt w g G s) (h2 : 2 ≤ s.last.length) (k : Nat) : Calls Try.prog 42 #[.pointer (some ⟨g, 0, none⟩)] (w.drewN k) fun e w' => e = .returned (.int .i64 (s.half : Nat)) ∧ ∃ m, w' = w.drewN m :=
  (refHalf_any (h.drewN k) h2).mono fun _ _ ⟨h1, h2⟩ => ⟨h1, k, h2.symm⟩

set_option maxRecDepth 100000 in
theorem refRoom_any (rm : Nat) (h : RefAt w g G s) (hl : RLogAt w l g gen area u next) (h2 : 2 ≤ s.last.length) (hu : u + rm = s.half) :
    Calls Try.prog 29 #[.pointer (some ⟨l, 0, none⟩)] w (Quiet (.int .i64 (rm : Int)) w) := by
  obtain ⟨c0, c1, c2, c3, c4⟩ := hl.c
  have hh := h.half_le
  have HK := Lib.hid (refHalf_q h h2)
  have hi : (s.half : Int) - (u : Int) = (rm : Int) := by omega
  have HI := Lib.hid hi
  clear h hl hi
  go_enter Try.func29, Try.ntmps29
  go_wp2_with fail
  go_quiet (first | (go_at_call 42; exact HK.out _))
  go_wp2
  go_ret
  exact ⟨by rw [← HI.out]; rfl, _, rfl⟩

set_option maxRecDepth 100000 in
theorem refAppend_range (A : Option Addr) (n c : Nat) (hn : 4096 < n) :
    Calls Try.prog 16 #[.pointer (some ⟨l, 0, none⟩), .slice A n c] w fun e w' => e = .returned (.int .i64 41) ∧ w = w' := by
  have hi : (4096 : Int) < (n : Int) := by omega
  go_enter Try.func16, Try.ntmps16
  go_wp2
  go_ret
  exact ⟨rfl, rfl⟩

set_option maxRecDepth 100000 in
theorem refAppend_full (h : RefAt w g G s) (hl : RLogAt w l g gen area u next) (h2 : 2 ≤ s.last.length) (hu : u ≤ s.half) (hx : 0 ≤ next ∧ next ≤ 4294967296) (A : Option Addr) (n c : Nat) (hn : n ≤ 4096) (hf : isFull s u n next) :
    Calls Try.prog 16 #[.pointer (some ⟨l, 0, none⟩), .slice A n c] w (Quiet (.int .i64 36) w) := by
  have hh := h.half_le
  obtain ⟨c0, c1, c2, c3, c4⟩ := hl.c
  obtain ⟨need, hne⟩ : ∃ need, need = secsOf n := ⟨_, rfl⟩
  unfold isFull at hf
  rw [← hne] at hf
  have hneb : 1 ≤ need ∧ need ≤ 74 := by rw [hne]; unfold secsOf; omega
  have HNE := Lib.hid hne
  have HK := Lib.hid (refHalf_q h h2)
  obtain ⟨hf1, hhf⟩ : ∃ z : Nat, z = s.half := ⟨_, rfl⟩
  rw [← hhf] at HK hh hu hf
  clear h hl hne hhf
  by_cases g1 : hf1 < u + need
  · have g1i : (hf1 : Int) < (u : Int) + (need : Int) := by omega
    go_enter Try.func16, Try.ntmps16
    go_wp2_with fail
    refine (refPieces_any n (by omega) _).mono ?_
    rw [← HNE.out]
    rintro e w1 ⟨rfl, rfl⟩
    go_wp2_with fail
    go_quiet (first | (go_at_call 42; exact HK.out _))
    go_wp2
    go_ret
    exact ⟨rfl, _, rfl⟩
  · have g1i : ¬ (hf1 : Int) < (u : Int) + (need : Int) := by omega
    have g2 : 2147483648 < next + (need : Int) := by omega
    have q1 : IntKind.i64.wrap ((u : Int) + (need : Int)) = (u : Int) + (need : Int) := wri (by omega) (by omega)
    have q2 : IntKind.i64.wrap (next + (need : Int)) = next + (need : Int) := wri (by omega) (by omega)
    have q3 : decide ((hf1 : Int) < IntKind.i64.wrap ((u : Int) + (need : Int))) = false := by rw [q1]; exact decide_eq_false g1i
    have q4 : decide ((hf1 : Int) < (u : Int) + (need : Int)) = false := decide_eq_false g1i
    go_enter Try.func16, Try.ntmps16
    go_wp2_with fail
    refine (refPieces_any n (by omega) _).mono ?_
    rw [← HNE.out]
    rintro e w1 ⟨rfl, rfl⟩
    go_wp2_with fail
    go_quiet (first | (go_at_call 42; exact HK.out _))
    go_wp2
    go_ret
    exact ⟨rfl, _, rfl⟩

set_option maxRecDepth 100000 in
set_option maxHeartbeats 1600000 in
theorem refAppend_ok (h : RefAt w g G s) (hl : RLogAt w l g gen area u next) (hnf : ¬ G l) (h2 : 2 ≤ s.last.length) (ha : area = 0 ∨ area = 1) (hu : u ≤ s.half) (hx : 0 ≤ next ∧ next ≤ 4294967296) (A : Option Addr) (n c : Nat) (r : List Int) (hr : Rd w w.heap.size A n (cells r)) (hn : n ≤ 4096) (hf : ¬ isFull s u n next) (few : s.wr.length + 100 < 1000000) :
    Calls Try.prog 16 #[.pointer (some ⟨l, 0, none⟩), .slice A n c] w fun e w' => e = .returned (.int .i64 0) ∧ RSt w g l G (appS s area u next r) gen area ((u + secsOf n : Nat) : Int) (next + (secsOf n : Nat)) w' := by
  have hh := h.half_le
  have hlw := hl.lt
  have hnl : r.length = n := by have := hr.len; rwa [cells_len] at this
  obtain ⟨c0, c1, c2, c3, c4⟩ := hl.c
  obtain ⟨need, hne⟩ : ∃ need, need = secsOf n := ⟨_, rfl⟩
  unfold isFull at hf
  rw [← hne] at hf
  have hneb : 1 ≤ need ∧ need ≤ 74 := by rw [hne]; unfold secsOf; omega
  have g1i : ¬ (s.half : Int) < (u : Int) + (need : Int) := by omega
  have g2 : ¬ 2147483648 < next + (need : Int) := by omega
  have q1 : IntKind.i64.wrap ((u : Int) + (need : Int)) = (u : Int) + (need : Int) := wri (by omega) (by omega)
  have q2 : IntKind.i64.wrap (next + (need : Int)) = next + (need : Int) := wri (by omega) (by omega)
  have q3 : decide ((s.half : Int) < IntKind.i64.wrap ((u : Int) + (need : Int))) = false := by rw [q1]; exact decide_eq_false g1i
  have q4 : decide ((s.half : Int) < (u : Int) + (need : Int)) = false := decide_eq_false g1i
  have hhl : 2 + 2 * s.half ≤ s.last.length := by unfold DS.half; omega
  obtain ⟨sec, hsec⟩ : ∃ sec : Nat, sec = 2 + area.toNat * s.half + u := ⟨_, rfl⟩
  have hsi : (sec : Int) = 2 + area * (s.half : Int) + (u : Int) := by
    rcases ha with rfl | rfl
    · simp at hsec ⊢; omega
    · simp at hsec ⊢; omega
  have hsl : sec + need ≤ s.last.length := by rcases ha with rfl | rfl <;> simp at hsec <;> omega
  have happ : appS s area u next r = ⟨s.last, s.wr ++ putWs (recBody r) sec next (List.range need)⟩ := by
    unfold appS; rw [hsec, hnl, hne]
  rw [happ, ← hne]
  obtain ⟨S', hS'⟩ : ∃ S' : DS, S' = ⟨s.last, s.wr ++ putWs (recBody r) sec next (List.range need)⟩ := ⟨_, rfl⟩
  rw [← hS']
  have HK := Lib.hid (refHalf_q h h2)
  have H := Lib.hid (And.intro h (And.intro hl (And.intro hr (And.intro hne (And.intro hsi (And.intro hsl hS'))))))
  have HG := Lib.hid h.foot
  clear h hl hr hne hsi hsl hS' happ hsec hnl
  go_enter Try.func16, Try.ntmps16
  go_wp2_with fail
  refine (refPieces_any n (by omega) _).mono ?_
  rw [← H.out.2.2.2.1]
  rintro e w1 ⟨rfl, rfl⟩
  go_wp2_with fail
  go_quiet (first | (go_at_call 42; exact HK.out _))
  go_wp2_with fail
  obtain ⟨wq, hwq⟩ : ∃ wq, wq = w.drewN nq := ⟨_, rfl⟩
  have hq : RefAt wq g G s ∧ RLogAt wq l g gen area u next ∧ Rd wq wq.heap.size A n (cells r) ∧ Below w.heap.size w wq := by
    rw [hwq]; exact ⟨H.out.1, H.out.2.1, H.out.2.2.1, ⟨rfl, rfl, rfl, Nat.le_refl _, fun _ _ => rfl⟩⟩
  rw [← hwq]
  clear hwq c0 c1 c2 c3 c4
  obtain ⟨c0, c1, c2, c3, c4⟩ := hq.2.1.c
  have HQ := Lib.hid hq
  clear hq
  go_still_tail 10, (by kernel_rfl)
  repeat still_step
  go_wp2_with fail
  refine (refRecWrite_any (HQ.out.1.drew) (HQ.out.2.1.drew) hnf h2 area u sec ha (by omega) H.out.2.2.2.2.1 A n c r (by exact HQ.out.2.2.1) hn ⟨by omega, by omega⟩ (by rw [← H.out.2.2.2.1]; exact H.out.2.2.2.2.2.1) few).mono ?_
  rw [← H.out.2.2.2.1, ← H.out.2.2.2.2.2.2]
  rintro e w5 ⟨rfl, h5⟩
  have h5' : RSt wq g l G S' gen area u (next + (need : Int)) w5 := ⟨h5.1, h5.2.1, ⟨h5.2.2.os, h5.2.2.tape, h5.2.2.output, h5.2.2.size, h5.2.2.block⟩⟩
  have S5 := Lib.hid (h5'.base HQ.out.2.2.2 HG.out)
  clear h5 h5' c0 c1 c2 c3 c4
  have hlog := S5.out.2.1
  obtain ⟨c0, c1, c2, c3, c4⟩ := hlog.c
  have f3 := hlog.frozen 3
  have SF := Lib.hid (S5.out.put HG.out hnf hlw 3 (.int .i64 ((u : Int) + (need : Int))) (S5.out.2.1.put3 _))
  clear hlog
  go_wp2
  go_ret
  exact ⟨rfl, SF.out⟩
end
end Go.Proofs.Ytehghjakggdnpaa
