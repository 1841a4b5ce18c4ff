/-
  A page of the call's own, call by call; noughts that are made.
-/
import Derived.Test.YtdnegfjddpdmhaaDoorPAlive
namespace Go.Proofs.YtdnegfjddpdmhaaDoor
open Go.RowKit Go.Lib

/-- v is a page with these slots, in memory of the call's own -/
structure PgV (w0 w : World) (A : Option Addr) (c : Nat) (l : List Int) (s : List Slot) : Prop where
  sl : Sl w A 256 c l
  pg : IsPg l s
  b : Below w0.heap.size w0 w
section
variable {w0 w w' : World} {A : Option Addr} {c : Nat} {l : List Int} {s : List Slot}
theorem PgV.below (h : PgV w0 w A c l s) (hb : Below w.heap.size w w') : PgV w0 w' A c l s := ⟨h.sl.below hb, h.pg, h.b.trans (hb.mono h.b.size)⟩
theorem PgV.of (h : PgV w0 w A c l s) : ofP l = some s := ofP_pg h.pg
theorem PgV.new {g : Nat} (hb0 : Below w0.heap.size w0 w) (hk : Blk w' g 5 (cells zeros).toArray) (hb : Below w.heap.size w w') : PgV w0 w' (some ⟨g, 0, none⟩) 256 zeros [] :=
  ⟨Sl.of_blk hk pg_zeros.bytes zeros_len, pg_zeros, hb0.trans (hb.mono hb0.size)⟩
theorem PgV.own {w1 : World} {v : Value} (hb0 : Below w0.heap.size w0 w) (hown : w'.ownsRow w.heap.size 5 1 v l.length (cells l)) (hp : IsPg l s) (hb : Below w.heap.size w w') : ∃ A c, v = .slice A 256 c ∧ PgV w0 w' A c l s := by
  obtain ⟨A, c, rfl, hs⟩ := Sl.of_own hown hp.bytes
  rw [hp.len] at hs ⊢
  exact ⟨A, c, rfl, hs, hp, hb0.trans (hb.mono hb0.size)⟩
end

/-- Add on such a page: refused, or the page with the bytes at its first free slot -/
def AdOut (w0 w : World) (s : List Slot) (b : List Int) (e : Ending) (w' : World) : Prop :=
  (addP (some s) b = none ∧ e = .returned (.tuple #[.slice none 0 0, .int .i64 0, .bool false]) ∧ Below w.heap.size w w') ∨
  (∃ A c l, (b.length : Int) ≤ roomI s (ffP s) ∧ e = .returned (.tuple #[.slice A 256 c, .int .i64 (ffP s), .bool true]) ∧ PgV w0 w' A c l (setP s (ffP s) (some b)) ∧ Below w.heap.size w w')
theorem own_nil {w : World} {base : Nat} {v : Value} (h : w.ownsRow base 5 1 v 0 (cells [])) : True := trivial

theorem addP_some {s : List Slot} {b t : List Int} (h : addP (some s) b = some t) : (b.length : Int) ≤ roomI s (ffP s) ∧ t = imgP (setP s (ffP s) (some b)) := by
  simp only [addP, putP] at h
  split at h
  · rename_i h1; exact ⟨h1, by rw [← Option.some.inj h, Int.toNat_natCast]⟩
  · cases h
theorem addP_none {s : List Slot} {b : List Int} (h : roomI s (ffP s) < (b.length : Int)) : addP (some s) b = none := by
  simp only [addP, putP]
  rw [if_neg (by omega)]

/-- Add's answer, with the nothing spelled out -/
theorem add_pg {w0 w : World} {A : Option Addr} {c : Nat} {l : List Int} {s : List Slot} (h : PgV w0 w A c l s) (A2 : Option Addr) (n2 c2 : Nat) (b : List Int) (h2 : Rd w w.heap.size A2 n2 (cells b)) (hb : IsBytes b) :
    Calls Tryd.prog 47 #[.slice A 256 c, .slice A2 n2 c2] w fun e w' =>
      (∃ v, addP (some s) b = none ∧ e = .returned (.tuple #[v, .int .i64 0, .bool false]) ∧ w'.ownsRow w.heap.size 5 1 v 0 [] ∧ Below w.heap.size w w') ∨
      (∃ A c l, (b.length : Int) ≤ roomI s (ffP s) ∧ e = .returned (.tuple #[.slice A 256 c, .int .i64 (ffP s), .bool true]) ∧ PgV w0 w' A c l (setP s (ffP s) (some b)) ∧ Below w.heap.size w w') := by
  refine (add_any w A 256 c l h.sl A2 n2 c2 b h2 hb).mono ?_
  rintro e w' ⟨v, rfl, hown, hbel⟩
  rw [h.of] at hown ⊢
  cases ha : addP (some s) b with
  | none =>
    rw [ha] at hown
    refine .inl ⟨v, rfl, ?_, hown, hbel⟩
    unfold addK
    rw [ha]
    rfl
  | some t =>
    rw [ha] at hown
    obtain ⟨h3, h4⟩ := addP_some ha
    have hp : IsPg t (setP s (ffP s) (some b)) := (put_pg h.pg hb (show putP (some s) (ffP s) b = some t from ha)).2.2.2.2
    obtain ⟨A', c', rfl, hv⟩ := PgV.own (w1 := w) h.b hown hp hbel
    refine .inr ⟨A', c', t, h3, ?_, hv, hbel⟩
    unfold addK
    rw [ha]
    rfl

theorem make_zeros (w : World) (n : Nat) (x : Int) (hx : x = n) (hn : n ≤ 100000) : (Instr.makeSlice 33 (.int .i64 x) (.int .i64 x)).run Tryd.prog w = .ok (.slice (some ⟨w.heap.size, 0, none⟩) n n) (w.alloc (.cells (cells (List.replicate n 0)).toArray 5)) := by
  subst hx
  obtain ⟨i0, hi, hz0, hz1, hz2⟩ := info_parts Tryd.dkinfo5
  have h := run_make (P := Tryd.prog) w 33 5 i0 _ Tryd.underlying33 hi hz0 .i64 .i64 (n : Int) (n : Int) (by omega) (Int.le_refl _) (by rw [hz2]; omega) (by omega)
  rw [hz1] at h
  rw [h]
  have e : madeCells (Value.int .u8 0).cells ((n : Int).toNat * 1) = (cells (List.replicate n 0)).toArray := by
    apply Array.ext'
    apply List.ext_getElem?
    intro q
    simp only [cells, List.map_replicate]
    by_cases hq : q < n
    · rw [List.getElem?_replicate, if_pos hq]; simp [madeCells, Value.cells, hq, Nat.mod_one]
    · rw [List.getElem?_replicate, if_neg hq]; simp [madeCells, Value.cells]; omega
  rw [e]
  rfl
theorem rd_made (w : World) (n : Nat) : Rd (w.alloc (.cells (cells (List.replicate n 0)).toArray 5)) (w.alloc (.cells (cells (List.replicate n 0)).toArray 5)).heap.size (some ⟨w.heap.size, 0, none⟩) n (cells (List.replicate n 0)) := by
  refine ⟨by simp [cells], fun _ => ⟨_, rfl, by simp, fun j u hu => ?_⟩⟩
  rw [Addr.add_mid, Nat.zero_add]
  have h := cell_of_row (w.alloc (.cells (cells (List.replicate n 0)).toArray 5)) w.heap.size j (cells (List.replicate n 0)).toArray 5 (0, 0) (heap_alloc_new w _)
  rw [h]
  simpa using hu
theorem zeros_bytes (n : Nat) : IsBytes (List.replicate n 0) := fun x hx => by rw [List.eq_of_mem_replicate hx]; omega

/-! ### pages that are made by Add alone -/
def Full (s : List Slot) : Prop := ∀ o ∈ s, o ≠ none
theorem full_ff {s : List Slot} (h : Full s) : ffP s = s.length := by
  refine ff_all fun x hx e => ?_
  simp only [marksP, List.mem_map] at hx
  obtain ⟨o, ho, rfl⟩ := hx
  exact h o ho (mkS_zero.1 e)
theorem full_set {s : List Slot} (h : Full s) (b : List Int) : setP s s.length (some b) = s ++ [some b] := by
  have hp : padP s (s.length + 1) = s ++ [none] := by unfold padP; rw [show s.length + 1 - s.length = 1 by omega]; rfl
  unfold setP
  rw [hp]
  simp
theorem full_app {s : List Slot} (h : Full s) (b : List Int) : Full (s ++ [some b]) := by
  intro o ho
  rcases List.mem_append.1 ho with ho | ho
  · exact h o ho
  · rw [List.mem_singleton.1 ho]; simp
theorem own_past (s : List Slot) : ownP s s.length = 0 := by unfold ownP; rw [List.getElem?_eq_none (Nat.le_refl _)]; rfl
theorem full_room {s : List Slot} (h : Full s) (hl : s.length ≤ 250) : roomI s (ffP s) = min 200 (254 - (wtP s : Int) - (s.length : Int)) := by
  rw [full_ff h, roomI, if_neg (by omega), Int.toNat_natCast, roomP, own_past]
  omega

theorem pageRoom_math {s : List Slot} (h : Full s) (hf : Fit s) (hl : s.length ≤ 200) :
    -1 ≤ roomI s (ffP s) ∧ roomI s (ffP s) ≤ 200 ∧ ∀ b : List Int, (b.length : Int) = roomI s (ffP s) → roomO (some (setP s (ffP s) (some b))) ≤ roomI s (ffP s) := by
  have h1 := full_room h (by omega)
  have h2 := hf.room
  refine ⟨by omega, by omega, fun b hb => ?_⟩
  have e : setP s (ffP s) (some b) = s ++ [some b] := by rw [full_ff h, full_set h]
  show roomI (setP s (ffP s) (some b)) (ffP (setP s (ffP s) (some b))) ≤ _
  rw [e]
  have h3 := full_room (full_app h b) (by simp; omega)
  have h4 : wtP (s ++ [some b]) = wtP s + b.length := by rw [wt_append, wt_cons, wt_nil]; rfl
  rw [h3, h4, List.length_append]
  simp only [List.length_cons, List.length_nil]
  omega
end Go.Proofs.YtdnegfjddpdmhaaDoor
