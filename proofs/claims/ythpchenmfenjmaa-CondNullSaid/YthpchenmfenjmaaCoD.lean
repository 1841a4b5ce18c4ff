/-
  Conditions, columns, rows: what layer 12 says of them; what the laws want of the program.
-/
import Derived.Test.YthpchenmfenjmaaCoV
import Derived.Test.YthpchenmfenjmaaRowR
import Derived.Deep.Cut
import Derived.Deep.RegionHeld3
namespace Go.Proofs.Ythpchenmfenjmaa
open Go.RowKit Go.Lib

def NumI (x : Int) : Prop := -9223372036854775808 ≤ x ∧ x ≤ 9223372036854775807
/-- a condition -/
structure Cd where
  col : ByteArray
  op : Int
  w : Va
deriving DecidableEq
/-- a column -/
structure Co where
  name : ByteArray
  k : Int
  nn : Bool
deriving DecidableEq
def cdC (c : Cd) : List Value := [.string c.col, .int .i64 c.op, .int .i64 c.w.k, .int .i64 c.w.n, .string c.w.s]
abbrev cdV (c : Cd) : Value := .agg #[.string c.col, .int .i64 c.op, .int .i64 c.w.k, .int .i64 c.w.n, .string c.w.s]
def coC (c : Co) : List Value := [.string c.name, .int .i64 c.k, .bool c.nn]
def placeL : List Co → ByteArray → Option Nat
  | [], _ => none
  | c :: r, s => if c.name = s then some 0 else (placeL r s).map (· + 1)
def numB (b : Bool) : Int := if b then 1 else 0
/-- is a value none -/
def nullVa (v : Va) : Bool := decide (v.k = 0) && (decide (v.n = 0) && decide (v.s = ⟨#[]⟩))
/-- is a condition true of a value -/
def truthV (c : Cd) (v : Va) : Int :=
  if c.op = 5 then numB (nullVa v)
  else if c.op = 6 then numB (!nullVa v)
  else if canCmp v c.w then
    if c.op = 1 then numB (decide (ordVa v c.w = 0))
    else if c.op = 2 then numB (decide (ordVa v c.w ≠ 0))
    else if c.op = 3 then numB (decide (ordVa v c.w < 0))
    else if c.op = 4 then numB (decide (0 < ordVa v c.w))
    else -1
  else -1
def truthL (c : Cd) (cols : List Co) (r : List Va) : Int := match placeL cols c.col with
  | none => -1
  | some k => match r[k]? with
    | none => -1
    | some v => truthV c v
def holdsL (l : List Cd) (cols : List Co) (r : List Va) : Bool := l.all fun c => decide (truthL c cols r = 1)
def refusesL (l : List Cd) (cols : List Co) (r : List Va) : Bool := l.any fun c => decide (truthL c cols r = 0)
/-- the first condition that a column is equal to something -/
def eqOf (l : List Cd) (s : ByteArray) : Option Va := (l.find? fun c => decide (c.op = 1) && decide (c.col = s)).map (·.w)
def equalsL (l : List Cd) : List ByteArray → Option (List Va)
  | [] => some []
  | s :: r => match eqOf l s with
    | none => none
    | some v => (equalsL l r).map (v :: ·)
/-- the first condition that isn't right tells -/
def rightC (cols : List Co) : List Cd → Int
  | [] => 0
  | c :: r => match placeL cols c.col with
    | none => 13
    | some k => if c.op < 1 ∨ 6 < c.op ∨ rightVa c.w = false ∨ (decide (c.w.k = 0) ≠ decide (4 < c.op)) then 10
      else if c.w.k ≠ 0 ∧ some c.w.k ≠ (cols[k]?).map (·.k) then 14
      else rightC cols r
def rightL (l : List Cd) (cols : List Co) : Int := if 8 < l.length then 15 else rightC cols l
/-- texts that are looked at -/
def Cd.Sm (c : Cd) : Prop := c.col.size ≤ 500 ∧ c.w.s.size ≤ 500 ∧ NumI c.op ∧ NumI c.w.k ∧ NumI c.w.n
def Co.Sm (c : Co) : Prop := c.name.size ≤ 500 ∧ NumI c.k
def Va.Sm (v : Va) : Prop := v.s.size ≤ 500 ∧ NumI v.k ∧ NumI v.n
/-- conditions, columns, a row that lie in memory -/
structure CdR (w : World) (A : Option Addr) (n : Nat) (l : List Cd) : Prop where
  row : RowG cdC 5 w w.heap.size A l
  len : n = l.length
  sm : ∀ c ∈ l, c.Sm
  few : l.length ≤ 1000
structure CoR (w : World) (A : Option Addr) (n : Nat) (l : List Co) : Prop where
  row : RowG coC 3 w w.heap.size A l
  len : n = l.length
  sm : ∀ c ∈ l, c.Sm
  few : l.length ≤ 1000
structure VaR (w : World) (A : Option Addr) (n : Nat) (l : List Va) : Prop where
  row : RowG vcell 3 w w.heap.size A l
  len : n = l.length
  sm : ∀ c ∈ l, c.Sm
  few : l.length ≤ 1000
section
variable {w w' : World} {A : Option Addr} {n : Nat}
theorem CdR.below {l : List Cd} (h : CdR w A n l) (hb : Below w.heap.size w w') : CdR w' A n l := ⟨(h.row.below hb (Nat.le_refl _)).more hb.size, h.len, h.sm, h.few⟩
theorem CoR.below {l : List Co} (h : CoR w A n l) (hb : Below w.heap.size w w') : CoR w' A n l := ⟨(h.row.below hb (Nat.le_refl _)).more hb.size, h.len, h.sm, h.few⟩
theorem VaR.below {l : List Va} (h : VaR w A n l) (hb : Below w.heap.size w w') : VaR w' A n l := ⟨(h.row.below hb (Nat.le_refl _)).more hb.size, h.len, h.sm, h.few⟩
theorem CdR.nil (w : World) : CdR w none 0 [] := ⟨⟨fun h => absurd h (by simp), fun i hi => absurd hi (by simp)⟩, rfl, fun c hc => (by cases hc), by simp⟩
theorem CoR.nil (w : World) : CoR w none 0 [] := ⟨⟨fun h => absurd h (by simp), fun i hi => absurd hi (by simp)⟩, rfl, fun c hc => (by cases hc), by simp⟩
end
/-- a row of one, made anew -/
theorem RowG.one {α : Type} {cell : α → List Value} {S : Nat} {w : World} {b : Nat} {t : TypeId} (x : α) (h : Blk w b t (cell x).toArray) : RowG cell S w w.heap.size (some ⟨b, 0, none⟩) [x] := by
  refine ⟨fun _ => ⟨_, rfl, h.lt⟩, fun i hi j u hu => ?_⟩
  have hi0 : i = 0 := by simpa using hi
  subst hi0
  have h1 := h.cell j
  simp only [List.getElem_cons_zero] at hu
  rw [List.getElem?_toArray, hu] at h1
  refine ⟨_, rfl, ?_⟩
  rw [Nat.zero_mul, Nat.zero_add]
  unfold Addr.add
  split
  · rename_i hj; subst hj; exact h1
  · simpa using h1
/-- the program's layer 12 -/
structure ImplCo : Prop where
  place : ∀ {w A n c cols} (s : ByteArray), CoR w A n cols → s.size ≤ 500 → Calls Try.prog 14 #[.slice A n c, .string s] w fun e w' => e = .returned (.tuple #[.int .i64 ((placeL cols s).getD 0), .bool (placeL cols s).isSome]) ∧ Below w.heap.size w w'
  right : ∀ {w A n c l A2 n2 c2 cols}, CdR w A n l → CoR w A2 n2 cols → Calls Try.prog 15 #[.slice A n c, .slice A2 n2 c2] w fun e w' => e = .returned (.int .i64 (rightL l cols)) ∧ Below w.heap.size w w'
  truth : ∀ {w A2 n2 c2 cols A3 n3 c3 r} (c : Cd), c.Sm → CoR w A2 n2 cols → VaR w A3 n3 r → Calls Try.prog 9 #[cdV c, .slice A2 n2 c2, .slice A3 n3 c3] w fun e w' => e = .returned (.int .i64 (truthL c cols r)) ∧ Below w.heap.size w w'
  holds : ∀ {w A n c l A2 n2 c2 cols A3 n3 c3 r}, CdR w A n l → CoR w A2 n2 cols → VaR w A3 n3 r → Calls Try.prog 10 #[.slice A n c, .slice A2 n2 c2, .slice A3 n3 c3] w fun e w' => e = .returned (.bool (holdsL l cols r)) ∧ Below w.heap.size w w'
  refuses : ∀ {w A n c l A2 n2 c2 cols A3 n3 c3 r}, CdR w A n l → CoR w A2 n2 cols → VaR w A3 n3 r → Calls Try.prog 11 #[.slice A n c, .slice A2 n2 c2, .slice A3 n3 c3] w fun e w' => e = .returned (.bool (refusesL l cols r)) ∧ Below w.heap.size w w'
  equals : ∀ {w A n c l} (s : ByteArray) {sb : Nat}, CdR w A n l → s.size ≤ 500 → sb < w.heap.size → w.cell? ⟨sb, 0, none⟩ = some (.string s) → Calls Try.prog 13 #[.slice A n c, .slice (some ⟨sb, 0, none⟩) 1 1] w fun e w' => Below w.heap.size w w' ∧ match eqOf l s with
    | some v => ∃ A' c', e = .returned (.tuple #[.slice A' 1 c', .bool true]) ∧ VaR w' A' 1 [v]
    | none => ∃ A' n' c', e = .returned (.tuple #[.slice A' n' c', .bool false])
end Go.Proofs.Ythpchenmfenjmaa
