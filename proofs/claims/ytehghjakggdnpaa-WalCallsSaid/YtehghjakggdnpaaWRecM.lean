/-
  Records of a log, as plain data.
-/
import Derived.Test.YtehghjakggdnpaaWHead
namespace Go.Proofs.Ytehghjakggdnpaa
open Go.RowKit Go.Lib

/-- how many sectors a record of so many bytes has -/
def secsOf (n : Nat) : Nat := (n + 57) / 56
/-- the parts of a record that m sectors from k on hold -/
def bodyM (C : List (List Int)) (k : Nat) : Nat → List Int
  | 0 => []
  | m + 1 => bodyM C k m ++ ((C.getD (k + m) []).drop 4).take 56
/-- m sectors from k on are stamped by numbers that follow one another -/
def stampsM (C : List (List Int)) (k : Nat) (first : Int) : Nat → Bool
  | 0 => true
  | m + 1 => stampsM C k first m && stampedB (C.getD (k + m) []) (first + m)
/-- the length that a sector's record has -/
def lenAt (b : List Int) : Nat := (b.getD 4 0 + b.getD 5 0 * 256).toNat
/-- the record at sector k, where room sectors are left: its bytes, its first stamp -/
def nextRec (C : List (List Int)) (k room : Nat) (least : Int) : Option (List Int × Int) :=
  if num4 (C.getD k []) 0 < least ∨ 4096 < lenAt (C.getD k []) ∨ room < secsOf (lenAt (C.getD k [])) then none
  else if stampsM C k (num4 (C.getD k []) 0) (secsOf (lenAt (C.getD k []))) then
    some (((bodyM C k (secsOf (lenAt (C.getD k [])))).drop 2).take (lenAt (C.getD k [])), num4 (C.getD k []) 0)
  else none
/-- the records from sector k on, and how many sectors they take -/
def recsM (C : List (List Int)) : (fuel k room : Nat) → (least : Int) → List (List Int) × Nat
  | 0, _, _, _ => ([], 0)
  | fuel + 1, k, room, least =>
    if room = 0 then ([], 0)
    else match nextRec C k room least with
      | none => ([], 0)
      | some (r, first) => (r :: (recsM C fuel (k + secsOf r.length) (room - secsOf r.length) (first + secsOf r.length)).1, secsOf r.length + (recsM C fuel (k + secsOf r.length) (room - secsOf r.length) (first + secsOf r.length)).2)
end Go.Proofs.Ytehghjakggdnpaa
