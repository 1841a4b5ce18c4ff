/-
  DERIVED. GIVEN WITH THE SEED: THE CARDS: each row of YtdnegfjddpdmhaaDoorRows.lean that lists a variable, with what it lists TIED to the program's text (the seventh form; the later family's looks); each row that meets fmt, with fmt's text TOLD by the authors' own Lean function (tested against real Go, not proved from fmt's source: count such statements apart). THE CARD IS WHAT COUNTS. Prove the row's statement (the work); the ties are given (YtdnegfjddpdmhaaDoorTie.lean); close each card by the builder's one call (the guide's Derived/Test/ToyasCard.lean, 'card_holds'). Laid BY PROGRAM, IN A SANDBOX (cutbox-door.mjs). By AI agents, Wed Nov 11 2026. No macro, syntax, notation, axiom, sorry.
-/
import Derived.Test.YtdnegfjddpdmhaaDoorRows
import GoSem.ClaimSeven
namespace Go.Proofs.YtdnegfjddpdmhaaDoor
namespace Rows

/-- THE TIED CARD OF 'interlocklaw07.HeapCalls'. -/
def heapCallsCard : Claim7 := { stood := { row := heapCallsRow, standIns := [], harness := (true, "23053b02b3dc6b65499b556fef7dd3c10131a284aad74204a8f1d2c4ac6faae8"), looks := false }, kinds := [], alts := [], laidByText := true, laidKinds := [.data, .pinned], laidTests := true, laidLooks := .later }
def HeapCallsCardSaid : Prop := Claim7.holds Tryd.pinned (.plain (OpenSpec.ofChange heapCallsSpec)) heapCallsCard

/-- THE TIED CARD OF 'interlocklaw07.HeapLoads'. -/
def heapLoadsCard : Claim7 := { stood := { row := heapLoadsRow, standIns := [], harness := (true, "23053b02b3dc6b65499b556fef7dd3c10131a284aad74204a8f1d2c4ac6faae8"), looks := false }, kinds := [], alts := [], laidByText := true, laidKinds := [.data, .pinned], laidTests := true, laidLooks := .later }
def HeapLoadsCardSaid : Prop := Claim7.holds Tryd.pinned (.plain (OpenSpec.ofChange heapLoadsSpec)) heapLoadsCard

/-- THE TIED CARD OF 'interlocklaw07.HeapKeeps'. -/
def heapKeepsCard : Claim7 := { stood := { row := heapKeepsRow, standIns := [], harness := (true, "23053b02b3dc6b65499b556fef7dd3c10131a284aad74204a8f1d2c4ac6faae8"), looks := false }, kinds := [], alts := [], laidByText := true, laidKinds := [.data, .pinned], laidTests := true, laidLooks := .later }
def HeapKeepsCardSaid : Prop := Claim7.holds Tryd.pinned (.plain (OpenSpec.ofChange heapKeepsSpec)) heapKeepsCard

/-- THE TIED CARD OF 'interlocklaw07.HeapUndo'. -/
def heapUndoCard : Claim7 := { stood := { row := heapUndoRow, standIns := [], harness := (true, "23053b02b3dc6b65499b556fef7dd3c10131a284aad74204a8f1d2c4ac6faae8"), looks := false }, kinds := [], alts := [], laidByText := true, laidKinds := [.data, .pinned], laidTests := true, laidLooks := .later }
def HeapUndoCardSaid : Prop := Claim7.holds Tryd.pinned (.plain (OpenSpec.ofChange heapUndoSpec)) heapUndoCard

/-- THE TIED CARD OF 'interlocklaw07.HeapAfter'. -/
def heapAfterCard : Claim7 := { stood := { row := heapAfterRow, standIns := [], harness := (true, "23053b02b3dc6b65499b556fef7dd3c10131a284aad74204a8f1d2c4ac6faae8"), looks := false }, kinds := [], alts := [], laidByText := true, laidKinds := [.data, .pinned], laidTests := true, laidLooks := .later }
def HeapAfterCardSaid : Prop := Claim7.holds Tryd.pinned (.plain (OpenSpec.ofChange heapAfterSpec)) heapAfterCard

/-- THE TIED CARD OF 'interlocklaw07.HeapFirst'. -/
def heapFirstCard : Claim7 := { stood := { row := heapFirstRow, standIns := [], harness := (true, "23053b02b3dc6b65499b556fef7dd3c10131a284aad74204a8f1d2c4ac6faae8"), looks := false }, kinds := [], alts := [], laidByText := true, laidKinds := [.data, .pinned], laidTests := true, laidLooks := .later }
def HeapFirstCardSaid : Prop := Claim7.holds Tryd.pinned (.plain (OpenSpec.ofChange heapFirstSpec)) heapFirstCard

/-- THE SECOND FORM's CARD OF 'interlocklaw07.HeapCalls'. -/
def heapCallsUptoCard : Claim7 := { stood := { row := heapCallsUptoRow, standIns := [], harness := (true, "23053b02b3dc6b65499b556fef7dd3c10131a284aad74204a8f1d2c4ac6faae8"), looks := false }, kinds := [], alts := [], laidByText := true, laidKinds := [.data, .pinned], laidTests := true, laidLooks := .later }
def HeapCallsUptoCardSaid : Prop := Claim7.holds Tryd.pinned (.plain (OpenSpec.upto heapCallsSpec)) heapCallsUptoCard

/-- THE SECOND FORM's CARD OF 'interlocklaw07.HeapLoads'. -/
def heapLoadsUptoCard : Claim7 := { stood := { row := heapLoadsUptoRow, standIns := [], harness := (true, "23053b02b3dc6b65499b556fef7dd3c10131a284aad74204a8f1d2c4ac6faae8"), looks := false }, kinds := [], alts := [], laidByText := true, laidKinds := [.data, .pinned], laidTests := true, laidLooks := .later }
def HeapLoadsUptoCardSaid : Prop := Claim7.holds Tryd.pinned (.plain (OpenSpec.upto heapLoadsSpec)) heapLoadsUptoCard

/-- THE SECOND FORM's CARD OF 'interlocklaw07.HeapKeeps'. -/
def heapKeepsUptoCard : Claim7 := { stood := { row := heapKeepsUptoRow, standIns := [], harness := (true, "23053b02b3dc6b65499b556fef7dd3c10131a284aad74204a8f1d2c4ac6faae8"), looks := false }, kinds := [], alts := [], laidByText := true, laidKinds := [.data, .pinned], laidTests := true, laidLooks := .later }
def HeapKeepsUptoCardSaid : Prop := Claim7.holds Tryd.pinned (.plain (OpenSpec.upto heapKeepsSpec)) heapKeepsUptoCard

/-- THE SECOND FORM's CARD OF 'interlocklaw07.HeapUndo'. -/
def heapUndoUptoCard : Claim7 := { stood := { row := heapUndoUptoRow, standIns := [], harness := (true, "23053b02b3dc6b65499b556fef7dd3c10131a284aad74204a8f1d2c4ac6faae8"), looks := false }, kinds := [], alts := [], laidByText := true, laidKinds := [.data, .pinned], laidTests := true, laidLooks := .later }
def HeapUndoUptoCardSaid : Prop := Claim7.holds Tryd.pinned (.plain (OpenSpec.upto heapUndoSpec)) heapUndoUptoCard

/-- THE SECOND FORM's CARD OF 'interlocklaw07.HeapAfter'. -/
def heapAfterUptoCard : Claim7 := { stood := { row := heapAfterUptoRow, standIns := [], harness := (true, "23053b02b3dc6b65499b556fef7dd3c10131a284aad74204a8f1d2c4ac6faae8"), looks := false }, kinds := [], alts := [], laidByText := true, laidKinds := [.data, .pinned], laidTests := true, laidLooks := .later }
def HeapAfterUptoCardSaid : Prop := Claim7.holds Tryd.pinned (.plain (OpenSpec.upto heapAfterSpec)) heapAfterUptoCard

/-- THE SECOND FORM's CARD OF 'interlocklaw07.HeapFirst'. -/
def heapFirstUptoCard : Claim7 := { stood := { row := heapFirstUptoRow, standIns := [], harness := (true, "23053b02b3dc6b65499b556fef7dd3c10131a284aad74204a8f1d2c4ac6faae8"), looks := false }, kinds := [], alts := [], laidByText := true, laidKinds := [.data, .pinned], laidTests := true, laidLooks := .later }
def HeapFirstUptoCardSaid : Prop := Claim7.holds Tryd.pinned (.plain (OpenSpec.upto heapFirstSpec)) heapFirstUptoCard
end Rows
end Go.Proofs.YtdnegfjddpdmhaaDoor
