/-
  DERIVED. GIVEN WITH THE SEED: THE CARDS: each row of YtmgjoogfhkfooaaDoorRows.lean that lists a variable, with what it lists TIED to the program's text (the seventh form; the later family's looks); each row that meets fmt, with fmt's text TOLD by the authors' own Lean function (tested against real Go, not proved from fmt's source: count such statements apart). THE CARD IS WHAT COUNTS. Prove the row's statement (the work); the ties are given (YtmgjoogfhkfooaaDoorTie.lean); close each card by the builder's one call (the guide's Derived/Test/ToyasCard.lean, 'card_holds'). Laid BY PROGRAM, IN A SANDBOX (cutbox-door.mjs). By AI agents, Wed Nov 11 2026. No macro, syntax, notation, axiom, sorry.
-/
import Derived.Test.YtmgjoogfhkfooaaDoorRows
import GoSem.ClaimSeven
namespace Go.Proofs.YtmgjoogfhkfooaaDoor
namespace Rows

/-- THE TIED CARD OF 'interlocklaw06.PageAsks'. -/
def pageAsksCard : Claim7 := { stood := { row := pageAsksRow, standIns := [], harness := (true, "dcd280f961a8ca2a942aab1821381d9c11fe4171f9c6fdf8935987880ead2ec5"), looks := false }, kinds := [], alts := [], laidByText := true, laidKinds := [.data, .pinned], laidTests := true, laidLooks := .later }
def PageAsksCardSaid : Prop := Claim7.holds Tryd.pinned (.plain (OpenSpec.ofChange pageAsksSpec)) pageAsksCard

/-- THE TIED CARD OF 'interlocklaw06.PageCalls'. -/
def pageCallsCard : Claim7 := { stood := { row := pageCallsRow, standIns := [], harness := (true, "dcd280f961a8ca2a942aab1821381d9c11fe4171f9c6fdf8935987880ead2ec5"), looks := false }, kinds := [], alts := [], laidByText := true, laidKinds := [.data, .pinned], laidTests := true, laidLooks := .later }
def PageCallsCardSaid : Prop := Claim7.holds Tryd.pinned (.plain (OpenSpec.ofChange pageCallsSpec)) pageCallsCard

/-- THE TIED CARD OF 'interlocklaw06.PageKeeps'. -/
def pageKeepsCard : Claim7 := { stood := { row := pageKeepsRow, standIns := [], harness := (true, "dcd280f961a8ca2a942aab1821381d9c11fe4171f9c6fdf8935987880ead2ec5"), looks := false }, kinds := [], alts := [], laidByText := true, laidKinds := [.data, .pinned], laidTests := true, laidLooks := .later }
def PageKeepsCardSaid : Prop := Claim7.holds Tryd.pinned (.plain (OpenSpec.ofChange pageKeepsSpec)) pageKeepsCard

/-- THE TIED CARD OF 'interlocklaw06.PageRoom'. -/
def pageRoomCard : Claim7 := { stood := { row := pageRoomRow, standIns := [], harness := (true, "dcd280f961a8ca2a942aab1821381d9c11fe4171f9c6fdf8935987880ead2ec5"), looks := false }, kinds := [], alts := [], laidByText := true, laidKinds := [.data, .pinned], laidTests := true, laidLooks := .later }
def PageRoomCardSaid : Prop := Claim7.holds Tryd.pinned (.plain (OpenSpec.ofChange pageRoomSpec)) pageRoomCard

/-- THE TIED CARD OF 'interlocklaw06.PageOrder'. -/
def pageOrderCard : Claim7 := { stood := { row := pageOrderRow, standIns := [], harness := (true, "dcd280f961a8ca2a942aab1821381d9c11fe4171f9c6fdf8935987880ead2ec5"), looks := false }, kinds := [], alts := [], laidByText := true, laidKinds := [.data, .pinned], laidTests := true, laidLooks := .later }
def PageOrderCardSaid : Prop := Claim7.holds Tryd.pinned (.plain (OpenSpec.ofChange pageOrderSpec)) pageOrderCard

/-- THE SECOND FORM's CARD OF 'interlocklaw06.PageAsks'. -/
def pageAsksUptoCard : Claim7 := { stood := { row := pageAsksUptoRow, standIns := [], harness := (true, "dcd280f961a8ca2a942aab1821381d9c11fe4171f9c6fdf8935987880ead2ec5"), looks := false }, kinds := [], alts := [], laidByText := true, laidKinds := [.data, .pinned], laidTests := true, laidLooks := .later }
def PageAsksUptoCardSaid : Prop := Claim7.holds Tryd.pinned (.plain (OpenSpec.upto pageAsksSpec)) pageAsksUptoCard

/-- THE SECOND FORM's CARD OF 'interlocklaw06.PageCalls'. -/
def pageCallsUptoCard : Claim7 := { stood := { row := pageCallsUptoRow, standIns := [], harness := (true, "dcd280f961a8ca2a942aab1821381d9c11fe4171f9c6fdf8935987880ead2ec5"), looks := false }, kinds := [], alts := [], laidByText := true, laidKinds := [.data, .pinned], laidTests := true, laidLooks := .later }
def PageCallsUptoCardSaid : Prop := Claim7.holds Tryd.pinned (.plain (OpenSpec.upto pageCallsSpec)) pageCallsUptoCard

/-- THE SECOND FORM's CARD OF 'interlocklaw06.PageKeeps'. -/
def pageKeepsUptoCard : Claim7 := { stood := { row := pageKeepsUptoRow, standIns := [], harness := (true, "dcd280f961a8ca2a942aab1821381d9c11fe4171f9c6fdf8935987880ead2ec5"), looks := false }, kinds := [], alts := [], laidByText := true, laidKinds := [.data, .pinned], laidTests := true, laidLooks := .later }
def PageKeepsUptoCardSaid : Prop := Claim7.holds Tryd.pinned (.plain (OpenSpec.upto pageKeepsSpec)) pageKeepsUptoCard

/-- THE SECOND FORM's CARD OF 'interlocklaw06.PageRoom'. -/
def pageRoomUptoCard : Claim7 := { stood := { row := pageRoomUptoRow, standIns := [], harness := (true, "dcd280f961a8ca2a942aab1821381d9c11fe4171f9c6fdf8935987880ead2ec5"), looks := false }, kinds := [], alts := [], laidByText := true, laidKinds := [.data, .pinned], laidTests := true, laidLooks := .later }
def PageRoomUptoCardSaid : Prop := Claim7.holds Tryd.pinned (.plain (OpenSpec.upto pageRoomSpec)) pageRoomUptoCard

/-- THE SECOND FORM's CARD OF 'interlocklaw06.PageOrder'. -/
def pageOrderUptoCard : Claim7 := { stood := { row := pageOrderUptoRow, standIns := [], harness := (true, "dcd280f961a8ca2a942aab1821381d9c11fe4171f9c6fdf8935987880ead2ec5"), looks := false }, kinds := [], alts := [], laidByText := true, laidKinds := [.data, .pinned], laidTests := true, laidLooks := .later }
def PageOrderUptoCardSaid : Prop := Claim7.holds Tryd.pinned (.plain (OpenSpec.upto pageOrderSpec)) pageOrderUptoCard
end Rows
end Go.Proofs.YtmgjoogfhkfooaaDoor
