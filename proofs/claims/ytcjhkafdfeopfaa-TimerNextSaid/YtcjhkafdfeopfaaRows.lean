/-
  No cell of these rows narrows 'for every input' (looked for: loops, veiled, ifaces, maps, wideKeys, modest, calm, conditions, laid).
  DERIVED. THE GIVEN ROWS OF THIS SEAT. 4 by the template 'for every input the law returns true; each argument reads behind the call as it read before'; 0 by the template 'total and deterministic' (their statements: YtcjhkafdfeopfaaTotals.lean).
  GIVEN WITH THE SEED: the statements are not yours to turn. If you find one false, say at which input.
  Laid BY PROGRAM, IN A SANDBOX (cutbox-rows.mjs): the forced cells as the released guide's own fill.sh prints them over the translation 4a81fa984bc2b398… (all of the seat's roots in one cut). By AI agents, Wed Nov 11 2026. No macro, syntax, notation, axiom, sorry.
-/
import Derived.Test.YtcjhkafdfeopfaaChecked
import GoSem.Claim
import GoSem.ClaimJoined
import GoSem.ClaimMapViews
import Derived.JoinedTies
import Derived.KernelRfl
namespace Go.Proofs.Ytcjhkafdfeopfaa
/- THE CELL 'sum', in the pinned program and in every row, IS THE sha256 OF THE DUMP (.gsa) THAT YtcjhkafdfeopfaaProg.lean LOADS. Nothing in Lean hashes anything: it is a label: what it is worth is what the hold of that sum in a sandbox is worth. -/
noncomputable def Try.pinned : Pinned := { name := "ytcjhkafdfeopfaa", sum := "4a81fa984bc2b398bf19c1f4ecca4c18270ae10dfc51f8be86cc515fc399134c", checked := Try.checked }
namespace Rows
def none {H : Type} : Left H := { results := [], args := [] }

/-- 'interlocklaw09.TimerCalls': WHATEVER THE INPUT: true; the input reads as it did. -/
def timerCallsSpec : ChangeSpec := { name := "timerCalls", fn := fun _ => fun
  | [d] => { results := [.lit (.bool true)], args := [d] }
  | _ => none }
def timerCallsRow : OpenClaim := { program := "ytcjhkafdfeopfaa", sum := "4a81fa984bc2b398bf19c1f4ecca4c18270ae10dfc51f8be86cc515fc399134c", func := "interlock/interlocklaw09.TimerCalls", spec := "timerCalls", unfollowed := true, recurses := true, apart := false }
def TimerCallsSaid : Prop := timerCallsRow.holds Try.pinned (OpenSpec.ofChange timerCallsSpec)

/-- ITS FALSE NEIGHBOUR: 'it returns false'. Refute it at one input. -/
def timerCallsWrong : ChangeSpec := { name := "timerCalls", fn := fun _ => fun
  | [d] => { results := [.lit (.bool false)], args := [d] }
  | _ => none }
def TimerCallsWrongFalsely : Prop := timerCallsRow.holds Try.pinned (OpenSpec.ofChange timerCallsWrong)

/-- 'interlocklaw09.TimerAll': WHATEVER THE INPUT: true; the input reads as it did. -/
def timerAllSpec : ChangeSpec := { name := "timerAll", fn := fun _ => fun
  | [d1, d2] => { results := [.lit (.bool true)], args := [d1, d2] }
  | _ => none }
def timerAllRow : OpenClaim := { program := "ytcjhkafdfeopfaa", sum := "4a81fa984bc2b398bf19c1f4ecca4c18270ae10dfc51f8be86cc515fc399134c", func := "interlock/interlocklaw09.TimerAll", spec := "timerAll", unfollowed := true, recurses := true, apart := false }
def TimerAllSaid : Prop := timerAllRow.holds Try.pinned (OpenSpec.ofChange timerAllSpec)

/-- ITS FALSE NEIGHBOUR: 'it returns false'. Refute it at one input. -/
def timerAllWrong : ChangeSpec := { name := "timerAll", fn := fun _ => fun
  | [d1, d2] => { results := [.lit (.bool false)], args := [d1, d2] }
  | _ => none }
def TimerAllWrongFalsely : Prop := timerAllRow.holds Try.pinned (OpenSpec.ofChange timerAllWrong)

/-- 'interlocklaw09.TimerDrops': WHATEVER THE INPUT: true; the input reads as it did. -/
def timerDropsSpec : ChangeSpec := { name := "timerDrops", fn := fun _ => fun
  | [d1, d2] => { results := [.lit (.bool true)], args := [d1, d2] }
  | _ => none }
def timerDropsRow : OpenClaim := { program := "ytcjhkafdfeopfaa", sum := "4a81fa984bc2b398bf19c1f4ecca4c18270ae10dfc51f8be86cc515fc399134c", func := "interlock/interlocklaw09.TimerDrops", spec := "timerDrops", unfollowed := true, recurses := true, apart := false }
def TimerDropsSaid : Prop := timerDropsRow.holds Try.pinned (OpenSpec.ofChange timerDropsSpec)

/-- ITS FALSE NEIGHBOUR: 'it returns false'. Refute it at one input. -/
def timerDropsWrong : ChangeSpec := { name := "timerDrops", fn := fun _ => fun
  | [d1, d2] => { results := [.lit (.bool false)], args := [d1, d2] }
  | _ => none }
def TimerDropsWrongFalsely : Prop := timerDropsRow.holds Try.pinned (OpenSpec.ofChange timerDropsWrong)

/-- 'interlocklaw09.TimerNext': WHATEVER THE INPUT: true; the input reads as it did. -/
def timerNextSpec : ChangeSpec := { name := "timerNext", fn := fun _ => fun
  | [d] => { results := [.lit (.bool true)], args := [d] }
  | _ => none }
def timerNextRow : OpenClaim := { program := "ytcjhkafdfeopfaa", sum := "4a81fa984bc2b398bf19c1f4ecca4c18270ae10dfc51f8be86cc515fc399134c", func := "interlock/interlocklaw09.TimerNext", spec := "timerNext", unfollowed := true, recurses := true, apart := false }
def TimerNextSaid : Prop := timerNextRow.holds Try.pinned (OpenSpec.ofChange timerNextSpec)

/-- ITS FALSE NEIGHBOUR: 'it returns false'. Refute it at one input. -/
def timerNextWrong : ChangeSpec := { name := "timerNext", fn := fun _ => fun
  | [d] => { results := [.lit (.bool false)], args := [d] }
  | _ => none }
def TimerNextWrongFalsely : Prop := timerNextRow.holds Try.pinned (OpenSpec.ofChange timerNextWrong)

/- THE SECOND FORM. 'bulk': how many values and letters a reading holds, each counted each time it is reached (what is shared counts as often as it is met; a slice's spare places count too). A statement '..UptoSaid' is the law's where the arguments, and the package variables that the reading takes, are together of bulk at most 1048576: NARROWER than '..Said'. Prove '..Said' where nothing that the law and all that it calls make is longer than what came in: it says more and counts as full. Else prove '..UptoSaid'. A law counts once. -/
mutual
def uptoBulk {H : Type} : DataW H → Nat
  | .lit (.string bytes) => bytes.length + 1
  | .lit _ => 1
  | .nil => 1
  | .ptr d => uptoBulk d + 1
  | .slice elems spare => uptoBulkAll elems + uptoBulkAll spare + 1
  | .agg parts => uptoBulkAll parts + 1
  | .iface _ d => uptoBulk d + 1
  | .map entries => uptoBulkEntries entries + 1
  | .held _ => 1
def uptoBulkAll {H : Type} : List (DataW H) → Nat
  | [] => 0
  | d :: r => uptoBulk d + uptoBulkAll r
def uptoBulkEntries {H : Type} : List (Lit × DataW H) → Nat
  | [] => 0
  | x :: r => uptoBulkEntry x + uptoBulkEntries r
def uptoBulkEntry {H : Type} : Lit × DataW H → Nat
  | (.string bytes, d) => bytes.length + uptoBulk d + 1
  | (_, d) => uptoBulk d + 1
 end
def uptoSmall : (H : Type) → List (DataW H) → Bool := fun _ ds => decide (uptoBulkAll ds ≤ 1048576)
def OpenSpec.upto (s : _root_.Go.ChangeSpec) : _root_.Go.OpenSpec := { _root_.Go.OpenSpec.ofChange s with cond := some uptoSmall }

/-- 'interlocklaw09.TimerCalls', WHERE WHAT IT READS IS OF BULK AT MOST 1048576: true; the input reads as it did. -/
def timerCallsUptoRow : OpenClaim := { program := "ytcjhkafdfeopfaa", sum := "4a81fa984bc2b398bf19c1f4ecca4c18270ae10dfc51f8be86cc515fc399134c", func := "interlock/interlocklaw09.TimerCalls", spec := "timerCalls", unfollowed := true, recurses := true, apart := false, narrowed := true }
def TimerCallsUptoSaid : Prop := timerCallsUptoRow.holds Try.pinned (OpenSpec.upto timerCallsSpec)

/-- 'interlocklaw09.TimerAll', WHERE WHAT IT READS IS OF BULK AT MOST 1048576: true; the input reads as it did. -/
def timerAllUptoRow : OpenClaim := { program := "ytcjhkafdfeopfaa", sum := "4a81fa984bc2b398bf19c1f4ecca4c18270ae10dfc51f8be86cc515fc399134c", func := "interlock/interlocklaw09.TimerAll", spec := "timerAll", unfollowed := true, recurses := true, apart := false, narrowed := true }
def TimerAllUptoSaid : Prop := timerAllUptoRow.holds Try.pinned (OpenSpec.upto timerAllSpec)

/-- 'interlocklaw09.TimerDrops', WHERE WHAT IT READS IS OF BULK AT MOST 1048576: true; the input reads as it did. -/
def timerDropsUptoRow : OpenClaim := { program := "ytcjhkafdfeopfaa", sum := "4a81fa984bc2b398bf19c1f4ecca4c18270ae10dfc51f8be86cc515fc399134c", func := "interlock/interlocklaw09.TimerDrops", spec := "timerDrops", unfollowed := true, recurses := true, apart := false, narrowed := true }
def TimerDropsUptoSaid : Prop := timerDropsUptoRow.holds Try.pinned (OpenSpec.upto timerDropsSpec)

/-- 'interlocklaw09.TimerNext', WHERE WHAT IT READS IS OF BULK AT MOST 1048576: true; the input reads as it did. -/
def timerNextUptoRow : OpenClaim := { program := "ytcjhkafdfeopfaa", sum := "4a81fa984bc2b398bf19c1f4ecca4c18270ae10dfc51f8be86cc515fc399134c", func := "interlock/interlocklaw09.TimerNext", spec := "timerNext", unfollowed := true, recurses := true, apart := false, narrowed := true }
def TimerNextUptoSaid : Prop := timerNextUptoRow.holds Try.pinned (OpenSpec.upto timerNextSpec)

end Rows
end Go.Proofs.Ytcjhkafdfeopfaa
