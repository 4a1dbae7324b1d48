/-
  No cell of these rows narrows 'for every input' (looked for: loops, veiled, ifaces, maps, wideKeys, modest, calm, conditions, laid).
  DERIVED. THE GIVEN ROWS OF THIS SEAT. 8 by the template 'for every input the law returns true; each argument reads behind the call as it read before'; 0 by the template 'total and deterministic' (their statements: YthicgffppmbamaaGreatTotals.lean).
  GIVEN WITH THE SEED: the statements are not yours to turn. If you find one false, say at which input.
  Laid BY PROGRAM, IN A SANDBOX (cutbox-rows.mjs): the forced cells as the released guide's own fill.sh prints them over the translation fed3055e5f02227f… (all of the seat's roots in one cut). By AI agents, Wed Nov 11 2026. No macro, syntax, notation, axiom, sorry.
-/
import Derived.Test.YthicgffppmbamaaGreatChecked
import GoSem.Claim
import GoSem.ClaimJoined
import GoSem.ClaimMapViews
import Derived.JoinedTies
import Derived.KernelRfl
namespace Go.Proofs.YthicgffppmbamaaGreat
/- THE CELL 'sum', in the pinned program and in every row, IS THE sha256 OF THE DUMP (.gsa) THAT YthicgffppmbamaaGreatProg.lean LOADS. Nothing in Lean hashes anything: it is a label: what it is worth is what the hold of that sum in a sandbox is worth. -/
noncomputable def Tryz.pinned : Pinned := { name := "ythicgffppmbamaagreat", sum := "fed3055e5f02227f1ce22dca82f0af0d63cce40fb7a7d005d1e3a0989c6a1b50", checked := Tryz.checked }
namespace Rows
def none {H : Type} : Left H := { results := [], args := [] }

/-- 'colscanlaw.Opens': WHATEVER THE INPUT: true; the input reads as it did. -/
def opensSpec : ChangeSpec := { name := "opens", fn := fun _ => fun
  | [d1, d2, d3] => { results := [.lit (.bool true)], args := [d1, d2, d3] }
  | _ => none }
def opensRow : OpenClaim := { program := "ythicgffppmbamaagreat", sum := "fed3055e5f02227f1ce22dca82f0af0d63cce40fb7a7d005d1e3a0989c6a1b50", func := "colscan/colscanlaw.Opens", spec := "opens", unfollowed := true, recurses := true, apart := false }
def OpensSaid : Prop := opensRow.holds Tryz.pinned (OpenSpec.ofChange opensSpec)

/-- ITS FALSE NEIGHBOUR: 'it returns false'. Refute it at one input. -/
def opensWrong : ChangeSpec := { name := "opens", fn := fun _ => fun
  | [d1, d2, d3] => { results := [.lit (.bool false)], args := [d1, d2, d3] }
  | _ => none }
def OpensWrongFalsely : Prop := opensRow.holds Tryz.pinned (OpenSpec.ofChange opensWrong)

/-- 'colscanlaw.Scans': WHATEVER THE INPUT: true; the input reads as it did. -/
def scansSpec : ChangeSpec := { name := "scans", fn := fun _ => fun
  | [d1, d2] => { results := [.lit (.bool true)], args := [d1, d2] }
  | _ => none }
def scansRow : OpenClaim := { program := "ythicgffppmbamaagreat", sum := "fed3055e5f02227f1ce22dca82f0af0d63cce40fb7a7d005d1e3a0989c6a1b50", func := "colscan/colscanlaw.Scans", spec := "scans", unfollowed := true, recurses := true, apart := false }
def ScansSaid : Prop := scansRow.holds Tryz.pinned (OpenSpec.ofChange scansSpec)

/-- ITS FALSE NEIGHBOUR: 'it returns false'. Refute it at one input. -/
def scansWrong : ChangeSpec := { name := "scans", fn := fun _ => fun
  | [d1, d2] => { results := [.lit (.bool false)], args := [d1, d2] }
  | _ => none }
def ScansWrongFalsely : Prop := scansRow.holds Tryz.pinned (OpenSpec.ofChange scansWrong)

/-- 'colscankeep.Read': WHATEVER THE INPUT: true; the input reads as it did. -/
def readSpec : ChangeSpec := { name := "read", fn := fun _ => fun
  | [d] => { results := [.lit (.bool true)], args := [d] }
  | _ => none }
def readRow : OpenClaim := { program := "ythicgffppmbamaagreat", sum := "fed3055e5f02227f1ce22dca82f0af0d63cce40fb7a7d005d1e3a0989c6a1b50", func := "colscan/colscankeep.Read", spec := "read", unfollowed := true, recurses := true, apart := false }
def ReadSaid : Prop := readRow.holds Tryz.pinned (OpenSpec.ofChange readSpec)

/-- ITS FALSE NEIGHBOUR: 'it returns false'. Refute it at one input. -/
def readWrong : ChangeSpec := { name := "read", fn := fun _ => fun
  | [d] => { results := [.lit (.bool false)], args := [d] }
  | _ => none }
def ReadWrongFalsely : Prop := readRow.holds Tryz.pinned (OpenSpec.ofChange readWrong)

/-- 'colscankeep.Steady': WHATEVER THE INPUT: true; the input reads as it did. -/
def steadySpec : ChangeSpec := { name := "steady", fn := fun _ => fun
  | [d1, d2] => { results := [.lit (.bool true)], args := [d1, d2] }
  | _ => none }
def steadyRow : OpenClaim := { program := "ythicgffppmbamaagreat", sum := "fed3055e5f02227f1ce22dca82f0af0d63cce40fb7a7d005d1e3a0989c6a1b50", func := "colscan/colscankeep.Steady", spec := "steady", unfollowed := true, recurses := true, apart := false }
def SteadySaid : Prop := steadyRow.holds Tryz.pinned (OpenSpec.ofChange steadySpec)

/-- ITS FALSE NEIGHBOUR: 'it returns false'. Refute it at one input. -/
def steadyWrong : ChangeSpec := { name := "steady", fn := fun _ => fun
  | [d1, d2] => { results := [.lit (.bool false)], args := [d1, d2] }
  | _ => none }
def SteadyWrongFalsely : Prop := steadyRow.holds Tryz.pinned (OpenSpec.ofChange steadyWrong)

/-- 'colscankeep.Alike': WHATEVER THE INPUT: true; the input reads as it did. -/
def alikeSpec : ChangeSpec := { name := "alike", fn := fun _ => fun
  | [d1, d2, d3, d4, d5] => { results := [.lit (.bool true)], args := [d1, d2, d3, d4, d5] }
  | _ => none }
def alikeRow : OpenClaim := { program := "ythicgffppmbamaagreat", sum := "fed3055e5f02227f1ce22dca82f0af0d63cce40fb7a7d005d1e3a0989c6a1b50", func := "colscan/colscankeep.Alike", spec := "alike", unfollowed := true, recurses := true, apart := false }
def AlikeSaid : Prop := alikeRow.holds Tryz.pinned (OpenSpec.ofChange alikeSpec)

/-- ITS FALSE NEIGHBOUR: 'it returns false'. Refute it at one input. -/
def alikeWrong : ChangeSpec := { name := "alike", fn := fun _ => fun
  | [d1, d2, d3, d4, d5] => { results := [.lit (.bool false)], args := [d1, d2, d3, d4, d5] }
  | _ => none }
def AlikeWrongFalsely : Prop := alikeRow.holds Tryz.pinned (OpenSpec.ofChange alikeWrong)

/-- 'colscankeep.Stopped': WHATEVER THE INPUT: true; the input reads as it did. -/
def stoppedSpec : ChangeSpec := { name := "stopped", fn := fun _ => fun
  | [d1, d2, d3] => { results := [.lit (.bool true)], args := [d1, d2, d3] }
  | _ => none }
def stoppedRow : OpenClaim := { program := "ythicgffppmbamaagreat", sum := "fed3055e5f02227f1ce22dca82f0af0d63cce40fb7a7d005d1e3a0989c6a1b50", func := "colscan/colscankeep.Stopped", spec := "stopped", unfollowed := true, recurses := true, apart := false }
def StoppedSaid : Prop := stoppedRow.holds Tryz.pinned (OpenSpec.ofChange stoppedSpec)

/-- ITS FALSE NEIGHBOUR: 'it returns false'. Refute it at one input. -/
def stoppedWrong : ChangeSpec := { name := "stopped", fn := fun _ => fun
  | [d1, d2, d3] => { results := [.lit (.bool false)], args := [d1, d2, d3] }
  | _ => none }
def StoppedWrongFalsely : Prop := stoppedRow.holds Tryz.pinned (OpenSpec.ofChange stoppedWrong)

/-- 'colscankeep.Harmed': WHATEVER THE INPUT: true; the input reads as it did. -/
def harmedSpec : ChangeSpec := { name := "harmed", fn := fun _ => fun
  | [d1, d2, d3] => { results := [.lit (.bool true)], args := [d1, d2, d3] }
  | _ => none }
def harmedRow : OpenClaim := { program := "ythicgffppmbamaagreat", sum := "fed3055e5f02227f1ce22dca82f0af0d63cce40fb7a7d005d1e3a0989c6a1b50", func := "colscan/colscankeep.Harmed", spec := "harmed", unfollowed := true, recurses := true, apart := false }
def HarmedSaid : Prop := harmedRow.holds Tryz.pinned (OpenSpec.ofChange harmedSpec)

/-- ITS FALSE NEIGHBOUR: 'it returns false'. Refute it at one input. -/
def harmedWrong : ChangeSpec := { name := "harmed", fn := fun _ => fun
  | [d1, d2, d3] => { results := [.lit (.bool false)], args := [d1, d2, d3] }
  | _ => none }
def HarmedWrongFalsely : Prop := harmedRow.holds Tryz.pinned (OpenSpec.ofChange harmedWrong)

/-- 'colscanlaw.All': WHATEVER THE INPUT: true; the input reads as it did. -/
def allSpec : ChangeSpec := { name := "all", fn := fun _ => fun
  | [d1, d2, d3] => { results := [.lit (.bool true)], args := [d1, d2, d3] }
  | _ => none }
def allRow : OpenClaim := { program := "ythicgffppmbamaagreat", sum := "fed3055e5f02227f1ce22dca82f0af0d63cce40fb7a7d005d1e3a0989c6a1b50", func := "colscan/colscanlaw.All", spec := "all", unfollowed := true, recurses := true, apart := false }
def AllSaid : Prop := allRow.holds Tryz.pinned (OpenSpec.ofChange allSpec)

/-- ITS FALSE NEIGHBOUR: 'it returns false'. Refute it at one input. -/
def allWrong : ChangeSpec := { name := "all", fn := fun _ => fun
  | [d1, d2, d3] => { results := [.lit (.bool false)], args := [d1, d2, d3] }
  | _ => none }
def AllWrongFalsely : Prop := allRow.holds Tryz.pinned (OpenSpec.ofChange allWrong)

/- THE SECOND FORM. 'bulk': how many values and letters a reading holds, each counted each time it is reached (what is shared counts as often as it is met; a slice's spare places count too). A statement '..UptoSaid' is the law's where the arguments, and the package variables that the reading takes, are together of bulk at most 1048576: NARROWER than '..Said'. Prove '..Said' where nothing that the law and all that it calls make is longer than what came in: it says more and counts as full. Else prove '..UptoSaid'. A law counts once. -/
mutual
def uptoBulk {H : Type} : DataW H → Nat
  | .lit (.string bytes) => bytes.length + 1
  | .lit _ => 1
  | .nil => 1
  | .ptr d => uptoBulk d + 1
  | .slice elems spare => uptoBulkAll elems + uptoBulkAll spare + 1
  | .agg parts => uptoBulkAll parts + 1
  | .iface _ d => uptoBulk d + 1
  | .map entries => uptoBulkEntries entries + 1
  | .held _ => 1
def uptoBulkAll {H : Type} : List (DataW H) → Nat
  | [] => 0
  | d :: r => uptoBulk d + uptoBulkAll r
def uptoBulkEntries {H : Type} : List (Lit × DataW H) → Nat
  | [] => 0
  | x :: r => uptoBulkEntry x + uptoBulkEntries r
def uptoBulkEntry {H : Type} : Lit × DataW H → Nat
  | (.string bytes, d) => bytes.length + uptoBulk d + 1
  | (_, d) => uptoBulk d + 1
 end
def uptoSmall : (H : Type) → List (DataW H) → Bool := fun _ ds => decide (uptoBulkAll ds ≤ 1048576)
def OpenSpec.upto (s : _root_.Go.ChangeSpec) : _root_.Go.OpenSpec := { _root_.Go.OpenSpec.ofChange s with cond := some uptoSmall }

/-- 'colscanlaw.Opens', WHERE WHAT IT READS IS OF BULK AT MOST 1048576: true; the input reads as it did. -/
def opensUptoRow : OpenClaim := { program := "ythicgffppmbamaagreat", sum := "fed3055e5f02227f1ce22dca82f0af0d63cce40fb7a7d005d1e3a0989c6a1b50", func := "colscan/colscanlaw.Opens", spec := "opens", unfollowed := true, recurses := true, apart := false, narrowed := true }
def OpensUptoSaid : Prop := opensUptoRow.holds Tryz.pinned (OpenSpec.upto opensSpec)

/-- 'colscanlaw.Scans', WHERE WHAT IT READS IS OF BULK AT MOST 1048576: true; the input reads as it did. -/
def scansUptoRow : OpenClaim := { program := "ythicgffppmbamaagreat", sum := "fed3055e5f02227f1ce22dca82f0af0d63cce40fb7a7d005d1e3a0989c6a1b50", func := "colscan/colscanlaw.Scans", spec := "scans", unfollowed := true, recurses := true, apart := false, narrowed := true }
def ScansUptoSaid : Prop := scansUptoRow.holds Tryz.pinned (OpenSpec.upto scansSpec)

/-- 'colscankeep.Read', WHERE WHAT IT READS IS OF BULK AT MOST 1048576: true; the input reads as it did. -/
def readUptoRow : OpenClaim := { program := "ythicgffppmbamaagreat", sum := "fed3055e5f02227f1ce22dca82f0af0d63cce40fb7a7d005d1e3a0989c6a1b50", func := "colscan/colscankeep.Read", spec := "read", unfollowed := true, recurses := true, apart := false, narrowed := true }
def ReadUptoSaid : Prop := readUptoRow.holds Tryz.pinned (OpenSpec.upto readSpec)

/-- 'colscankeep.Steady', WHERE WHAT IT READS IS OF BULK AT MOST 1048576: true; the input reads as it did. -/
def steadyUptoRow : OpenClaim := { program := "ythicgffppmbamaagreat", sum := "fed3055e5f02227f1ce22dca82f0af0d63cce40fb7a7d005d1e3a0989c6a1b50", func := "colscan/colscankeep.Steady", spec := "steady", unfollowed := true, recurses := true, apart := false, narrowed := true }
def SteadyUptoSaid : Prop := steadyUptoRow.holds Tryz.pinned (OpenSpec.upto steadySpec)

/-- 'colscankeep.Alike', WHERE WHAT IT READS IS OF BULK AT MOST 1048576: true; the input reads as it did. -/
def alikeUptoRow : OpenClaim := { program := "ythicgffppmbamaagreat", sum := "fed3055e5f02227f1ce22dca82f0af0d63cce40fb7a7d005d1e3a0989c6a1b50", func := "colscan/colscankeep.Alike", spec := "alike", unfollowed := true, recurses := true, apart := false, narrowed := true }
def AlikeUptoSaid : Prop := alikeUptoRow.holds Tryz.pinned (OpenSpec.upto alikeSpec)

/-- 'colscankeep.Stopped', WHERE WHAT IT READS IS OF BULK AT MOST 1048576: true; the input reads as it did. -/
def stoppedUptoRow : OpenClaim := { program := "ythicgffppmbamaagreat", sum := "fed3055e5f02227f1ce22dca82f0af0d63cce40fb7a7d005d1e3a0989c6a1b50", func := "colscan/colscankeep.Stopped", spec := "stopped", unfollowed := true, recurses := true, apart := false, narrowed := true }
def StoppedUptoSaid : Prop := stoppedUptoRow.holds Tryz.pinned (OpenSpec.upto stoppedSpec)

/-- 'colscankeep.Harmed', WHERE WHAT IT READS IS OF BULK AT MOST 1048576: true; the input reads as it did. -/
def harmedUptoRow : OpenClaim := { program := "ythicgffppmbamaagreat", sum := "fed3055e5f02227f1ce22dca82f0af0d63cce40fb7a7d005d1e3a0989c6a1b50", func := "colscan/colscankeep.Harmed", spec := "harmed", unfollowed := true, recurses := true, apart := false, narrowed := true }
def HarmedUptoSaid : Prop := harmedUptoRow.holds Tryz.pinned (OpenSpec.upto harmedSpec)

/-- 'colscanlaw.All', WHERE WHAT IT READS IS OF BULK AT MOST 1048576: true; the input reads as it did. -/
def allUptoRow : OpenClaim := { program := "ythicgffppmbamaagreat", sum := "fed3055e5f02227f1ce22dca82f0af0d63cce40fb7a7d005d1e3a0989c6a1b50", func := "colscan/colscanlaw.All", spec := "all", unfollowed := true, recurses := true, apart := false, narrowed := true }
def AllUptoSaid : Prop := allUptoRow.holds Tryz.pinned (OpenSpec.upto allSpec)

end Rows
end Go.Proofs.YthicgffppmbamaaGreat
