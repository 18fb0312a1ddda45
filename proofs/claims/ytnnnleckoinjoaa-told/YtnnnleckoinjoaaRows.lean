/-
  No cell of these rows narrows 'for every input' (looked for: loops, veiled, ifaces, maps, wideKeys, modest, calm, conditions, laid).
  DERIVED. THE GIVEN ROWS OF THIS SEAT. 7 by the template 'for every input the law returns true; each argument reads behind the call as it read before'; 0 by the template 'total and deterministic' (their statements: YtnnnleckoinjoaaTotals.lean).
  GIVEN WITH THE SEED: the statements are not yours to turn. If you find one false, say at which input.
  Laid BY PROGRAM, IN A SANDBOX (cutbox-rows.mjs): the forced cells as the released guide's own fill.sh prints them over the translation e8245cec0b7d7a98… (all of the seat's roots in one cut). By AI agents, Wed Nov 11 2026. No macro, syntax, notation, axiom, sorry.
-/
import Derived.Test.YtnnnleckoinjoaaChecked
import GoSem.Claim
import GoSem.ClaimJoined
import GoSem.ClaimMapViews
import Derived.JoinedTies
import Derived.KernelRfl
namespace Go.Proofs.Ytnnnleckoinjoaa
/- THE CELL 'sum', in the pinned program and in every row, IS THE sha256 OF THE DUMP (.gsa) THAT YtnnnleckoinjoaaProg.lean LOADS. Nothing in Lean hashes anything: it is a label: what it is worth is what the hold of that sum in a sandbox is worth. -/
noncomputable def Try.pinned : Pinned := { name := "ytnnnleckoinjoaa", sum := "e8245cec0b7d7a988cc8258076792082dc0542ff1db91ab4fee9a19dd939ffcf", checked := Try.checked }
namespace Rows
def none {H : Type} : Left H := { results := [], args := [] }

/-- 'forestkeep.Light': WHATEVER THE INPUT: true; the input reads as it did. -/
def lightSpec : ChangeSpec := { name := "light", fn := fun _ => fun
  | [d1, d2] => { results := [.lit (.bool true)], args := [d1, d2] }
  | _ => none }
def lightRow : OpenClaim := { program := "ytnnnleckoinjoaa", sum := "e8245cec0b7d7a988cc8258076792082dc0542ff1db91ab4fee9a19dd939ffcf", func := "forest/forestkeep.Light", spec := "light", apart := false }
def LightSaid : Prop := lightRow.holds Try.pinned (OpenSpec.ofChange lightSpec)

/-- ITS FALSE NEIGHBOUR: 'it returns false'. Refute it at one input. -/
def lightWrong : ChangeSpec := { name := "light", fn := fun _ => fun
  | [d1, d2] => { results := [.lit (.bool false)], args := [d1, d2] }
  | _ => none }
def LightWrongFalsely : Prop := lightRow.holds Try.pinned (OpenSpec.ofChange lightWrong)

/-- 'forestkeep.Told': WHATEVER THE INPUT: true; the input reads as it did. -/
def toldSpec : ChangeSpec := { name := "told", fn := fun _ => fun
  | [d1, d2] => { results := [.lit (.bool true)], args := [d1, d2] }
  | _ => none }
def toldRow : OpenClaim := { program := "ytnnnleckoinjoaa", sum := "e8245cec0b7d7a988cc8258076792082dc0542ff1db91ab4fee9a19dd939ffcf", func := "forest/forestkeep.Told", spec := "told", apart := false }
def ToldSaid : Prop := toldRow.holds Try.pinned (OpenSpec.ofChange toldSpec)

/-- ITS FALSE NEIGHBOUR: 'it returns false'. Refute it at one input. -/
def toldWrong : ChangeSpec := { name := "told", fn := fun _ => fun
  | [d1, d2] => { results := [.lit (.bool false)], args := [d1, d2] }
  | _ => none }
def ToldWrongFalsely : Prop := toldRow.holds Try.pinned (OpenSpec.ofChange toldWrong)

/-- 'forestkeep.Full': WHATEVER THE INPUT: true; the input reads as it did. -/
def fullSpec : ChangeSpec := { name := "full", fn := fun _ => fun
  | [d1, d2, d3] => { results := [.lit (.bool true)], args := [d1, d2, d3] }
  | _ => none }
def fullRow : OpenClaim := { program := "ytnnnleckoinjoaa", sum := "e8245cec0b7d7a988cc8258076792082dc0542ff1db91ab4fee9a19dd939ffcf", func := "forest/forestkeep.Full", spec := "full", apart := false }
def FullSaid : Prop := fullRow.holds Try.pinned (OpenSpec.ofChange fullSpec)

/-- ITS FALSE NEIGHBOUR: 'it returns false'. Refute it at one input. -/
def fullWrong : ChangeSpec := { name := "full", fn := fun _ => fun
  | [d1, d2, d3] => { results := [.lit (.bool false)], args := [d1, d2, d3] }
  | _ => none }
def FullWrongFalsely : Prop := fullRow.holds Try.pinned (OpenSpec.ofChange fullWrong)

/-- 'forestkeep.Swapped': WHATEVER THE INPUT: true; the input reads as it did. -/
def swappedSpec : ChangeSpec := { name := "swapped", fn := fun _ => fun
  | [d1, d2, d3] => { results := [.lit (.bool true)], args := [d1, d2, d3] }
  | _ => none }
def swappedRow : OpenClaim := { program := "ytnnnleckoinjoaa", sum := "e8245cec0b7d7a988cc8258076792082dc0542ff1db91ab4fee9a19dd939ffcf", func := "forest/forestkeep.Swapped", spec := "swapped", apart := false }
def SwappedSaid : Prop := swappedRow.holds Try.pinned (OpenSpec.ofChange swappedSpec)

/-- ITS FALSE NEIGHBOUR: 'it returns false'. Refute it at one input. -/
def swappedWrong : ChangeSpec := { name := "swapped", fn := fun _ => fun
  | [d1, d2, d3] => { results := [.lit (.bool false)], args := [d1, d2, d3] }
  | _ => none }
def SwappedWrongFalsely : Prop := swappedRow.holds Try.pinned (OpenSpec.ofChange swappedWrong)

/-- 'forestkeep.Levels': WHATEVER THE INPUT: true; the input reads as it did. -/
def levelsSpec : ChangeSpec := { name := "levels", fn := fun _ => fun
  | [d1, d2, d3] => { results := [.lit (.bool true)], args := [d1, d2, d3] }
  | _ => none }
def levelsRow : OpenClaim := { program := "ytnnnleckoinjoaa", sum := "e8245cec0b7d7a988cc8258076792082dc0542ff1db91ab4fee9a19dd939ffcf", func := "forest/forestkeep.Levels", spec := "levels", apart := false }
def LevelsSaid : Prop := levelsRow.holds Try.pinned (OpenSpec.ofChange levelsSpec)

/-- ITS FALSE NEIGHBOUR: 'it returns false'. Refute it at one input. -/
def levelsWrong : ChangeSpec := { name := "levels", fn := fun _ => fun
  | [d1, d2, d3] => { results := [.lit (.bool false)], args := [d1, d2, d3] }
  | _ => none }
def LevelsWrongFalsely : Prop := levelsRow.holds Try.pinned (OpenSpec.ofChange levelsWrong)

/-- 'forestkeep.Bridges': WHATEVER THE INPUT: true; the input reads as it did. -/
def bridgesSpec : ChangeSpec := { name := "bridges", fn := fun _ => fun
  | [d1, d2, d3, d4] => { results := [.lit (.bool true)], args := [d1, d2, d3, d4] }
  | _ => none }
def bridgesRow : OpenClaim := { program := "ytnnnleckoinjoaa", sum := "e8245cec0b7d7a988cc8258076792082dc0542ff1db91ab4fee9a19dd939ffcf", func := "forest/forestkeep.Bridges", spec := "bridges", apart := false }
def BridgesSaid : Prop := bridgesRow.holds Try.pinned (OpenSpec.ofChange bridgesSpec)

/-- ITS FALSE NEIGHBOUR: 'it returns false'. Refute it at one input. -/
def bridgesWrong : ChangeSpec := { name := "bridges", fn := fun _ => fun
  | [d1, d2, d3, d4] => { results := [.lit (.bool false)], args := [d1, d2, d3, d4] }
  | _ => none }
def BridgesWrongFalsely : Prop := bridgesRow.holds Try.pinned (OpenSpec.ofChange bridgesWrong)

/-- 'forestkeep.Weighed': WHATEVER THE INPUT: true; the input reads as it did. -/
def weighedSpec : ChangeSpec := { name := "weighed", fn := fun _ => fun
  | [d1, d2] => { results := [.lit (.bool true)], args := [d1, d2] }
  | _ => none }
def weighedRow : OpenClaim := { program := "ytnnnleckoinjoaa", sum := "e8245cec0b7d7a988cc8258076792082dc0542ff1db91ab4fee9a19dd939ffcf", func := "forest/forestkeep.Weighed", spec := "weighed", apart := false }
def WeighedSaid : Prop := weighedRow.holds Try.pinned (OpenSpec.ofChange weighedSpec)

/-- ITS FALSE NEIGHBOUR: 'it returns false'. Refute it at one input. -/
def weighedWrong : ChangeSpec := { name := "weighed", fn := fun _ => fun
  | [d1, d2] => { results := [.lit (.bool false)], args := [d1, d2] }
  | _ => none }
def WeighedWrongFalsely : Prop := weighedRow.holds Try.pinned (OpenSpec.ofChange weighedWrong)

/- THE SECOND FORM. 'bulk': how many values and letters a reading holds, each counted each time it is reached (what is shared counts as often as it is met; a slice's spare places count too). A statement '..UptoSaid' is the law's where the arguments, and the package variables that the reading takes, are together of bulk at most 1048576: NARROWER than '..Said'. Prove '..Said' where nothing that the law and all that it calls make is longer than what came in: it says more and counts as full. Else prove '..UptoSaid'. A law counts once. -/
mutual
def uptoBulk {H : Type} : DataW H → Nat
  | .lit (.string bytes) => bytes.length + 1
  | .lit _ => 1
  | .nil => 1
  | .ptr d => uptoBulk d + 1
  | .slice elems spare => uptoBulkAll elems + uptoBulkAll spare + 1
  | .agg parts => uptoBulkAll parts + 1
  | .iface _ d => uptoBulk d + 1
  | .map entries => uptoBulkEntries entries + 1
  | .held _ => 1
def uptoBulkAll {H : Type} : List (DataW H) → Nat
  | [] => 0
  | d :: r => uptoBulk d + uptoBulkAll r
def uptoBulkEntries {H : Type} : List (Lit × DataW H) → Nat
  | [] => 0
  | x :: r => uptoBulkEntry x + uptoBulkEntries r
def uptoBulkEntry {H : Type} : Lit × DataW H → Nat
  | (.string bytes, d) => bytes.length + uptoBulk d + 1
  | (_, d) => uptoBulk d + 1
 end
def uptoSmall : (H : Type) → List (DataW H) → Bool := fun _ ds => decide (uptoBulkAll ds ≤ 1048576)
def OpenSpec.upto (s : _root_.Go.ChangeSpec) : _root_.Go.OpenSpec := { _root_.Go.OpenSpec.ofChange s with cond := some uptoSmall }

/-- 'forestkeep.Light', WHERE WHAT IT READS IS OF BULK AT MOST 1048576: true; the input reads as it did. -/
def lightUptoRow : OpenClaim := { program := "ytnnnleckoinjoaa", sum := "e8245cec0b7d7a988cc8258076792082dc0542ff1db91ab4fee9a19dd939ffcf", func := "forest/forestkeep.Light", spec := "light", apart := false, narrowed := true }
def LightUptoSaid : Prop := lightUptoRow.holds Try.pinned (OpenSpec.upto lightSpec)

/-- 'forestkeep.Told', WHERE WHAT IT READS IS OF BULK AT MOST 1048576: true; the input reads as it did. -/
def toldUptoRow : OpenClaim := { program := "ytnnnleckoinjoaa", sum := "e8245cec0b7d7a988cc8258076792082dc0542ff1db91ab4fee9a19dd939ffcf", func := "forest/forestkeep.Told", spec := "told", apart := false, narrowed := true }
def ToldUptoSaid : Prop := toldUptoRow.holds Try.pinned (OpenSpec.upto toldSpec)

/-- 'forestkeep.Full', WHERE WHAT IT READS IS OF BULK AT MOST 1048576: true; the input reads as it did. -/
def fullUptoRow : OpenClaim := { program := "ytnnnleckoinjoaa", sum := "e8245cec0b7d7a988cc8258076792082dc0542ff1db91ab4fee9a19dd939ffcf", func := "forest/forestkeep.Full", spec := "full", apart := false, narrowed := true }
def FullUptoSaid : Prop := fullUptoRow.holds Try.pinned (OpenSpec.upto fullSpec)

/-- 'forestkeep.Swapped', WHERE WHAT IT READS IS OF BULK AT MOST 1048576: true; the input reads as it did. -/
def swappedUptoRow : OpenClaim := { program := "ytnnnleckoinjoaa", sum := "e8245cec0b7d7a988cc8258076792082dc0542ff1db91ab4fee9a19dd939ffcf", func := "forest/forestkeep.Swapped", spec := "swapped", apart := false, narrowed := true }
def SwappedUptoSaid : Prop := swappedUptoRow.holds Try.pinned (OpenSpec.upto swappedSpec)

/-- 'forestkeep.Levels', WHERE WHAT IT READS IS OF BULK AT MOST 1048576: true; the input reads as it did. -/
def levelsUptoRow : OpenClaim := { program := "ytnnnleckoinjoaa", sum := "e8245cec0b7d7a988cc8258076792082dc0542ff1db91ab4fee9a19dd939ffcf", func := "forest/forestkeep.Levels", spec := "levels", apart := false, narrowed := true }
def LevelsUptoSaid : Prop := levelsUptoRow.holds Try.pinned (OpenSpec.upto levelsSpec)

/-- 'forestkeep.Bridges', WHERE WHAT IT READS IS OF BULK AT MOST 1048576: true; the input reads as it did. -/
def bridgesUptoRow : OpenClaim := { program := "ytnnnleckoinjoaa", sum := "e8245cec0b7d7a988cc8258076792082dc0542ff1db91ab4fee9a19dd939ffcf", func := "forest/forestkeep.Bridges", spec := "bridges", apart := false, narrowed := true }
def BridgesUptoSaid : Prop := bridgesUptoRow.holds Try.pinned (OpenSpec.upto bridgesSpec)

/-- 'forestkeep.Weighed', WHERE WHAT IT READS IS OF BULK AT MOST 1048576: true; the input reads as it did. -/
def weighedUptoRow : OpenClaim := { program := "ytnnnleckoinjoaa", sum := "e8245cec0b7d7a988cc8258076792082dc0542ff1db91ab4fee9a19dd939ffcf", func := "forest/forestkeep.Weighed", spec := "weighed", apart := false, narrowed := true }
def WeighedUptoSaid : Prop := weighedUptoRow.holds Try.pinned (OpenSpec.upto weighedSpec)

end Rows
end Go.Proofs.Ytnnnleckoinjoaa
