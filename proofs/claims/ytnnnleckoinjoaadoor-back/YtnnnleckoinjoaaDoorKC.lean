/- The rows of this seat: the tables that they lay. -/
import Derived.Test.YtnnnleckoinjoaaDoorKO
import Derived.Test.YtnnnleckoinjoaaDoorW1
import Derived.Test.YtnnnleckoinjoaaDoorCards
import Derived.Test.YtnnnleckoinjoaaDoorTie
import Derived.ChangeMaps5
namespace Go.Proofs.YtnnnleckoinjoaaDoor
open Go.ChangeShapes Go.WideShapes Go.ChangeAt Go.RowKit Go.Deep

namespace keepC
/-- The cells of a table of numbers, as the row lists it. (The witness: the settled world, the three tables holding what their initialisers lay; typed out at each use.) -/
def cellsIn (d : DataW Nat) : Array Value := match d with
  | .agg l => (l.map fun
    | .lit (.int k n) => Value.int k n
    | _ => undef).toArray
  | _ => #[]
def putIn (d : DataW Nat) : Obj → Obj
  | .cells _ t frozen => .cells (cellsIn d) t frozen
  | o => o
end keepC
end Go.Proofs.YtnnnleckoinjoaaDoor
