/- Great zero values, where the load has no facts of them. -/
import Derived.Test.YtnnnleckoinjoaaGreatDoorProg
import Derived.KernelRfl
namespace Go.Proofs.YtnnnleckoinjoaaGreatDoor


end Go.Proofs.YtnnnleckoinjoaaGreatDoor
