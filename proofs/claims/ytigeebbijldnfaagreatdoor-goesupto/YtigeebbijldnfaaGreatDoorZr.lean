/- Great zero values, where the load has no facts of them. -/
import Derived.Test.YtigeebbijldnfaaGreatDoorProg
import Derived.KernelRfl
namespace Go.Proofs.YtigeebbijldnfaaGreatDoor


end Go.Proofs.YtigeebbijldnfaaGreatDoor
