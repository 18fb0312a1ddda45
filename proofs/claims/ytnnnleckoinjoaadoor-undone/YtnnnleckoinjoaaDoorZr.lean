/- Great zero values, where the load has no facts of them. -/
import Derived.Test.YtnnnleckoinjoaaDoorProg
import Derived.KernelRfl
namespace Go.Proofs.YtnnnleckoinjoaaDoor


end Go.Proofs.YtnnnleckoinjoaaDoor
