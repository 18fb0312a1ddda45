/- Great zero values, where the load has no facts of them. -/
import Derived.Test.YtjbhcmmoidmgfaaDoorProg
import Derived.KernelRfl
namespace Go.Proofs.YtjbhcmmoidmgfaaDoor


end Go.Proofs.YtjbhcmmoidmgfaaDoor
