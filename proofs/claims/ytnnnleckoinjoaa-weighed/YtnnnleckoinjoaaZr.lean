/- Great zero values, where the load has no facts of them. -/
import Derived.Test.YtnnnleckoinjoaaProg
import Derived.KernelRfl
namespace Go.Proofs.Ytnnnleckoinjoaa


end Go.Proofs.Ytnnnleckoinjoaa
