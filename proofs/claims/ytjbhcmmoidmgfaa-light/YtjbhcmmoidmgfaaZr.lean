/- Great zero values, where the load has no facts of them. -/
import Derived.Test.YtjbhcmmoidmgfaaProg
import Derived.KernelRfl
namespace Go.Proofs.Ytjbhcmmoidmgfaa

def Try.zeroCells71 : Array Value := (List.replicate 100 (Value.bool false)).toArray
def Try.zeroCells79 : Array Value := (Value.int .i64 0 :: Value.int .i64 0 :: (List.replicate 100 (Value.bool false) ++ (List.replicate 300 (Value.int .i64 0) ++ ((List.replicate 20 [Value.int .i64 0, .bool false, .int .i64 0, .int .i64 0, .int .i64 0]).flatMap id ++ [Value.int .i64 0])))).toArray
@[simp] theorem zero_arrB (w : World) : Sem.run Try.prog (zeroValue 71) w = .ok (.agg Try.zeroCells71) w := by kernel_rfl
@[simp] theorem zero_PG (w : World) : Sem.run Try.prog (zeroValue 79) w = .ok (.agg Try.zeroCells79) w := by kernel_rfl
@[simp] theorem zero_arrB_ne : Try.zeroCells71 ≠ #[] := by
  intro h
  have := congrArg Array.size h
  simp [Try.zeroCells71] at this
@[simp] theorem Try.zeroCells79_size : Try.zeroCells79.size = 503 := by kernel_rfl
@[simp] theorem zero_PG_ne : Try.zeroCells79 ≠ #[] := by
  intro h
  have := congrArg Array.size h
  rw [Try.zeroCells79_size] at this
  cases this
@[simp] theorem Try.zeroCells71_size : Try.zeroCells71.size = 100 := by simp [Try.zeroCells71]

end Go.Proofs.Ytjbhcmmoidmgfaa
