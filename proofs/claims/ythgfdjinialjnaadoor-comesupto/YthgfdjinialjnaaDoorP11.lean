import Derived.Test.YthgfdjinialjnaaDoorP10
namespace Go.Proofs.YthgfdjinialjnaaDoor
open Go.RowKit
open Pl (It)

set_option maxRecDepth 100000 in
set_option maxHeartbeats 1000000 in
theorem newp_no (v m : Int) (w : World) (h : ¬ (1 ≤ v ∧ v ≤ 30 ∧ 1 ≤ m ∧ m ≤ 60)) :
    Calls Tryd.prog 8 #[.int .i64 v, .int .i64 m] w fun e w' => e = .returned (.tuple #[.pointer none, .int .i64 1]) ∧ w = w' := by
  rcases (show v < 1 ∨ (1 ≤ v ∧ 30 < v) ∨ (1 ≤ v ∧ v ≤ 30 ∧ m < 1) ∨ (1 ≤ v ∧ v ≤ 30 ∧ 1 ≤ m ∧ 60 < m) from by omega) with h | ⟨h, h'⟩ | ⟨h1, h2, h3⟩ | ⟨h1, h2, h3, h4⟩
  all_goals
    go_enter Tryd.func8, Tryd.ntmps8
    go_wp2
    go_ret2
    exact ⟨rfl, rfl⟩

def zeroEd : List It := List.replicate 100 ⟨0, 0, 0, 0⟩
theorem zero55 : Tryd.zeroCells55 = (gcells 0 0 (List.replicate 100 false) zeroEd).toArray := by kernel_rfl
theorem newcells (v m : Nat) : (Tryd.zeroCells55.setIfInBounds 0 (.int .i64 v)).setIfInBounds 1 (.int .i64 m) = (gcells v m (List.replicate 100 false) zeroEd).toArray := by
  rw [zero55, List.setIfInBounds_toArray, List.setIfInBounds_toArray]
  unfold gcells
  rw [List.set_cons_zero, List.set_cons_succ, List.set_cons_zero]

set_option maxRecDepth 100000 in
set_option maxHeartbeats 400000 in
theorem newp_ok (v m : Nat) (w : World) (h1 : 1 ≤ v) (h2 : v ≤ 30) (h3 : 1 ≤ m) (h4 : m ≤ 60) :
    Calls Tryd.prog 8 #[.int .i64 v, .int .i64 m] w fun e w' => e = .returned (.tuple #[.pointer (some ⟨w.heap.size, 0, none⟩), .int .i64 0]) ∧ PG w' w.heap.size v m (List.replicate 100 false) zeroEd ∧ Below w.heap.size w w' ∧ w'.heap.size = w.heap.size + 1 := by
  go_enter Tryd.func8, Tryd.ntmps8
  go_wp2
  go_ret2
  refine ⟨rfl, ⟨?_, by simp, by simp [zeroEd]⟩, (Below.refl _ _).alloc (Nat.le_refl _) _, World.size_alloc _ _⟩
  rw [newcells]
  exact row_new _ _ _

end Go.Proofs.YthgfdjinialjnaaDoor
