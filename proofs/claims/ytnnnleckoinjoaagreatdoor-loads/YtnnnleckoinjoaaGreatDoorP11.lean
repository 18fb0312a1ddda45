import Derived.Test.YtnnnleckoinjoaaGreatDoorP10
namespace Go.Proofs.YtnnnleckoinjoaaGreatDoor
open Go.RowKit
open Pl (It)

set_option maxRecDepth 100000 in
set_option maxHeartbeats 1000000 in
theorem newp_no (v m : Int) (w : World) (h : ¬ (1 ≤ v ∧ v ≤ 30 ∧ 1 ≤ m ∧ m ≤ 60)) :
    Calls Tryz.prog 25 #[.int .i64 v, .int .i64 m] w fun e w' => e = .returned (.tuple #[.pointer none, .int .i64 1]) ∧ w = w' := by
  rcases (show v < 1 ∨ (1 ≤ v ∧ 30 < v) ∨ (1 ≤ v ∧ v ≤ 30 ∧ m < 1) ∨ (1 ≤ v ∧ v ≤ 30 ∧ 1 ≤ m ∧ 60 < m) from by omega) with h | ⟨h, h'⟩ | ⟨h1, h2, h3⟩ | ⟨h1, h2, h3, h4⟩
  all_goals
    go_enter Tryz.func25, Tryz.ntmps25
    go_wp2
    go_ret2
    exact ⟨rfl, rfl⟩

def zeroEd : List It := (List.range 100).map fun (i : Nat) => ⟨(i : Int), 0, 0, 0⟩
/-- what can be taken back: an edge that was, or was not -/
structure Sl where
  live : Bool
  it : It
def slc (s : Sl) : List Value := [.int .i64 s.it.id, .bool s.live, .int .i64 s.it.u, .int .i64 s.it.v, .int .i64 s.it.w]
def slcs (l : List Sl) : List Value := l.flatMap slc
def pcells (sl : List Sl) (k : Nat) : List Value := slcs sl ++ [.int .i64 k]
def zeroSl : Sl := ⟨false, ⟨0, 0, 0, 0⟩⟩
def zeroSls : List Sl := List.replicate 20 zeroSl
theorem zero55 : Tryz.zeroCells57 = (gcells 0 0 (List.replicate 100 false) zeroEd (pcells zeroSls 0)).toArray := by kernel_rfl
theorem newcells (v m : Nat) : (Tryz.zeroCells57.setIfInBounds 0 (.int .i64 v)).setIfInBounds 1 (.int .i64 m) = (gcells v m (List.replicate 100 false) zeroEd (pcells zeroSls 0)).toArray := by
  rw [zero55, List.setIfInBounds_toArray, List.setIfInBounds_toArray]
  unfold gcells
  rw [List.set_cons_zero, List.set_cons_succ, List.set_cons_zero]

set_option maxRecDepth 100000 in
set_option maxHeartbeats 400000 in
theorem newp_ok (v m : Nat) (w : World) (h1 : 1 ≤ v) (h2 : v ≤ 30) (h3 : 1 ≤ m) (h4 : m ≤ 60) :
    Calls Tryz.prog 25 #[.int .i64 v, .int .i64 m] w fun e w' => e = .returned (.tuple #[.pointer (some ⟨w.heap.size, 0, none⟩), .int .i64 0]) ∧ PF w' w.heap.size v m (List.replicate 100 false) zeroEd (pcells zeroSls 0) ∧ Below w.heap.size w w' ∧ w'.heap.size = w.heap.size + 1 := by
  go_enter Tryz.func25, Tryz.ntmps25
  go_wp2
  go_ret2
  refine ⟨rfl, ⟨?_, by simp, by simp [zeroEd], by decide⟩, (Below.refl _ _).alloc (Nat.le_refl _) _, World.size_alloc _ _⟩
  rw [newcells]
  exact row_new _ _ _

end Go.Proofs.YtnnnleckoinjoaaGreatDoor
