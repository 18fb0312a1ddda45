/- Told. -/
import Derived.Test.YtnnnleckoinjoaaDoorK13
import Derived.BigQuiet
import Derived.Deep.DeepCutAuto
namespace Go.Proofs.YtnnnleckoinjoaaDoor
open Go.RowKit
open Pl (It)

set_option maxRecDepth 100000 in
set_option maxHeartbeats 2000000 in
theorem sameInts_any (l : List Int) (a1 a2 : Option Addr) (c1 c2 : Nat) (w : World) (h1 : Nums w 0 (.slice a1 l.length c1) l) (h2 : Nums w 0 (.slice a2 l.length c2) l) (hl : l.length ≤ 1000) :
    Calls Tryd.prog 16 #[.slice a1 l.length c1, .slice a2 l.length c2] w fun e w' => e = .returned (.bool true) ∧ Below w.heap.size w w' := by
  go_enter Tryd.func16, Tryd.ntmps16
  go_wp2_with fail
  go_loopg [5] l.length (fun gk i wr => ∃ k : Nat, k ≤ l.length ∧ i = .int .i64 k ∧ Below w.heap.size w wr ∧ l.length - k ≤ gk)
  case atStart => exact ⟨0, Nat.zero_le _, rfl, Below.refl _ _, by omega⟩
  case round =>
    obtain ⟨k, hk, rfl, hb, hgk⟩ := hrel
    by_cases hlt : k < l.length
    · obtain ⟨g1, rfl⟩ := row_some h1 (by omega)
      obtain ⟨g2, rfl⟩ := row_some h2 (by omega)
      have d1 := nums_cell (row_below h1 hb (Nat.le_refl _)) k hlt
      have d2 := nums_cell (row_below h2 hb (Nat.le_refl _)) k hlt
      have hk1 : (0 : Int) ≤ k := by omega
      have hk2 : (k : Int) < l.length := by omega
      generalize l[k] = x at *
      clear h1 h2
      go_wp2_with (go_quiet (fail))
      go_roundg (gk - 1)
      case measure => omega
      case rel => exact ⟨k + 1, by omega, by go_num, below_drewN hb nq, by omega⟩
    · have k2 : ¬ (k : Int) < l.length := by omega
      clear h1 h2
      go_wp2
      go_ret
      exact ⟨rfl, hb⟩

end Go.Proofs.YtnnnleckoinjoaaDoor
