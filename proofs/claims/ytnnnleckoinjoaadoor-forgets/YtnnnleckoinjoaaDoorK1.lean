/- The statement's own: pick; Full. -/
import Derived.Test.YtnnnleckoinjoaaDoorQ1
import Derived.Deep.RegionHeld3
namespace Go.Proofs.YtnnnleckoinjoaaDoor
open Go.RowKit
open Pl (It)

/-- which of n things a raw number speaks of -/
def pk (c : Int) (n : Nat) : Nat := ((if c < 0 then -(c + 1) else c) % n).toNat
theorem pk_lt (c : Int) (n : Nat) (h : 1 ≤ n) : pk c n < n := by
  unfold pk
  have h1 := Int.emod_lt_of_pos (if c < 0 then -(c + 1) else c) (show (0 : Int) < n by omega)
  have h2 := Int.emod_nonneg (if c < 0 then -(c + 1) else c) (show (n : Int) ≠ 0 by omega)
  omega
theorem pk_cast (c : Int) (n : Nat) (h : 1 ≤ n) : ((pk c n : Nat) : Int) = (if c < 0 then -(c + 1) else c) % n := by
  unfold pk
  exact Int.toNat_of_nonneg (Int.emod_nonneg _ (by omega))

set_option maxHeartbeats 1000000 in
theorem pick_any (c : Int) (n : Nat) (hn : 1 ≤ n) (hn2 : n ≤ 1000) (h0 : -9223372036854775808 ≤ c) (h1 : c ≤ 9223372036854775807) (w : World) :
    Calls Tryd.prog 12 #[.int .i64 c, .int .i64 n] w fun e w' => e = .returned (.int .i64 (pk c n)) ∧ w = w' := by
  have hne : ¬ (n : Int) = 0 := by omega
  have hpk := pk_cast c n hn
  by_cases hc : c < 0
  · rw [if_pos hc] at hpk
    have hm : (-(c + 1)).tmod n = -(c + 1) % n := Int.tmod_eq_emod_of_nonneg (by omega)
    have hp : pk c n < n := pk_lt c n hn
    go_enter Tryd.func12, Tryd.ntmps12
    go_wp2
    go_ret
    exact ⟨by first | rfl | (rw [hpk]; rfl), rfl⟩
  · rw [if_neg hc] at hpk
    have hm : c.tmod n = c % n := Int.tmod_eq_emod_of_nonneg (by omega)
    have hp : pk c n < n := pk_lt c n hn
    go_enter Tryd.func12, Tryd.ntmps12
    go_wp2
    go_ret
    exact ⟨by first | rfl | (rw [hpk]; rfl), rfl⟩

end Go.Proofs.YtnnnleckoinjoaaDoor
