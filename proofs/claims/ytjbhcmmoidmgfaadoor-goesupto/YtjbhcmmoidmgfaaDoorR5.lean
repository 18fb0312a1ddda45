import Derived.Test.YtjbhcmmoidmgfaaDoorR4
namespace Go.Proofs.YtjbhcmmoidmgfaaDoor
open Go.RowKit
open Pl (It)

set_option maxRecDepth 100000 in
set_option maxHeartbeats 1000000 in
theorem parts_any (n : Nat) (l : List It) (a : Option Addr) (cap : Nat) (w : World) (h : Its w 0 (.slice a l.length cap) l) (hl : l.length ≤ 100) (hn : n ≤ 30) (he : Pl.Ends n l) :
    Calls Tryd.prog 76 #[.int .i64 n, .slice a l.length cap] w fun e w' => e = .returned (.int .i64 (Pl.parts n l)) ∧ Below w.heap.size w w' := by
  go_enter Tryd.func76, Tryd.ntmps76
  go_wp2
  go_loopg [5, 6] n (fun gk c i wr => ∃ u k : Nat, u ≤ n ∧ i = .int .i64 u ∧ c = .int .i64 k ∧ k = ((List.range u).filter (Pl.first l)).length ∧ k ≤ u ∧ Below w.heap.size w wr ∧ n - u ≤ gk)
  case atStart => exact ⟨0, 0, Nat.zero_le _, rfl, rfl, rfl, Nat.le_refl _, Below.refl _ _, by omega⟩
  case round =>
    obtain ⟨u, k, hu, rfl, rfl, hkk, hku, hb, hgk⟩ := hrel
    have HK := hide hkk
    clear hkk
    by_cases hlt : u < n
    · have hu2 : (u : Int) < n := by omega
      have hsz := hb.size
      go_wp2_with (go_at_call 72; refine (spread_int n l u a cap _ (by exact h.later hb (Nat.le_refl _)) hl hn (by omega) (by omega) he).mono ?_; rintro e w1 ⟨rfl, hob, hb1⟩; have hB := hb.trans (hb1.mono (by omega)); clear hb hb1)
      go_loopg [8, 9] u (fun gj f j wr2 => ∃ v : Nat, v ≤ u ∧ j = .int .i64 v ∧ f = .bool (Pl.firstTo l u v) ∧ wr2 = w1 ∧ u - v ≤ gj)
      case atStart => exact ⟨0, Nat.zero_le _, rfl, rfl, rfl, by omega⟩
      case round =>
        obtain ⟨v, hv, rfl, rfl, rfl, hgj⟩ := hrel
        by_cases hvl : v < u
        · have hv2 : (v : Int) < u := by omega
          have hv3 : (v : Int) < n := by omega
          have cc := conns_cell hob (show (0 : Int) ≤ v by omega) hv3
          rw [Int.toNat_natCast] at cc
          have HS := hide (Pl.firstTo_succ l u v)
          generalize hq : Pl.firstTo l u v = q at HS ⊢
          clear hq
          cases q
          · go_wp2
            go_roundg (gk - 1)
            case measure => omega
            case rel => exact ⟨v + 1, by omega, by go_num, by rw [unhide HS]; simp, rfl, by omega⟩
          · go_wp2
            go_roundg (gk - 1)
            case measure => omega
            case rel => exact ⟨v + 1, by omega, by go_num, by rw [unhide HS]; simp, rfl, by omega⟩
        · have hvu : v = u := by omega
          subst hvu
          rw [Pl.firstTo_all]
          have HS := hide (Pl.parts_snoc l v)
          generalize hq : Pl.first l v = q at HS ⊢
          clear hq
          cases q
          · go_wp2
            go_roundg (n - (v + 1))
            case measure => omega
            case rel => exact ⟨v + 1, k, by omega, by go_num, rfl, by rw [unhide HS]; simpa using unhide HK, by omega, hB, by omega⟩
          · go_wp2
            go_roundg (n - (v + 1))
            case measure => omega
            case rel => exact ⟨v + 1, k + 1, by omega, by go_num, by go_num, by rw [unhide HS, ← unhide HK]; simp, by omega, hB, by omega⟩
    · have hun : u = n := by omega
      subst hun
      go_wp2
      go_ret
      exact ⟨ret_int (by rw [unhide HK]; rfl), hb⟩

end Go.Proofs.YtjbhcmmoidmgfaaDoor
