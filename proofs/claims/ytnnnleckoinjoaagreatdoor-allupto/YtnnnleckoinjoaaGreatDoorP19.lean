import Derived.Test.YtnnnleckoinjoaaGreatDoorP9
namespace Go.Proofs.YtnnnleckoinjoaaGreatDoor
open Go.RowKit
open Pl (It)

set_option maxRecDepth 100000 in
set_option maxHeartbeats 2000000 in
theorem count_any (b : Nat) (m : List It) (n : Nat) (hn : n ≤ 30) (w : World) (h : RowAt w b 116 (ofc (labs m))) :
    Calls Tryz.prog 89 #[.pointer (some ⟨b, 0, none⟩), .int .i64 n] w fun e w' => e = .returned (.int .i64 (Pl.ownN n m)) ∧ w = w' := by
  have H := hide h
  clear h
  go_enter Tryz.func89, Tryz.ntmps89
  go_wp2
  go_loopg [5, 6] n (fun gk c i wr => ∃ k : Nat, k ≤ n ∧ i = .int .i64 k ∧ c = .int .i64 (Pl.ownN k m) ∧ w = wr ∧ n - k ≤ gk)
  case atStart => exact ⟨0, Nat.zero_le _, rfl, rfl, rfl, by omega⟩
  case round =>
    obtain ⟨k, hk, rfl, rfl, rfl, hgk⟩ := hrel
    by_cases hlt : k < n
    · have hk1 : (0 : Int) ≤ k := by omega
      have hk2 : (k : Int) < n := by omega
      have hk3 : (k : Int) < 30 := by omega
      have cc := ofrow_cell (unhide H) (labs_get m k (by omega))
      have hle := Pl.own_le m k
      have hsn := hide (Pl.own_snoc m k)
      generalize Pl.ownN k m = c at *
      by_cases hc : Pl.lab m k = (k : Int)
      · have e : (Pl.lab m (k : Int) == (k : Int)) = true := by simp [hc]
        rw [hc] at cc
        have HC := hide hc
        clear hc e
        go_wp2
        go_roundg (gk - 1)
        case measure => omega
        case rel => exact ⟨k + 1, by omega, by go_num, by rw [unhide hsn, if_pos (unhide HC)]; simp, rfl, by omega⟩
      · have hcc := hc
        generalize hq : Pl.lab m (k : Int) = q at cc hc
        have HC := hide hcc
        have HQ := hide hq
        clear hcc hq
        go_wp2
        go_roundg (gk - 1)
        case measure => omega
        case rel => exact ⟨k + 1, by omega, by go_num, by rw [unhide hsn, if_neg (unhide HC)]; simp, rfl, by omega⟩
    · have hk' : k = n := by omega
      subst hk'
      go_wp2
      go_ret
      exact ⟨rfl, rfl⟩

set_option maxRecDepth 100000 in
set_option maxHeartbeats 2000000 in
theorem size_any (b : Nat) (m : List It) (u : Nat) (hu : u < 30) (w : World) (h : RowAt w b 116 (ofc (labs m))) :
    Calls Tryz.prog 94 #[.pointer (some ⟨b, 0, none⟩), .int .i64 u] w fun e w' => e = .returned (.int .i64 (Pl.joinN 30 m u)) ∧ ∃ n, w' = w.drewN n := by
  have H := hide h
  clear h
  go_enter Tryz.func94, Tryz.ntmps94
  go_wp2
  go_loopg [5, 6] 30 (fun gk c i wr => ∃ k : Nat, k ≤ 30 ∧ i = .int .i64 k ∧ c = .int .i64 (Pl.joinN k m u) ∧ (∃ d, wr = w.drewN d) ∧ 30 - k ≤ gk)
  case atStart => exact ⟨0, Nat.zero_le _, rfl, rfl, ⟨0, rfl⟩, by omega⟩
  case round =>
    obtain ⟨k, hk, rfl, rfl, ⟨d, rfl⟩, hgk⟩ := hrel
    by_cases hlt : k < 30
    · have hk1 : (0 : Int) ≤ k := by omega
      have hk3 : (k : Int) < 30 := by omega
      have hle := Pl.join_le m u k
      have hsn := hide (Pl.join_snoc m u k)
      have HS := hide (same_any b (labs m) u k _ _ (labs_get m u hu) (labs_get m k hlt) hu hlt (w.drewN d) (by exact unhide H))
      generalize Pl.joinN k m u = c at *
      go_wp2_with fail
      refine (unhide HS).mono ?_
      rintro e w1 ⟨rfl, d2, rfl⟩
      rw [show (Pl.lab m (u : Int) == Pl.lab m (k : Int)) = Pl.conn m u k from rfl]
      cases hc : Pl.conn m u k with
      | true =>
        go_wp2
        go_roundg (gk - 1)
        case measure => omega
        case rel => exact ⟨k + 1, by omega, by go_num, by rw [unhide hsn, hc]; simp, ⟨_, rfl⟩, by omega⟩
      | false =>
        go_wp2
        go_roundg (gk - 1)
        case measure => omega
        case rel => exact ⟨k + 1, by omega, by go_num, by rw [unhide hsn, hc]; simp, ⟨_, rfl⟩, by omega⟩
    · have hk' : k = 30 := by omega
      subst hk'
      go_wp2
      go_ret
      exact ⟨rfl, _, rfl⟩

end Go.Proofs.YtnnnleckoinjoaaGreatDoor
