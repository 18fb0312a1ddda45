/- Two graphs with the same edges tell the same. -/
import Derived.Test.YtnnnleckoinjoaaDoorK30
namespace Go.Proofs.YtnnnleckoinjoaaDoor
open Go.RowKit
open Pl (It)

set_option maxRecDepth 100000 in
set_option maxHeartbeats 2000000 in
theorem sameInts_big (l : List Int) (a1 a2 : Option Addr) (c1 c2 : Nat) (w : World) (h1 : Nums w 0 (.slice a1 l.length c1) l) (h2 : Nums w 0 (.slice a2 l.length c2) l) (hl : l.length ≤ 100000) :
    Calls Tryd.prog 16 #[.slice a1 l.length c1, .slice a2 l.length c2] w fun e w' => e = .returned (.bool true) ∧ Below w.heap.size w w' := by
  go_enter Tryd.func16, Tryd.ntmps16
  go_wp2_with fail
  go_loopg [5] l.length (fun gk i wr => ∃ k : Nat, k ≤ l.length ∧ i = .int .i64 k ∧ Below w.heap.size w wr ∧ l.length - k ≤ gk)
  case atStart => exact ⟨0, Nat.zero_le _, rfl, Below.refl _ _, by omega⟩
  case round =>
    obtain ⟨k, hk, rfl, hb, hgk⟩ := hrel
    by_cases hlt : k < l.length
    · obtain ⟨g1, rfl⟩ := row_some h1 (by omega)
      obtain ⟨g2, rfl⟩ := row_some h2 (by omega)
      have d1 := nums_cell (row_below h1 hb (Nat.le_refl _)) k hlt
      have d2 := nums_cell (row_below h2 hb (Nat.le_refl _)) k hlt
      have hk1 : (0 : Int) ≤ k := by omega
      have hk2 : (k : Int) < l.length := by omega
      generalize l[k] = x at *
      clear h1 h2
      go_wp2_with (go_quiet (fail))
      go_roundg (gk - 1)
      case measure => omega
      case rel => exact ⟨k + 1, by omega, by go_num, below_drewN hb nq, by omega⟩
    · have k2 : ¬ (k : Int) < l.length := by omega
      clear h1 h2
      go_wp2
      go_ret
      exact ⟨rfl, hb⟩

set_option maxRecDepth 100000 in
set_option maxHeartbeats 2000000 in
theorem alike_any (s t : St) (hs : Ok s) (ht : Ok t) (hn : t.n = s.n) (hm : t.most = s.most) (hL : t.L = s.L) (xb gb : Nat) (w : World) (htab : Tab w) (hX : XG w xb s) (hG : XG w gb t) :
    Calls Tryd.prog 10 #[P0 xb, P0 gb, .int .i64 s.n] w fun e w' => e = .returned (.bool true) ∧ Below w.heap.size w w' := by
  have h1 := dump_any s hs xb w htab hX
  have h2 := fun (W : World) (hW : Below w.heap.size w W) => dump_any t ht gb W (htab.later hW) (PF.later hG hW (Nat.le_refl _))
  simp only [hn, hm, hL] at h2
  have hlen : (Pl.dumpL s.n s.L).length ≤ 100000 := by
    have hn30 := hs.n30
    have hl100 := hs.l100
    have hfl : (Pl.forest s.L).length ≤ 100 := Nat.le_trans (List.length_filter_le _ _) hl100
    have hu : (Pl.dUs s.n s.L (s.n + 2)).length ≤ 32 * 130 := by rw [Pl.dUs_len]; exact Nat.mul_le_mul (by omega) (by omega)
    unfold Pl.dumpL Pl.dHead
    simp only [List.length_append, List.length_map, List.length_cons, List.length_nil, Pl.dIds_len]
    omega
  have H1 := hide h1
  have H2 := hide h2
  generalize Pl.dumpL s.n s.L = D at *
  generalize txt s.n s.most s.L = T at *
  clear h1 h2 hX hG htab
  go_enter Tryd.func10, Tryd.ntmps10
  go_wp2_with fail
  refine (unhide H1).mono ?_
  rintro e w1 ⟨v1, rfl, hN1, hB1⟩
  obtain ⟨a1, k1, rfl⟩ := row_form hN1
  have HN1 := hide hN1
  have HB1 := hide hB1
  clear hN1 hB1 H1
  go_wp2_with fail
  refine ((unhide H2) _ (unhide HB1)).mono ?_
  rintro e w2 ⟨v2, rfl, hN2, hB2⟩
  obtain ⟨a2, k2, rfl⟩ := row_form hN2
  have hN12 := row_below (unhide HN1) hB2 (Nat.le_refl _)
  have HS := hide (sameInts_big D a1 a2 k1 k2 w2 (row_mono hN12 (Nat.zero_le _)) (row_mono hN2 (Nat.zero_le _)) (by omega))
  have HB2 := hide ((unhide HB1).trans (hB2.mono (unhide HB1).size))
  clear hN2 hN12 hB2 HN1 HB1 H2
  go_wp2_with fail
  refine (unhide HS).mono ?_
  rintro e w3 ⟨rfl, hB3⟩
  have HB3 := hide ((unhide HB2).trans (hB3.mono (unhide HB2).size))
  clear hB3 HS HB2
  go_wp2
  go_ret
  exact ⟨ret_bool (by simp), unhide HB3⟩

end Go.Proofs.YtnnnleckoinjoaaDoor
