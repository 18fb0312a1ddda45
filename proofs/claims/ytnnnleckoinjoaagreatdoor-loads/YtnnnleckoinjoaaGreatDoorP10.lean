import Derived.Test.YtnnnleckoinjoaaGreatDoorP9
namespace Go.Proofs.YtnnnleckoinjoaaGreatDoor
open Go.RowKit
open Pl (It)

theorem and_mask (n : Int) : bits .and .i64 n 4294967295 = n % 4294967296 := by
  have h32 : (BitVec.ofInt 64 4294967295).toNat = 2 ^ 32 - 1 := by decide
  have key : (BitVec.ofInt 64 n &&& BitVec.ofInt 64 4294967295).toNat = (n % ((2 ^ 64 : Nat) : Int)).toNat % 2 ^ 32 := by
    rw [BitVec.toNat_and, BitVec.toNat_ofInt, h32, Nat.and_two_pow_sub_one_eq_mod]
  show IntKind.i64.wrap ((BitVec.ofInt 64 n &&& BitVec.ofInt 64 4294967295).toNat : Nat) = n % 4294967296
  rw [key, IntKind.wrap_i64]
  omega

set_option maxRecDepth 100000 in
set_option maxHeartbeats 1000000 in
theorem weightp_any (b n most : Nat) (live : List Bool) (ed L : List It) (w : World) (hG : PG w b n most live ed) (hL : Pl.GL L live ed) (hl100 : L.length ≤ 100) (hn : n ≤ 30) (he : Pl.Ends n L) (hw : Pl.WB L) :
    Calls Tryz.prog 54 #[.pointer (some ⟨b, 0, none⟩)] w fun e w' => e = .returned (.tuple #[.int .i64 (Pl.sumw (Pl.forest L) / 4294967296), .int .i64 (Pl.sumw (Pl.forest L) % 4294967296)]) ∧ Below w.heap.size w w' := by
  have hwF : Pl.WB (Pl.forest L) := fun e h => hw e (List.mem_filter.1 h).1
  have hfl : (Pl.forest L).length ≤ 100 := Nat.le_trans (List.length_filter_le _ _) hl100
  have hmem : ∀ e, e ∈ Pl.forest L → e ∈ L := fun e h => (List.mem_filter.1 h).1
  go_enter Tryz.func54, Tryz.ntmps54
  go_wp2_with fail
  refine (forestp_any b n most live ed L _ hG hL hl100 hn he).mono ?_
  rintro e w1 ⟨v, rfl, hN, hB⟩
  obtain ⟨a, cap, rfl⟩ := row_form hN
  unfold Nums at hN
  rw [List.length_map] at hN ⊢
  have hPG := hG.later hB (Nat.le_refl _)
  obtain ⟨F, hF⟩ : ∃ F, F = Pl.forest L := ⟨_, rfl⟩
  rw [← hF] at hN hwF hfl hmem
  simp only [← hF]
  have HF := hide hF
  have A0 : Aside (PG w1 b n most live ed ∧ Pl.GL L live ed ∧ w1.ownsRow w.heap.size 3 1 (.slice a F.length cap) F.length ((F.map It.id).map (Value.int .i64)) ∧ (∀ e, e ∈ F → e ∈ L) ∧ Pl.WB F) := ⟨hPG, hL, hN, hmem, hwF⟩
  clear hF hG hL hN hPG hmem hwF hw he
  go_wp2
  go_loopg [5, 6, 7] F.length (fun gk hi lo i wr => ∃ (k nq : Nat) (h o : Int), k ≤ F.length ∧ i = .int .i64 k ∧ hi = .int .i64 h ∧ lo = .int .i64 o ∧ wr = w1.drewN nq ∧ Pl.sumw (F.take k) = 4294967296 * h + o ∧ 0 ≤ o ∧ o ≤ 4294967295 * k ∧ -2147483648 * (k : Int) ≤ h ∧ h ≤ 2147483648 * (k : Int) ∧ F.length - k ≤ gk)
  case atStart => exact ⟨0, 0, 0, 0, Nat.zero_le _, rfl, rfl, rfl, rfl, rfl, by omega, by omega, by omega, by omega, by omega⟩
  case round =>
    obtain ⟨k, nq, h, o, hk, rfl, rfl, rfl, rfl, hS, o0, o1, h0, h1, hgk⟩ := hrel
    by_cases hlt : k < F.length
    · obtain ⟨hPG, hGL, hN, hmem, hwF⟩ := A0.out
      obtain ⟨g, rfl⟩ := row_some hN (by omega)
      have hxL := hmem _ (List.getElem_mem hlt)
      obtain ⟨x0, x1⟩ := hGL.rng _ hxL
      obtain ⟨xi, hxi⟩ := Int.eq_ofNat_of_zero_le x0
      have hxi1 : (xi : Int) < 100 := by omega
      have hxi0 : (0 : Int) ≤ xi := by omega
      have hex : ed[xi]? = some F[k] := by have := hGL.ed _ hxL; rw [hxi, Int.toNat_natCast] at this; exact this
      obtain ⟨hxe, exe⟩ := List.getElem?_eq_some_iff.1 hex
      obtain ⟨_, _, e2⟩ := hPG.ce xi hxe
      rw [exe] at e2
      have cid := numrow_cell hN rfl k F[k] (List.getElem?_eq_getElem hlt)
      rw [hxi] at cid
      obtain ⟨W0, W1⟩ := hwF F[k] (List.getElem_mem hlt)
      have hk1 : (0 : Int) ≤ k := by omega
      have hk2 : (k : Int) < F.length := by omega
      have HS := hide (And.intro hS (Pl.sumw_snoc F k hlt))
      have hand := and_mask F[k].w
      have m0 : 0 ≤ F[k].w % 4294967296 := by omega
      have m1 : F[k].w % 4294967296 ≤ 4294967295 := by omega
      have d0 : -2147483648 ≤ F[k].w / 4294967296 := by omega
      have d1 : F[k].w / 4294967296 ≤ 2147483647 := by omega
      generalize F[k].w = W at *
      clear hPG hGL hN hmem hwF hxL x0 x1 hxi hex exe hS
      go_wp2_with fail
      go_quiet (fail)
      go_wp2
      go_roundg (gk - 1)
      case measure => omega
      case rel =>
        obtain ⟨hS, hS'⟩ := unhide HS
        exact ⟨k + 1, _, _, _, by omega, by go_num, rfl, rfl, rfl, by rw [hS', hS]; omega, by omega, by omega, by omega, by omega, by omega⟩
    · have hk' : F.take k = F := List.take_of_length_le (by omega)
      rw [hk'] at hS
      have hand := and_mask o
      have HS := hide hS
      have m0 : 0 ≤ o % 4294967296 := by omega
      have d0 : 0 ≤ o / 4294967296 := by omega
      have d1 : o / 4294967296 ≤ 1000 := by omega
      clear hS hk'
      go_wp2
      go_ret2
      refine ⟨ret_pair ?_ ?_, below_drewN hB _⟩
      · rw [← unhide HF, unhide HS]; omega
      · rw [← unhide HF, unhide HS]; omega

end Go.Proofs.YtnnnleckoinjoaaGreatDoor
