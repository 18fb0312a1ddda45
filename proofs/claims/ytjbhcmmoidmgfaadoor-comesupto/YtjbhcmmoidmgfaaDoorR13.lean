import Derived.Test.YtjbhcmmoidmgfaaDoorR12
namespace Go.Proofs.YtjbhcmmoidmgfaaDoor
open Go.RowKit
open Pl (It)

theorem split_w (W : Int) (h0 : -9223372036854775808 ≤ W) (h1 : W ≤ 9223372036854775807) : ∃ d r : Int, W = 4294967296 * d + r ∧ 0 ≤ r ∧ r < 4294967296 ∧ -2147483648 ≤ d ∧ d ≤ 2147483647 ∧
    (W - r).tdiv 4294967296 = d ∧ (W.tmod 4294967296 = r ∨ W.tmod 4294967296 = r - 4294967296 ∧ 0 < r) := by
  refine ⟨W / 4294967296, W % 4294967296, by omega, by omega, by omega, by omega, by omega, ?_, ?_⟩
  · have e : W - W % 4294967296 = 4294967296 * (W / 4294967296) := by omega
    rw [e, Int.mul_tdiv_cancel_left _ (by decide)]
  · by_cases h : W < 0
    · have e : W.tmod 4294967296 = -((-W) % 4294967296) := by
        rw [← Int.tmod_eq_emod_of_nonneg (by omega : 0 ≤ -W), Int.neg_tmod]; omega
      rw [e]; omega
    · left; exact Int.tmod_eq_emod_of_nonneg (by omega)
theorem split_s (S : Int) (k : Nat) (hk : k ≤ 1000) (h0 : -9223372036854775808 * (k : Int) ≤ S) (h1 : S ≤ 9223372036854775808 * (k : Int)) : ∃ h o : Int, S = 4294967296 * h + o ∧ 0 ≤ o ∧ o < 4294967296 ∧ -2147483648000 ≤ h ∧ h ≤ 2147483648000 ∧ S / 4294967296 = h ∧ S % 4294967296 = o :=
  ⟨S / 4294967296, S % 4294967296, by omega, by omega, by omega, by omega, by omega, rfl, rfl⟩

set_option maxRecDepth 100000 in
set_option maxHeartbeats 1000000 in
theorem weightr_any (b n most : Nat) (L : List It) (past : List (List It)) (p : Option Nat) (w : World) (hG : RG w b n most L past p) (hL : L.length ≤ 100) (hn : n ≤ 30) (he : Pl.Ends n L) (hw : Pl.WB L) :
    Calls Tryd.prog 40 #[.pointer (some ⟨b, 0, none⟩)] w fun e w' => e = .returned (.tuple #[.int .i64 (Pl.sumw (Pl.forest L) / 4294967296), .int .i64 (Pl.sumw (Pl.forest L) % 4294967296)]) ∧ Below w.heap.size w w' := by
  obtain ⟨a, cap, vP, c0, c1, c2, c3, hI, hbl⟩ := rg_open hG
  have hfl := forest_len L
  have hwF : Pl.WB (Pl.forest L) := fun e h => hw e (List.mem_filter.1 h).1
  clear hG
  go_enter Tryd.func40, Tryd.ntmps40
  go_wp2_with fail
  go_region_held3 (fun w' => w'.cell? ⟨b, 0, none⟩ = some (.int .i64 n) ∧ w'.cell? ⟨b, 2, none⟩ = some (.slice a L.length cap))
    (first | go_keep | (go_split_ands; refine ⟨?_, ?_⟩ <;> (refine cell_later hb1 ?_; first | assumption | simp [*])))
    (first
      | (go_at_call 75; refine (forest_any n L a cap _ (by exact hI) hL hn he).mono ?_; rintro e w1 ⟨v1, rfl, ho1, hb1⟩; obtain ⟨a1, cap1, rfl⟩ := row_form ho1))
  have hB := undrew hb1
  clear hb1 c0 c1 c2 c3 hI
  obtain ⟨F, hF⟩ : ∃ F, F = Pl.forest L := ⟨_, rfl⟩
  rw [← hF] at ho1 hwF hfl
  simp only [← hF]
  have HF := hide hF
  clear hF
  go_wp2
  go_loopg [4, 5, 7] F.length (fun gk hi lo i wr => ∃ k : Nat, k ≤ F.length ∧ i = .int .i64 k ∧ hi = .int .i64 (Pl.sumw (F.take k) / 4294967296) ∧ lo = .int .i64 (Pl.sumw (F.take k) % 4294967296) ∧ wr = w1 ∧ F.length - k ≤ gk)
  case atStart => exact ⟨0, Nat.zero_le _, rfl, rfl, rfl, rfl, by omega⟩
  case round =>
    obtain ⟨k, hk, rfl, rfl, rfl, rfl, hgk⟩ := hrel
    by_cases hlt : k < F.length
    · obtain ⟨g, rfl⟩ := row_some ho1 (by omega)
      obtain ⟨_, _, _, e3⟩ := its_cells ho1 k hlt
      obtain ⟨W0, W1⟩ := hwF F[k] (List.getElem_mem hlt)
      have HS := hide (Pl.sumw_snoc F k hlt)
      obtain ⟨S0, S1⟩ := Pl.sumw_bd _ (Pl.WB_take hwF k)
      have hl' : (F.take k).length = k := by simp; omega
      rw [hl'] at S0 S1
      have hk1 : (0 : Int) ≤ k := by omega
      have hk2 : (k : Int) < F.length := by omega
      have B1 := hide (And.intro hk (And.intro hgk hlt))
      obtain ⟨d, r, hWd, r0, r1, d0, d1, hD, hT⟩ := split_w F[k].w W0 W1
      obtain ⟨h, o, hSo, o0, o1, h0, h1, hSh, hSm⟩ := split_s (Pl.sumw (F.take k)) k (by omega) S0 S1
      rw [hSh, hSm]
      have HQ : Hid (Pl.sumw (F.take (k + 1)) = 4294967296 * (h + d) + (o + r)) := by
        show _ = _
        rw [unhide HS, hSo, hWd]; omega
      have w0 : -9223372036854775808 ≤ F[k].w - r := by omega
      have w1' : F[k].w - r ≤ 9223372036854775807 := by omega
      generalize F[k].w = W at *
      clear HS S0 S1 hSh hSm hSo W0 W1 hWd
      rcases hT with hT | hT
      · go_wp2
        · go_roundg (gk - 1)
          case measure => omega
          case rel => exact ⟨k + 1, by omega, by go_num, by rw [unhide HQ]; exact congrArg _ (by omega), by rw [unhide HQ]; exact congrArg _ (by omega), rfl, by omega⟩
        · go_roundg (gk - 1)
          case measure => omega
          case rel => exact ⟨k + 1, by omega, by go_num, by rw [unhide HQ]; exact congrArg _ (by omega), by rw [unhide HQ]; exact congrArg _ (by omega), rfl, by omega⟩
      · go_wp2
        · go_roundg (gk - 1)
          case measure => omega
          case rel => exact ⟨k + 1, by omega, by go_num, by rw [unhide HQ]; exact congrArg _ (by omega), by rw [unhide HQ]; exact congrArg _ (by omega), rfl, by omega⟩
        · go_roundg (gk - 1)
          case measure => omega
          case rel => exact ⟨k + 1, by omega, by go_num, by rw [unhide HQ]; exact congrArg _ (by omega), by rw [unhide HQ]; exact congrArg _ (by omega), rfl, by omega⟩
    · have hk' : F.take k = F := List.take_of_length_le (by omega)
      rw [hk']
      go_wp2
      go_ret2
      exact ⟨ret_pair (by rw [unhide HF]) (by rw [unhide HF]), hB⟩
end Go.Proofs.YtjbhcmmoidmgfaaDoor
