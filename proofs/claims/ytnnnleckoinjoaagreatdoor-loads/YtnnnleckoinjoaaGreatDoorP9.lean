import Derived.Test.YtnnnleckoinjoaaGreatDoorP7
namespace Go.Proofs.YtnnnleckoinjoaaGreatDoor
open Go.RowKit
open Pl (It)

theorem ofc_size (of : List Int) (h : of.length = 30) : (ofc of).toArray.size = 30 := by simp [ofc, h]

set_option maxRecDepth 100000 in
set_option maxHeartbeats 2000000 in
theorem connp_no (b n most : Nat) (live : List Bool) (ed : List It) (u v : Int) (w : World) (hG : PG w b n most live ed) (h : Pl.verB n u = false ∨ (Pl.verB n u = true ∧ Pl.verB n v = false)) :
    Calls Tryz.prog 45 #[.pointer (some ⟨b, 0, none⟩), .int .i64 u, .int .i64 v] w fun e w' => e = .returned (.tuple #[.bool false, .int .i64 3]) ∧ Below w.heap.size w w' := by
  have c0 := hG.c0
  clear hG
  rcases h with h1 | ⟨h1, h2⟩
  · go_enter Tryz.func45, Tryz.ntmps45
    go_wp2_with (go_at_call 66; refine (isVertex_any b n _ _ c0).mono ?_; rintro e w1 ⟨rfl, rfl⟩; (try rw [h1]))
    go_ret2
    exact ⟨rfl, Below.refl _ _⟩
  · go_enter Tryz.func45, Tryz.ntmps45
    go_wp2_with (go_at_call 66; refine (isVertex_any b n _ _ c0).mono ?_; rintro e w1 ⟨rfl, rfl⟩; (first | rw [h1] | rw [h2]))
    go_ret2
    exact ⟨rfl, Below.refl _ _⟩

set_option maxRecDepth 100000 in
set_option maxHeartbeats 400000 in
theorem connp_ok (b n most : Nat) (live : List Bool) (ed L : List It) (u v : Int) (w : World) (hG : PG w b n most live ed) (hL : Pl.GL L live ed) (hl100 : L.length ≤ 100) (hn : n ≤ 30) (he : Pl.Ends n L) (hw : Pl.WB L) (h1 : Pl.verB n u = true) (h2 : Pl.verB n v = true) :
    Calls Tryz.prog 45 #[.pointer (some ⟨b, 0, none⟩), .int .i64 u, .int .i64 v] w fun e w' => e = .returned (.tuple #[.bool (Pl.conn L u v), .int .i64 0]) ∧ Below w.heap.size w w' := by
  have c0 := hG.c0
  obtain ⟨u0, u1⟩ := Pl.verB_true.1 h1
  obtain ⟨v0, v1⟩ := Pl.verB_true.1 h2
  obtain ⟨ui, rfl⟩ := Int.eq_ofNat_of_zero_le u0
  obtain ⟨vi, rfl⟩ := Int.eq_ofNat_of_zero_le v0
  have hu30 : ui < 30 := by omega
  have hv30 : vi < 30 := by omega
  have hcc : (Pl.lab L.reverse (ui : Int) == Pl.lab L.reverse (vi : Int)) = Pl.conn L ui vi := by
    rw [← Pl.conn_congr (l := L.reverse) (m := L) _ _ (fun e => List.mem_reverse)]; rfl
  go_enter Tryz.func45, Tryz.ntmps45
  go_wp2_with (go_at_call 66; refine (isVertex_any b n _ _ c0).mono ?_; rintro e w1 ⟨rfl, rfl⟩; (first | rw [h1] | rw [h2]))
  have hj := joined_any b n most live ed L 9223372036854775807 w hG hL hl100 hn he
  rw [Pl.up_all (fun e he => (hw e he).2)] at hj
  refine hj.mono ?_
  rintro e w1 ⟨rfl, hb1⟩
  have hrn := row_new w1 116 (ofc (upTo 0))
  have hth : (w1.alloc (.cells (ofc (upTo 0)).toArray 116)).there w1.heap.size 0 30 := hrn.there 0 30 (by decide)
  have hst := RowAt.whole (ys := ofc (labs L.reverse)) hrn (by rw [ofc_length, ofc_length, labs_len, upTo_len])
  have hsz := hb1.size
  have HT : Hid ((w1.alloc (.cells (ofc (upTo 0)).toArray 116)).there w1.heap.size 0 (ofc (labs L.reverse)).toArray.size) := by
    show World.there _ _ _ _
    rw [ofc_size _ (labs_len _)]; exact hth
  have HI : Hid ((Tryz.prog.info? 116).map (·.size) = some (ofc (labs L.reverse)).toArray.size) := by
    show _ = _
    rw [ofc_size _ (labs_len _)]; exact infoParts
  have HO : Hid ((ofc (labs L.reverse)).toArray.all (·.oneCell') = true) := all_oneCell_toArray (ofc_one _)
  have HS := hide hst
  have HC := hide hcc
  clear hG hL c0 hj hw hth hst hrn hcc
  go_wp2_with (refine wpList_store_mid rfl 116 (.tmp 8) (.tmp 20) rfl w1.heap.size 0 (ofc (labs L.reverse)).toArray rfl rfl ?_ ?_ ?_ ?_)
  · exact unhide HT
  · exact unhide HI
  · exact unhide HO
  refine (same_any w1.heap.size (labs L.reverse) ui vi _ _ (labs_get _ ui hu30) (labs_get _ vi hv30) hu30 hv30 _ (by exact unhide HS)).mono ?_
  rintro e w3 ⟨rfl, m, rfl⟩
  rw [unhide HC]
  go_wp2
  go_ret2
  exact ⟨rfl, below_drewN (below_setCells hsz _ _ _ (hb1.alloc hsz _)) m⟩

end Go.Proofs.YtnnnleckoinjoaaGreatDoor
