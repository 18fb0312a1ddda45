import Derived.Test.YtjbhcmmoidmgfaaDoorR11
namespace Go.Proofs.YtjbhcmmoidmgfaaDoor
open Go.RowKit
open Pl (It)

set_option maxRecDepth 100000 in
set_option maxHeartbeats 1000000 in
theorem liver_any (b n most : Nat) (L : List It) (past : List (List It)) (p : Option Nat) (w : World) (hG : RG w b n most L past p) (hL : L.length ≤ 100) :
    Calls Tryd.prog 32 #[.pointer (some ⟨b, 0, none⟩)] w fun e w' => ∃ v, e = .returned v ∧ Nums w' w.heap.size v (L.map It.id) ∧ Below w.heap.size w w' := by
  obtain ⟨a, cap, vP, c0, c1, c2, c3, hI, hbl⟩ := rg_open hG
  go_enter Tryd.func32, Tryd.ntmps32
  go_wp2_with fail
  refine (ids_any L a cap _ hI hL).mono ?_
  rintro e w1 ⟨v, rfl, hN, hb⟩
  go_wp2
  go_ret
  exact ⟨_, rfl, hN, hb⟩

set_option maxRecDepth 100000 in
set_option maxHeartbeats 1000000 in
theorem forestr_any (b n most : Nat) (L : List It) (past : List (List It)) (p : Option Nat) (w : World) (hG : RG w b n most L past p) (hL : L.length ≤ 100) (hn : n ≤ 30) (he : Pl.Ends n L) :
    Calls Tryd.prog 36 #[.pointer (some ⟨b, 0, none⟩)] w fun e w' => ∃ v, e = .returned v ∧ Nums w' w.heap.size v ((Pl.forest L).map It.id) ∧ Below w.heap.size w w' := by
  obtain ⟨a, cap, vP, c0, c1, c2, c3, hI, hbl⟩ := rg_open hG
  have hfl := forest_len L
  go_enter Tryd.func36, Tryd.ntmps36
  go_wp2_with fail
  go_region_held3 (fun w' => w'.cell? ⟨b, 0, none⟩ = some (.int .i64 n) ∧ w'.cell? ⟨b, 2, none⟩ = some (.slice a L.length cap))
    (first | go_keep | (go_split_ands; refine ⟨?_, ?_⟩ <;> (refine cell_later hb1 ?_; first | assumption | simp [*])) | (go_split_ands; refine ⟨?_, ?_⟩ <;> (refine cell_later hb2 ?_; first | assumption | simp [*])))
    (first
      | (go_at_call 75; refine (forest_any n L a cap _ (by exact hI) hL hn he).mono ?_; rintro e w1 ⟨v1, rfl, ho1, hb1⟩; obtain ⟨a1, cap1, rfl⟩ := row_form ho1)
      | (go_at_call 74; refine (ids_any (Pl.forest L) a1 cap1 _ (by exact row_mono ho1 (Nat.zero_le _)) (by omega)).mono ?_; rintro e w2 ⟨v2, rfl, ho2, hb2⟩))
  go_wp2
  go_ret
  have hs := hb1.size
  exact ⟨_, rfl, row_mono ho2 hs, (undrew hb1).trans (hb2.mono hs)⟩

set_option maxRecDepth 100000 in
set_option maxHeartbeats 1000000 in
theorem compr_any (b n most : Nat) (L : List It) (past : List (List It)) (p : Option Nat) (w : World) (hG : RG w b n most L past p) (hL : L.length ≤ 100) (hn : n ≤ 30) (he : Pl.Ends n L) :
    Calls Tryd.prog 38 #[.pointer (some ⟨b, 0, none⟩)] w fun e w' => e = .returned (.int .i64 (Pl.parts n L)) ∧ Below w.heap.size w w' := by
  obtain ⟨a, cap, vP, c0, c1, c2, c3, hI, hbl⟩ := rg_open hG
  go_enter Tryd.func38, Tryd.ntmps38
  go_wp2_with fail
  go_region_held3 (fun w' => w'.cell? ⟨b, 0, none⟩ = some (.int .i64 n) ∧ w'.cell? ⟨b, 2, none⟩ = some (.slice a L.length cap))
    (first | go_keep | (go_split_ands; refine ⟨?_, ?_⟩ <;> (refine cell_later hb1 ?_; first | assumption | simp [*])))
    (first
      | (go_at_call 76; refine (parts_any n L a cap _ (by exact hI) hL hn he).mono ?_; rintro e w1 ⟨rfl, hb1⟩))
  go_wp2
  go_ret
  exact ⟨rfl, undrew hb1⟩

set_option maxRecDepth 100000 in
set_option maxHeartbeats 2000000 in
theorem connr_no (b n most : Nat) (L : List It) (past : List (List It)) (p : Option Nat) (u v : Int) (w : World) (hG : RG w b n most L past p) (h : Pl.verB n u = false ∨ (Pl.verB n u = true ∧ Pl.verB n v = false)) :
    Calls Tryd.prog 30 #[.pointer (some ⟨b, 0, none⟩), .int .i64 u, .int .i64 v] w fun e w' => e = .returned (.tuple #[.bool false, .int .i64 3]) ∧ Below w.heap.size w w' := by
  obtain ⟨a, cap, vP, c0, c1, c2, c3, hI, hbl⟩ := rg_open hG
  clear hG
  rcases h with h1 | ⟨h1, h2⟩
  · go_enter Tryd.func30, Tryd.ntmps30
    go_wp2_with (go_at_call 59; refine (vertex_any b n _ _ c0).mono ?_; rintro e w1 ⟨rfl, rfl⟩; (try rw [h1]))
    go_ret2
    exact ⟨rfl, Below.refl _ _⟩
  · go_enter Tryd.func30, Tryd.ntmps30
    go_wp2_with (go_at_call 59; refine (vertex_any b n _ _ c0).mono ?_; rintro e w1 ⟨rfl, rfl⟩; (first | rw [h1] | rw [h2]))
    go_ret2
    exact ⟨rfl, Below.refl _ _⟩

set_option maxRecDepth 100000 in
set_option maxHeartbeats 2000000 in
theorem connr_ok (b n most : Nat) (L : List It) (past : List (List It)) (p : Option Nat) (u v : Int) (w : World) (hG : RG w b n most L past p) (hL : L.length ≤ 100) (hn : n ≤ 30) (he : Pl.Ends n L) (h1 : Pl.verB n u = true) (h2 : Pl.verB n v = true) :
    Calls Tryd.prog 30 #[.pointer (some ⟨b, 0, none⟩), .int .i64 u, .int .i64 v] w fun e w' => e = .returned (.tuple #[.bool (Pl.conn L u v), .int .i64 0]) ∧ Below w.heap.size w w' := by
  obtain ⟨a, cap, vP, c0, c1, c2, c3, hI, hbl⟩ := rg_open hG
  obtain ⟨u0, u1⟩ := Pl.verB_true.1 h1
  obtain ⟨v0, v1⟩ := Pl.verB_true.1 h2
  clear hG
  go_enter Tryd.func30, Tryd.ntmps30
  go_wp2_with (go_at_call 59; refine (vertex_any b n _ _ c0).mono ?_; rintro e w1 ⟨rfl, rfl⟩; (first | rw [h1] | rw [h2]))
  go_region_held3 (fun w' => w'.cell? ⟨b, 0, none⟩ = some (.int .i64 n) ∧ w'.cell? ⟨b, 2, none⟩ = some (.slice a L.length cap))
    (first | go_keep | (go_split_ands; refine ⟨?_, ?_⟩ <;> (refine cell_later hb1 ?_; first | assumption | simp [*])))
    (first
      | (go_at_call 72; refine (spread_int n L u a cap _ (by exact hI) hL hn u0 u1 he).mono ?_; rintro e w1 ⟨rfl, ho1, hb1⟩))
  have cc : w1.cell? ⟨w.heap.size, v.toNat, none⟩ = some (.bool (Pl.conn L u v)) := conns_cell ho1 v0 v1
  have hB := undrew hb1
  clear ho1 hb1
  go_wp2
  go_ret2
  exact ⟨rfl, hB⟩

end Go.Proofs.YtjbhcmmoidmgfaaDoor
