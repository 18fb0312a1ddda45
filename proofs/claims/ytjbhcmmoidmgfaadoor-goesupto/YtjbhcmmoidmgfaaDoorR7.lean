import Derived.Test.YtjbhcmmoidmgfaaDoorR6
import Derived.Test.YtjbhcmmoidmgfaaDoorGr
namespace Go.Proofs.YtjbhcmmoidmgfaaDoor
open Go.RowKit
open Pl (It)

set_option maxHeartbeats 400000 in
theorem number_any (id : Int) (w : World) :
    Calls Tryd.prog 58 #[.int .i64 id] w fun e w' => e = .returned (.bool (Pl.numB id)) ∧ w = w' := by
  go_enter Tryd.func58, Tryd.ntmps58
  go_wp2
  all_goals go_ret
  all_goals exact ⟨ret_bool (by rw [Bool.eq_iff_iff, Pl.numB_true]; simp; try omega), rfl⟩

set_option maxHeartbeats 400000 in
theorem vertex_any (b n : Nat) (u : Int) (w : World) (h0 : w.cell? ⟨b, 0, none⟩ = some (.int .i64 n)) :
    Calls Tryd.prog 59 #[.pointer (some ⟨b, 0, none⟩), .int .i64 u] w fun e w' => e = .returned (.bool (Pl.verB n u)) ∧ w = w' := by
  go_enter Tryd.func59, Tryd.ntmps59
  go_wp2
  all_goals go_ret
  all_goals exact ⟨ret_bool (by rw [Bool.eq_iff_iff, Pl.verB_true]; simp; try omega), rfl⟩

theorem forest_len (l : List It) : (Pl.forest l).length ≤ l.length := List.length_filter_le _ _

set_option maxRecDepth 100000 in
set_option maxHeartbeats 1000000 in
theorem change_any (n : Nat) (l m : List It) (a a2 : Option Addr) (cap cap2 : Nat) (w : World) (h : Its w 0 (.slice a l.length cap) l) (hl : l.length ≤ 100) (h2 : Its w 0 (.slice a2 m.length cap2) m) (hm : m.length ≤ 100) (hn : n ≤ 30) (he : Pl.Ends n l) (he2 : Pl.Ends n m) :
    Calls Tryd.prog 67 #[.int .i64 n, .slice a l.length cap, .slice a2 m.length cap2] w fun e w' =>
      e = .returned (.agg #[.int .i64 (Pl.only (Pl.forest m) (Pl.forest l)), .int .i64 (Pl.only (Pl.forest l) (Pl.forest m))]) ∧ Below w.heap.size w w' := by
  have hfl := forest_len l
  have hfm := forest_len m
  go_enter Tryd.func67, Tryd.ntmps67
  go_wp2_with fail
  refine (forest_any n l a cap _ (by exact (World.ownsRow.alloc h _)) hl hn he).mono ?_
  rintro e w1 ⟨v1, rfl, o1, b1⟩
  obtain ⟨a1, c1, rfl⟩ := row_form o1
  go_wp2_with fail
  refine (forest_any n m a2 cap2 _ (by exact Its.later (World.ownsRow.alloc h2 _) b1 (Nat.le_refl _)) hm hn he2).mono ?_
  rintro e w2 ⟨v2, rfl, o2, b2⟩
  obtain ⟨a3, c3, rfl⟩ := row_form o2
  have o1' := Its.later o1 b2 (Nat.le_refl _)
  go_wp2_with fail
  refine (only_any (Pl.forest m) (Pl.forest l) a3 a1 c3 c1 _ (by exact row_mono o2 (Nat.zero_le _)) (by omega) (by exact row_mono o1' (Nat.zero_le _)) (by omega)).mono ?_
  rintro e w3 ⟨rfl, rfl⟩
  go_wp2_with fail
  refine (only_any (Pl.forest l) (Pl.forest m) a1 a3 c1 c3 _ (by exact row_mono o1' (Nat.zero_le _)) (by omega) (by exact row_mono o2 (Nat.zero_le _)) (by omega)).mono ?_
  rintro e w4 ⟨rfl, rfl⟩
  have hsz1 := b1.size
  simp only [World.size_alloc] at b1 hsz1
  have hB := b1.trans (b2.mono (by omega))
  obtain ⟨r0, r1, rf⟩ := two_cells (made_later hB (by omega))
  have rf0 := rf 0
  have rf1 := rf 1
  clear rf o1 o2 o1' b1 b2
  go_wp2
  exact bodyPost_ret (v := .agg #[.int .i64 (Pl.only (Pl.forest m) (Pl.forest l)), .int .i64 (Pl.only (Pl.forest l) (Pl.forest m))]) (by simp [results, Tryd.results67, go_sem, r0, r1]) rfl ⟨rfl, ((((Below.refl _ _).alloc (Nat.le_refl _) _).trans (hB.mono (by omega))).setCell (Nat.le_refl _) _).setCell (Nat.le_refl _) _⟩

end Go.Proofs.YtjbhcmmoidmgfaaDoor
