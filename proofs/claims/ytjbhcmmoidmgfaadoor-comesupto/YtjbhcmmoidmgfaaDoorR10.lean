import Derived.Test.YtjbhcmmoidmgfaaDoorR9
namespace Go.Proofs.YtjbhcmmoidmgfaaDoor
open Go.RowKit
open Pl (It)

theorem four_setCells {w : World} {b t : Nat} {v0 v1 v2 v3 : Value} (h : w.heap[b]? = some (.cells #[v0, v1, v2, v3] t (0, 0))) (x0 x1 x2 x3 : Value) :
    ((((w.setCell ⟨b, 0, none⟩ x0).setCell ⟨b, 1, none⟩ x1).setCell ⟨b, 2, none⟩ x2).setCell ⟨b, 3, none⟩ x3).heap[b]? = some (.cells #[x0, x1, x2, x3] t (0, 0)) := by
  have h1 := heap_setCell_same w b 0 _ _ x0 h
  have h2 := heap_setCell_same _ b 1 _ _ x1 h1
  have h3 := heap_setCell_same _ b 2 _ _ x2 h2
  have h4 := heap_setCell_same _ b 3 _ _ x3 h3
  rw [h4]; rfl

set_option maxRecDepth 100000 in
set_option maxHeartbeats 2000000 in
theorem asked_no (b n most : Nat) (L : List It) (past : List (List It)) (p : Option Nat) (id : Int) (w : World) (hG : RG w b n most L past p) (hL : L.length ≤ 100) (code : Int)
    (hc : (Pl.numB id = false ∧ code = 2) ∨ (Pl.numB id = true ∧ Pl.has L id = false ∧ code = 6)) :
    Calls Tryd.prog 64 #[.pointer (some ⟨b, 0, none⟩), .int .i64 id] w fun e w' => e = .returned (.tuple #[.agg #[.int .i64 0, .int .i64 0, .int .i64 0, .int .i64 0], .int .i64 code]) ∧ Below w.heap.size w w' := by
  obtain ⟨a, cap, vP, c0, c1, c2, c3, hI, hbl⟩ := rg_open hG
  have hbne : ¬ b = w.heap.size := by omega
  have hbne2 : ¬ w.heap.size = b := by omega
  have hIa : Its (w.alloc (.cells #[.int .i64 0, .int .i64 0, .int .i64 0, .int .i64 0] 88)) 0 (.slice a L.length cap) L := World.ownsRow.alloc hI _
  clear hG
  rcases hc with ⟨h1, rfl⟩ | ⟨h1, h4, rfl⟩
  · go_enter Tryd.func64, Tryd.ntmps64
    go_wp2_with (first
      | (go_at_call 58; refine (number_any _ _).mono ?_; rintro e w1 ⟨rfl, rfl⟩; rw [h1]))
    exact bodyPost_ret (v := .tuple #[.agg #[.int .i64 0, .int .i64 0, .int .i64 0, .int .i64 0], .int .i64 2]) (by simp [results, Tryd.results64, go_sem]) rfl ⟨rfl, (Below.refl _ _).alloc (Nat.le_refl _) _⟩
  · go_enter Tryd.func64, Tryd.ntmps64
    go_wp2_with (first
      | (go_at_call 58; refine (number_any _ _).mono ?_; rintro e w1 ⟨rfl, rfl⟩; rw [h1])
      | (go_at_call 60; refine (find_any L id a cap _ hIa hL).mono ?_; rintro e w1 ⟨r, rfl, hr, rfl⟩; have hr0 := (Pl.findIs_has hr).2.1 h4; have HR := hide hr; clear hr))
    exact bodyPost_ret (v := .tuple #[.agg #[.int .i64 0, .int .i64 0, .int .i64 0, .int .i64 0], .int .i64 6]) (by simp [results, Tryd.results64, go_sem]) rfl ⟨rfl, (Below.refl _ _).alloc (Nat.le_refl _) _⟩

theorem findIs_at {L : List It} {id r : Int} (h : Pl.FindIs L id r) (hh : Pl.has L id = true) : ∃ (k : Nat) (hk : k < L.length), r = k ∧ L[k].id = id := by
  rcases h with ⟨rfl, h⟩ | h
  · rw [Pl.has_false.2 h] at hh; cases hh
  · exact h

set_option maxRecDepth 100000 in
set_option maxHeartbeats 2000000 in
theorem asked_ok (b n most : Nat) (L : List It) (past : List (List It)) (p : Option Nat) (id : Int) (w : World) (hG : RG w b n most L past p) (hL : L.length ≤ 100) (h1 : Pl.numB id = true) (h4 : Pl.has L id = true) :
    Calls Tryd.prog 64 #[.pointer (some ⟨b, 0, none⟩), .int .i64 id] w fun e w' => ∃ (k : Nat) (hk : k < L.length), L[k].id = id ∧ e = .returned (.tuple #[itv L[k], .int .i64 0]) ∧ Below w.heap.size w w' := by
  obtain ⟨a, cap, vP, c0, c1, c2, c3, hI, hbl⟩ := rg_open hG
  have hbne : ¬ b = w.heap.size := by omega
  have hbne2 : ¬ w.heap.size = b := by omega
  have hIa : Its (w.alloc (.cells #[.int .i64 0, .int .i64 0, .int .i64 0, .int .i64 0] 88)) 0 (.slice a L.length cap) L := World.ownsRow.alloc hI _
  clear hG
  obtain ⟨g, rfl⟩ := row_some hI (by obtain ⟨e, he, _⟩ := Pl.has_iff.1 h4; exact List.length_pos_of_mem he)
  have hgl : g < w.heap.size := (World.ownsRow.lt hI g rfl).2
  have hgne : ¬ g = w.heap.size := by omega
  have hgne2 : ¬ w.heap.size = g := by omega
  go_enter Tryd.func64, Tryd.ntmps64
  go_wp2_with (go_at_call 58; refine (number_any _ _).mono ?_; rintro e w1 ⟨rfl, rfl⟩; rw [h1])
  refine (find_any L id _ cap _ hIa hL).mono ?_
  rintro e w1 ⟨r, rfl, hr, rfl⟩
  obtain ⟨k, hk, rfl, hkid⟩ := findIs_at hr h4
  have HK := hide hkid
  clear hr hkid
  have hk1 : (0 : Int) ≤ k := by omega
  have hk2 : (k : Int) < L.length := by omega
  obtain ⟨e0, e1, e2, e3⟩ := its_cells hI k hk
  go_wp2
  exact bodyPost_ret (v := .tuple #[itv L[k], .int .i64 0]) (by simp [results, Tryd.results64, go_sem]) rfl ⟨k, hk, unhide HK, rfl, (Below.refl _ _).alloc (Nat.le_refl _) _⟩

end Go.Proofs.YtjbhcmmoidmgfaaDoor
