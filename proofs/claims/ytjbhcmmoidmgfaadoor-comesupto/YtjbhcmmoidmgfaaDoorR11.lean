import Derived.Test.YtjbhcmmoidmgfaaDoorR10
namespace Go.Proofs.YtjbhcmmoidmgfaaDoor
open Go.RowKit
open Pl (It)

theorem res3_cells {w2 : World} {r t : Nat} {v0 v1 v2 : Value} (x y z : Value) (hr : w2.heap[r]? = some (.cells #[v0, v1, v2] t (0, 0))) (o : Obj) :
    ((((w2.setCell ⟨r, 0, none⟩ x).setCell ⟨r, 1, none⟩ y).setCell ⟨r, 2, none⟩ z).alloc o).cell? ⟨r, 0, none⟩ = some x ∧ ((((w2.setCell ⟨r, 0, none⟩ x).setCell ⟨r, 1, none⟩ y).setCell ⟨r, 2, none⟩ z).alloc o).cell? ⟨r, 1, none⟩ = some y ∧ ((((w2.setCell ⟨r, 0, none⟩ x).setCell ⟨r, 1, none⟩ y).setCell ⟨r, 2, none⟩ z).alloc o).cell? ⟨r, 2, none⟩ = some z := by
  have h1 := heap_setCell_same w2 r 0 _ _ x hr
  have h2 := heap_setCell_same _ r 1 _ _ y h1
  have h3 := heap_setCell_same _ r 2 _ _ z h2
  have h4 : ((((w2.setCell ⟨r, 0, none⟩ x).setCell ⟨r, 1, none⟩ y).setCell ⟨r, 2, none⟩ z).alloc o).heap[r]? = some (.cells #[x, y, z] t (0, 0)) := by
    rw [Below.heap_alloc _ _ _ (lt_of_block h3)]; rw [h3]; rfl
  obtain ⟨c0, c1, c2, _⟩ := three_cells h4
  exact ⟨c0, c1, c2⟩

set_option maxRecDepth 100000 in
set_option maxHeartbeats 2000000 in
theorem edger_no (b n most : Nat) (L : List It) (past : List (List It)) (p : Option Nat) (id : Int) (w : World) (hG : RG w b n most L past p) (hL : L.length ≤ 100) (code : Int)
    (hc : (Pl.numB id = false ∧ code = 2) ∨ (Pl.numB id = true ∧ Pl.has L id = false ∧ code = 6)) :
    Calls Tryd.prog 26 #[.pointer (some ⟨b, 0, none⟩), .int .i64 id] w fun e w' => e = .returned (.tuple #[.agg #[.int .i64 0, .int .i64 0, .int .i64 0], .int .i64 code]) ∧ Below w.heap.size w w' := by
  have hG1 : RG (w.alloc (.cells #[.int .i64 0, .int .i64 0, .int .i64 0] 52)) b n most L past p := hG.later ((Below.refl _ _).alloc (Nat.le_refl _) _)
  have hcode : (code != 0) = true := by rcases hc with ⟨_, rfl⟩ | ⟨_, _, rfl⟩ <;> rfl
  go_enter Tryd.func26, Tryd.ntmps26
  go_wp2_with fail
  refine (asked_no b n most L past p id _ hG1 hL code hc).mono ?_
  rintro e w1 ⟨rfl, hb⟩
  simp only [World.size_alloc] at hb
  have hres := made_later hb (by omega)
  obtain ⟨r0, r1, r2, rf⟩ := three_cells hres
  have rf0 := rf 0
  have rf1 := rf 1
  have rf2 := rf 2
  have hs := lt_of_block hres
  have hne1 : ¬ w.heap.size = w1.heap.size := by omega
  have hne2 : ¬ w1.heap.size = w.heap.size := by omega
  have HR := hide hres
  clear hc hres rf hG hG1
  go_wp2
  have z := res3_cells (.int .i64 0) (.int .i64 0) (.int .i64 0) (unhide HR)
  exact bodyPost_ret (v := .tuple #[.agg #[.int .i64 0, .int .i64 0, .int .i64 0], .int .i64 code]) (by simp [results, Tryd.results26, go_sem, (z _).1, (z _).2.1, (z _).2.2]) rfl ⟨rfl, (((((((Below.refl _ _).alloc (Nat.le_refl _) _).trans (hb.mono (by omega)))).setCell (Nat.le_refl _) _).setCell (Nat.le_refl _) _).setCell (Nat.le_refl _) _).alloc (by simp; omega) _⟩

set_option maxRecDepth 100000 in
set_option maxHeartbeats 2000000 in
theorem edger_ok (b n most : Nat) (L : List It) (past : List (List It)) (p : Option Nat) (id : Int) (w : World) (hG : RG w b n most L past p) (hL : L.length ≤ 100) (h1 : Pl.numB id = true) (h4 : Pl.has L id = true) :
    Calls Tryd.prog 26 #[.pointer (some ⟨b, 0, none⟩), .int .i64 id] w fun e w' => ∃ (k : Nat) (hk : k < L.length), L[k].id = id ∧ e = .returned (.tuple #[.agg #[.int .i64 L[k].u, .int .i64 L[k].v, .int .i64 L[k].w], .int .i64 0]) ∧ Below w.heap.size w w' := by
  have hG1 : RG (w.alloc (.cells #[.int .i64 0, .int .i64 0, .int .i64 0] 52)) b n most L past p := hG.later ((Below.refl _ _).alloc (Nat.le_refl _) _)
  go_enter Tryd.func26, Tryd.ntmps26
  go_wp2_with fail
  refine (asked_ok b n most L past p id _ hG1 hL h1 h4).mono ?_
  rintro e w1 ⟨k, hk, hkid, rfl, hb⟩
  have HK := hide hkid
  clear hkid
  simp only [World.size_alloc] at hb
  have hres := made_later hb (by omega)
  obtain ⟨r0, r1, r2, rf⟩ := three_cells hres
  have rf0 := rf 0
  have rf1 := rf 1
  have rf2 := rf 2
  have hs := lt_of_block hres
  have hne1 : ¬ w.heap.size = w1.heap.size := by omega
  have hne2 : ¬ w1.heap.size = w.heap.size := by omega
  have HR := hide hres
  clear hres rf hG hG1
  go_wp2
  have z := res3_cells (.int .i64 L[k].u) (.int .i64 L[k].v) (.int .i64 L[k].w) (unhide HR)
  exact bodyPost_ret (v := .tuple #[.agg #[.int .i64 L[k].u, .int .i64 L[k].v, .int .i64 L[k].w], .int .i64 0]) (by simp [results, Tryd.results26, go_sem, (z _).1, (z _).2.1, (z _).2.2]) rfl ⟨k, hk, unhide HK, rfl, (((((((Below.refl _ _).alloc (Nat.le_refl _) _).trans (hb.mono (by omega)))).setCell (Nat.le_refl _) _).setCell (Nat.le_refl _) _).setCell (Nat.le_refl _) _).alloc (by simp; omega) _⟩

set_option maxRecDepth 100000 in
set_option maxHeartbeats 2000000 in
theorem inr_no (b n most : Nat) (L : List It) (past : List (List It)) (p : Option Nat) (id : Int) (w : World) (hG : RG w b n most L past p) (hL : L.length ≤ 100) (code : Int)
    (hc : (Pl.numB id = false ∧ code = 2) ∨ (Pl.numB id = true ∧ Pl.has L id = false ∧ code = 6)) :
    Calls Tryd.prog 28 #[.pointer (some ⟨b, 0, none⟩), .int .i64 id] w fun e w' => e = .returned (.tuple #[.bool false, .int .i64 code]) ∧ Below w.heap.size w w' := by
  have hcode : (code != 0) = true := by rcases hc with ⟨_, rfl⟩ | ⟨_, _, rfl⟩ <;> rfl
  go_enter Tryd.func28, Tryd.ntmps28
  go_wp2_with fail
  refine (asked_no b n most L past p id _ hG hL code hc).mono ?_
  rintro e w1 ⟨rfl, hb⟩
  have hs := hb.size
  clear hc hG
  go_wp2
  go_ret2
  exact ⟨rfl, hb.alloc hs _⟩

set_option maxRecDepth 100000 in
set_option maxHeartbeats 2000000 in
theorem inr_ok (b n most : Nat) (L : List It) (past : List (List It)) (p : Option Nat) (id : Int) (w : World) (hG : RG w b n most L past p) (hL : L.length ≤ 100) (hn : n ≤ 30) (he : Pl.Ends n L) (h1 : Pl.numB id = true) (h4 : Pl.has L id = true) :
    Calls Tryd.prog 28 #[.pointer (some ⟨b, 0, none⟩), .int .i64 id] w fun e w' => ∃ (k : Nat) (hk : k < L.length), L[k].id = id ∧ e = .returned (.tuple #[.bool (Pl.keeps L L[k]), .int .i64 0]) ∧ Below w.heap.size w w' := by
  go_enter Tryd.func28, Tryd.ntmps28
  go_wp2_with fail
  refine (asked_ok b n most L past p id _ hG hL h1 h4).mono ?_
  rintro e w1 ⟨k, hk, hkid, rfl, hb⟩
  have HK := hide hkid
  clear hkid
  obtain ⟨u0, u1, v0, v1⟩ := he L[k] (List.getElem_mem hk)
  have hG1 := hG.later hb
  obtain ⟨a, cap, vP, c0, c1, c2, c3, hI, hbl⟩ := rg_open hG1
  have hs := hb.size
  have hbne : ¬ b = w1.heap.size := by omega
  have hbne2 : ¬ w1.heap.size = b := by omega
  clear hG hG1
  go_wp2_with fail
  go_region_held3 (fun w' => w'.cell? ⟨b, 0, none⟩ = some (.int .i64 n) ∧ w'.cell? ⟨b, 2, none⟩ = some (.slice a L.length cap) ∧ w'.cell? ⟨w1.heap.size, 0, none⟩ = some (.int .i64 L[k].id) ∧ w'.cell? ⟨w1.heap.size, 1, none⟩ = some (.int .i64 L[k].u) ∧ w'.cell? ⟨w1.heap.size, 2, none⟩ = some (.int .i64 L[k].v) ∧ w'.cell? ⟨w1.heap.size, 3, none⟩ = some (.int .i64 L[k].w))
    (first | go_keep | (go_split_ands; refine ⟨?_, ?_, ?_, ?_, ?_, ?_⟩ <;> (refine cell_later hb2 ?_; first | assumption | simp [*])))
    (first | (go_at_call 69; refine (keeps_any n L L[k] a cap _ (by exact World.ownsRow.alloc hI _) hL hn he u0 u1 v0 v1).mono ?_; rintro e w2 ⟨rfl, hb2⟩))
  go_wp2
  go_ret2
  exact ⟨k, hk, unhide HK, rfl, (hb.alloc hs _).drew.trans (hb2.mono (by simp; omega))⟩

end Go.Proofs.YtjbhcmmoidmgfaaDoor
