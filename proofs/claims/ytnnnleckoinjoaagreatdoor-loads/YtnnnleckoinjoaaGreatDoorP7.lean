import Derived.Test.YtnnnleckoinjoaaGreatDoorP6
namespace Go.Proofs.YtnnnleckoinjoaaGreatDoor
open Go.RowKit
open Pl (It)

theorem live_has {L : List It} {live : List Bool} {ed : List It} (h : Pl.GL L live ed) (i : Nat) (hi : i < 100) (hl : live.length = 100) : live[i]'(by omega) = Pl.has L i := by
  have := h.live i hi
  rw [← this]
  simp [List.getD, show i < live.length by omega]

theorem zero50 : Tryz.zeroCells49 = falsev.toArray := by rfl
set_option maxRecDepth 100000 in
set_option maxHeartbeats 1000000 in
theorem checkEdge_any (b n most : Nat) (live : List Bool) (ed L : List It) (id : Int) (w : World) (hG : PG w b n most live ed) (hL : Pl.GL L live ed) (code : Int)
    (hc : (Pl.numB id = false ∧ code = 2) ∨ (Pl.numB id = true ∧ Pl.has L id = false ∧ code = 6) ∨ (Pl.numB id = true ∧ Pl.has L id = true ∧ code = 0)) :
    Calls Tryz.prog 76 #[.pointer (some ⟨b, 0, none⟩), .int .i64 id] w fun e w' => e = .returned (.int .i64 code) ∧ w = w' := by
  rcases hc with ⟨h1, rfl⟩ | ⟨h1, h4, rfl⟩ | ⟨h1, h4, rfl⟩
  · clear hG hL
    go_enter Tryz.func76, Tryz.ntmps76
    go_wp2_with (go_at_call 65; refine (isId_any _ _).mono ?_; rintro e w1 ⟨rfl, rfl⟩; rw [h1])
    go_ret
    exact ⟨rfl, rfl⟩
  all_goals
    obtain ⟨i0, i1⟩ := Pl.numB_true.1 h1
    obtain ⟨i, rfl⟩ := Int.eq_ofNat_of_zero_le i0
    have hi : i < 100 := by omega
    have cl := hG.cl i hi
    rw [live_has hL i hi hG.ll, h4] at cl
    clear hG hL
    go_enter Tryz.func76, Tryz.ntmps76
    go_wp2_with (go_at_call 65; refine (isId_any _ _).mono ?_; rintro e w1 ⟨rfl, rfl⟩; rw [h1])
    go_ret
    exact ⟨rfl, rfl⟩

set_option maxRecDepth 100000 in
set_option maxHeartbeats 2000000 in
theorem edgep_no (b n most : Nat) (live : List Bool) (ed L : List It) (id : Int) (w : World) (hG : PG w b n most live ed) (hL : Pl.GL L live ed) (code : Int)
    (hc : (Pl.numB id = false ∧ code = 2) ∨ (Pl.numB id = true ∧ Pl.has L id = false ∧ code = 6)) :
    Calls Tryz.prog 41 #[.pointer (some ⟨b, 0, none⟩), .int .i64 id] w fun e w' => e = .returned (.tuple #[.agg #[.int .i64 0, .int .i64 0, .int .i64 0], .int .i64 code]) ∧ Below w.heap.size w w' := by
  have hne : code ≠ 0 := by rcases hc with ⟨_, rfl⟩ | ⟨_, _, rfl⟩ <;> decide
  have hck := fun o => checkEdge_any b n most live ed L id (w.alloc o) (hG.alloc o) hL code (by rcases hc with h | h; exact Or.inl h; exact Or.inr (Or.inl h))
  have HK := hide hck
  clear hck hG hL hc
  go_enter Tryz.func41, Tryz.ntmps41
  go_wp2_with (go_at_call 76; refine ((unhide HK) _).mono ?_; rintro e w1 ⟨rfl, rfl⟩)
  exact bodyPost_ret (v := .tuple #[.agg #[.int .i64 0, .int .i64 0, .int .i64 0], .int .i64 code]) (by simp [results, Tryz.results41, go_sem]) rfl ⟨rfl, (Below.refl _ _).alloc (Nat.le_refl _) _⟩

set_option maxRecDepth 100000 in
set_option maxHeartbeats 2000000 in
theorem edgep_ok (b n most : Nat) (live : List Bool) (ed L : List It) (x : It) (hx : x ∈ L) (w : World) (hG : PG w b n most live ed) (hL : Pl.GL L live ed) :
    Calls Tryz.prog 41 #[.pointer (some ⟨b, 0, none⟩), .int .i64 x.id] w fun e w' => e = .returned (.tuple #[.agg #[.int .i64 x.u, .int .i64 x.v, .int .i64 x.w], .int .i64 0]) ∧ Below w.heap.size w w' := by
  have hbl := hG.blt
  have hbn : ¬ b = w.heap.size := by omega
  have hbn2 : ¬ w.heap.size = b := by omega
  obtain ⟨i0, i1⟩ := hL.rng x hx
  have h1 : Pl.numB x.id = true := Pl.numB_true.2 ⟨i0, i1⟩
  have h4 : Pl.has L x.id = true := Pl.has_iff.2 ⟨x, hx, rfl⟩
  have hex := hL.ed x hx
  obtain ⟨i, hi'⟩ := Int.eq_ofNat_of_zero_le i0
  rw [hi'] at h1 h4 hex ⊢
  rw [Int.toNat_natCast] at hex
  have hi : i < 100 := by omega
  have hi1 : (i : Int) < 100 := by omega
  obtain ⟨hxe, exe⟩ := List.getElem?_eq_some_iff.1 hex
  obtain ⟨e0, e1, e2⟩ := hG.ce i hxe
  rw [exe] at e0 e1 e2
  have HK := hide (fun o => checkEdge_any b n most live ed L i (w.alloc o) (hG.alloc o) hL 0 (Or.inr (Or.inr ⟨h1, h4, rfl⟩)))
  clear hL hex exe hi' hx hG h1 h4
  go_enter Tryz.func41, Tryz.ntmps41
  go_wp2_with (go_at_call 76; refine ((unhide HK) _).mono ?_; rintro e w1 ⟨rfl, rfl⟩)
  exact bodyPost_ret (v := .tuple #[.agg #[.int .i64 x.u, .int .i64 x.v, .int .i64 x.w], .int .i64 0]) (by simp [results, Tryz.results41, go_sem]) rfl ⟨rfl, (Below.refl _ _).alloc (Nat.le_refl _) _⟩

theorem row_new50 (w : World) : RowAt (w.alloc (.cells Tryz.zeroCells49 49)) w.heap.size 49 falsev := by rw [zero50]; exact row_new w _ _
theorem run_store50 (w1 : World) (l : List Bool) (hl : l.length = 100) :
    (storeCells ⟨w1.heap.size, 0, none⟩ (l.map Value.bool)).run Tryz.prog (w1.alloc (.cells Tryz.zeroCells49 49)) = .ok () ((w1.alloc (.cells Tryz.zeroCells49 49)).setCells w1.heap.size 0 (l.map Value.bool)) := by
  have hr := row_new50 w1
  have hlen : falsev.length = 100 := by decide
  refine run_storeCells_cells (P := Tryz.prog) w1.heap.size 0 (l.map Value.bool) 0 _ (fun j hj => ?_) (fun j _ => hr.free _) (fun v hv => ?_)
  · rw [List.length_map] at hj
    rw [hr.cell (0 + 0 + j) (by rw [hlen]; omega)]; rfl
  · rw [List.mem_map] at hv; obtain ⟨x, _, rfl⟩ := hv; rfl
theorem bitsv_one (l : List Bool) : ∀ v ∈ l.map Value.bool, v.oneCell' = true := by
  intro v hv; rw [List.mem_map] at hv; obtain ⟨x, _, rfl⟩ := hv; rfl

set_option maxRecDepth 100000 in
set_option maxHeartbeats 400000 in
theorem forestp_any (b n most : Nat) (live : List Bool) (ed L : List It) (w : World) (hG : PG w b n most live ed) (hL : Pl.GL L live ed) (hl100 : L.length ≤ 100) (hn : n ≤ 30) (he : Pl.Ends n L) :
    Calls Tryz.prog 50 #[.pointer (some ⟨b, 0, none⟩)] w fun e w' => ∃ v, e = .returned v ∧ Nums w' w.heap.size v ((Pl.forest L).map It.id) ∧ Below w.heap.size w w' := by
  have hmk : Pl.marks (Pl.bits (Pl.forest L)) 100 = (Pl.forest L).map It.id := Pl.marks_bits (Pl.forest_ids hL.ids) (Pl.forest_rng hL.rng) _ (fun i hi => Pl.bits_get _ i hi)
  go_enter Tryz.func50, Tryz.ntmps50
  go_wp2_with fail
  refine (cheapest_any b n most live ed L _ hG hL hl100 hn he).mono ?_
  rintro e w1 ⟨rfl, hb1⟩
  have hrn := row_new50 w1
  have hst := RowAt.whole (ys := (Pl.bits (Pl.forest L)).map Value.bool) hrn (by rw [List.length_map, Pl.bits_len]; decide)
  have hsz := hb1.size
  have hB : Below w.heap.size w ((w1.alloc (.cells Tryz.zeroCells49 49)).setCells w1.heap.size 0 ((Pl.bits (Pl.forest L)).map Value.bool)) := below_setCells hsz _ _ _ (hb1.alloc hsz _)
  have hbl := Pl.bits_len (Pl.forest L)
  have hrun := run_store50 w1 (Pl.bits (Pl.forest L)) hbl
  generalize ((w1.alloc (.cells Tryz.zeroCells49 49)).setCells w1.heap.size 0 ((Pl.bits (Pl.forest L)).map Value.bool)) = W at hst hB hrun
  have HM := hide hmk
  clear hG hL hmk hrn
  go_wp2_with fail
  refine wp_load_row 49 (.tmp 3) rfl w1.heap.size rfl 49 _ (0, 0) _ hst Tryz.underlying49 rfl (by rw [List.size_toArray, List.length_map, hbl]; exact infoArrB) ?_
  go_wp2_with fail
  refine (marked_any (Pl.bits (Pl.forest L)) hbl _).mono ?_
  rintro e w2 ⟨v, rfl, hN, hb2⟩
  go_wp2
  go_ret
  have hs2 := hB.size
  rw [unhide HM] at hN
  exact ⟨_, rfl, row_mono hN hs2, hB.trans (hb2.mono hs2)⟩

end Go.Proofs.YtnnnleckoinjoaaGreatDoor
