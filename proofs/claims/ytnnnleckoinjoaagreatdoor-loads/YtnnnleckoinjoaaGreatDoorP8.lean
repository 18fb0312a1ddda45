import Derived.Test.YtnnnleckoinjoaaGreatDoorP7
namespace Go.Proofs.YtnnnleckoinjoaaGreatDoor
open Go.RowKit
open Pl (It)

set_option maxRecDepth 100000 in
set_option maxHeartbeats 2000000 in
theorem inp_no (b n most : Nat) (live : List Bool) (ed L : List It) (id : Int) (w : World) (hG : PG w b n most live ed) (hL : Pl.GL L live ed) (code : Int)
    (hc : (Pl.numB id = false ∧ code = 2) ∨ (Pl.numB id = true ∧ Pl.has L id = false ∧ code = 6)) :
    Calls Tryz.prog 43 #[.pointer (some ⟨b, 0, none⟩), .int .i64 id] w fun e w' => e = .returned (.tuple #[.bool false, .int .i64 code]) ∧ Below w.heap.size w w' := by
  have hne : code ≠ 0 := by rcases hc with ⟨_, rfl⟩ | ⟨_, _, rfl⟩ <;> decide
  have HK := hide (checkEdge_any b n most live ed L id w hG hL code (by rcases hc with h | h; exact Or.inl h; exact Or.inr (Or.inl h)))
  clear hG hL hc
  go_enter Tryz.func43, Tryz.ntmps43
  go_wp2_with (go_at_call 76; refine (unhide HK).mono ?_; rintro e w1 ⟨rfl, rfl⟩)
  go_ret2
  exact ⟨rfl, Below.refl _ _⟩

theorem has_forest {L : List It} {x : It} (hi : Pl.Ids L) (hx : x ∈ L) : Pl.has (Pl.forest L) x.id = Pl.keeps L x := by
  rw [Bool.eq_iff_iff, Pl.has_iff]
  constructor
  · rintro ⟨e, he, h2⟩
    have := List.mem_filter.1 he
    rw [← Pl.ids_inj hi this.1 hx h2]; exact this.2
  · intro h; exact ⟨x, List.mem_filter.2 ⟨hx, h⟩, rfl⟩

set_option maxRecDepth 100000 in
set_option maxHeartbeats 2000000 in
theorem inp_ok (b n most : Nat) (live : List Bool) (ed L : List It) (x : It) (hx : x ∈ L) (w : World) (hG : PG w b n most live ed) (hL : Pl.GL L live ed) (hl100 : L.length ≤ 100) (hn : n ≤ 30) (he : Pl.Ends n L) :
    Calls Tryz.prog 43 #[.pointer (some ⟨b, 0, none⟩), .int .i64 x.id] w fun e w' => e = .returned (.tuple #[.bool (Pl.keeps L x), .int .i64 0]) ∧ Below w.heap.size w w' := by
  obtain ⟨i0, i1⟩ := hL.rng x hx
  have h1 : Pl.numB x.id = true := Pl.numB_true.2 ⟨i0, i1⟩
  have h4 : Pl.has L x.id = true := Pl.has_iff.2 ⟨x, hx, rfl⟩
  have hf := has_forest hL.ids hx
  obtain ⟨i, hi'⟩ := Int.eq_ofNat_of_zero_le i0
  rw [hi'] at h1 h4 hf ⊢
  have hi : i < 100 := by omega
  have hi1 : (i : Int) < 100 := by omega
  have HK := hide (checkEdge_any b n most live ed L i w hG hL 0 (Or.inr (Or.inr ⟨h1, h4, rfl⟩)))
  go_enter Tryz.func43, Tryz.ntmps43
  go_wp2_with (go_at_call 76; refine (unhide HK).mono ?_; rintro e w1 ⟨rfl, rfl⟩)
  refine (cheapest_any b n most live ed L _ hG hL hl100 hn he).mono ?_
  rintro e w1 ⟨rfl, hb1⟩
  have hrn := row_new50 w1
  have hst := RowAt.whole (ys := (Pl.bits (Pl.forest L)).map Value.bool) hrn (by rw [List.length_map, Pl.bits_len]; decide)
  have hsz := hb1.size
  have hB : Below w.heap.size w ((w1.alloc (.cells Tryz.zeroCells49 49)).setCells w1.heap.size 0 ((Pl.bits (Pl.forest L)).map Value.bool)) := below_setCells hsz _ _ _ (hb1.alloc hsz _)
  have hbl := Pl.bits_len (Pl.forest L)
  have hrun := run_store50 w1 (Pl.bits (Pl.forest L)) hbl
  generalize ((w1.alloc (.cells Tryz.zeroCells49 49)).setCells w1.heap.size 0 ((Pl.bits (Pl.forest L)).map Value.bool)) = W at hst hB hrun
  have cc := boolcell hst i (by rw [hbl]; exact hi)
  have e2 : (Pl.bits (Pl.forest L))[i]'(by rw [hbl]; exact hi) = Pl.keeps L x := by rw [← hf]; simp [Pl.bits]
  rw [e2] at cc
  have HB := hide hB
  clear hG hL hrn hst hB e2 hf h4 hi' hbl hx HK
  go_wp2
  go_ret2
  exact ⟨rfl, unhide HB⟩

set_option maxRecDepth 100000 in
set_option maxHeartbeats 2000000 in
theorem compp_any (b n most : Nat) (live : List Bool) (ed L : List It) (w : World) (hG : PG w b n most live ed) (hL : Pl.GL L live ed) (hl100 : L.length ≤ 100) (hn : n ≤ 30) (he : Pl.Ends n L) :
    Calls Tryz.prog 52 #[.pointer (some ⟨b, 0, none⟩)] w fun e w' => e = .returned (.int .i64 (Pl.parts n L)) ∧ Below w.heap.size w w' := by
  have hcomp := Pl.comps hL.ids he
  go_enter Tryz.func52, Tryz.ntmps52
  go_wp2_with fail
  refine (forestp_any b n most live ed L _ hG hL hl100 hn he).mono ?_
  rintro e w1 ⟨v, rfl, hN, hb⟩
  obtain ⟨a, cap, rfl⟩ := row_form hN
  rw [List.length_map]
  have c0 := (hG.later hb (Nat.le_refl _)).c0
  have hpl := Pl.parts_le n L
  have hfl : (Pl.forest L).length ≤ 100 := Nat.le_trans (List.length_filter_le _ _) hl100
  have HC := hide hcomp
  clear hcomp hG hL hN
  go_wp2
  go_ret
  exact ⟨ret_int (by have := unhide HC; omega), hb⟩

end Go.Proofs.YtnnnleckoinjoaaGreatDoor
