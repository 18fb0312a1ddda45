import Derived.Test.YtnnnleckoinjoaaGreatDoorP21
import Derived.Test.YtnnnleckoinjoaaGreatDoorP8
namespace Go.Proofs.YtnnnleckoinjoaaGreatDoor
open Go.RowKit
open Pl (It)

set_option maxRecDepth 100000 in
set_option maxHeartbeats 2000000 in
theorem heavp_no (b n most : Nat) (live : List Bool) (ed L : List It) (u v : Int) (w : World) (hG : PG w b n most live ed) (hL : Pl.GL L live ed) (hl100 : L.length ≤ 100) (hn : n ≤ 30) (he : Pl.Ends n L) (hw : Pl.WB L) (code : Int)
    (h : (Pl.verB n u = false ∧ code = 3) ∨ (Pl.verB n u = true ∧ Pl.verB n v = false ∧ code = 3) ∨ (Pl.verB n u = true ∧ Pl.verB n v = true ∧ Pl.conn L u v = false ∧ code = 7)) :
    Calls Tryz.prog 58 #[.pointer (some ⟨b, 0, none⟩), .int .i64 u, .int .i64 v] w fun e w' => e = .returned (.tuple #[.int .i64 0, .int .i64 code]) ∧ Below w.heap.size w w' := by
  rcases h with ⟨h1, rfl⟩ | ⟨h1, h2, rfl⟩ | ⟨h1, h2, h3, rfl⟩
  · have hc := connp_no b n most live ed u v w hG (Or.inl h1)
    clear hG hL
    go_enter Tryz.func58, Tryz.ntmps58
    go_wp2_with fail
    refine hc.mono ?_
    rintro e w1 ⟨rfl, hb⟩
    clear hc
    go_wp2
    go_ret2
    exact ⟨rfl, hb⟩
  · have hc := connp_no b n most live ed u v w hG (Or.inr ⟨h1, h2⟩)
    clear hG hL
    go_enter Tryz.func58, Tryz.ntmps58
    go_wp2_with fail
    refine hc.mono ?_
    rintro e w1 ⟨rfl, hb⟩
    clear hc
    go_wp2
    go_ret2
    exact ⟨rfl, hb⟩
  · have hc := connp_ok b n most live ed L u v w hG hL hl100 hn he hw h1 h2
    rw [h3] at hc
    clear hG hL
    go_enter Tryz.func58, Tryz.ntmps58
    go_wp2_with fail
    refine hc.mono ?_
    rintro e w1 ⟨rfl, hb⟩
    clear hc
    go_wp2
    go_ret2
    exact ⟨rfl, hb⟩

set_option maxRecDepth 100000 in
set_option maxHeartbeats 2000000 in
theorem heavp_ok (b n most : Nat) (live : List Bool) (ed L : List It) (u v : Int) (w : World) (hG : PG w b n most live ed) (hL : Pl.GL L live ed) (hl100 : L.length ≤ 100) (hn : n ≤ 30) (he : Pl.Ends n L) (hw : Pl.WB L)
    (h1 : Pl.verB n u = true) (h2 : Pl.verB n v = true) (h3 : Pl.conn L u v = true) :
    Calls Tryz.prog 58 #[.pointer (some ⟨b, 0, none⟩), .int .i64 u, .int .i64 v] w fun e w' => e = .returned (.tuple #[.int .i64 (Pl.midI L u v), .int .i64 0]) ∧ Below w.heap.size w w' := by
  have hc := connp_ok b n most live ed L u v w hG hL hl100 hn he hw h1 h2
  rw [h3] at hc
  obtain ⟨u0, u1⟩ := Pl.verB_true.1 h1
  obtain ⟨v0, v1⟩ := Pl.verB_true.1 h2
  obtain ⟨ui, rfl⟩ := Int.eq_ofNat_of_zero_le u0
  obtain ⟨vi, rfl⟩ := Int.eq_ofNat_of_zero_le v0
  have hh := fun (W : World) (hW : Below w.heap.size w W) => heavb_any b n most live ed L ui vi (by omega) (by omega) W (hG.later hW (Nat.le_refl _)) hL hl100 hn he
  have HH := hide hh
  clear hG hL hh
  go_enter Tryz.func58, Tryz.ntmps58
  go_wp2_with fail
  refine hc.mono ?_
  rintro e w1 ⟨rfl, hb⟩
  clear hc
  go_wp2_with fail
  refine ((unhide HH) _ hb).mono ?_
  rintro e w2 ⟨rfl, hb2⟩
  go_wp2
  go_ret2
  exact ⟨rfl, hb.trans (hb2.mono hb.size)⟩

set_option maxRecDepth 100000 in
set_option maxHeartbeats 2000000 in
theorem otherp_no (b n most : Nat) (live : List Bool) (ed L : List It) (id : Int) (w : World) (hG : PG w b n most live ed) (hL : Pl.GL L live ed) (code : Int)
    (hc : (Pl.numB id = false ∧ code = 2) ∨ (Pl.numB id = true ∧ Pl.has L id = false ∧ code = 6)) :
    Calls Tryz.prog 60 #[.pointer (some ⟨b, 0, none⟩), .int .i64 id] w fun e w' => e = .returned (.tuple #[.int .i64 0, .int .i64 code]) ∧ Below w.heap.size w w' := by
  have hne : code ≠ 0 := by rcases hc with ⟨_, rfl⟩ | ⟨_, _, rfl⟩ <;> decide
  have hi := inp_no b n most live ed L id w hG hL code hc
  clear hG hL hc
  go_enter Tryz.func60, Tryz.ntmps60
  go_wp2_with fail
  refine hi.mono ?_
  rintro e w1 ⟨rfl, hb⟩
  clear hi
  go_wp2
  go_ret2
  exact ⟨rfl, hb⟩

end Go.Proofs.YtnnnleckoinjoaaGreatDoor
