import Derived.Test.YtnnnleckoinjoaaGreatDoorP19
namespace Go.Proofs.YtnnnleckoinjoaaGreatDoor
open Go.RowKit
open Pl (It)

set_option maxRecDepth 100000 in
set_option maxHeartbeats 2000000 in
theorem reachp_no (b n most : Nat) (live : List Bool) (ed : List It) (u x : Int) (w : World) (hG : PG w b n most live ed) (h1 : Pl.verB n u = false) :
    Calls Tryz.prog 62 #[.pointer (some ⟨b, 0, none⟩), .int .i64 u, .int .i64 x] w fun e w' => e = .returned (.tuple #[.int .i64 0, .int .i64 3]) ∧ Below w.heap.size w w' := by
  have c0 := hG.c0
  clear hG
  go_enter Tryz.func62, Tryz.ntmps62
  go_wp2_with (go_at_call 66; refine (isVertex_any b n _ _ c0).mono ?_; rintro e w1 ⟨rfl, rfl⟩; (try rw [h1]))
  go_ret2
  exact ⟨rfl, Below.refl _ _⟩

/-- parts that came out of a call, laid into a variable -/
theorem parts_laid {w w1 : World} (m : List It) (hb1 : Below w.heap.size w w1) :
    Hid ((w1.alloc (.cells (ofc (upTo 0)).toArray 116)).there w1.heap.size 0 (ofc (labs m)).toArray.size) ∧ Hid ((Tryz.prog.info? 116).map (·.size) = some (ofc (labs m)).toArray.size) ∧ Hid ((ofc (labs m)).toArray.all (·.oneCell') = true) ∧
    Hid (RowAt ((w1.alloc (.cells (ofc (upTo 0)).toArray 116)).setCells w1.heap.size 0 (ofc (labs m))) w1.heap.size 116 (ofc (labs m)) ∧ Below w.heap.size w ((w1.alloc (.cells (ofc (upTo 0)).toArray 116)).setCells w1.heap.size 0 (ofc (labs m)))) := by
  have hrn := row_new w1 116 (ofc (upTo 0))
  refine ⟨?_, ?_, all_oneCell_toArray (ofc_one _), ?_, ?_⟩
  · show World.there _ _ _ _
    rw [ofc_size _ (labs_len _)]; exact hrn.there 0 30 (by decide)
  · show _ = _
    rw [ofc_size _ (labs_len _)]; exact infoParts
  · exact RowAt.whole (ys := ofc (labs m)) hrn (by rw [ofc_length, ofc_length, labs_len, upTo_len])
  · exact below_setCells hb1.size _ _ _ (hb1.alloc hb1.size _)

set_option maxRecDepth 100000 in
set_option maxHeartbeats 2000000 in
theorem reachp_ok (b n most : Nat) (live : List Bool) (ed L : List It) (u x : Int) (w : World) (hG : PG w b n most live ed) (hL : Pl.GL L live ed) (hl100 : L.length ≤ 100) (hn : n ≤ 30) (he : Pl.Ends n L) (h1 : Pl.verB n u = true) :
    Calls Tryz.prog 62 #[.pointer (some ⟨b, 0, none⟩), .int .i64 u, .int .i64 x] w fun e w' => e = .returned (.tuple #[.int .i64 (Pl.joinN n (Pl.upI L x) u), .int .i64 0]) ∧ Below w.heap.size w w' := by
  have c0 := hG.c0
  obtain ⟨u0, u1⟩ := Pl.verB_true.1 h1
  obtain ⟨ui, rfl⟩ := Int.eq_ofNat_of_zero_le u0
  have hu30 : ui < 30 := by omega
  have hres : Pl.joinN 30 (Pl.upI L x).reverse ui = Pl.joinN n (Pl.upI L x) ui := by
    rw [← Pl.join30 (Pl.up_ends he x) u1 hn]
    unfold Pl.joinN
    congr 1
    exact List.filter_congr fun v _ => Pl.conn_congr _ _ (fun e => List.mem_reverse)
  rw [← hres]
  clear hres
  go_enter Tryz.func62, Tryz.ntmps62
  go_wp2_with (go_at_call 66; refine (isVertex_any b n _ _ c0).mono ?_; rintro e w1 ⟨rfl, rfl⟩; rw [h1])
  refine (joined_any b n most live ed L x _ hG hL hl100 hn he).mono ?_
  rintro e w1 ⟨rfl, hb1⟩
  obtain ⟨HT, HI, HO, HS⟩ := parts_laid (Pl.upI L x).reverse hb1
  clear hG hL c0 hb1
  go_wp2_with (refine wpList_store_mid rfl 116 (.tmp 8) (.tmp 15) rfl w1.heap.size 0 (ofc (labs (Pl.upI L x).reverse)).toArray rfl rfl ?_ ?_ ?_ ?_)
  · exact unhide HT
  · exact unhide HI
  · exact unhide HO
  refine (size_any w1.heap.size (Pl.upI L x).reverse ui hu30 _ (by exact (unhide HS).1)).mono ?_
  rintro e w3 ⟨rfl, m, rfl⟩
  go_wp2
  go_ret2
  exact ⟨rfl, below_drewN (unhide HS).2 m⟩

set_option maxRecDepth 100000 in
set_option maxHeartbeats 2000000 in
theorem groupsp_any (b n most : Nat) (live : List Bool) (ed L : List It) (x : Int) (w : World) (hG : PG w b n most live ed) (hL : Pl.GL L live ed) (hl100 : L.length ≤ 100) (hn : n ≤ 30) (he : Pl.Ends n L) :
    Calls Tryz.prog 56 #[.pointer (some ⟨b, 0, none⟩), .int .i64 x] w fun e w' => e = .returned (.int .i64 (Pl.parts n (Pl.upI L x))) ∧ Below w.heap.size w w' := by
  have hee : Pl.Ends n (Pl.upI L x).reverse := fun e h => Pl.up_ends he x e (List.mem_reverse.1 h)
  have hres : Pl.ownN n (Pl.upI L x).reverse = Pl.parts n (Pl.upI L x) := by
    rw [Pl.own_parts hee]; exact Pl.parts_congr n (fun e => List.mem_reverse)
  rw [← hres]
  clear hres hee
  have hbl := hG.blt
  go_enter Tryz.func56, Tryz.ntmps56
  go_wp2_with fail
  refine (joined_any b n most live ed L x _ hG hL hl100 hn he).mono ?_
  rintro e w1 ⟨rfl, hb1⟩
  obtain ⟨HT, HI, HO, HS⟩ := parts_laid (Pl.upI L x).reverse hb1
  have c0 := (hG.later (unhide HS).2 (Nat.le_refl _)).c0
  clear hG hL hb1
  go_upto_region 2 with (refine wpList_store_mid rfl 116 (.tmp 5) (.tmp 8) rfl w1.heap.size 0 (ofc (labs (Pl.upI L x).reverse)).toArray rfl rfl ?_ ?_ ?_ ?_)
  · exact unhide HT
  · exact unhide HI
  · exact unhide HO
  change Code.wp _ _ _ _ ((w1.alloc (.cells (ofc (upTo 0)).toArray 116)).setCells w1.heap.size 0 (ofc (labs (Pl.upI L x).reverse)))
  generalize (w1.alloc (.cells (ofc (upTo 0)).toArray 116)).setCells w1.heap.size 0 (ofc (labs (Pl.upI L x).reverse)) = W at *
  clear HT HI HO
  go_wp2_with fail
  refine (count_any w1.heap.size (Pl.upI L x).reverse n hn _ (by exact (unhide HS).1)).mono ?_
  rintro e w3 ⟨rfl, rfl⟩
  go_wp2
  go_ret
  exact ⟨rfl, (unhide HS).2⟩

end Go.Proofs.YtnnnleckoinjoaaGreatDoor
