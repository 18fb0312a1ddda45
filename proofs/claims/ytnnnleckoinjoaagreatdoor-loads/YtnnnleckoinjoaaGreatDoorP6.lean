import Derived.Test.YtnnnleckoinjoaaGreatDoorP5
import Derived.Test.YtnnnleckoinjoaaGreatDoorPlainAll
import Derived.Deep.DeepCutAuto
namespace Go.Proofs.YtnnnleckoinjoaaGreatDoor
open Go.RowKit
open Pl (It)

theorem up_rev (L : List It) (k : Nat) (hk : k < L.length) (x : Int) :
    (L[k].w ≤ x → (Pl.upI (L.take (k + 1)) x).reverse = L[k] :: (Pl.upI (L.take k) x).reverse) ∧ (¬ L[k].w ≤ x → Pl.upI (L.take (k + 1)) x = Pl.upI (L.take k) x) := by
  have h := Pl.filter_snoc (fun e => decide (e.w ≤ x)) L k hk
  constructor
  · intro hx
    unfold Pl.upI
    rw [h, if_pos (by simpa using hx), List.reverse_append]; rfl
  · intro hx
    unfold Pl.upI
    rw [h, if_neg (by simpa using hx), List.append_nil]

set_option maxRecDepth 100000 in
set_option maxHeartbeats 4000000 in
theorem joined_any (b n most : Nat) (live : List Bool) (ed : List It) (L : List It) (x : Int) (w : World) (hG : PG w b n most live ed) (hL : Pl.GL L live ed) (hl100 : L.length ≤ 100) (hn : n ≤ 30) (he : Pl.Ends n L) :
    Calls Tryz.prog 83 #[.pointer (some ⟨b, 0, none⟩), .int .i64 x] w fun e w' => e = .returned (.agg (ofc (labs (Pl.upI L x).reverse)).toArray) ∧ Below w.heap.size w w' := by
  have hG1 : PG (w.alloc (.cells (ofc (upTo 0)).toArray 116)) b n most live ed := hG.alloc _
  have hbl := hG.blt
  go_enter Tryz.func83, Tryz.ntmps83
  go_wp2_with fail
  refine (livep_any b n most live ed _ (by exact hG1)).mono ?_
  rintro e w1 ⟨v, rfl, hN, hb1⟩
  rw [hL.marks] at hN
  obtain ⟨a, cap, rfl⟩ := row_form hN
  have hb1' : Below (w.heap.size + 1) (w.alloc (.cells (ofc (upTo 0)).toArray 116)) w1 := by
    have h := hb1
    rw [World.size_alloc] at h
    exact h
  have hN' : w1.ownsRow (w.heap.size + 1) 3 1 (.slice a L.length cap) L.length ((L.map It.id).map (Value.int .i64)) := by
    have h := hN
    unfold Nums at h
    rw [World.size_alloc, List.length_map] at h
    exact h
  rw [List.length_map]
  have r1 : RowAt w1 w.heap.size 116 (ofc (upTo 0)) := RowAt.later (row_new w 116 (ofc (upTo 0))) hb1' (by omega)
  have hB1 : Below w.heap.size w w1 := ((Below.refl _ _).alloc (Nat.le_refl _) _).trans (hb1'.mono (by omega))
  have hs1 : w.heap.size + 1 ≤ w1.heap.size := by have := hb1'.size; rw [World.size_alloc] at this; exact this
  have A0 : Aside (Pl.GL L live ed ∧ Pl.Ends n L ∧ PG w b n most live ed) := ⟨hL, he, hG⟩
  clear hb1 hN hb1' hG1 hL he hG
  go_wp2_with fail
  refine (apart_any _).mono ?_
  rintro e w2 ⟨rfl, hb2⟩
  have r1' := r1.later hb2 (by omega)
  have hN2 := row_below hN' hb2 (Nat.le_refl _)
  have hB2 := hB1.trans (hb2.mono (by omega))
  have hs2 : w.heap.size + 1 ≤ w2.heap.size := by have := hb2.size; omega
  have A1 : Aside (RowAt w2 w.heap.size 116 (ofc (upTo 0)) ∧ w2.ownsRow (w.heap.size + 1) 3 1 (.slice a L.length cap) L.length ((L.map It.id).map (Value.int .i64)) ∧ Below w.heap.size w w2) := ⟨r1', hN2, hB2⟩
  clear r1 r1' hN' hN2 hB1 hB2 hb2 hs1
  have hth : (w2.alloc (.cells (ofc (upTo 0)).toArray 116)).there w2.heap.size 0 30 := (row_new w2 116 (ofc (upTo 0))).there 0 30 (by decide)
  go_wp2_with (refine wpList_store_mid rfl 116 (.tmp 6) (.tmp 11) rfl w2.heap.size 0 (ofc idrow).toArray rfl rfl (by exact hth) infoParts (all_oneCell_toArray (ofc_one _)) ?_)
  go_loopg [7] L.length (fun gk i wr => ∃ k : Nat, k ≤ L.length ∧ i = .int .i64 k ∧ RowAt wr w.heap.size 116 (ofc (upTo 0)) ∧ RowAt wr w2.heap.size 116 (ofc (labs (Pl.upI (L.take k) x).reverse)) ∧
      wr.ownsRow (w.heap.size + 1) 3 1 (.slice a L.length cap) L.length ((L.map It.id).map (Value.int .i64)) ∧ Below w.heap.size w wr ∧ L.length - k ≤ gk)
  case atStart =>
    obtain ⟨r1, hN, hB⟩ := A1.out
    refine ⟨0, Nat.zero_le _, rfl, ?_, ?_, ?_, ?_, by omega⟩
    · unfold RowAt; rw [heap_setCells _ _ _ _ (by omega)]; exact RowAt.alloc r1 _
    · exact RowAt.whole (row_new w2 116 (ofc (upTo 0))) rfl
    · exact row_below hN (below_setCells (Nat.le_refl _) _ _ _ ((Below.refl _ _).alloc (Nat.le_refl _) _)) (Nat.le_refl _)
    · exact below_setCells (by omega) _ _ _ (hB.alloc (by omega) _)
  case round =>
    obtain ⟨k, hk, rfl, r1, r3, hN, hB, hgk⟩ := hrel
    by_cases hlt : k < L.length
    · obtain ⟨hGL, hends, hG⟩ := A0.out
      obtain ⟨g, rfl⟩ := row_some hN (by omega)
      have hxL : L[k] ∈ L := List.getElem_mem hlt
      obtain ⟨x0, x1⟩ := hGL.rng _ hxL
      obtain ⟨xi, hxi⟩ := Int.eq_ofNat_of_zero_le x0
      have hxi1 : (xi : Int) < 100 := by omega
      have hxi0 : (0 : Int) ≤ xi := by omega
      obtain ⟨u0, u1, v0, v1⟩ := hends _ hxL
      obtain ⟨ui, hui⟩ := Int.eq_ofNat_of_zero_le u0
      obtain ⟨vi, hvi⟩ := Int.eq_ofNat_of_zero_le v0
      have hu30 : ui < 30 := by omega
      have hv30 : vi < 30 := by omega
      have hPG : PG wr b n most live ed := hG.later hB (Nat.le_refl _)
      have hex : ed[xi]? = some L[k] := by have := hGL.ed _ hxL; rw [hxi, Int.toNat_natCast] at this; exact this
      obtain ⟨hxe, exe⟩ := List.getElem?_eq_some_iff.1 hex
      obtain ⟨e0, e1, e2⟩ := hPG.ce xi hxe
      rw [exe] at e0 e1 e2
      rw [hui] at e0
      rw [hvi] at e1
      have cid := numrow_cell hN rfl k L[k] (List.getElem?_eq_getElem hlt)
      rw [hxi] at cid
      have hk1 : (k : Int) < L.length := by omega
      have hk0 : (0 : Int) ≤ k := by omega
      have hrev := up_rev L k hlt x
      have hjoin := labs_join (Pl.upI (L.take k) x).reverse L[k]
      rw [hui, hvi] at hjoin
      have hp1 := labs_get (Pl.upI (L.take k) x).reverse ui hu30
      have hp2 := labs_get (Pl.upI (L.take k) x).reverse vi hv30
      have hgl := World.ownsRow.lt hN g rfl
      have hgn : ¬ g = wr.heap.size := by omega
      have hgn2 : ¬ wr.heap.size = g := by omega
      have hbs : b < wr.heap.size := hPG.blt
      have hbn : ¬ b = wr.heap.size := by omega
      have hbn2 : ¬ wr.heap.size = b := by omega
      have hs2' := r3.lt
      have H := hide (And.intro r1 (And.intro r3 (And.intro hN (And.intro hB (And.intro hrev (And.intro hjoin (And.intro hp1 hp2)))))))
      generalize L[k].w = wt at *
      clear hGL hends hG hxL x0 x1 hxi u0 u1 v0 v1 hui hvi hPG hex exe r1 r3 hN hB hrev hjoin hp1 hp2 hxe
      go_upto_region 6 with fail
      go_cut [8] (fun s6 wx => s6 = .pointer (some ⟨wr.heap.size, 0, none⟩) ∧ wx = (wr.alloc (.cells #[.int .i64 ui, .int .i64 vi, .int .i64 wt] 51)).drew)
      case first =>
        go_region_held3 (fun w' => w'.cell? ⟨g, k, none⟩ = some (.int .i64 xi) ∧ w'.cell? ⟨b, 102 + xi * 3, none⟩ = some (.int .i64 ui) ∧ w'.cell? ⟨b, 102 + xi * 3 + 1, none⟩ = some (.int .i64 vi) ∧ w'.cell? ⟨b, 102 + xi * 3 + 2, none⟩ = some (.int .i64 wt)) (go_keep) (fail)
        all_goals go_wp2_with fail
        all_goals go_meet
        all_goals exact ⟨rfl, rfl⟩
      case rest =>
        obtain ⟨rfl, rfl⟩ := hcut
        by_cases hwx : wt ≤ x
        · go_wp2_with fail
          obtain ⟨r1, r3, hN, hB, hrev, hjoin, hp1, hp2⟩ := unhide H
          refine (join_any w2.heap.size (labs (Pl.upI (L.take k) x).reverse) (labs_len _) ui vi _ _ hp1 hp2 _ (by exact RowAt.alloc r3 _)).mono ?_
          rintro e w4 ⟨rfl, hr4, hf4⟩
          rw [hjoin, ← hrev.1 hwx] at hr4
          have hnb : ¬ w.heap.size = w2.heap.size := by omega
          have q1 : RowAt w4 w.heap.size 116 (ofc (upTo 0)) := by
            refine RowAt.fr ?_ hf4 hnb
            exact RowAt.alloc r1 _
          have hsz : (wr.alloc (.cells #[.int .i64 ui, .int .i64 vi, .int .i64 wt] 51)).drew.heap.size = wr.heap.size + 1 := World.size_alloc _ _
          have q4 : Below w.heap.size w w4 :=
            ((hB.alloc (by omega) (.cells #[.int .i64 ui, .int .i64 vi, .int .i64 wt] 51)).drew).trans ⟨hf4.os, hf4.tape, hf4.output, hf4.size, fun i hi => hf4.block i (by omega) (by omega)⟩
          have q5 : w4.ownsRow (w.heap.size + 1) 3 1 (.slice (some ⟨g, 0, none⟩) L.length cap) L.length ((L.map It.id).map (Value.int .i64)) := by
            refine row_fr ?_ hf4 ?_
            · exact World.ownsRow.alloc hN (.cells #[.int .i64 ui, .int .i64 vi, .int .i64 wt] 51)
            · rintro k' c f hk' h2 h3
              simp [Value.ownBlock] at h2
              subst h2
              subst h3
              have := RowAt.alloc r3 (.cells #[.int .i64 ui, .int .i64 vi, .int .i64 wt] 51)
              unfold RowAt at this
              have hk2 : (wr.alloc (.cells #[.int .i64 ui, .int .i64 vi, .int .i64 wt] 51)).heap[w2.heap.size]? = some (.cells c 3 f) := hk'
              rw [this] at hk2
              simp at hk2
          have HH := hide (And.intro q1 (And.intro hr4 (And.intro q5 q4)))
          clear q1 q4 q5 hr4 hf4 r1 r3 hN hB hrev hjoin hp1 hp2 H e0 e1 e2 cid
          go_wp2
          obtain ⟨q1, q3, q5, q4⟩ := unhide HH
          go_roundg (gk - 1)
          case measure => omega
          case rel => exact ⟨k + 1, by omega, by go_num, q1, q3, q5, q4, by omega⟩
        · obtain ⟨r1, r3, hN, hB, hrev, hjoin, hp1, hp2⟩ := unhide H
          have q1 : RowAt (wr.alloc (.cells #[.int .i64 ui, .int .i64 vi, .int .i64 wt] 51)).drew w.heap.size 116 (ofc (upTo 0)) := RowAt.alloc r1 _
          have q3 : RowAt (wr.alloc (.cells #[.int .i64 ui, .int .i64 vi, .int .i64 wt] 51)).drew w2.heap.size 116 (ofc (labs (Pl.upI (L.take (k + 1)) x).reverse)) := by rw [hrev.2 hwx]; exact RowAt.alloc r3 _
          have q4 : Below w.heap.size w (wr.alloc (.cells #[.int .i64 ui, .int .i64 vi, .int .i64 wt] 51)).drew := (hB.alloc (by omega) (.cells #[.int .i64 ui, .int .i64 vi, .int .i64 wt] 51)).drew
          have q5 : (wr.alloc (.cells #[.int .i64 ui, .int .i64 vi, .int .i64 wt] 51)).drew.ownsRow (w.heap.size + 1) 3 1 (.slice (some ⟨g, 0, none⟩) L.length cap) L.length ((L.map It.id).map (Value.int .i64)) := World.ownsRow.alloc hN (.cells #[.int .i64 ui, .int .i64 vi, .int .i64 wt] 51)
          have HH := hide (And.intro q1 (And.intro q3 (And.intro q5 q4)))
          clear q1 q3 q4 q5 r1 r3 hN hB hrev hjoin hp1 hp2 H e0 e1 e2 cid
          go_wp2
          obtain ⟨q1, q3, q5, q4⟩ := unhide HH
          go_roundg (gk - 1)
          case measure => omega
          case rel => exact ⟨k + 1, by omega, by go_num, q1, q3, q5, q4, by omega⟩
    · have hk' : L.take k = L := List.take_of_length_le (by omega)
      rw [hk'] at r3
      go_wp2_with (first
        | (refine wpList_load_row rfl 116 (.tmp 6) rfl w2.heap.size rfl 116 _ (0, 0) _ r3 Tryz.underlying116 rfl (by rw [List.size_toArray, ofc_length, labs_len]; exact infoParts) ?_)
        | (refine wpList_store_mid rfl 116 (.tmp 4) (.tmp 36) rfl w.heap.size 0 (ofc (labs (Pl.upI L x).reverse)).toArray rfl rfl (r1.there 0 _ (by rw [List.size_toArray, ofc_length, ofc_length, labs_len, upTo_len]; omega)) (by rw [List.size_toArray, ofc_length, labs_len]; exact infoParts) (all_oneCell_toArray (ofc_one _)) ?_))
      have hst := RowAt.whole (ys := ofc (labs (Pl.upI L x).reverse)) r1 (by rw [ofc_length, ofc_length, labs_len, upTo_len])
      exact bodyPost_ret (results_cell_row (by exact Tryz.results83) _ _ w.heap.size 116 (ofc (labs (Pl.upI L x).reverse)).toArray (0, 0) _ rfl (by exact hst) Tryz.underlying116 rfl (by rw [List.size_toArray, ofc_length, labs_len]; exact infoParts)) rfl ⟨rfl, below_setCells (Nat.le_refl _) _ _ _ hB⟩

end Go.Proofs.YtnnnleckoinjoaaGreatDoor
