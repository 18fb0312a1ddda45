import Derived.Test.YtnnnleckoinjoaaGreatDoorP17
import Derived.Test.YtnnnleckoinjoaaGreatDoorPlainAll
namespace Go.Proofs.YtnnnleckoinjoaaGreatDoor
open Go.RowKit
open Pl (It)

theorem bits_size (l : List It) : ((Pl.bits l).map Value.bool).toArray.size = 100 := by
  rw [List.size_toArray, List.length_map, Pl.bits_len]
theorem bits_whole {w : World} {b t : Nat} {xs : List Value} (l : List It) (h : RowAt w b t xs) (hl : xs.length = 100) : RowAt (w.setCells b 0 ((Pl.bits l).map Value.bool)) b t ((Pl.bits l).map Value.bool) :=
  RowAt.whole h (by rw [List.length_map, Pl.bits_len, hl])
theorem falsev_len : falsev.length = 100 := by decide

set_option maxRecDepth 100000 in
set_option maxHeartbeats 4000000 in
theorem put_any (b n most : Nat) (live : List Bool) (ed : List It) (tl : List Value) (i : Nat) (c : Bool) (x : It) (w : World) (hG : PF w b n most live ed tl) (hi : i < 100) :
    Calls Tryz.prog 31 #[.pointer (some ⟨b, 0, none⟩), .agg #[.int .i64 i, .bool c, .int .i64 x.u, .int .i64 x.v, .int .i64 x.w]] w fun e w' =>
      e = .returned (.tuple #[]) ∧ PF w' b n most (live.set i c) (ed.set i x) tl ∧ Fr (fun k => k = b) w w' := by
  have hbl := hG.row.lt
  have hbne : ¬ b = w.heap.size := by omega
  have hbne2 : ¬ w.heap.size = b := by omega
  have hi1 : (i : Int) < 100 := by omega
  have q2 := hG.alloc (.cells #[.int .i64 i, .bool c, .int .i64 x.u, .int .i64 x.v, .int .i64 x.w] 54)
  have q3 : RowAt (w.alloc (.cells #[.int .i64 i, .bool c, .int .i64 x.u, .int .i64 x.v, .int .i64 x.w] 54)) w.heap.size 54 [.int .i64 i, .bool c, .int .i64 x.u, .int .i64 x.v, .int .i64 x.w] := row_new w 54 [.int .i64 i, .bool c, .int .i64 x.u, .int .i64 x.v, .int .i64 x.w]
  have q5 : Below w.heap.size w (w.alloc (.cells #[.int .i64 i, .bool c, .int .i64 x.u, .int .i64 x.v, .int .i64 x.w] 54)) := (Below.refl _ _).alloc (Nat.le_refl _) _
  have HQ := hide (And.intro q2 (And.intro q3 q5))
  clear hG q2 q3 q5
  go_enter Tryz.func31, Tryz.ntmps31
  go_wp2_with fail
  generalize w.alloc (.cells #[.int .i64 i, .bool c, .int .i64 x.u, .int .i64 x.v, .int .i64 x.w] 54) = W3 at *
  obtain ⟨q2, q3, q5⟩ := unhide HQ
  have x0 := q3.cell 0 (by simp)
  have x1 := q3.cell 1 (by simp)
  simp only [List.getElem_cons_zero, List.getElem_cons_succ] at x0 x1
  obtain ⟨lb, cl⟩ : ∃ lb, W3.cell? ⟨b, 2 + i, none⟩ = some (.bool lb) := ⟨_, q2.cl i hi⟩
  have f0 := q2.row.free (2 + i)
  clear q2 q3 q5
  go_region_held3 (fun w' => w'.cell? ⟨w.heap.size, 0, none⟩ = some (.int .i64 i) ∧ w'.cell? ⟨w.heap.size, 1, none⟩ = some (.bool c)) (go_keep) (fail)
  have sd : ∀ q t xs, RowAt W3 q t xs → q ≠ b → RowAt (W3.setCell ⟨b, 2 + i, none⟩ (.bool c)).drew q t xs := fun q t xs h hq => h.other _ _ hq
  obtain ⟨q2, q3, q5⟩ := unhide HQ
  have p3 := sd _ _ _ q3 hbne2
  have p2 : ∀ u v t, PF (((((W3.setCell ⟨b, 2 + i, none⟩ (.bool c)).drew.setCell ⟨b, 102 + i * 3, none⟩ (.int .i64 u)).setCell ⟨b, 102 + i * 3 + 1, none⟩ (.int .i64 v)).setCell ⟨b, 102 + i * 3 + 2, none⟩ (.int .i64 t))).drew b n most (live.set i c) (ed.set i ⟨x.id, u, v, t⟩) tl := fun u v t => by
    have := q2.put i hi c ⟨x.id, u, v, t⟩
    exact ⟨this.row, this.ll, this.le, this.lt⟩
  have p2 := p2 x.u x.v x.w
  have p5 : Fr (fun k => k = b) w (W3.setCell ⟨b, 2 + i, none⟩ (.bool c)).drew := (Fr.setCell (S := fun k => k = b) (Fr.of_below q5) (p := ⟨b, 2 + i, none⟩) (Or.inl rfl) _).drew
  have hedl : i < ed.length := by have := q2.le; omega
  obtain ⟨e0, e1, e2⟩ := q2.ce i hedl
  have ne : ∀ p q, p ≠ q → (⟨b, p, none⟩ : Addr) ≠ ⟨b, q, none⟩ := fun p q hp e => hp (by injection e)
  have e0' : (W3.setCell ⟨b, 2 + i, none⟩ (.bool c)).drew.cell? ⟨b, 102 + i * 3, none⟩ = some (.int .i64 ed[i].u) := (World.cell?_setCell_other _ _ _ _ (ne _ _ (by omega))).trans e0
  have e1' : (W3.setCell ⟨b, 2 + i, none⟩ (.bool c)).drew.cell? ⟨b, 102 + i * 3 + 1, none⟩ = some (.int .i64 ed[i].v) := (World.cell?_setCell_other _ _ _ _ (ne _ _ (by omega))).trans e1
  have e2' : (W3.setCell ⟨b, 2 + i, none⟩ (.bool c)).drew.cell? ⟨b, 102 + i * 3 + 2, none⟩ = some (.int .i64 ed[i].w) := (World.cell?_setCell_other _ _ _ _ (ne _ _ (by omega))).trans e2
  have g0 : (W3.setCell ⟨b, 2 + i, none⟩ (.bool c)).drew.frozen? ⟨b, 102 + i * 3, none⟩ = false := (q2.row.set (2 + i) (.bool c)).free _
  have g1 : (W3.setCell ⟨b, 2 + i, none⟩ (.bool c)).drew.frozen? ⟨b, 102 + i * 3 + 1, none⟩ = false := (q2.row.set (2 + i) (.bool c)).free _
  have g2 : (W3.setCell ⟨b, 2 + i, none⟩ (.bool c)).drew.frozen? ⟨b, 102 + i * 3 + 2, none⟩ = false := (q2.row.set (2 + i) (.bool c)).free _
  clear e0 e1 e2 sd q2 q3 q5 HQ cl f0 x0 x1 ne
  have HP := hide (And.intro p2 p5)
  have x0 := p3.cell 0 (by simp)
  have x2 := p3.cell 2 (by simp)
  have x3 := p3.cell 3 (by simp)
  have x4 := p3.cell 4 (by simp)
  simp only [List.getElem_cons_zero, List.getElem_cons_succ] at x0 x2 x3 x4
  clear p2 p3 p5
  generalize (W3.setCell ⟨b, 2 + i, none⟩ (.bool c)).drew = W4 at *
  go_wp2_with fail
  go_region_held3 (fun w' => w'.cell? ⟨w.heap.size, 0, none⟩ = some (.int .i64 i) ∧ w'.cell? ⟨w.heap.size, 2, none⟩ = some (.int .i64 x.u) ∧ w'.cell? ⟨w.heap.size, 3, none⟩ = some (.int .i64 x.v) ∧ w'.cell? ⟨w.heap.size, 4, none⟩ = some (.int .i64 x.w)) (go_keep) (fail)
  obtain ⟨p2, p5⟩ := unhide HP
  have r5 : Fr (fun k => k = b) w (((W4.setCell ⟨b, 102 + i * 3, none⟩ (.int .i64 x.u)).setCell ⟨b, 102 + i * 3 + 1, none⟩ (.int .i64 x.v)).setCell ⟨b, 102 + i * 3 + 2, none⟩ (.int .i64 x.w)).drew := (Fr.setCell (S := fun k => k = b) (Fr.setCell (S := fun k => k = b) (Fr.setCell (S := fun k => k = b) p5 (p := ⟨b, 102 + i * 3, none⟩) (Or.inl rfl) _) (p := ⟨b, 102 + i * 3 + 1, none⟩) (Or.inl rfl) _) (p := ⟨b, 102 + i * 3 + 2, none⟩) (Or.inl rfl) _).drew
  have HR := hide (And.intro p2 r5)
  clear p2 p5 r5 HP e0' e1' e2' g0 g1 g2 x0 x2 x3 x4
  generalize (((W4.setCell ⟨b, 102 + i * 3, none⟩ (.int .i64 x.u)).setCell ⟨b, 102 + i * 3 + 1, none⟩ (.int .i64 x.v)).setCell ⟨b, 102 + i * 3 + 2, none⟩ (.int .i64 x.w)).drew = W5 at *
  go_wp2
  go_end0
  exact ⟨rfl, (unhide HR).1, (unhide HR).2⟩

set_option maxRecDepth 100000 in
set_option maxHeartbeats 4000000 in
theorem setp_any (b n most : Nat) (live : List Bool) (ed L L2 : List It) (tl : List Value) (i : Nat) (c : Bool) (x : It) (w : World) (hG : PF w b n most live ed tl) (hL : Pl.GL L live ed) (hL2 : Pl.GL L2 (live.set i c) (ed.set i x)) (hadj : Pl.Adj L L2)
    (hl : L.length ≤ 100) (hl2 : L2.length ≤ 100) (hn : n ≤ 30) (he : Pl.Ends n L) (he2 : Pl.Ends n L2) (hi : i < 100) :
    Calls Tryz.prog 75 #[.pointer (some ⟨b, 0, none⟩), .agg #[.int .i64 i, .bool c, .int .i64 x.u, .int .i64 x.v, .int .i64 x.w]] w fun e w' =>
      e = .returned (.agg #[.int .i64 (Pl.only (Pl.forest L2) (Pl.forest L)), .int .i64 (Pl.only (Pl.forest L) (Pl.forest L2))]) ∧
      PF w' b n most (live.set i c) (ed.set i x) tl ∧ Fr (fun k => k = b) w w' := by
  have hbl := hG.row.lt
  have hbne : ¬ b = w.heap.size := by omega
  have hbne2 : ¬ w.heap.size = b := by omega
  have hbne3 : ¬ b = w.heap.size + 1 := by omega
  have hbne4 : ¬ w.heap.size + 1 = b := by omega
  have hi1 : (i : Int) < 100 := by omega
  have hadd : Pl.lastOnly (Pl.bits (Pl.forest L2)) (Pl.bits (Pl.forest L)) 100 = Pl.only (Pl.forest L2) (Pl.forest L) := hadj.last hL2.rng
  have hrem : Pl.lastOnly (Pl.bits (Pl.forest L)) (Pl.bits (Pl.forest L2)) 100 = Pl.only (Pl.forest L) (Pl.forest L2) := hadj.symm.last hL.rng
  have hG0 := (hG.alloc (.cells #[.int .i64 i, .bool c, .int .i64 x.u, .int .i64 x.v, .int .i64 x.w] 54)).alloc (.cells #[.int .i64 0, .int .i64 0] 73)
  have hx0 : RowAt ((w.alloc (.cells #[.int .i64 i, .bool c, .int .i64 x.u, .int .i64 x.v, .int .i64 x.w] 54)).alloc (.cells #[.int .i64 0, .int .i64 0] 73)) w.heap.size 54 [.int .i64 i, .bool c, .int .i64 x.u, .int .i64 x.v, .int .i64 x.w] := (row_new w 54 [.int .i64 i, .bool c, .int .i64 x.u, .int .i64 x.v, .int .i64 x.w]).alloc _
  have hr0 : RowAt ((w.alloc (.cells #[.int .i64 i, .bool c, .int .i64 x.u, .int .i64 x.v, .int .i64 x.w] 54)).alloc (.cells #[.int .i64 0, .int .i64 0] 73)) (w.heap.size + 1) 73 [.int .i64 0, .int .i64 0] := by
    have := row_new (w.alloc (.cells #[.int .i64 i, .bool c, .int .i64 x.u, .int .i64 x.v, .int .i64 x.w] 54)) 73 [.int .i64 0, .int .i64 0]
    rw [World.size_alloc] at this; exact this
  have hB0 : Below w.heap.size w ((w.alloc (.cells #[.int .i64 i, .bool c, .int .i64 x.u, .int .i64 x.v, .int .i64 x.w] 54)).alloc (.cells #[.int .i64 0, .int .i64 0] 73)) := ((Below.refl _ _).alloc (Nat.le_refl _) _).alloc (by rw [World.size_alloc]; omega) _
  have A0 : Aside (Pl.GL L live ed ∧ Pl.Ends n L ∧ Pl.GL L2 (live.set i c) (ed.set i x) ∧ Pl.Ends n L2) := ⟨hL, he, hL2, he2⟩
  have HA := hide (And.intro hadd hrem)
  have H0 := hide (And.intro hG0 (And.intro hx0 (And.intro hr0 hB0)))
  clear hL he hL2 he2 hG hadd hrem hadj hG0 hx0 hr0 hB0
  go_enter Tryz.func75, Tryz.ntmps75
  go_wp2_with fail
  generalize (w.alloc (.cells #[.int .i64 i, .bool c, .int .i64 x.u, .int .i64 x.v, .int .i64 x.w] 54)).alloc (.cells #[.int .i64 0, .int .i64 0] 73) = W1 at *
  obtain ⟨hG1, hx1, hr1, hB1⟩ := unhide H0
  obtain ⟨hL, he, hL2, he2⟩ := A0.out
  refine (cheapest_any b n most live ed L _ hG1.pg hL hl hn he).mono ?_
  rintro e w2 ⟨rfl, hb2⟩
  have hPG2 := hG1.later hb2 (Nat.le_refl _)
  have hx2 := hx1.later hb2 hx1.lt
  have hr2 := hr1.later hb2 hr1.lt
  have hB2 := hB1.trans (hb2.mono hB1.size)
  have hs2 := hr2.lt
  have hbs := hPG2.row.lt
  have hrn := row_new50 w2
  have n1 : b ≠ w2.heap.size := by omega
  have n2 : w.heap.size ≠ w2.heap.size := by omega
  have n3 : w.heap.size + 1 ≠ w2.heap.size := by omega
  have HT : Hid ((w2.alloc (.cells Tryz.zeroCells49 49)).there w2.heap.size 0 ((Pl.bits (Pl.forest L)).map Value.bool).toArray.size) := by
    show World.there _ _ _ _
    rw [bits_size]; exact hrn.there 0 100 (by rw [falsev_len]; omega)
  have HI : Hid ((Tryz.prog.info? 49).map (·.size) = some ((Pl.bits (Pl.forest L)).map Value.bool).toArray.size) := by
    show _ = _
    rw [bits_size]; exact infoArrB
  have HO : Hid (((Pl.bits (Pl.forest L)).map Value.bool).toArray.all (·.oneCell') = true) := all_oneCell_toArray (bitsv_one _)
  have far : ∀ q t xs, q ≠ w2.heap.size → RowAt w2 q t xs → RowAt ((w2.alloc (.cells Tryz.zeroCells49 49)).setCells w2.heap.size 0 ((Pl.bits (Pl.forest L)).map Value.bool)) q t xs := fun q t xs hq h => by
    unfold RowAt; rw [heap_setCells _ _ _ _ hq]; exact h.alloc _
  have q1 := bits_whole (Pl.forest L) hrn falsev_len
  have q2 := (hPG2.alloc (.cells Tryz.zeroCells49 49)).cells w2.heap.size 0 ((Pl.bits (Pl.forest L)).map Value.bool) n1
  have q3 := far _ _ _ n2 hx2
  have q4 := far _ _ _ n3 hr2
  have q5 : Below w.heap.size w ((w2.alloc (.cells Tryz.zeroCells49 49)).setCells w2.heap.size 0 ((Pl.bits (Pl.forest L)).map Value.bool)) := below_setCells (by omega) _ _ _ (hB2.alloc (by omega) _)
  have HQ := hide (And.intro q1 (And.intro q2 (And.intro q3 (And.intro q4 q5))))
  clear q1 q2 q3 q4 q5 far hrn hPG2 hx2 hr2 hB2 hb2 hL he hL2 he2 hG1 hx1 hr1 hB1 H0
  go_upto_region 2 with (refine wpList_store_mid rfl 49 (.tmp 5) (.tmp 8) rfl w2.heap.size 0 ((Pl.bits (Pl.forest L)).map Value.bool).toArray rfl rfl ?_ ?_ ?_ ?_)
  · exact unhide HT
  · exact unhide HI
  · exact unhide HO
  generalize (w2.alloc (.cells Tryz.zeroCells49 49)).setCells w2.heap.size 0 ((Pl.bits (Pl.forest L)).map Value.bool) = W3 at HQ ⊢
  obtain ⟨q1, q2, q3, q4, q5⟩ := unhide HQ
  have x0 := q3.cell 0 (by simp)
  have x1 := q3.cell 1 (by simp)
  have x2 := q3.cell 2 (by simp)
  have x3 := q3.cell 3 (by simp)
  have x4 := q3.cell 4 (by simp)
  simp only [List.getElem_cons_zero, List.getElem_cons_succ] at x0 x1 x2 x3 x4
  clear q1 q2 q3 q4 q5 HT HI HO
  go_wp2_with fail
  obtain ⟨q1, q2, q3, q4, q5⟩ := unhide HQ
  refine (put_any b n most live ed tl i c x _ q2 hi).mono ?_
  rintro e W5 ⟨rfl, p5, hfp⟩
  have r1 := q1.fr hfp (by omega)
  have r4 := q4.fr hfp hbne4
  have r5 := (Fr.of_below (S := fun k => k = b) q5).trans hfp
  have HR := hide (And.intro p5 (And.intro r1 (And.intro r4 r5)))
  clear q1 q2 q3 q4 q5 HQ p5 r1 r4 r5 x0 x1 x2 x3 x4 hfp
  go_wp2_with fail
  obtain ⟨p5, r1, r4, r5⟩ := unhide HR
  obtain ⟨hL, he, hL2, he2⟩ := A0.out
  refine (cheapest_any b n most (live.set i c) (ed.set i x) L2 _ p5.pg hL2 hl2 hn he2).mono ?_
  rintro e w5 ⟨rfl, hb5⟩
  obtain ⟨A2, hA2⟩ : ∃ A2, A2 = Pl.bits (Pl.forest L2) := ⟨_, rfl⟩
  obtain ⟨A1, hA1⟩ : ∃ A1, A1 = Pl.bits (Pl.forest L) := ⟨_, rfl⟩
  have len1 : A1.length = 100 := by rw [hA1]; exact Pl.bits_len _
  have len2 : A2.length = 100 := by rw [hA2]; exact Pl.bits_len _
  rw [← hA1] at r1
  simp only [← hA1, ← hA2] at HA ⊢
  have p6 := p5.later hb5 (Nat.le_refl _)
  have r16 := r1.later hb5 r1.lt
  have r46 := r4.later hb5 r4.lt
  have r56 := r5.later hb5
  have hs5 := r16.lt
  have hb5s := p6.row.lt
  have hr5s := r46.lt
  have hrn := row_new50 w5
  have m1 : w2.heap.size ≠ w5.heap.size := by omega
  have m2 : b ≠ w5.heap.size := by omega
  have m3 : w.heap.size + 1 ≠ w5.heap.size := by omega
  have sz2 : (A2.map Value.bool).toArray.size = 100 := by rw [List.size_toArray, List.length_map, len2]
  have sz1 : (A1.map Value.bool).toArray.size = 100 := by rw [List.size_toArray, List.length_map, len1]
  have HT : Hid ((w5.alloc (.cells Tryz.zeroCells49 49)).there w5.heap.size 0 (A2.map Value.bool).toArray.size) := by
    show World.there _ _ _ _
    rw [sz2]; exact hrn.there 0 100 (by rw [falsev_len]; omega)
  have HI : Hid ((Tryz.prog.info? 49).map (·.size) = some (A2.map Value.bool).toArray.size) := by
    show _ = _
    rw [sz2]; exact infoArrB
  have HI1 : Hid ((Tryz.prog.info? 49).map (·.size) = some (A1.map Value.bool).toArray.size) := by
    show _ = _
    rw [sz1]; exact infoArrB
  have HO : Hid ((A2.map Value.bool).toArray.all (·.oneCell') = true) := all_oneCell_toArray (bitsv_one _)
  have far : ∀ q t xs, q ≠ w5.heap.size → RowAt w5 q t xs → RowAt ((w5.alloc (.cells Tryz.zeroCells49 49)).setCells w5.heap.size 0 (A2.map Value.bool)) q t xs := fun q t xs hq h => by
    unfold RowAt; rw [heap_setCells _ _ _ _ hq]; exact h.alloc _
  have t1 : RowAt ((w5.alloc (.cells Tryz.zeroCells49 49)).setCells w5.heap.size 0 (A2.map Value.bool)) w5.heap.size 49 (A2.map Value.bool) := RowAt.whole hrn (by rw [List.length_map, len2, falsev_len])
  have t2 := (p6.alloc (.cells Tryz.zeroCells49 49)).cells w5.heap.size 0 (A2.map Value.bool) m2
  have t3 := far _ _ _ m3 r46
  have t4 := far _ _ _ m1 r16
  have t5 : Fr (fun k => k = b) w ((w5.alloc (.cells Tryz.zeroCells49 49)).setCells w5.heap.size 0 (A2.map Value.bool)) := fr_setCells _ _ _ (r56.alloc _) (Or.inr (by omega))
  have HQ := hide (And.intro t1 (And.intro t2 (And.intro t3 (And.intro t4 t5))))
  have HX := hide (And.intro hA1 hA2)
  clear t1 t2 t3 t4 t5 far hrn p6 r16 r46 r56 p5 r1 r4 r5 HR hL he hL2 he2 hb5 hA1 hA2 sz1 sz2
  go_upto_region 4 with (refine wpList_store_mid rfl 49 (.tmp 6) (.tmp 13) rfl w5.heap.size 0 (A2.map Value.bool).toArray rfl rfl ?_ ?_ ?_ ?_)
  · exact unhide HT
  · exact unhide HI
  · exact unhide HO
  generalize (w5.alloc (.cells Tryz.zeroCells49 49)).setCells w5.heap.size 0 (A2.map Value.bool) = W6 at HQ ⊢
  obtain ⟨t1, t2, t3, t4, t5⟩ := unhide HQ
  clear HQ
  go_wp2_with (first
    | (refine wpList_load_row rfl 49 (.tmp 5) rfl w2.heap.size rfl 49 (A1.map Value.bool).toArray (0, 0) _ t4 Tryz.underlying49 rfl (unhide HI1) ?_)
    | (refine wpList_load_row rfl 49 (.tmp 6) rfl w5.heap.size rfl 49 (A2.map Value.bool).toArray (0, 0) _ t1 Tryz.underlying49 rfl (unhide HI) ?_))
  refine (changep_any A1 A2 len1 len2 _).mono ?_
  rintro e w7 ⟨rfl, hb7⟩
  rw [(unhide HA).1, (unhide HA).2]
  obtain ⟨oA, hoA⟩ : ∃ o, o = Pl.only (Pl.forest L2) (Pl.forest L) := ⟨_, rfl⟩
  obtain ⟨oR, hoR⟩ : ∃ o, o = Pl.only (Pl.forest L) (Pl.forest L2) := ⟨_, rfl⟩
  rw [← hoA, ← hoR]
  have HN := hide (And.intro hoA hoR)
  clear hoA hoR
  have s3 := t3.later hb7 t3.lt
  have s2 := t2.later hb7 (Nat.le_refl _)
  have s5 := t5.later hb7
  have y0 := s3.cell 0 (by simp)
  have y1 := s3.cell 1 (by simp)
  have yf0 := s3.free 0
  have yf1 := s3.free 1
  have u2 := (s2.other ⟨w.heap.size + 1, 0, none⟩ (.int .i64 oA) hbne3).other ⟨w.heap.size + 1, 1, none⟩ (.int .i64 oR) hbne3
  have u5 := (s5.setCell (p := ⟨w.heap.size + 1, 0, none⟩) (Or.inr (by simp)) (.int .i64 oA)).setCell (p := ⟨w.heap.size + 1, 1, none⟩) (Or.inr (by simp)) (.int .i64 oR)
  obtain ⟨z0, z1, _⟩ := two_cells ((s3.set 0 (.int .i64 oA)).set 1 (.int .i64 oR))
  have HZ := hide (And.intro u2 (And.intro u5 (And.intro z0 z1)))
  clear u2 u5 z0 z1 s2 s3 s5 t1 t2 t3 t4 t5 hb7
  go_wp2
  generalize (w7.setCell ⟨w.heap.size + 1, 0, none⟩ (.int .i64 oA)).setCell ⟨w.heap.size + 1, 1, none⟩ (.int .i64 oR) = W8 at *
  obtain ⟨u2, u5, z0, z1⟩ := unhide HZ
  exact bodyPost_ret (v := .agg #[.int .i64 oA, .int .i64 oR]) (by simp [results, Tryz.results75, go_sem, z0, z1]) rfl ⟨by rw [(unhide HN).1, (unhide HN).2], u2, u5⟩

end Go.Proofs.YtnnnleckoinjoaaGreatDoor
