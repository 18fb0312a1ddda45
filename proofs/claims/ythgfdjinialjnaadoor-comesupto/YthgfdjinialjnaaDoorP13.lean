import Derived.Test.YthgfdjinialjnaaDoorP12
import Derived.Deep.CutRange
namespace Go.Proofs.YthgfdjinialjnaaDoor
open Go.RowKit
open Pl (It)

theorem bits_size (l : List It) : ((Pl.bits l).map Value.bool).toArray.size = 100 := by
  rw [List.size_toArray, List.length_map, Pl.bits_len]
theorem bits_whole {w : World} {b t : Nat} {xs : List Value} (l : List It) (h : RowAt w b t xs) (hl : xs.length = 100) : RowAt (w.setCells b 0 ((Pl.bits l).map Value.bool)) b t ((Pl.bits l).map Value.bool) :=
  RowAt.whole h (by rw [List.length_map, Pl.bits_len, hl])
theorem falsev_len : falsev.length = 100 := by decide

set_option maxRecDepth 100000 in
set_option maxHeartbeats 2000000 in
theorem insp_ok (b n most : Nat) (live : List Bool) (ed L : List It) (i : Nat) (u v wt : Int) (w : World) (hG : PG w b n most live ed) (hL : Pl.GL L live ed) (hl : L.length ≤ 90) (hn : n ≤ 30) (he : Pl.Ends n L)
    (h1 : Pl.numB (i : Int) = true) (h2 : Pl.verB n u = true) (h3 : Pl.verB n v = true) (h4 : Pl.has L (i : Int) = false) (h5 : L.length < most) :
    Calls Tryd.prog 18 #[.pointer (some ⟨b, 0, none⟩), .int .i64 i, .int .i64 u, .int .i64 v, .int .i64 wt] w fun e w' =>
      e = .returned (.tuple #[.agg #[.int .i64 (Pl.only (Pl.forest (Pl.withI L ⟨i, u, v, wt⟩)) (Pl.forest L)), .int .i64 (Pl.only (Pl.forest L) (Pl.forest (Pl.withI L ⟨i, u, v, wt⟩)))], .int .i64 0]) ∧
      PG w' b n most (live.set i true) (ed.set i ⟨i, u, v, wt⟩) ∧ Fr (fun k => k = b) w w' := by
  have hbl := hG.row.lt
  have hbne : ¬ b = w.heap.size := by omega
  have hbne2 : ¬ w.heap.size = b := by omega
  have c0 := hG.c0
  obtain ⟨i0, i1⟩ := Pl.numB_true.1 h1
  have hi : i < 100 := by omega
  have hi1 : (i : Int) < 100 := by omega
  have cl := hG.cl i hi
  rw [live_has hL i hi hG.ll, h4] at cl
  have hG1 : PG (w.alloc (.cells #[.int .i64 0, .int .i64 0] 61)) b n most live ed := ⟨hG.row.alloc _, hG.ll, hG.le⟩
  have hfull : decide (most ≤ (Pl.marks live 100).length) = false := by rw [hL.marks, List.length_map]; simpa using h5
  have hLen : L.length ≤ 100 := by omega
  have hends : Pl.Ends n (Pl.withI L ⟨i, u, v, wt⟩) := Pl.with_ends he ⟨(Pl.verB_true.1 h2).1, (Pl.verB_true.1 h2).2, (Pl.verB_true.1 h3).1, (Pl.verB_true.1 h3).2⟩
  have hwl := Pl.with_len L ⟨i, u, v, wt⟩
  have hGL2 : Pl.GL (Pl.withI L ⟨i, u, v, wt⟩) (live.set i true) (ed.set i ⟨i, u, v, wt⟩) := by
    have := hL.with ⟨i, u, v, wt⟩ h4 i0 i1 hG.ll hG.le
    simpa using this
  have hadd : Pl.lastOnly (Pl.bits (Pl.forest (Pl.withI L ⟨i, u, v, wt⟩))) (Pl.bits (Pl.forest L)) 100 = Pl.only (Pl.forest (Pl.withI L ⟨i, u, v, wt⟩)) (Pl.forest L) :=
    Pl.lastOnly_only (Pl.forest_rng hGL2.rng) (Pl.uniq_added h4)
  have hrem : Pl.lastOnly (Pl.bits (Pl.forest L)) (Pl.bits (Pl.forest (Pl.withI L ⟨i, u, v, wt⟩))) 100 = Pl.only (Pl.forest L) (Pl.forest (Pl.withI L ⟨i, u, v, wt⟩)) :=
    Pl.lastOnly_only (Pl.forest_rng hL.rng) (Pl.uniq_removed h4)
  have A0 : Aside (Pl.GL L live ed ∧ Pl.Ends n L ∧ Pl.GL (Pl.withI L ⟨i, u, v, wt⟩) (live.set i true) (ed.set i ⟨i, u, v, wt⟩) ∧ Pl.Ends n (Pl.withI L ⟨i, u, v, wt⟩) ∧ PG w b n most live ed) := ⟨hL, he, hGL2, hends, hG⟩
  have HA := hide (And.intro hadd hrem)
  clear hL he hGL2 hends hG hadd hrem
  go_enter Tryd.func18, Tryd.ntmps18
  go_wp2_with (first
    | (go_at_call 52; refine (isId_any _ _).mono ?_; rintro e w1 ⟨rfl, rfl⟩; rw [h1])
    | (go_at_call 53; refine (isVertex_any b n _ _ (by simp [c0, World.cell?_alloc_some])).mono ?_; rintro e w1 ⟨rfl, rfl⟩; (first | rw [h2] | rw [h3])))
  refine (isFull_any b n most live ed _ hG1).mono ?_
  rintro e w1 ⟨rfl, hb1⟩
  rw [hfull]
  simp only [World.size_alloc] at hb1
  have hPG1 : PG w1 b n most live ed := hG1.later hb1 (by rw [World.size_alloc]; omega)
  have hres1 : RowAt w1 w.heap.size 61 [.int .i64 0, .int .i64 0] := made_later hb1 (by omega)
  have hB1 : Below w.heap.size w w1 := ((Below.refl _ _).alloc (Nat.le_refl _) _).trans (hb1.mono (by omega))
  clear hb1 hG1 hfull c0 cl
  go_wp2_with fail
  obtain ⟨hL, he, hGL2, hends, hG⟩ := A0.out
  refine (cheapest_any b n most live ed L _ hPG1 hL hLen hn he).mono ?_
  rintro e w2 ⟨rfl, hb2⟩
  have hPG2 := hPG1.later hb2 (Nat.le_refl _)
  have hres2 := hres1.later hb2 hres1.lt
  have hB2 := hB1.trans (hb2.mono hB1.size)
  have hs2 := hres2.lt
  have hbs := hPG2.row.lt
  have hrn := row_new50 w2
  have hb2ne : b ≠ w2.heap.size := by omega
  have hr2ne : w.heap.size ≠ w2.heap.size := by omega
  have HT : Hid ((w2.alloc (.cells Tryd.zeroCells50 50)).there w2.heap.size 0 ((Pl.bits (Pl.forest L)).map Value.bool).toArray.size) := by
    show World.there _ _ _ _
    rw [bits_size]; exact hrn.there 0 100 (by rw [falsev_len]; omega)
  have HI : Hid ((Tryd.prog.info? 50).map (·.size) = some ((Pl.bits (Pl.forest L)).map Value.bool).toArray.size) := by
    show _ = _
    rw [bits_size]; exact infoArrB
  have HO : Hid (((Pl.bits (Pl.forest L)).map Value.bool).toArray.all (·.oneCell') = true) := all_oneCell_toArray (bitsv_one _)
  have q1 := bits_whole (Pl.forest L) hrn falsev_len
  have q2 : PG ((w2.alloc (.cells Tryd.zeroCells50 50)).setCells w2.heap.size 0 ((Pl.bits (Pl.forest L)).map Value.bool)) b n most live ed := ⟨by unfold RowAt; rw [heap_setCells _ _ _ _ hb2ne]; exact hPG2.row.alloc _, hPG2.ll, hPG2.le⟩
  have q3 : RowAt ((w2.alloc (.cells Tryd.zeroCells50 50)).setCells w2.heap.size 0 ((Pl.bits (Pl.forest L)).map Value.bool)) w.heap.size 61 [.int .i64 0, .int .i64 0] := by unfold RowAt; rw [heap_setCells _ _ _ _ hr2ne]; exact hres2.alloc _
  have q4 : Below w.heap.size w ((w2.alloc (.cells Tryd.zeroCells50 50)).setCells w2.heap.size 0 ((Pl.bits (Pl.forest L)).map Value.bool)) := below_setCells (by omega) _ _ _ (hB2.alloc (by omega) _)
  have HQ := hide (And.intro q1 (And.intro q2 (And.intro q3 q4)))
  clear q1 q2 q3 q4 hrn hPG1 hPG2 hres1 hres2 hB1 hB2 hb2 hL he hGL2 hends hG
  go_upto_region 10 with (refine wpList_store_mid rfl 50 (.tmp 12) (.tmp 40) rfl w2.heap.size 0 ((Pl.bits (Pl.forest L)).map Value.bool).toArray rfl rfl ?_ ?_ ?_ ?_)
  · exact unhide HT
  · exact unhide HI
  · exact unhide HO
  generalize (w2.alloc (.cells Tryd.zeroCells50 50)).setCells w2.heap.size 0 ((Pl.bits (Pl.forest L)).map Value.bool) = W3 at HQ ⊢
  obtain ⟨q1, q2, q3, q4⟩ := unhide HQ
  obtain ⟨hL, he, hGL2, hends, hG⟩ := A0.out
  have hw4 := q2.ins i hi ⟨i, u, v, wt⟩
  obtain ⟨lb, cl⟩ : ∃ lb, W3.cell? ⟨b, 2 + i, none⟩ = some (.bool lb) := ⟨_, q2.cl i hi⟩
  have hedl : i < ed.length := by have := q2.le; omega
  obtain ⟨e0, e1, e2⟩ := q2.ce i hedl
  have f0 := q2.row.free (2 + i)
  have f1 := q2.row.free (102 + i * 3)
  have f2 := q2.row.free (102 + i * 3 + 1)
  have f3 := q2.row.free (102 + i * 3 + 2)
  have g1 : ∀ k, k ≠ b → RowAt W3 k 50 ((Pl.bits (Pl.forest L)).map Value.bool) → RowAt ((((W3.setCell ⟨b, 2 + i, none⟩ (.bool true)).setCell ⟨b, 102 + i * 3, none⟩ (.int .i64 u)).setCell ⟨b, 102 + i * 3 + 1, none⟩ (.int .i64 v)).setCell ⟨b, 102 + i * 3 + 2, none⟩ (.int .i64 wt)) k 50 ((Pl.bits (Pl.forest L)).map Value.bool) :=
    fun k hk h => (((h.other _ _ hk).other _ _ hk).other _ _ hk).other _ _ hk
  have r1 := g1 w2.heap.size (by omega) q1
  have r3 : RowAt ((((W3.setCell ⟨b, 2 + i, none⟩ (.bool true)).setCell ⟨b, 102 + i * 3, none⟩ (.int .i64 u)).setCell ⟨b, 102 + i * 3 + 1, none⟩ (.int .i64 v)).setCell ⟨b, 102 + i * 3 + 2, none⟩ (.int .i64 wt)) w.heap.size 61 [.int .i64 0, .int .i64 0] := (((q3.other _ _ hbne2).other _ _ hbne2).other _ _ hbne2).other _ _ hbne2
  have r4 : Fr (fun k => k = b) w ((((W3.setCell ⟨b, 2 + i, none⟩ (.bool true)).setCell ⟨b, 102 + i * 3, none⟩ (.int .i64 u)).setCell ⟨b, 102 + i * 3 + 1, none⟩ (.int .i64 v)).setCell ⟨b, 102 + i * 3 + 2, none⟩ (.int .i64 wt)) := by
    refine Fr.setCell (Fr.setCell (Fr.setCell (Fr.setCell (Fr.of_below q4) ?_ _) ?_ _) ?_ _) ?_ _
    · exact Or.inl rfl
    · exact Or.inl rfl
    · exact Or.inl rfl
    · exact Or.inl rfl
  have HR := hide (And.intro hw4 (And.intro r1 (And.intro r3 (And.intro r4 (And.intro hGL2 hends)))))
  clear hw4 r1 r3 r4 g1 q1 q2 q3 q4 HQ hL he hGL2 hends hG HT HI HO A0
  go_wp2_with fail
  generalize (((W3.setCell ⟨b, 2 + i, none⟩ (.bool true)).setCell ⟨b, 102 + i * 3, none⟩ (.int .i64 u)).setCell ⟨b, 102 + i * 3 + 1, none⟩ (.int .i64 v)).setCell ⟨b, 102 + i * 3 + 2, none⟩ (.int .i64 wt) = W4 at HR ⊢
  obtain ⟨p4, r1, r3, r4, hGL2, hends⟩ := unhide HR
  clear cl e0 e1 e2 f0 f1 f2 f3 HR
  refine (cheapest_any b n most (live.set i true) (ed.set i ⟨i, u, v, wt⟩) (Pl.withI L ⟨i, u, v, wt⟩) _ p4 hGL2 (by omega) hn hends).mono ?_
  rintro e w5 ⟨rfl, hb5⟩
  obtain ⟨A2, hA2⟩ : ∃ A2, A2 = Pl.bits (Pl.forest (Pl.withI L ⟨i, u, v, wt⟩)) := ⟨_, rfl⟩
  obtain ⟨A1, hA1⟩ : ∃ A1, A1 = Pl.bits (Pl.forest L) := ⟨_, rfl⟩
  have len1 : A1.length = 100 := by rw [hA1]; exact Pl.bits_len _
  have len2 : A2.length = 100 := by rw [hA2]; exact Pl.bits_len _
  rw [← hA1] at r1
  simp only [← hA1, ← hA2] at HA ⊢
  have p5 := p4.later hb5 (Nat.le_refl _)
  have r15 := r1.later hb5 r1.lt
  have r35 := r3.later hb5 r3.lt
  have r45 := r4.later hb5
  have hs5 := r15.lt
  have hb5s := p5.row.lt
  have hr5s := r35.lt
  have hrn := row_new50 w5
  have n1 : w2.heap.size ≠ w5.heap.size := by omega
  have n2 : b ≠ w5.heap.size := by omega
  have n3 : w.heap.size ≠ w5.heap.size := by omega
  have sz2 : (A2.map Value.bool).toArray.size = 100 := by rw [List.size_toArray, List.length_map, len2]
  have sz1 : (A1.map Value.bool).toArray.size = 100 := by rw [List.size_toArray, List.length_map, len1]
  have HT : Hid ((w5.alloc (.cells Tryd.zeroCells50 50)).there w5.heap.size 0 (A2.map Value.bool).toArray.size) := by
    show World.there _ _ _ _
    rw [sz2]; exact hrn.there 0 100 (by rw [falsev_len]; omega)
  have HI : Hid ((Tryd.prog.info? 50).map (·.size) = some (A2.map Value.bool).toArray.size) := by
    show _ = _
    rw [sz2]; exact infoArrB
  have HI1 : Hid ((Tryd.prog.info? 50).map (·.size) = some (A1.map Value.bool).toArray.size) := by
    show _ = _
    rw [sz1]; exact infoArrB
  have HO : Hid ((A2.map Value.bool).toArray.all (·.oneCell') = true) := all_oneCell_toArray (bitsv_one _)
  have t1 : RowAt ((w5.alloc (.cells Tryd.zeroCells50 50)).setCells w5.heap.size 0 (A2.map Value.bool)) w5.heap.size 50 (A2.map Value.bool) := RowAt.whole hrn (by rw [List.length_map, len2, falsev_len])
  have t2 : PG ((w5.alloc (.cells Tryd.zeroCells50 50)).setCells w5.heap.size 0 (A2.map Value.bool)) b n most (live.set i true) (ed.set i ⟨i, u, v, wt⟩) := ⟨by unfold RowAt; rw [heap_setCells _ _ _ _ n2]; exact p5.row.alloc _, p5.ll, p5.le⟩
  have t3 : RowAt ((w5.alloc (.cells Tryd.zeroCells50 50)).setCells w5.heap.size 0 (A2.map Value.bool)) w.heap.size 61 [.int .i64 0, .int .i64 0] := by unfold RowAt; rw [heap_setCells _ _ _ _ n3]; exact r35.alloc _
  have t4 : RowAt ((w5.alloc (.cells Tryd.zeroCells50 50)).setCells w5.heap.size 0 (A2.map Value.bool)) w2.heap.size 50 (A1.map Value.bool) := by unfold RowAt; rw [heap_setCells _ _ _ _ n1]; exact r15.alloc _
  have t5 : Fr (fun k => k = b) w ((w5.alloc (.cells Tryd.zeroCells50 50)).setCells w5.heap.size 0 (A2.map Value.bool)) := fr_setCells _ _ _ (r45.alloc _) (Or.inr (by omega))
  have HQ := hide (And.intro t1 (And.intro t2 (And.intro t3 (And.intro t4 t5))))
  have HX := hide (And.intro hA1 hA2)
  clear t1 t2 t3 t4 t5 hrn p5 r15 r35 r45 p4 r1 r3 r4 hGL2 hends hb5 hA1 hA2 sz1 sz2
  go_upto_region 13 with (refine wpList_store_mid rfl 50 (.tmp 13) (.tmp 56) rfl w5.heap.size 0 (A2.map Value.bool).toArray rfl rfl ?_ ?_ ?_ ?_)
  · exact unhide HT
  · exact unhide HI
  · exact unhide HO
  generalize (w5.alloc (.cells Tryd.zeroCells50 50)).setCells w5.heap.size 0 (A2.map Value.bool) = W6 at HQ ⊢
  obtain ⟨t1, t2, t3, t4, t5⟩ := unhide HQ
  clear HQ
  go_wp2_with (first
    | (refine wpList_load_row rfl 50 (.tmp 12) rfl w2.heap.size rfl 50 (A1.map Value.bool).toArray (0, 0) _ t4 Tryd.underlying50 rfl (unhide HI1) ?_)
    | (refine wpList_load_row rfl 50 (.tmp 13) rfl w5.heap.size rfl 50 (A2.map Value.bool).toArray (0, 0) _ t1 Tryd.underlying50 rfl (unhide HI) ?_))
  refine (changep_any A1 A2 len1 len2 _).mono ?_
  rintro e w7 ⟨rfl, hb7⟩
  rw [(unhide HA).1, (unhide HA).2]
  have s3 := t3.later hb7 t3.lt
  have s2 := t2.later hb7 (Nat.le_refl _)
  have s5 := t5.later hb7
  have y0 := s3.cell 0 (by simp)
  have y1 := s3.cell 1 (by simp)
  have yf0 := s3.free 0
  have yf1 := s3.free 1
  have u2 : PG ((w7.setCell ⟨w.heap.size, 0, none⟩ (.int .i64 (Pl.only (Pl.forest (Pl.withI L ⟨i, u, v, wt⟩)) (Pl.forest L)))).setCell ⟨w.heap.size, 1, none⟩ (.int .i64 (Pl.only (Pl.forest L) (Pl.forest (Pl.withI L ⟨i, u, v, wt⟩))))) b n most (live.set i true) (ed.set i ⟨i, u, v, wt⟩) := ⟨(s2.row.other _ _ hbne).other _ _ hbne, s2.ll, s2.le⟩
  have u5 : Fr (fun k => k = b) w ((w7.setCell ⟨w.heap.size, 0, none⟩ (.int .i64 (Pl.only (Pl.forest (Pl.withI L ⟨i, u, v, wt⟩)) (Pl.forest L)))).setCell ⟨w.heap.size, 1, none⟩ (.int .i64 (Pl.only (Pl.forest L) (Pl.forest (Pl.withI L ⟨i, u, v, wt⟩))))) :=
    (s5.setCell (Or.inr (Nat.le_refl _)) _).setCell (Or.inr (Nat.le_refl _)) _
  obtain ⟨z0, z1, _⟩ := two_cells ((s3.set 0 (.int .i64 (Pl.only (Pl.forest (Pl.withI L ⟨i, u, v, wt⟩)) (Pl.forest L)))).set 1 (.int .i64 (Pl.only (Pl.forest L) (Pl.forest (Pl.withI L ⟨i, u, v, wt⟩)))))
  have HZ := hide (And.intro u2 (And.intro u5 (And.intro z0 z1)))
  clear u2 u5 z0 z1 s2 s3 s5 t1 t2 t3 t4 t5 hb7
  go_wp2
  obtain ⟨u2, u5, z0, z1⟩ := unhide HZ
  exact bodyPost_ret (v := .tuple #[.agg #[.int .i64 (Pl.only (Pl.forest (Pl.withI L ⟨i, u, v, wt⟩)) (Pl.forest L)), .int .i64 (Pl.only (Pl.forest L) (Pl.forest (Pl.withI L ⟨i, u, v, wt⟩)))], .int .i64 0]) (by simp [results, Tryd.results18, go_sem, z0, z1]) rfl ⟨rfl, u2, u5⟩

end Go.Proofs.YthgfdjinialjnaaDoor
