import Derived.Test.YtnnnleckoinjoaaGreatDoorP2
namespace Go.Proofs.YtnnnleckoinjoaaGreatDoor
open Go.RowKit
open Pl (It)

set_option maxRecDepth 100000 in
set_option maxHeartbeats 1000000 in
theorem lighterp_any (b n most : Nat) (live : List Bool) (ed : List It) (i j : Nat) (x y : It) (hx : ed[i]? = some x) (hy : ed[j]? = some y) (hxi : x.id = i) (hyj : y.id = j) (w : World) (hG : PG w b n most live ed) :
    Calls Tryz.prog 113 #[.pointer (some ⟨b, 0, none⟩), .int .i64 i, .int .i64 j] w fun e w' => e = .returned (.bool (Pl.lighter x y)) ∧ ∃ n, w' = w.drewN n := by
  obtain ⟨hi, ei⟩ := List.getElem?_eq_some_iff.1 hx
  obtain ⟨hj, ej⟩ := List.getElem?_eq_some_iff.1 hy
  have hle := hG.le
  obtain ⟨_, _, ci⟩ := hG.ce i hi
  obtain ⟨_, _, cj⟩ := hG.ce j hj
  rw [ei] at ci
  rw [ej] at cj
  have hi1 : (i : Int) < 100 := by omega
  have hj1 : (j : Int) < 100 := by omega
  have HX := hide hxi
  have HY := hide hyj
  clear hxi hyj ei ej hx hy hle
  by_cases hw : x.w = y.w
  · have hw1 : (x.w != y.w) = false := by simpa using hw
    have HW := hide hw
    clear hw
    go_enter Tryz.func113, Tryz.ntmps113
    go_wp2
    go_quiet (fail)
    go_wp2
    go_ret
    refine ⟨ret_bool ?_, _, rfl⟩
    rw [Bool.eq_iff_iff, Pl.lighter_iff, unhide HX, unhide HY, unhide HW]; simp
  · have hw1 : (x.w != y.w) = true := by simpa using hw
    have HW := hide hw
    clear hw
    go_enter Tryz.func113, Tryz.ntmps113
    go_wp2
    go_quiet (fail)
    go_wp2
    go_quiet (fail)
    go_wp2
    go_ret
    refine ⟨ret_bool ?_, _, World.drewN_drewN ..⟩
    rw [Bool.eq_iff_iff, Pl.lighter_iff]
    have := unhide HW
    simp; omega

set_option maxRecDepth 100000 in
set_option maxHeartbeats 1000000 in
theorem livep_any (b n most : Nat) (live : List Bool) (ed : List It) (w : World) (hG : PG w b n most live ed) :
    Calls Tryz.prog 17 #[.pointer (some ⟨b, 0, none⟩)] w fun e w' => ∃ v, e = .returned v ∧ Nums w' w.heap.size v (Pl.marks live 100) ∧ Below w.heap.size w w' := by
  have hr := hG.bools
  have hll := hG.ll
  go_enter Tryz.func17, Tryz.ntmps17
  go_wp2_with (first
    | (refine wpList_load_mid rfl 49 (.tmp 5) rfl b 2 (by rfl) (live.map Value.bool) _ hr Tryz.underlying49 rfl (by rw [List.length_map, hll]; exact infoArrB) ?_)
    | (go_at_call 35; refine (marked_any live hll _).mono ?_; rintro e w1 ⟨v, rfl, hN, hb⟩))
  go_ret
  exact ⟨_, rfl, hN, hb⟩

set_option maxRecDepth 100000 in
set_option maxHeartbeats 1000000 in
theorem isFull_any (b n most : Nat) (live : List Bool) (ed : List It) (w : World) (hG : PG w b n most live ed) :
    Calls Tryz.prog 67 #[.pointer (some ⟨b, 0, none⟩)] w fun e w' => e = .returned (.bool (decide (most ≤ (Pl.marks live 100).length))) ∧ Below w.heap.size w w' := by
  go_enter Tryz.func67, Tryz.ntmps67
  go_wp2_with fail
  refine (livep_any b n most live ed _ hG).mono ?_
  rintro e w1 ⟨v, rfl, hN, hb⟩
  obtain ⟨a, cap, rfl⟩ := row_form hN
  have c1 := (hG.later hb (Nat.le_refl _)).c1
  go_wp2
  go_ret
  exact ⟨ret_bool rfl, hb⟩

theorem boolcell {w : World} {b t : Nat} {l : List Bool} (h : RowAt w b t (l.map Value.bool)) (k : Nat) (hk : k < l.length) : w.cell? ⟨b, k, none⟩ = some (.bool l[k]) := by
  rw [h.cell k (by simpa using hk)]; simp

set_option maxRecDepth 100000 in
set_option maxHeartbeats 2000000 in
theorem changep_any (x y : List Bool) (hx : x.length = 100) (hy : y.length = 100) (w : World) :
    Calls Tryz.prog 101 #[.agg (x.map Value.bool).toArray, .agg (y.map Value.bool).toArray] w fun e w' => e = .returned (.agg #[.int .i64 (Pl.lastOnly y x 100), .int .i64 (Pl.lastOnly x y 100)]) ∧ Below w.heap.size w w' := by
  go_enter Tryz.func101, Tryz.ntmps101
  go_wp2
  go_loopg [6] 100 (fun gk i wr => ∃ k : Nat, k ≤ 100 ∧ i = .int .i64 k ∧ RowAt wr w.heap.size 49 (x.map Value.bool) ∧ RowAt wr (w.heap.size + 1) 49 (y.map Value.bool) ∧ RowAt wr (w.heap.size + 1 + 1) 73 [.int .i64 0, .int .i64 0] ∧
      RowAt wr (w.heap.size + 1 + 1 + 1) 73 [.int .i64 (Pl.lastOnly y x k), .int .i64 (Pl.lastOnly x y k)] ∧ Below w.heap.size w wr ∧ 100 - k ≤ gk)
  case atStart =>
    refine ⟨0, Nat.zero_le _, rfl, ?_, ?_, ?_, ?_, ?_, by omega⟩
    · exact ((row_new w _ _).alloc _).alloc _ |>.alloc _
    · have := row_new (w.alloc (.cells (x.map Value.bool).toArray 49)) 49 (y.map Value.bool)
      rw [World.size_alloc] at this
      exact (this.alloc _).alloc _
    · have := row_new ((w.alloc (.cells (x.map Value.bool).toArray 49)).alloc (.cells (y.map Value.bool).toArray 49)) 73 [.int .i64 0, .int .i64 0]
      rw [World.size_alloc, World.size_alloc] at this
      exact this.alloc _
    · have := row_new (((w.alloc (.cells (x.map Value.bool).toArray 49)).alloc (.cells (y.map Value.bool).toArray 49)).alloc (.cells #[.int .i64 0, .int .i64 0] 73)) 73 [.int .i64 (-1), .int .i64 (-1)]
      rw [World.size_alloc, World.size_alloc, World.size_alloc] at this
      exact this
    · exact ((((Below.refl _ _).alloc (Nat.le_refl _) _).alloc (by rw [World.size_alloc]; omega) _).alloc (by rw [World.size_alloc, World.size_alloc]; omega) _).alloc (by rw [World.size_alloc, World.size_alloc, World.size_alloc]; omega) _
  case round =>
    obtain ⟨k, hk, rfl, r1, r2, r3, r4, hb, hgk⟩ := hrel
    have n1 : ¬ w.heap.size = w.heap.size + 1 + 1 + 1 := by omega
    have n2 : ¬ w.heap.size + 1 = w.heap.size + 1 + 1 + 1 := by omega
    have n3 : ¬ w.heap.size + 1 + 1 = w.heap.size + 1 + 1 + 1 := by omega
    by_cases hlt : k < 100
    · have hk2 : (k : Int) < 100 := by omega
      have hkx : k < x.length := by omega
      have hky : k < y.length := by omega
      have cx := boolcell r1 k hkx
      have cy := boolcell r2 k hky
      have f4 := r4.free 0
      have f5 := r4.free 1
      have c4 := r4.cell 0 (by simp)
      have c5 := r4.cell 1 (by simp)
      have HX := hide (Pl.lastOnly_succ x y k)
      have HY := hide (Pl.lastOnly_succ y x k)
      have ex : x.getD k false = x[k] := by simp [List.getD, hkx]
      have ey : y.getD k false = y[k] := by simp [List.getD, hky]
      rw [ex, ey] at HX HY
      have H := hide (And.intro r1 (And.intro r2 (And.intro r3 r4)))
      clear ex ey r1 r2 r3 r4
      generalize x[k] = p at *
      generalize y[k] = q at *
      cases p <;> cases q
      all_goals
        go_wp2
        obtain ⟨r1, r2, r3, r4⟩ := unhide H
        go_roundg (gk - 1)
        case measure => omega
        case rel =>
          refine ⟨k + 1, by omega, by go_num, ?_, ?_, ?_, ?_, ?_, by omega⟩
          · first | exact r1 | exact r1.other _ _ n1
          · first | exact r2 | exact r2.other _ _ n2
          · first | exact r3 | exact r3.other _ _ n3
          · rw [unhide HX, unhide HY]; first | exact r4 | exact r4.set 0 _ | exact r4.set 1 _
          · first | exact hb | exact hb.setCell (by simp; omega) _
    · have hk' : k = 100 := by omega
      subst hk'
      have c4 := r4.cell 0 (by simp)
      have c5 := r4.cell 1 (by simp)
      have d4 := r3.cell 0 (by simp)
      have d5 := r3.cell 1 (by simp)
      have f4 := r3.free 0
      have f5 := r3.free 1
      have H := hide r3
      clear r1 r2 r3 r4
      go_wp2
      obtain ⟨z0, z1, _⟩ := two_cells (((unhide H).set 0 (.int .i64 (Pl.lastOnly y x 100))).set 1 (.int .i64 (Pl.lastOnly x y 100)))
      exact bodyPost_ret (v := .agg #[.int .i64 (Pl.lastOnly y x 100), .int .i64 (Pl.lastOnly x y 100)]) (by simp [results, Tryz.results101, go_sem, z0, z1]) rfl ⟨rfl, (hb.setCell (by simp; omega) _).setCell (by simp; omega) _⟩

end Go.Proofs.YtnnnleckoinjoaaGreatDoor
