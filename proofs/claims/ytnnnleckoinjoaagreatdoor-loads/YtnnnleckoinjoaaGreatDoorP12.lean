import Derived.Test.YtnnnleckoinjoaaGreatDoorP11
namespace Go.Proofs.YtnnnleckoinjoaaGreatDoor
open Go.RowKit
open Pl (It)

theorem gcells_set_live {n most : Nat} {live : List Bool} {ed : List It} {tl : List Value} (h : live.length = 100) (i : Nat) (hi : i < 100) (c : Bool) : (gcells n most live ed tl).set (2 + i) (.bool c) = gcells n most (live.set i c) ed tl := by
  unfold gcells
  rw [show 2 + i = i + 1 + 1 by omega, List.set_cons_succ, List.set_cons_succ, List.set_append_left _ _ (by simp; omega), List.map_set]
theorem set102 (a b : Value) (A E : List Value) (hA : A.length = 100) (j : Nat) (v : Value) : (a :: b :: (A ++ E)).set (102 + j) v = a :: b :: (A ++ E.set j v) := by
  rw [show 102 + j = (100 + j) + 1 + 1 by omega, List.set_cons_succ, List.set_cons_succ, List.set_append_right _ _ (by omega), show 100 + j - A.length = j by omega]
theorem gcells_set_ed {n most : Nat} {live : List Bool} {ed : List It} {tl : List Value} (h : live.length = 100) (i : Nat) (hi : i < ed.length) (x : It) :
    (((gcells n most live ed tl).set (102 + i * 3) (.int .i64 x.u)).set (102 + i * 3 + 1) (.int .i64 x.v)).set (102 + i * 3 + 2) (.int .i64 x.w) = gcells n most live (ed.set i x) tl := by
  unfold gcells
  have hl : (live.map Value.bool).length = 100 := by simp [h]
  have hE := edcs_length ed
  rw [← edcs_set ed i hi x, set102 _ _ _ _ hl, Nat.add_assoc, set102 _ _ _ _ hl, Nat.add_assoc, set102 _ _ _ _ hl]
  rw [List.set_append_left _ _ (by omega), List.set_append_left _ _ (by rw [List.length_set]; omega), List.set_append_left _ _ (by rw [List.length_set, List.length_set]; omega)]
theorem gcells_set_tl {n most : Nat} {live : List Bool} {ed : List It} {tl : List Value} (h : live.length = 100) (he : ed.length = 100) (j : Nat) (v : Value) :
    (gcells n most live ed tl).set (402 + j) v = gcells n most live ed (tl.set j v) := by
  unfold gcells
  have hl : (live.map Value.bool).length = 100 := by simp [h]
  have hE := edcs_length ed
  rw [show 402 + j = 102 + (300 + j) by omega, set102 _ _ _ _ hl, List.set_append_right _ _ (by omega), show 300 + j - (edcs ed).length = j by omega]
/-- a number comes to stand for something else -/
theorem PF.put {w : World} {b n most : Nat} {live : List Bool} {ed : List It} {tl : List Value} (h : PF w b n most live ed tl) (i : Nat) (hi : i < 100) (c : Bool) (x : It) :
    PF ((((w.setCell ⟨b, 2 + i, none⟩ (.bool c)).setCell ⟨b, 102 + i * 3, none⟩ (.int .i64 x.u)).setCell ⟨b, 102 + i * 3 + 1, none⟩ (.int .i64 x.v)).setCell ⟨b, 102 + i * 3 + 2, none⟩ (.int .i64 x.w)) b n most (live.set i c) (ed.set i x) tl := by
  have hle := h.le
  refine ⟨?_, by rw [List.length_set]; exact h.ll, by rw [List.length_set]; exact h.le, h.lt⟩
  rw [← gcells_set_ed (by rw [List.length_set]; exact h.ll) i (by omega) x, ← gcells_set_live h.ll i hi c]
  exact (((h.row.set _ _).set _ _).set _ _).set _ _
theorem PF.tail {w : World} {b n most : Nat} {live : List Bool} {ed : List It} {tl : List Value} (h : PF w b n most live ed tl) (j : Nat) (v : Value) :
    PF (w.setCell ⟨b, 402 + j, none⟩ v) b n most live ed (tl.set j v) := by
  refine ⟨?_, h.ll, h.le, by rw [List.length_set]; exact h.lt⟩
  rw [← gcells_set_tl h.ll h.le]
  exact h.row.set _ _

/-- what checkNew tells -/
def NewCode (n most : Nat) (L : List It) (id u v : Int) (code : Int) : Prop :=
  (Pl.numB id = false ∧ code = 2) ∨ (Pl.numB id = true ∧ Pl.verB n u = false ∧ code = 3) ∨ (Pl.numB id = true ∧ Pl.verB n u = true ∧ Pl.verB n v = false ∧ code = 3) ∨ (Pl.numB id = true ∧ Pl.verB n u = true ∧ Pl.verB n v = true ∧ Pl.has L id = true ∧ code = 4) ∨
      (Pl.numB id = true ∧ Pl.verB n u = true ∧ Pl.verB n v = true ∧ Pl.has L id = false ∧ most ≤ L.length ∧ code = 5)

set_option maxRecDepth 100000 in
set_option maxHeartbeats 2000000 in
theorem checkNew_any (b n most : Nat) (live : List Bool) (ed L : List It) (id u v : Int) (w : World) (hG : PG w b n most live ed) (hL : Pl.GL L live ed) (code : Int)
    (hc : NewCode n most L id u v code ∨ (Pl.numB id = true ∧ Pl.verB n u = true ∧ Pl.verB n v = true ∧ Pl.has L id = false ∧ L.length < most ∧ code = 0)) :
    Calls Tryz.prog 30 #[.pointer (some ⟨b, 0, none⟩), .int .i64 id, .int .i64 u, .int .i64 v] w fun e w' => e = .returned (.int .i64 code) ∧ Below w.heap.size w w' := by
  have hbl := hG.blt
  have c0 := hG.c0
  unfold NewCode at hc
  rcases hc with (⟨h1, rfl⟩ | ⟨h1, h2, rfl⟩ | ⟨h1, h2, h3, rfl⟩ | ⟨h1, h2, h3, h4, rfl⟩ | ⟨h1, h2, h3, h4, h5, rfl⟩) | ⟨h1, h2, h3, h4, h5, rfl⟩
  · clear hG hL
    go_enter Tryz.func30, Tryz.ntmps30
    go_wp2_with (first
      | (go_at_call 65; refine (isId_any _ _).mono ?_; rintro e w1 ⟨rfl, rfl⟩; rw [h1]))
    go_ret
    exact ⟨rfl, Below.refl _ _⟩
  · clear hG hL
    go_enter Tryz.func30, Tryz.ntmps30
    go_wp2_with (first
      | (go_at_call 65; refine (isId_any _ _).mono ?_; rintro e w1 ⟨rfl, rfl⟩; rw [h1])
      | (go_at_call 66; refine (isVertex_any b n _ _ (by simp [c0])).mono ?_; rintro e w1 ⟨rfl, rfl⟩; (try rw [h2])))
    go_ret
    exact ⟨rfl, Below.refl _ _⟩
  · clear hG hL
    go_enter Tryz.func30, Tryz.ntmps30
    go_wp2_with (first
      | (go_at_call 65; refine (isId_any _ _).mono ?_; rintro e w1 ⟨rfl, rfl⟩; rw [h1])
      | (go_at_call 66; refine (isVertex_any b n _ _ (by simp [c0])).mono ?_; rintro e w1 ⟨rfl, rfl⟩; (first | rw [h2] | rw [h3])))
    go_ret
    exact ⟨rfl, Below.refl _ _⟩
  · obtain ⟨i0, i1⟩ := Pl.numB_true.1 h1
    obtain ⟨i, rfl⟩ := Int.eq_ofNat_of_zero_le i0
    have hi : i < 100 := by omega
    have cl := hG.cl i hi
    rw [live_has hL i hi hG.ll, h4] at cl
    clear hG hL
    go_enter Tryz.func30, Tryz.ntmps30
    go_wp2_with (first
      | (go_at_call 65; refine (isId_any _ _).mono ?_; rintro e w1 ⟨rfl, rfl⟩; rw [h1])
      | (go_at_call 66; refine (isVertex_any b n _ _ (by simp [c0])).mono ?_; rintro e w1 ⟨rfl, rfl⟩; (first | rw [h2] | rw [h3])))
    go_ret
    exact ⟨rfl, Below.refl _ _⟩
  all_goals
    obtain ⟨i0, i1⟩ := Pl.numB_true.1 h1
    obtain ⟨i, rfl⟩ := Int.eq_ofNat_of_zero_le i0
    have hi : i < 100 := by omega
    have cl := hG.cl i hi
    rw [live_has hL i hi hG.ll, h4] at cl
    have hml : (Pl.marks live 100).length = L.length := by rw [hL.marks, List.length_map]
    have HG := hide hG
    clear hG hL
    go_enter Tryz.func30, Tryz.ntmps30
    go_wp2_with (first
      | (go_at_call 65; refine (isId_any _ _).mono ?_; rintro e w1 ⟨rfl, rfl⟩; rw [h1])
      | (go_at_call 66; refine (isVertex_any b n _ _ (by simp [c0])).mono ?_; rintro e w1 ⟨rfl, rfl⟩; (first | rw [h2] | rw [h3])))
    refine (isFull_any b n most live ed _ (unhide HG)).mono ?_
    rintro e w1 ⟨rfl, hb1⟩
    rw [hml]
    first
      | (rw [show decide (most ≤ L.length) = true by simpa using h5])
      | (rw [show decide (most ≤ L.length) = false by simpa using h5])
    clear HG
    go_wp2
    go_ret
    exact ⟨rfl, hb1⟩

set_option maxRecDepth 100000 in
set_option maxHeartbeats 2000000 in
theorem insp_no (b n most : Nat) (live : List Bool) (ed L : List It) (id u v wt : Int) (w : World) (hG : PG w b n most live ed) (hL : Pl.GL L live ed) (code : Int)
    (hc : NewCode n most L id u v code) :
    Calls Tryz.prog 36 #[.pointer (some ⟨b, 0, none⟩), .int .i64 id, .int .i64 u, .int .i64 v, .int .i64 wt] w fun e w' => e = .returned (.tuple #[.agg #[.int .i64 0, .int .i64 0], .int .i64 code]) ∧ Below w.heap.size w w' := by
  have hbl := hG.blt
  have hbne : ¬ b = w.heap.size := by omega
  have hbne2 : ¬ w.heap.size = b := by omega
  have hG1 : PG (w.alloc (.cells #[.int .i64 0, .int .i64 0] 73)) b n most live ed := hG.alloc _
  have hne : ¬ code = 0 := by unfold NewCode at hc; omega
  have hne2 : (code == 0) = false := by rw [beq_eq_false_iff_ne]; exact hne
  have HC := hide (checkNew_any b n most live ed L id u v _ hG1 hL code (Or.inl hc))
  clear hG hL hc hG1
  go_enter Tryz.func36, Tryz.ntmps36
  go_wp2_with fail
  refine (unhide HC).mono ?_
  rintro e w1 ⟨rfl, hb1⟩
  simp only [World.size_alloc] at hb1
  have hres := made_later hb1 (by omega)
  obtain ⟨y0, y1, yf⟩ := two_cells hres
  have yf0 := yf 0
  have yf1 := yf 1
  have hz := set_two (x := .int .i64 0) (y := .int .i64 0) hres
  obtain ⟨z0, z1, _⟩ := two_cells hz
  have HZ := hide (And.intro z0 z1)
  clear yf hz z0 z1 hres HC
  go_wp2
  obtain ⟨z0, z1⟩ := unhide HZ
  exact bodyPost_ret (v := .tuple #[.agg #[.int .i64 0, .int .i64 0], .int .i64 code]) (by simp [results, Tryz.results36, go_sem, z0, z1]) rfl ⟨rfl, ((((Below.refl _ _).alloc (Nat.le_refl _) _).trans (hb1.mono (by omega))).setCell (Nat.le_refl _) _).setCell (Nat.le_refl _) _⟩

end Go.Proofs.YtnnnleckoinjoaaGreatDoor
