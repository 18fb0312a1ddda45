import Derived.Test.YtnnnleckoinjoaaGreatDoorP18
namespace Go.Proofs.YtnnnleckoinjoaaGreatDoor
open Go.RowKit
open Pl (It)

/-- the answer is laid where it is asked -/
theorem ends_res {w w3 : World} {b n most : Nat} {live : List Bool} {ed : List It} {tl : List Value} (hbl : b < w.heap.size) (hP : PF w3 b n most live ed tl) (hr : RowAt w3 w.heap.size 73 [.int .i64 0, .int .i64 0]) (hF : Fr (fun k => k = b) w w3) (x y : Value) (o : Obj) :
    PF (((w3.setCell ⟨w.heap.size, 0, none⟩ x).setCell ⟨w.heap.size, 1, none⟩ y).alloc o) b n most live ed tl ∧ Fr (fun k => k = b) w (((w3.setCell ⟨w.heap.size, 0, none⟩ x).setCell ⟨w.heap.size, 1, none⟩ y).alloc o) ∧
    (((w3.setCell ⟨w.heap.size, 0, none⟩ x).setCell ⟨w.heap.size, 1, none⟩ y).alloc o).cell? ⟨w.heap.size, 0, none⟩ = some x ∧ (((w3.setCell ⟨w.heap.size, 0, none⟩ x).setCell ⟨w.heap.size, 1, none⟩ y).alloc o).cell? ⟨w.heap.size, 1, none⟩ = some y := by
  have hne : ¬ b = w.heap.size := by omega
  refine ⟨((hP.other _ _ hne).other _ _ hne).alloc _, ((hF.setCell (p := ⟨w.heap.size, 0, none⟩) (Or.inr (Nat.le_refl _)) _).setCell (p := ⟨w.heap.size, 1, none⟩) (Or.inr (Nat.le_refl _)) _).alloc _, ?_, ?_⟩
  · exact (((hr.set 0 x).set 1 y).alloc o).cell 0 (by simp)
  · exact (((hr.set 0 x).set 1 y).alloc o).cell 1 (by simp)

set_option maxRecDepth 100000 in
set_option maxHeartbeats 4000000 in
theorem insp_ok (b n most : Nat) (live : List Bool) (ed L : List It) (sl : List Sl) (k : Nat) (hs : sl.length = 20) (hk : k ≤ 20) (i : Nat) (hll : i < live.length) (hle : i < ed.length) (hid : ed[i].id = i) (u v wt : Int) (w : World) (hG : PF w b n most live ed (pcells sl k)) (hL : Pl.GL L live ed) (hl : L.length ≤ 90) (hn : n ≤ 30) (he : Pl.Ends n L)
    (h1 : Pl.numB (i : Int) = true) (h2 : Pl.verB n u = true) (h3 : Pl.verB n v = true) (h4 : Pl.has L (i : Int) = false) (h5 : L.length < most) :
    Calls Tryz.prog 36 #[.pointer (some ⟨b, 0, none⟩), .int .i64 i, .int .i64 u, .int .i64 v, .int .i64 wt] w fun e w' =>
      e = .returned (.tuple #[.agg #[.int .i64 (Pl.only (Pl.forest (Pl.withI L ⟨i, u, v, wt⟩)) (Pl.forest L)), .int .i64 (Pl.only (Pl.forest L) (Pl.forest (Pl.withI L ⟨i, u, v, wt⟩)))], .int .i64 0]) ∧
      PF w' b n most (live.set i true) (ed.set i ⟨i, u, v, wt⟩) (pcells (pushS sl k ⟨live[i], ed[i]⟩) (pushN k)) ∧ Fr (fun k => k = b) w w' := by
  have hbl := hG.row.lt
  have hbne : ¬ b = w.heap.size := by omega
  have hbne2 : ¬ w.heap.size = b := by omega
  obtain ⟨i0, i1⟩ := Pl.numB_true.1 h1
  have hi : i < 100 := by omega
  have hi1 : (i : Int) < 100 := by omega
  have hG1 := hG.alloc (.cells #[.int .i64 0, .int .i64 0] 73)
  have HK := hide (checkNew_any b n most live ed L i u v _ hG1.pg hL 0 (Or.inr ⟨h1, h2, h3, h4, h5, rfl⟩))
  have hLen : L.length ≤ 100 := by omega
  have hends : Pl.Ends n (Pl.withI L ⟨i, u, v, wt⟩) := Pl.with_ends he ⟨(Pl.verB_true.1 h2).1, (Pl.verB_true.1 h2).2, (Pl.verB_true.1 h3).1, (Pl.verB_true.1 h3).2⟩
  have hwl := Pl.with_len L ⟨i, u, v, wt⟩
  have hGL2 : Pl.GL (Pl.withI L ⟨i, u, v, wt⟩) (live.set i true) (ed.set i ⟨i, u, v, wt⟩) := by
    have := hL.with ⟨i, u, v, wt⟩ h4 i0 i1 hG.ll hG.le
    simpa using this
  have HC := hide (fun (v' : World) (tl : List Value) (h : PF v' b n most live ed tl) => setp_any b n most live ed L (Pl.withI L ⟨i, u, v, wt⟩) tl i true ⟨i, u, v, wt⟩ v' h hL hGL2 (Pl.adj_with h4) hLen (by omega) hn he hends hi)
  have HM := hide (fun (v' : World) (h : PF v' b n most live ed (pcells sl k)) => remember_any b n most live ed sl k hs hk i hi hll hle hid v' h)
  obtain ⟨oA, hoA⟩ : ∃ o, o = Pl.only (Pl.forest (Pl.withI L ⟨i, u, v, wt⟩)) (Pl.forest L) := ⟨_, rfl⟩
  obtain ⟨oR, hoR⟩ : ∃ o, o = Pl.only (Pl.forest L) (Pl.forest (Pl.withI L ⟨i, u, v, wt⟩)) := ⟨_, rfl⟩
  rw [← hoA, ← hoR]
  rw [← hoA, ← hoR] at HC
  generalize pushS sl k ⟨live[i], ed[i]⟩ = sl2 at *
  have A0 := hide hG
  clear hL he hGL2 hends hG hoA hoR hid
  go_enter Tryz.func36, Tryz.ntmps36
  go_wp2_with fail
  refine (unhide HK).mono ?_
  rintro e w1 ⟨rfl, hb1⟩
  simp only [World.size_alloc] at hb1
  have hPG1 := hG1.later hb1 (by rw [World.size_alloc]; omega)
  have hres1 : RowAt w1 w.heap.size 73 [.int .i64 0, .int .i64 0] := made_later hb1 (by omega)
  have hB1 : Below w.heap.size w w1 := ((Below.refl _ _).alloc (Nat.le_refl _) _).trans (hb1.mono (by omega))
  clear hb1 hG1 HK
  go_wp2_with fail
  refine ((unhide HM) _ hPG1).mono ?_
  rintro e w2 ⟨rfl, hP2, hF2⟩
  have hres2 := hres1.fr hF2 hbne2
  have hFr2 : Fr (fun k => k = b) w w2 := (Fr.of_below hB1).trans hF2
  clear hPG1 hres1 hB1 hF2
  go_wp2_with fail
  refine ((unhide HC) _ _ hP2).mono ?_
  rintro e w3 ⟨rfl, hP3, hF3⟩
  have hres3 := hres2.fr hF3 hbne2
  have hFr3 := hFr2.trans hF3
  have hs3 := hres3.lt
  have m1 : ¬ w.heap.size = w3.heap.size := by omega
  have m2 : ¬ w3.heap.size = w.heap.size := by omega
  have hbs3 := hP3.row.lt
  have m3 : ¬ b = w3.heap.size := by omega
  have y0 := hres3.cell 0 (by simp)
  have y1 := hres3.cell 1 (by simp)
  have yf0 := hres3.free 0
  have yf1 := hres3.free 1
  have H3 := hide (And.intro hP3 (And.intro hres3 hFr3))
  clear hP3 hres3 hFr3 hF3 hFr2 hres2 hP2 HC HM
  go_wp2
  obtain ⟨hP3, hres3, hFr3⟩ := unhide H3
  obtain ⟨z2, z5, z0, z1⟩ := ends_res hbl hP3 hres3 hFr3 (.int .i64 oA) (.int .i64 oR) (.cells #[.int .i64 oA, .int .i64 oR] 73)
  generalize (((w3.setCell ⟨w.heap.size, 0, none⟩ (.int .i64 oA)).setCell ⟨w.heap.size, 1, none⟩ (.int .i64 oR)).alloc (.cells #[.int .i64 oA, .int .i64 oR] 73)) = W4 at *
  exact bodyPost_ret (v := .tuple #[.agg #[.int .i64 oA, .int .i64 oR], .int .i64 0]) (by simp [results, Tryz.results36, go_sem, z0, z1]) rfl ⟨rfl, z2, z5⟩

set_option maxRecDepth 100000 in
set_option maxHeartbeats 2000000 in
theorem delp_no (b n most : Nat) (live : List Bool) (ed L : List It) (id : Int) (w : World) (hG : PG w b n most live ed) (hL : Pl.GL L live ed) (code : Int)
    (hc : (Pl.numB id = false ∧ code = 2) ∨ (Pl.numB id = true ∧ Pl.has L id = false ∧ code = 6)) :
    Calls Tryz.prog 37 #[.pointer (some ⟨b, 0, none⟩), .int .i64 id] w fun e w' => e = .returned (.tuple #[.agg #[.int .i64 0, .int .i64 0], .int .i64 code]) ∧ Below w.heap.size w w' := by
  have hne : code ≠ 0 := by rcases hc with ⟨_, rfl⟩ | ⟨_, _, rfl⟩ <;> decide
  have HK := hide (fun o => checkEdge_any b n most live ed L id (w.alloc o) (hG.alloc o) hL code (by rcases hc with h | h; exact Or.inl h; exact Or.inr (Or.inl h)))
  clear hG hL hc
  go_enter Tryz.func37, Tryz.ntmps37
  go_wp2_with (go_at_call 76; refine ((unhide HK) _).mono ?_; rintro e w1 ⟨rfl, rfl⟩)
  exact bodyPost_ret (v := .tuple #[.agg #[.int .i64 0, .int .i64 0], .int .i64 code]) (by simp [results, Tryz.results37, go_sem]) rfl ⟨rfl, (Below.refl _ _).alloc (Nat.le_refl _) _⟩

set_option maxRecDepth 100000 in
set_option maxHeartbeats 4000000 in
theorem delp_ok (b n most : Nat) (live : List Bool) (ed L : List It) (sl : List Sl) (k : Nat) (hs : sl.length = 20) (hk : k ≤ 20) (i : Nat) (hll : i < live.length) (hle : i < ed.length) (hid : ed[i].id = i) (w : World) (hG : PF w b n most live ed (pcells sl k)) (hL : Pl.GL L live ed) (hl : L.length ≤ 100) (hn : n ≤ 30) (he : Pl.Ends n L)
    (h1 : Pl.numB (i : Int) = true) (h4 : Pl.has L (i : Int) = true) (hGL2 : Pl.GL (Pl.withoutI L i) (live.set i false) (ed.set i ⟨i, 0, 0, 0⟩)) (hadj : Pl.Adj L (Pl.withoutI L i)) :
    Calls Tryz.prog 37 #[.pointer (some ⟨b, 0, none⟩), .int .i64 i] w fun e w' =>
      e = .returned (.tuple #[.agg #[.int .i64 (Pl.only (Pl.forest (Pl.withoutI L i)) (Pl.forest L)), .int .i64 (Pl.only (Pl.forest L) (Pl.forest (Pl.withoutI L i)))], .int .i64 0]) ∧
      PF w' b n most (live.set i false) (ed.set i ⟨i, 0, 0, 0⟩) (pcells (pushS sl k ⟨live[i], ed[i]⟩) (pushN k)) ∧ Fr (fun k => k = b) w w' := by
  have hbl := hG.row.lt
  have hbne : ¬ b = w.heap.size := by omega
  have hbne2 : ¬ w.heap.size = b := by omega
  obtain ⟨i0, i1⟩ := Pl.numB_true.1 h1
  have hi : i < 100 := by omega
  have hi1 : (i : Int) < 100 := by omega
  have HK := hide (fun o => checkEdge_any b n most live ed L i (w.alloc o) (hG.alloc o).pg hL 0 (Or.inr (Or.inr ⟨h1, h4, rfl⟩)))
  have hG1 := hG.alloc (.cells #[.int .i64 0, .int .i64 0] 73)
  have hwl := Pl.without_len L i
  have HC := hide (fun (v' : World) (tl : List Value) (h : PF v' b n most live ed tl) => setp_any b n most live ed L (Pl.withoutI L i) tl i false ⟨i, 0, 0, 0⟩ v' h hL hGL2 hadj hl (by omega) hn he (Pl.without_ends he i) hi)
  have HM := hide (fun (v' : World) (h : PF v' b n most live ed (pcells sl k)) => remember_any b n most live ed sl k hs hk i hi hll hle hid v' h)
  obtain ⟨oA, hoA⟩ : ∃ o, o = Pl.only (Pl.forest (Pl.withoutI L i)) (Pl.forest L) := ⟨_, rfl⟩
  obtain ⟨oR, hoR⟩ : ∃ o, o = Pl.only (Pl.forest L) (Pl.forest (Pl.withoutI L i)) := ⟨_, rfl⟩
  rw [← hoA, ← hoR]
  rw [← hoA, ← hoR] at HC
  generalize pushS sl k ⟨live[i], ed[i]⟩ = sl2 at *
  have hres1 : RowAt (w.alloc (.cells #[.int .i64 0, .int .i64 0] 73)) w.heap.size 73 [.int .i64 0, .int .i64 0] := row_new w 73 _
  have hB1 : Below w.heap.size w (w.alloc (.cells #[.int .i64 0, .int .i64 0] 73)) := (Below.refl _ _).alloc (Nat.le_refl _) _
  have A1 := hide (And.intro hG1 (And.intro hres1 hB1))
  clear hL he hGL2 hG hoA hoR hid hG1 hadj hres1 hB1
  go_enter Tryz.func37, Tryz.ntmps37
  go_wp2_with (go_at_call 76; refine ((unhide HK) _).mono ?_; rintro e w1 ⟨rfl, rfl⟩)
  obtain ⟨hPG1, hres1, hB1⟩ := unhide A1
  refine ((unhide HM) _ hPG1).mono ?_
  rintro e w2 ⟨rfl, hP2, hF2⟩
  have hres2 := hres1.fr hF2 hbne2
  have hFr2 : Fr (fun k => k = b) w w2 := (Fr.of_below hB1).trans hF2
  clear hPG1 hres1 hB1 hF2 A1 HK
  go_wp2_with fail
  refine ((unhide HC) _ _ hP2).mono ?_
  rintro e w3 ⟨rfl, hP3, hF3⟩
  have hres3 := hres2.fr hF3 hbne2
  have hFr3 := hFr2.trans hF3
  have hs3 := hres3.lt
  have m1 : ¬ w.heap.size = w3.heap.size := by omega
  have m2 : ¬ w3.heap.size = w.heap.size := by omega
  have hbs3 := hP3.row.lt
  have m3 : ¬ b = w3.heap.size := by omega
  have y0 := hres3.cell 0 (by simp)
  have y1 := hres3.cell 1 (by simp)
  have yf0 := hres3.free 0
  have yf1 := hres3.free 1
  have H3 := hide (And.intro hP3 (And.intro hres3 hFr3))
  clear hP3 hres3 hFr3 hF3 hFr2 hres2 hP2 HC HM
  go_wp2
  obtain ⟨hP3, hres3, hFr3⟩ := unhide H3
  obtain ⟨z2, z5, z0, z1⟩ := ends_res hbl hP3 hres3 hFr3 (.int .i64 oA) (.int .i64 oR) (.cells #[.int .i64 oA, .int .i64 oR] 73)
  generalize (((w3.setCell ⟨w.heap.size, 0, none⟩ (.int .i64 oA)).setCell ⟨w.heap.size, 1, none⟩ (.int .i64 oR)).alloc (.cells #[.int .i64 oA, .int .i64 oR] 73)) = W4 at *
  exact bodyPost_ret (v := .tuple #[.agg #[.int .i64 oA, .int .i64 oR], .int .i64 0]) (by simp [results, Tryz.results37, go_sem, z0, z1]) rfl ⟨rfl, z2, z5⟩

set_option maxRecDepth 100000 in
set_option maxHeartbeats 2000000 in
theorem undop_no (b n most : Nat) (live : List Bool) (ed : List It) (sl : List Sl) (hs : sl.length = 20) (w : World) (hG : PF w b n most live ed (pcells sl 0)) :
    Calls Tryz.prog 39 #[.pointer (some ⟨b, 0, none⟩)] w fun e w' => e = .returned (.tuple #[.agg #[.int .i64 0, .int .i64 0], .int .i64 8]) ∧ Below w.heap.size w w' := by
  have hbl := hG.row.lt
  have hbne : ¬ b = w.heap.size := by omega
  have hbne2 : ¬ w.heap.size = b := by omega
  have hcn := hG.count hs
  clear hG
  go_enter Tryz.func39, Tryz.ntmps39
  go_wp2
  exact bodyPost_ret (v := .tuple #[.agg #[.int .i64 0, .int .i64 0], .int .i64 8]) (by simp [results, Tryz.results39, go_sem]) rfl ⟨rfl, (Below.refl _ _).alloc (Nat.le_refl _) _⟩

set_option maxRecDepth 100000 in
set_option maxHeartbeats 4000000 in
theorem undop_ok (b n most : Nat) (live : List Bool) (ed L l : List It) (sl : List Sl) (k : Nat) (hs : sl.length = 20) (hk : k < 20) (i : Nat) (hi : i < 100) (c : Bool) (x : It) (hx : x.id = i) (hsk : sl[k]? = some ⟨c, x⟩) (w : World) (hG : PF w b n most live ed (pcells sl (k + 1))) (hL : Pl.GL L live ed) (hl : L.length ≤ 100) (hl2 : l.length ≤ 100) (hn : n ≤ 30) (he : Pl.Ends n L) (he2 : Pl.Ends n l)
    (hGL2 : Pl.GL l (live.set i c) (ed.set i x)) (hadj : Pl.Adj L l) :
    Calls Tryz.prog 39 #[.pointer (some ⟨b, 0, none⟩)] w fun e w' =>
      e = .returned (.tuple #[.agg #[.int .i64 (Pl.only (Pl.forest l) (Pl.forest L)), .int .i64 (Pl.only (Pl.forest L) (Pl.forest l))], .int .i64 0]) ∧
      PF w' b n most (live.set i c) (ed.set i x) (pcells (sl.set k zeroSl) k) ∧ Fr (fun k => k = b) w w' := by
  have hbl := hG.row.lt
  have hbne : ¬ b = w.heap.size := by omega
  have hbne2 : ¬ w.heap.size = b := by omega
  have hcn := hG.count hs
  have hk1 : ¬ ((k + 1 : Nat) : Int) = 0 := by omega
  have hk2 : ¬ (0 : Int) = ((k + 1 : Nat) : Int) := by omega
  have hG1 := hG.alloc (.cells #[.int .i64 0, .int .i64 0] 73)
  have HC := hide (fun (v' : World) (tl : List Value) (h : PF v' b n most live ed tl) => setp_any b n most live ed L l tl i c x v' h hL hGL2 hadj hl hl2 hn he he2 hi)
  have HM := hide (fun (v' : World) (h : PF v' b n most live ed (pcells sl (k + 1))) => recall_any b n most live ed sl k hs hk ⟨c, x⟩ hsk v' h)
  obtain ⟨oA, hoA⟩ : ∃ o, o = Pl.only (Pl.forest l) (Pl.forest L) := ⟨_, rfl⟩
  obtain ⟨oR, hoR⟩ : ∃ o, o = Pl.only (Pl.forest L) (Pl.forest l) := ⟨_, rfl⟩
  rw [← hoA, ← hoR]
  rw [← hoA, ← hoR] at HC
  simp only [slv, hx] at HM
  have hres1 : RowAt (w.alloc (.cells #[.int .i64 0, .int .i64 0] 73)) w.heap.size 73 [.int .i64 0, .int .i64 0] := row_new w 73 _
  have hB1 : Below w.heap.size w (w.alloc (.cells #[.int .i64 0, .int .i64 0] 73)) := (Below.refl _ _).alloc (Nat.le_refl _) _
  have A1 := hide (And.intro hG1 (And.intro hres1 hB1))
  clear hL he hGL2 hG hoA hoR hx hsk he2 hG1 hadj hres1 hB1
  go_enter Tryz.func39, Tryz.ntmps39
  go_wp2_with fail
  obtain ⟨hPG1, hres1, hB1⟩ := unhide A1
  refine ((unhide HM) _ hPG1).mono ?_
  rintro e w2 ⟨rfl, hP2, hF2⟩
  have hres2 := hres1.fr hF2 hbne2
  have hFr2 : Fr (fun k => k = b) w w2 := (Fr.of_below hB1).trans hF2
  have hs2 := hres2.lt
  have hbs2 := hP2.row.lt
  have l1 : ¬ w.heap.size = w2.heap.size := by omega
  have l2 : ¬ w2.heap.size = w.heap.size := by omega
  have l3 : ¬ b = w2.heap.size := by omega
  have hP2' := hP2.alloc (.cells #[.int .i64 i, .bool c, .int .i64 x.u, .int .i64 x.v, .int .i64 x.w] 54)
  have hres2' := hres2.alloc (.cells #[.int .i64 i, .bool c, .int .i64 x.u, .int .i64 x.v, .int .i64 x.w] 54)
  have hFr2' := hFr2.alloc (.cells #[.int .i64 i, .bool c, .int .i64 x.u, .int .i64 x.v, .int .i64 x.w] 54)
  clear hPG1 hres1 hB1 hF2 A1 hcn hP2 hres2 hFr2
  go_wp2_with fail
  refine ((unhide HC) _ _ hP2').mono ?_
  rintro e w3 ⟨rfl, hP3, hF3⟩
  have hres3 := hres2'.fr hF3 hbne2
  have hFr3 := hFr2'.trans hF3
  have hs3 := hres3.lt
  have m1 : ¬ w.heap.size = w3.heap.size := by omega
  have m2 : ¬ w3.heap.size = w.heap.size := by omega
  have hbs3 := hP3.row.lt
  have m3 : ¬ b = w3.heap.size := by omega
  have y0 := hres3.cell 0 (by simp)
  have y1 := hres3.cell 1 (by simp)
  have yf0 := hres3.free 0
  have yf1 := hres3.free 1
  have H3 := hide (And.intro hP3 (And.intro hres3 hFr3))
  clear hP3 hres3 hFr3 hF3 hFr2' hres2' hP2' HC HM
  go_wp2
  obtain ⟨hP3, hres3, hFr3⟩ := unhide H3
  obtain ⟨z2, z5, z0, z1⟩ := ends_res hbl hP3 hres3 hFr3 (.int .i64 oA) (.int .i64 oR) (.cells #[.int .i64 oA, .int .i64 oR] 73)
  generalize (((w3.setCell ⟨w.heap.size, 0, none⟩ (.int .i64 oA)).setCell ⟨w.heap.size, 1, none⟩ (.int .i64 oR)).alloc (.cells #[.int .i64 oA, .int .i64 oR] 73)) = W4 at *
  exact bodyPost_ret (v := .tuple #[.agg #[.int .i64 oA, .int .i64 oR], .int .i64 0]) (by simp [results, Tryz.results39, go_sem, z0, z1]) rfl ⟨rfl, z2, z5⟩

end Go.Proofs.YtnnnleckoinjoaaGreatDoor
