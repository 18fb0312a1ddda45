import Derived.Test.YtnnnleckoinjoaaDoorK9
import Derived.Deep.RegionHeld3
import Derived.Deep.DeepCutAuto
namespace Go.Proofs.YtnnnleckoinjoaaDoor
open Go.RowKit
open Pl (It)

theorem Fr.undrew {S : Nat → Prop} {w w' : World} (h : Fr S w.drew w') : Fr S w w' := ⟨h.os, h.tape, h.output, h.size, h.block⟩
theorem Below.undrew {B : Nat} {w w' : World} (h : Below B w.drew w') : Below B w w' := ⟨h.os, h.tape, h.output, h.size, h.block⟩

/-- behind the graph's change: the book, what it holds, the graph, the box of what was handed in -/
structure Cm (w wx : World) (bb xb : Nat) (s s2 : St) (vl vp vm : Value) (B : Obj) : Prop where
  book : wx.heap[bb]? = some (bko xb s.n vl vp vm)
  box : wx.heap[w.heap.size]? = some B
  its : Its wx 0 vl s.L
  past : PastAt wx vp s.past
  nums : Nums wx 0 vm ((Pl.forest s.L).map It.id)
  xg : XG wx xb s2
  fr : Fr (fun k => k = bb ∨ k = xb) w wx

section
variable {w wx : World} {bb xb : Nat} {s s2 : St} {vl vp vm : Value} {B : Obj}
theorem cm_of {W0 : World} (hne : bb ≠ xb) (hb : w.heap[bb]? = some (bko xb s.n vl vp vm)) (hI : Its w 0 vl s.L) (hP : PastAt w vp s.past) (hN : Nums w 0 vm ((Pl.forest s.L).map It.id)) (hx : XG w xb s)
    (hB : Below w.heap.size w W0) (hbox : W0.heap[w.heap.size]? = some B) (hx2 : XG wx xb s2) (hf : Fr (fun k => k = xb) W0 wx) : Cm w wx bb xb s s2 vl vp vm B := by
  have hx0 : XG W0 xb s := PF.later hx hB (Nat.le_refl _)
  have hxl := (PF.row hx).lt
  have hb0 := (hB.block bb (lt_of_block hb)).trans hb
  exact ⟨(hf.block bb (lt_of_block hb0) hne).trans hb0, (hf.block _ (lt_of_block hbox) (by omega)).trans hbox, (sp_x hx0).its hf (row_below hI hB (Nat.le_refl _)),
    (sp_x hx0).past hf (past_fr hP (Fr.of_below (S := fun _ => False) hB) (fun _ _ _ _ f => f) (fun _ _ f => f)), (sp_x hx0).nums hf (row_below hN hB (Nat.le_refl _)), hx2, (Fr.of_below hB).trans (frs_x hf)⟩
theorem Cm.later {wy : World} (h : Cm w wx bb xb s s2 vl vp vm B) (hB : Below wx.heap.size wx wy) : Cm w wy bb xb s s2 vl vp vm B :=
  ⟨(hB.block bb (lt_of_block h.book)).trans h.book, (hB.block _ (lt_of_block h.box)).trans h.box, row_below h.its hB (Nat.le_refl _), past_fr h.past (Fr.of_below (S := fun _ => False) hB) (fun _ _ _ _ f => f) (fun _ _ f => f), row_below h.nums hB (Nat.le_refl _), PF.later h.xg hB (Nat.le_refl _), h.fr.later hB⟩
theorem Cm.set (h : Cm w wx bb xb s s2 vl vp vm B) {gc : Nat} {cs : Array Value} (hc : wx.heap[gc]? = some (.cells cs 47 (0, 0))) (hg : w.heap.size < gc) (x y : Value) : Cm w ((wx.setCell ⟨gc, 0, none⟩ x).setCell ⟨gc, 1, none⟩ y) bb xb s s2 vl vp vm B := by
  have hf : Fr (fun k => k = gc) wx ((wx.setCell ⟨gc, 0, none⟩ x).setCell ⟨gc, 1, none⟩ y) := Fr.setCell (S := fun k => k = gc) (Fr.setCell (S := fun k => k = gc) (Fr.refl _ _) (p := ⟨gc, 0, none⟩) (Or.inl rfl) _) (p := ⟨gc, 1, none⟩) (Or.inl rfl) _
  have sp : Sp (fun k => k = gc) wx := by rintro k rfl; exact ⟨_, _, hc, by decide, by decide, by decide⟩
  have n1 : bb ≠ gc := by rintro rfl; have := h.book; rw [hc] at this; simp at this
  have n2 : xb ≠ gc := by
    rintro rfl
    have hX := PF.row h.xg
    unfold RowAt at hX
    rw [hc] at hX; simp at hX
  exact ⟨(hf.block bb (lt_of_block h.book) n1).trans h.book, (hf.block _ (lt_of_block h.box) (by omega)).trans h.box, sp.its hf h.its, sp.past hf h.past, sp.nums hf h.nums, PF.fr h.xg hf n2, h.fr.trans' hf (fun k hk e => by omega)⟩
end

abbrev bxo (i : Nat) (u v wt : Int) : Obj := .cells #[.int .i64 i, .int .i64 u, .int .i64 v, .int .i64 wt] 32 (0, 0)

set_option maxRecDepth 100000 in
set_option maxHeartbeats 4000000 in
theorem kcomes_any (bb xb : Nat) (s : St) (h : BOk s) (i : Nat) (hi : i < 24) (u v wt : Int) (h2 : Pl.verB s.n u = true) (h3 : Pl.verB s.n v = true) (h4 : Pl.has s.L (i : Int) = false) (hw0 : -9223372036854775808 ≤ wt) (hw1 : wt ≤ 9223372036854775807) (w : World) (hB : BK w bb xb s) :
    Calls Tryd.prog 37 #[P0 bb, .agg #[.int .i64 i, .int .i64 u, .int .i64 v, .int .i64 wt]] w fun e w' => e = .returned (.bool true) ∧ BK w' bb xb (insSt s i u v wt) ∧ Fr (fun k => k = bb ∨ k = xb) w w' := by
  have hne := hB.ne
  obtain ⟨⟨vl, vp, vm, hb, hI, hP, hN⟩, hx⟩ := hB
  have h1 : Pl.numB (i : Int) = true := Pl.numB_true.2 (by omega)
  have hbl := lt_of_block hb
  obtain ⟨c0, _, c2, _, _, _, _⟩ := six_cells6 hb
  obtain ⟨al, cl, rfl⟩ := row_form hI
  have hxl := (PF.row hx).lt
  have HD : Hid (∀ w', XG w' xb s → Calls Tryd.prog 18 #[P0 xb, .int .i64 i, .int .i64 u, .int .i64 v, .int .i64 wt] w' fun e w'' => e = .returned (.tuple #[.agg #[.int .i64 (Pl.only (Pl.forest (Pl.withI s.L ⟨i, u, v, wt⟩)) (Pl.forest s.L)), .int .i64 (Pl.only (Pl.forest s.L) (Pl.forest (Pl.withI s.L ⟨i, u, v, wt⟩)))], .int .i64 0]) ∧ XG w'' xb (insSt s i u v wt) ∧ Fr (fun k => k = xb) w' w'') := fun w' hx' => insX_ok h.ok i u v wt h1 h2 h3 h4 h.room w' xb hx'
  have HW := hide (fun v2 vl vp vm w' => wrote bb xb s (insSt s i u v wt) h.ok (h.ok.ins i u v wt h1 h2 h3 h4 h.room hw0 hw1) rfl (Pl.adj_with h4) rfl vl vp vm v2 w')
  have HI := hide (fun w' hh => kwith_any s.L ⟨i, u, v, wt⟩ h.ok.gl.ids h4 al cl w' hh h.ok.l100)
  obtain ⟨oA, hoA⟩ : ∃ o, o = Pl.only (Pl.forest (Pl.withI s.L ⟨i, u, v, wt⟩)) (Pl.forest s.L) := ⟨_, rfl⟩
  obtain ⟨oR, hoR⟩ : ∃ o, o = Pl.only (Pl.forest s.L) (Pl.forest (Pl.withI s.L ⟨i, u, v, wt⟩)) := ⟨_, rfl⟩
  have e1 : (insSt s i u v wt).L = Pl.withI s.L ⟨i, u, v, wt⟩ := rfl
  rw [← hoA, ← hoR] at HD
  simp only [e1, ← hoA, ← hoR] at HW
  have hBa : Below w.heap.size w (w.alloc (bxo i u v wt)) := (Below.refl _ _).alloc (Nat.le_refl _) _
  have hBb : Below w.heap.size w ((w.alloc (bxo i u v wt)).alloc (.cells #[.int .i64 0, .int .i64 0] 47)) := hBa.alloc hBa.size _
  have hbx1 : (w.alloc (bxo i u v wt)).heap[w.heap.size]? = some (bxo i u v wt) := heap_alloc_new _ _
  have hbx2 : ((w.alloc (bxo i u v wt)).alloc (.cells #[.int .i64 0, .int .i64 0] 47)).heap[w.heap.size]? = some (bxo i u v wt) := by rw [Below.heap_alloc _ _ _ (lt_of_block hbx1)]; exact hbx1
  have hvr : ((w.alloc (bxo i u v wt)).alloc (.cells #[.int .i64 0, .int .i64 0] 47)).heap[w.heap.size + 1]? = some (.cells #[.int .i64 0, .int .i64 0] 47 (0, 0)) := by
    have := heap_alloc_new (w.alloc (bxo i u v wt)) (.cells #[.int .i64 0, .int .i64 0] 47)
    rw [World.size_alloc] at this; exact this
  have hx1 : XG (w.alloc (bxo i u v wt)).drew xb s := PF.drew (PF.alloc hx _)
  have hx2 : XG ((w.alloc (bxo i u v wt)).alloc (.cells #[.int .i64 0, .int .i64 0] 47)).drew xb s := PF.drew (PF.alloc (PF.alloc hx _) _)
  have A1 : Hid (∀ w2, XG w2 xb (insSt s i u v wt) → Fr (fun k => k = xb) (w.alloc (bxo i u v wt)).drew w2 → Cm w w2 bb xb s (insSt s i u v wt) (.slice al s.L.length cl) vp vm (bxo i u v wt)) := fun w2 a b => cm_of hne hb hI hP hN hx hBa hbx1 a b.undrew
  have A2 : Hid (∀ w2, XG w2 xb (insSt s i u v wt) → Fr (fun k => k = xb) ((w.alloc (bxo i u v wt)).alloc (.cells #[.int .i64 0, .int .i64 0] 47)).drew w2 → Cm w w2 bb xb s (insSt s i u v wt) (.slice al s.L.length cl) vp vm (bxo i u v wt) ∧ w2.heap[w.heap.size + 1]? = some (.cells #[.int .i64 0, .int .i64 0] 47 (0, 0))) := fun w2 a b =>
    ⟨cm_of hne hb hI hP hN hx hBb hbx2 a b.undrew, (b.undrew.block _ (lt_of_block hvr) (by omega)).trans hvr⟩
  have HX1 := hide hx1
  have HX2 := hide hx2
  have hl100 := h.ok.l100
  have k1 : ¬ bb = w.heap.size := by omega
  have k2 : ¬ w.heap.size = bb := by omega
  have k3 : ¬ bb = w.heap.size + 1 := by omega
  have k4 : ¬ w.heap.size + 1 = bb := by omega
  clear hb hI hP hN hx hoA hoR e1 h1 h4 hBa hBb hbx1 hbx2 hvr hx1 hx2
  go_enter Tryd.func37, Tryd.ntmps37
  go_upto_region 1 with fail
  go_cut [5, 6] (fun p q wx => ∃ gc, p = .pointer (some ⟨gc, 0, none⟩) ∧ q = .int .i64 0 ∧ w.heap.size < gc ∧ wx.heap[gc]? = some (.cells #[.int .i64 oA, .int .i64 oR] 47 (0, 0)) ∧ Cm w wx bb xb s (insSt s i u v wt) (.slice al s.L.length cl) vp vm (bxo i u v wt))
  case first =>
    go_region_held3 (fun w' => w'.cell? ⟨bb, 0, none⟩ = some (P0 xb) ∧ w'.cell? ⟨w.heap.size, 0, none⟩ = some (.int .i64 i) ∧ w'.cell? ⟨w.heap.size, 1, none⟩ = some (.int .i64 u) ∧ w'.cell? ⟨w.heap.size, 2, none⟩ = some (.int .i64 v) ∧ w'.cell? ⟨w.heap.size, 3, none⟩ = some (.int .i64 wt))
      (first | go_keep | (go_split_ands; refine ⟨?_, ?_, ?_, ?_, ?_⟩ <;> (first | assumption | simp [*])))
      (first
        | (go_at_call 18; refine ((unhide HD) _ (unhide HX1)).mono ?_; rintro e w2 ⟨rfl, hx2, hf2⟩; have q := (unhide A1) w2 hx2 hf2; have r := six_cells6 q.book; obtain ⟨r0, _, r2, _, _, _, _⟩ := r; have t := four_cells q.box; obtain ⟨t0, t1, t2, t3, _⟩ := t; have hbl2 := lt_of_block q.book; have hwl2 := lt_of_block q.box; have m1 : ¬ bb = w2.heap.size := (by omega); have m2 : ¬ w2.heap.size = bb := (by omega); have m3 : ¬ w.heap.size = w2.heap.size := (by omega); have m4 : ¬ w2.heap.size = w.heap.size := (by omega); have H2 := hide q; clear hx2 hf2 q)
        | (go_at_call 18; refine ((unhide HD) _ (unhide HX2)).mono ?_; rintro e w2 ⟨rfl, hx2, hf2⟩; have q0 := (unhide A2) w2 hx2 hf2; obtain ⟨q, qv⟩ := q0; have r := six_cells6 q.book; obtain ⟨r0, _, r2, _, _, _, _⟩ := r; have t := four_cells q.box; obtain ⟨t0, t1, t2, t3, _⟩ := t; have tv := two_cells qv; obtain ⟨y0, y1, yf⟩ := tv; have yf0 := yf 0; have yf1 := yf 1; have hbl2 := lt_of_block q.book; have hwl2 := lt_of_block qv; have H2 := hide (And.intro q qv); clear hx2 hf2 q qv yf))
    · go_wp2_with fail
      go_meet
      exact ⟨_, rfl, rfl, by omega, heap_alloc_new _ _, (unhide H2).later ((Below.refl _ _).alloc (Nat.le_refl _) _)⟩
    · go_wp2_with fail
      go_meet
      exact ⟨_, rfl, rfl, by omega, set_two (unhide H2).2, Cm.set (unhide H2).1 (unhide H2).2 (by omega) _ _⟩
  case rest =>
    rename World => wa
    obtain ⟨gc, rfl, rfl, hgc, hv, hC⟩ := hcut
    clear HD A1 A2 HX1 HX2 c0 c2
    have hbgc : bb ≠ gc := by rintro rfl; have := hC.book; rw [hv] at this; simp at this
    obtain ⟨d0, _, d2, _, _, _, _⟩ := six_cells6 hC.book
    obtain ⟨t0, t1, t2, t3, _⟩ := four_cells hC.box
    have hbla := lt_of_block hC.book
    have hgca := lt_of_block hv
    have HIw : Hid (Calls Tryd.prog 61 #[.slice al s.L.length cl, .agg #[.int .i64 i, .int .i64 u, .int .i64 v, .int .i64 wt]] wa.drew fun e w' => ∃ v', e = .returned v' ∧ Its w' wa.drew.heap.size v' (Pl.withI s.L ⟨i, u, v, wt⟩) ∧ Below wa.drew.heap.size wa.drew w') := (unhide HI) wa.drew hC.its
    have HC := hide (And.intro hC hv)
    clear hC hv HI
    go_wp2_with fail
    go_region_held3 (fun w' => w'.cell? ⟨bb, 2, none⟩ = some (.slice al s.L.length cl) ∧ w'.cell? ⟨w.heap.size, 0, none⟩ = some (.int .i64 i) ∧ w'.cell? ⟨w.heap.size, 1, none⟩ = some (.int .i64 u) ∧ w'.cell? ⟨w.heap.size, 2, none⟩ = some (.int .i64 v) ∧ w'.cell? ⟨w.heap.size, 3, none⟩ = some (.int .i64 wt))
      (first | go_keep | (go_split_ands; refine ⟨?_, ?_, ?_, ?_, ?_⟩ <;> (refine cell_later hB3 ?_; first | assumption | simp [*])))
      (first
        | (go_at_call 61; refine (unhide HIw).mono ?_; rintro e w3 ⟨v3, rfl, hI3, hB3⟩; have q := row_form hI3; obtain ⟨a3, c3, rfl⟩ := q))
    obtain ⟨hC, hv⟩ := unhide HC
    have hB3' : Below wa.heap.size wa w3 := Below.undrew hB3
    have hC3 := hC.later hB3'
    have hv3 := (hB3'.block _ (lt_of_block hv)).trans hv
    have hw := (unhide HW) _ _ vp vm w3 hC3.book hC3.its hC3.past hC3.nums (row_mono hI3 (Nat.zero_le _)) hC3.xg hne
    have n3 : gc ≠ bb := fun e => hbgc e.symm
    have H3 := hide (And.intro hC3.fr hv3)
    clear hI3 hB3 hB3' hC hv hC3 hv3 HC HIw HW d0 d2 t0 t1 t2 t3
    go_wp2_with fail
    refine hw.mono ?_
    rintro e w4 ⟨rfl, hF4, hch⟩
    obtain ⟨hF3, hv3⟩ := unhide H3
    have hv4 := (hF4.block _ (lt_of_block hv3) n3).trans hv3
    obtain ⟨z0, z1, _⟩ := two_cells hv4
    have hF5 := hF3.trans (frs_b (xb := xb) hF4)
    have hc := hch w4 (Below.refl _ _)
    have H5 := hide hF5
    clear hF3 hv3 hv4 hF4 hF5 H3 hw hch
    go_wp2_with fail
    refine hc.mono ?_
    rintro e w6 ⟨rfl, hBK, hF6⟩
    have H6 := hide (And.intro hBK ((unhide H5).trans (frs_b (xb := xb) hF6)))
    clear hBK hF6 hc z0 z1
    go_wp2
    go_ret
    exact ⟨rfl, (unhide H6).1, (unhide H6).2⟩

end Go.Proofs.YtnnnleckoinjoaaDoor
