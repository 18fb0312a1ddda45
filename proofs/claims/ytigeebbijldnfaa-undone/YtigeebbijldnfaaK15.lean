import Derived.Test.YtigeebbijldnfaaK14
import Derived.Test.YtigeebbijldnfaaP8
namespace Go.Proofs.Ytigeebbijldnfaa
open Go.RowKit
open Pl (It)

theorem cut1 {w w1 : World} {r c : Obj} (hb : Below (w.alloc r).drew.heap.size (w.alloc r).drew w1) :
    w.heap.size < w1.heap.size ∧ (w1.alloc c).heap[w1.heap.size]? = some c ∧ (w1.alloc c).heap[w.heap.size]? = some r ∧ Below w.heap.size w (w1.alloc c) := by
  have hb' : Below (w.heap.size + 1) (w.alloc r) w1 := by
    have e : (w.alloc r).drew.heap.size = w.heap.size + 1 := World.size_alloc _ _
    rw [e] at hb; exact Below.undrew hb
  have hs : w.heap.size + 1 ≤ w1.heap.size := by have := hb'.size; rw [World.size_alloc] at this; exact this
  refine ⟨by omega, heap_alloc_new _ _, ?_, ?_⟩
  · rw [Below.heap_alloc _ _ _ (by omega)]; exact made_later hb' (by omega)
  · exact (((Below.refl _ _).alloc (Nat.le_refl _) _).trans (hb'.mono (by omega))).alloc (by omega) _
theorem set_three {w : World} {b t : Nat} {x0 y0 z0 x y z : Value} (h : w.heap[b]? = some (.cells #[x0, y0, z0] t (0, 0))) :
    (((w.setCell ⟨b, 0, none⟩ x).setCell ⟨b, 1, none⟩ y).setCell ⟨b, 2, none⟩ z).heap[b]? = some (.cells #[x, y, z] t (0, 0)) := by
  have h1 := heap_setCell_same w b 0 _ _ x h
  have h2 := heap_setCell_same _ b 1 _ _ y h1
  have h3 := heap_setCell_same _ b 2 _ _ z h2
  rw [h3]; rfl
theorem cut3 {w w1 : World} {r : Obj} {t : Nat} {x0 y0 z0 x y z : Value} (hb : Below ((w.alloc r).alloc (.cells #[x0, y0, z0] t)).drew.heap.size ((w.alloc r).alloc (.cells #[x0, y0, z0] t)).drew w1) :
    w.heap.size < w.heap.size + 1 ∧ (((w1.setCell ⟨w.heap.size + 1, 0, none⟩ x).setCell ⟨w.heap.size + 1, 1, none⟩ y).setCell ⟨w.heap.size + 1, 2, none⟩ z).heap[w.heap.size + 1]? = some (.cells #[x, y, z] t (0, 0)) ∧
    (((w1.setCell ⟨w.heap.size + 1, 0, none⟩ x).setCell ⟨w.heap.size + 1, 1, none⟩ y).setCell ⟨w.heap.size + 1, 2, none⟩ z).heap[w.heap.size]? = some r ∧ Below w.heap.size w (((w1.setCell ⟨w.heap.size + 1, 0, none⟩ x).setCell ⟨w.heap.size + 1, 1, none⟩ y).setCell ⟨w.heap.size + 1, 2, none⟩ z) := by
  have hb' : Below (w.heap.size + 1 + 1) ((w.alloc r).alloc (.cells #[x0, y0, z0] t)) w1 := by
    have e : ((w.alloc r).alloc (.cells #[x0, y0, z0] t)).drew.heap.size = w.heap.size + 1 + 1 := by show ((w.alloc r).alloc (.cells #[x0, y0, z0] t)).heap.size = _; rw [World.size_alloc, World.size_alloc]
    rw [e] at hb; exact Below.undrew hb
  have h1 : w1.heap[w.heap.size + 1]? = some (.cells #[x0, y0, z0] t (0, 0)) := by
    rw [hb'.block _ (by omega)]
    have := heap_alloc_new (w.alloc r) (.cells #[x0, y0, z0] t)
    rw [World.size_alloc] at this; exact this
  have h0 : w1.heap[w.heap.size]? = some r := by
    rw [hb'.block _ (by omega), Below.heap_alloc _ _ _ (by rw [World.size_alloc]; omega)]; exact heap_alloc_new _ _
  have hB : Below w.heap.size w w1 := (((Below.refl _ _).alloc (Nat.le_refl _) _).alloc (by rw [World.size_alloc]; omega) _).trans (hb'.mono (by omega))
  refine ⟨by omega, set_three h1, ?_, ?_⟩
  · rw [Below.heap_setCell _ _ _ _ (by simp), Below.heap_setCell _ _ _ _ (by simp), Below.heap_setCell _ _ _ _ (by simp)]; exact h0
  · exact ((hB.setCell (p := ⟨w.heap.size + 1, 0, none⟩) (by simp) _).setCell (p := ⟨w.heap.size + 1, 1, none⟩) (by simp) _).setCell (p := ⟨w.heap.size + 1, 2, none⟩) (by simp) _

theorem var3 {w w1 : World} {r : Obj} {t : Nat} {x0 y0 z0 : Value} (hb : Below ((w.alloc r).alloc (.cells #[x0, y0, z0] t)).drew.heap.size ((w.alloc r).alloc (.cells #[x0, y0, z0] t)).drew w1) :
    w1.cell? ⟨w.heap.size + 1, 0, none⟩ = some x0 ∧ w1.cell? ⟨w.heap.size + 1, 1, none⟩ = some y0 ∧ w1.cell? ⟨w.heap.size + 1, 2, none⟩ = some z0 ∧ ∀ k, w1.frozen? ⟨w.heap.size + 1, k, none⟩ = false := by
  have hb' : Below (w.heap.size + 1 + 1) ((w.alloc r).alloc (.cells #[x0, y0, z0] t)) w1 := by
    have e : ((w.alloc r).alloc (.cells #[x0, y0, z0] t)).drew.heap.size = w.heap.size + 1 + 1 := by show ((w.alloc r).alloc (.cells #[x0, y0, z0] t)).heap.size = _; rw [World.size_alloc, World.size_alloc]
    rw [e] at hb; exact Below.undrew hb
  have h1 : w1.heap[w.heap.size + 1]? = some (.cells #[x0, y0, z0] t (0, 0)) := by
    rw [hb'.block _ (by omega)]
    have := heap_alloc_new (w.alloc r) (.cells #[x0, y0, z0] t)
    rw [World.size_alloc] at this; exact this
  exact three_cells h1

theorem far3 (w : World) (b q o : Nat) (v0 v1 v2 : Value) (h : b ≠ q) : (((w.setCell ⟨b, 0, none⟩ v0).setCell ⟨b, 1, none⟩ v1).setCell ⟨b, 2, none⟩ v2).cell? ⟨q, o, none⟩ = w.cell? ⟨q, o, none⟩ := by
  rw [World.cell?_setCell_far _ _ _ _ h, World.cell?_setCell_far _ _ _ _ h, World.cell?_setCell_far _ _ _ _ h]

/-- what is asked of a graph in a book -/
theorem BK.forest {w : World} {bb xb : Nat} {s : St} (h : BOk s) (hK : BK w bb xb s) : Calls Try.prog 17 #[P0 xb] w fun e w' => ∃ v, e = .returned v ∧ Nums w' w.heap.size v ((Pl.forest s.L).map It.id) ∧ Below w.heap.size w w' :=
  forestp_any xb _ _ _ _ s.L w hK.xg.pg h.ok.gl h.ok.l100 h.ok.n30 h.ok.ends
theorem BK.live {w : World} {bb xb : Nat} {s : St} (h : BOk s) (hK : BK w bb xb s) : Calls Try.prog 18 #[P0 xb] w fun e w' => ∃ v, e = .returned v ∧ Nums w' w.heap.size v (s.L.map It.id) ∧ Below w.heap.size w w' := by
  have := livep_any xb _ _ _ _ w hK.xg.pg
  rw [h.ok.gl.marks] at this
  exact this

abbrev ito (e : It) : Obj := .cells #[.int .i64 e.id, .int .i64 e.u, .int .i64 e.v, .int .i64 e.w] 40 (0, 0)

set_option maxRecDepth 100000 in
set_option maxHeartbeats 8000000 in
theorem told_any (v0 : Int) (hv : R64 v0) (sa : Option Addr) (sb so len cap : Nat) (I : Nat → StT) (w : World) (hsa : 0 < len → sa = some ⟨sb, so, none⟩) (hsb : 0 < len → sb < w.heap.size) (hlen : len ≤ 9223372036854775807) (hc : ∀ j, j < len → StAt w sb (so + j * 5) (I j)) :
    Calls Try.prog 4 #[.int .i64 v0, .slice sa len cap] w fun e w' => e = .returned (.bool true) ∧ Below w.heap.size w w' := by
  have HP := hide (played_any v0 hv sa sb so len cap I w hsa hsb hlen hc)
  clear hsa hsb hlen hc hv
  go_enter Try.func4, Try.ntmps4
  go_wp2_with fail
  refine (unhide HP).mono ?_
  rintro e w1 ⟨bb, xb, s, rfl, hbb, hxb, hs, hK, hB⟩
  clear HP
  obtain ⟨⟨vl, vp, vm, hb1, hI1, _, hN1⟩, hx1⟩ := id hK
  obtain ⟨al, cl, rfl⟩ := row_form hI1
  obtain ⟨am, cm, rfl⟩ := row_form hN1
  rw [List.length_map] at hb1
  obtain ⟨c0, _, c2, _, c4, _, _⟩ := six_cells6 hb1
  have hbl := lt_of_block hb1
  have hl100 := hs.ok.l100
  have hfl : (Pl.forest s.L).length ≤ 100 := Nat.le_trans (List.length_filter_le _ _) hl100
  have H1 := hide (And.intro hK (And.intro hB (And.intro hI1 hN1)))
  clear hK hB hI1 hN1 hx1 hb1
  go_wp2_with fail
  obtain ⟨hK, hB, hI1, hN1⟩ := unhide H1
  refine (hK.forest hs).mono ?_
  rintro e w2 ⟨v2, rfl, hN2, hB2⟩
  obtain ⟨a2, k2, rfl⟩ := row_form hN2
  rw [List.length_map]
  have d0 := (hB2.cell (p := ⟨bb, 0, none⟩) hbl).trans c0
  have H2 := hide (And.intro (hK.later hB2) (And.intro hN2 hB2))
  clear hK hB hI1 hN1 hN2 hB2
  go_wp2_with fail
  obtain ⟨hK2, hN2, hB2⟩ := unhide H2
  refine (hK2.live hs).mono ?_
  rintro e w3 ⟨v3, rfl, hN3, hB3⟩
  obtain ⟨a3, k3, rfl⟩ := row_form hN3
  rw [List.length_map]
  obtain ⟨hK, hB, hI1, hN1⟩ := unhide H1
  have hB13 : Below w1.heap.size w1 w3 := hB2.trans (hB3.mono hB2.size)
  have c43 := (hB13.cell (p := ⟨bb, 4, none⟩) hbl).trans c4
  have c23 := (hB13.cell (p := ⟨bb, 2, none⟩) hbl).trans c2
  have hNf3 := row_mono (row_below hN2 hB3 (Nat.le_refl _)) (Nat.zero_le _)
  have hNm3 := row_below hN1 hB13 (Nat.le_refl _)
  rw [List.length_map] at hNf3 hNm3
  have HS : Hid (Calls Try.prog 19 #[.slice a2 (Pl.forest s.L).length k2, .slice am (Pl.forest s.L).length cm] w3 fun e w' => e = .returned (.bool true) ∧ Below w3.heap.size w3 w') := by
    have := sameInts_any ((Pl.forest s.L).map It.id) a2 am k2 cm w3 (by unfold Nums; rw [List.length_map]; exact hNf3) (by unfold Nums; rw [List.length_map]; exact hNm3) (by rw [List.length_map]; omega)
    rw [List.length_map] at this
    exact this
  have H3 := hide (And.intro hB13 (And.intro hN3 (And.intro hI1 (And.intro hK hB))))
  clear hK2 hN2 hB2 hN3 hB3 hK hB hI1 hN1 hB13 hNf3 hNm3 H1 H2 d0
  go_wp2_with fail
  refine (unhide HS).mono ?_
  rintro e w4 ⟨rfl, hB4⟩
  obtain ⟨hB13, hN3, hI1, hK, hB⟩ := unhide H3
  have hB14 : Below w1.heap.size w1 w4 := hB13.trans (hB4.mono hB13.size)
  have c24 := (hB14.cell (p := ⟨bb, 2, none⟩) hbl).trans c2
  have hN4 := row_mono (row_below hN3 hB4 (Nat.le_refl _)) (Nat.zero_le _)
  rw [List.length_map] at hN4
  have hK4 := hK.later hB14
  have hI4 := row_below hI1 hB14 (Nat.le_refl _)
  have hBw4 : Below w.heap.size w w4 := hB.trans (hB14.mono hB.size)
  have H4 := hide (And.intro hK4 (And.intro hN4 (And.intro hI4 hBw4)))
  have hbl4 : bb < w4.heap.size := by have := hB14.size; omega
  have c04 := (hB14.cell (p := ⟨bb, 0, none⟩) hbl).trans c0
  clear HS H3 hB4 hB13 hN3 hI1 hK hB hB14 hN4 hK4 hI4 hBw4 c43 c23 c0 c2 c4
  go_wp2_with fail
  go_loopg [9] (s.L.length + 1) (fun gk i wr => ∃ k : Nat, k ≤ s.L.length ∧ i = .int .i64 k ∧ Below w4.heap.size w4 wr ∧ s.L.length - k ≤ gk)
  case atStart => exact ⟨0, Nat.zero_le _, rfl, Below.refl _ _, by omega⟩
  case round =>
    obtain ⟨k, hk, rfl, hbr, hgk⟩ := hrel
    obtain ⟨hK4, hN4, hI4, hBw4⟩ := unhide H4
    by_cases hlt : k < s.L.length
    · have hKr := hK4.later hbr
      have hNr := row_below hN4 hbr (Nat.le_refl _)
      have hIr := row_below hI4 hbr (Nat.le_refl _)
      obtain ⟨g, rfl⟩ := row_some hIr (by omega)
      obtain ⟨gm, rfl⟩ := row_some hNr (by omega)
      obtain ⟨x0, x1, x2, x3⟩ := its_cells hIr k hlt
      have y0 : wr.cell? ⟨gm, k, none⟩ = some (.int .i64 s.L[k].id) := by
        have := nums_cell (l := s.L.map It.id) (g := gm) (cap := k3) (base := 0) (w := wr) (by unfold Nums; rw [List.length_map]; exact hNr) k (by rw [List.length_map]; exact hlt)
        rw [List.getElem_map] at this; exact this
      have hk1 : (0 : Int) ≤ k := by omega
      have hkk : (k : Int) < s.L.length := by omega
      have e0 := (hbr.cell (p := ⟨bb, 0, none⟩) hbl4).trans c04
      have e2 := (hbr.cell (p := ⟨bb, 2, none⟩) hbl4).trans c24
      have hblr : bb < wr.heap.size := by have := hbr.size; omega
      have hgr : g < wr.heap.size := by
        unfold World.cell? at x0; simp only at x0; split at x0
        · rename_i hh; exact lt_of_block hh
        · cases x0
      have hgmr : gm < wr.heap.size := by
        unfold World.cell? at y0; simp only at y0; split at y0
        · rename_i hh; exact lt_of_block hh
        · cases y0
      have hmem : s.L[k] ∈ s.L := List.getElem_mem hlt
      obtain ⟨x, hxe⟩ : ∃ x, x = s.L[k] := ⟨_, rfl⟩
      rw [← hxe] at x0 x1 x2 x3 y0 hmem
      have HE : Hid (∀ w', XG w' xb s → Calls Try.prog 20 #[P0 xb, .int .i64 x.id] w' fun e w'' => e = .returned (.tuple #[.agg #[.int .i64 x.u, .int .i64 x.v, .int .i64 x.w], .int .i64 0]) ∧ Below w'.heap.size w' w'') := fun w' hx' => edgep_ok xb _ _ _ _ s.L x hmem w' hx'.pg hs.ok.gl
      have hxr1 : XG (wr.alloc (ito x)).drew xb s := PF.drew (PF.alloc hKr.xg _)
      have hxr2 : XG ((wr.alloc (ito x)).alloc (.cells #[.int .i64 0, .int .i64 0, .int .i64 0] 42)).drew xb s := PF.drew (PF.alloc (PF.alloc hKr.xg _) _)
      have bx1 : (wr.alloc (ito x)).heap[wr.heap.size]? = some (ito x) := heap_alloc_new _ _
      have bxc1 : (wr.alloc (ito x)).drew.cell? ⟨wr.heap.size, 0, none⟩ = some (.int .i64 x.id) := (four_cells bx1).1
      have bxc2 : ((wr.alloc (ito x)).alloc (.cells #[.int .i64 0, .int .i64 0, .int .i64 0] 42)).drew.cell? ⟨wr.heap.size, 0, none⟩ = some (.int .i64 x.id) := (four_cells (show ((wr.alloc (ito x)).alloc (.cells #[.int .i64 0, .int .i64 0, .int .i64 0] 42)).heap[wr.heap.size]? = some (ito x) by rw [Below.heap_alloc _ _ _ (lt_of_block bx1)]; exact bx1)).1
      clear bx1
      have HX1 := hide hxr1
      have HX2 := hide hxr2
      have HBR := hide hbr
      have n1 : ¬ bb = wr.heap.size := by omega
      have n2 : ¬ wr.heap.size = bb := by omega
      have n3 : ¬ bb = wr.heap.size + 1 := by omega
      have n4 : ¬ gm = wr.heap.size := by omega
      have n5 : ¬ g = wr.heap.size := by omega
      clear hKr hNr hIr hK4 hN4 hI4 hBw4 hbr hxe hmem hxr1 hxr2 H4
      go_upto_region 13 with fail
      go_cut [11, 12] (fun p q wx => ∃ gc, p = .pointer (some ⟨gc, 0, none⟩) ∧ q = .int .i64 0 ∧ wr.heap.size < gc ∧ wx.heap[gc]? = some (.cells #[.int .i64 x.u, .int .i64 x.v, .int .i64 x.w] 42 (0, 0)) ∧ wx.heap[wr.heap.size]? = some (ito x) ∧ Below wr.heap.size wr wx)
      case first =>
        go_region_held3 (fun w' => w'.cell? ⟨bb, 0, none⟩ = some (P0 xb) ∧ w'.cell? ⟨wr.heap.size, 0, none⟩ = some (.int .i64 x.id))
          (first | (refine ⟨?_, ?_⟩ <;> (rw [far3 _ _ _ _ _ _ _ (by omega)]; assumption)) | (refine ⟨?_, ?_⟩ <;> assumption) | (go_keep; done) | (go_split_ands; refine ⟨?_, ?_⟩ <;> (refine cell_later hb1 ?_; first | assumption | simp [*])) | (refine ⟨?_, ?_⟩ <;> (simp [*]; done)))
          (first
            | (go_at_call 20; refine ((unhide HE) _ (unhide HX1)).mono ?_; rintro e w6 ⟨rfl, hb1⟩; have z1 : w6.cell? ⟨bb, 0, none⟩ = some (P0 xb) := cell_later hb1 (by simp [e0, World.cell?_alloc_some]); have z2 : w6.cell? ⟨wr.heap.size, 0, none⟩ = some (.int .i64 x.id) := cell_later hb1 (by exact bxc1); have hl6 : wr.heap.size + 1 ≤ w6.heap.size := Nat.le_trans (Nat.le_of_eq (World.size_alloc _ _).symm) hb1.size; have m1 : ¬ bb = w6.heap.size := (by omega); have m2 : ¬ w6.heap.size = bb := (by omega); have m3 : ¬ wr.heap.size = w6.heap.size := (by omega); have m4 : ¬ w6.heap.size = wr.heap.size := (by omega))
            | (go_at_call 20; refine ((unhide HE) _ (unhide HX2)).mono ?_; rintro e w6 ⟨rfl, hb1⟩; have z1 : w6.cell? ⟨bb, 0, none⟩ = some (P0 xb) := cell_later hb1 (by simp [e0, World.cell?_alloc_some]); have z2 : w6.cell? ⟨wr.heap.size, 0, none⟩ = some (.int .i64 x.id) := cell_later hb1 (by exact bxc2); have q := var3 hb1; obtain ⟨q0, q1, q2, qf⟩ := q; have qf0 := qf 0; have qf1 := qf 1; have qf2 := qf 2; clear qf))
        · go_wp2_with fail
          go_meet
          exact ⟨_, rfl, rfl, cut1 hb1⟩
        · go_wp2_with fail
          go_meet
          exact ⟨_, rfl, rfl, cut3 hb1⟩
      case rest =>
        rename World => wa
        obtain ⟨gc, rfl, rfl, hgc, hvc, hvx, hBa⟩ := hcut
        obtain ⟨u0, u1, u2, _⟩ := three_cells hvc
        obtain ⟨t0, t1, t2, t3, _⟩ := four_cells hvx
        have y0a := (hBa.cell (p := ⟨gm, k, none⟩) hgmr).trans y0
        have HBA := hide hBa
        clear hBa hvc hvx HE HX1 HX2 x0 x1 x2 x3 y0 e0 e2 bxc1 bxc2
        go_wp2_with (go_quiet (fail))
        go_roundg (gk - 1)
        case measure => omega
        case rel => exact ⟨k + 1, by omega, by go_num, below_drewN ((unhide HBR).trans ((unhide HBA).mono (unhide HBR).size)) nq, by omega⟩
    · have kk : ¬ (k : Int) < s.L.length := by omega
      have HBw := hide (hBw4.trans (hbr.mono hBw4.size))
      clear hK4 hN4 hI4 hBw4 hbr H4
      go_wp2
      go_ret
      exact ⟨rfl, unhide HBw⟩

end Go.Proofs.Ytigeebbijldnfaa
