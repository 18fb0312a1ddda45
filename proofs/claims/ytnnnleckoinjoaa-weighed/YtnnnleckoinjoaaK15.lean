import Derived.Test.YtnnnleckoinjoaaK37
import Derived.Test.YtnnnleckoinjoaaP8
namespace Go.Proofs.Ytnnnleckoinjoaa
open Go.RowKit
open Pl (It)

set_option maxRecDepth 100000 in
set_option maxHeartbeats 8000000 in
theorem told_any (v0 : Int) (hv : R64 v0) (sa : Option Addr) (sb so len cap : Nat) (I : Nat → StT) (w : World) (hsa : 0 < len → sa = some ⟨sb, so, none⟩) (hsb : 0 < len → sb < w.heap.size) (hlen : len ≤ 9223372036854775807) (hc : ∀ j, j < len → StAt w sb (so + j * 5) (I j)) :
    Calls Try.prog 4 #[.int .i64 v0, .slice sa len cap] w fun e w' => e = .returned (.bool true) ∧ Below w.heap.size w w' := by
  have HP := hide (played_any v0 hv sa sb so len cap I w hsa hsb hlen hc)
  clear hsa hsb hlen hc hv
  go_enter Try.func4, Try.ntmps4
  go_wp2_with fail
  refine (unhide HP).mono ?_
  rintro e w1 ⟨bb, xb, s, rfl, hbb, hxb, hs, hK, hB⟩
  clear HP
  obtain ⟨⟨vl, vp, vm, hb1, hI1, _, hN1⟩, hx1⟩ := id hK
  obtain ⟨al, cl, rfl⟩ := row_form hI1
  obtain ⟨am, cm, rfl⟩ := row_form hN1
  rw [List.length_map] at hb1
  obtain ⟨c0, _, c2, _, c4, _, _⟩ := six_cells6 hb1
  have hbl := lt_of_block hb1
  have hl100 := hs.ok.l100
  have hfl : (Pl.forest s.L).length ≤ 100 := Nat.le_trans (List.length_filter_le _ _) hl100
  have H1 := hide (And.intro hK (And.intro hB (And.intro hI1 hN1)))
  clear hK hB hI1 hN1 hx1 hb1
  go_wp2_with fail
  obtain ⟨hK, hB, hI1, hN1⟩ := unhide H1
  refine (hK.forest hs).mono ?_
  rintro e w2 ⟨v2, rfl, hN2, hB2⟩
  obtain ⟨a2, k2, rfl⟩ := row_form hN2
  rw [List.length_map]
  have d0 := (hB2.cell (p := ⟨bb, 0, none⟩) hbl).trans c0
  have H2 := hide (And.intro (hK.later hB2) (And.intro hN2 hB2))
  clear hK hB hI1 hN1 hN2 hB2
  go_wp2_with fail
  obtain ⟨hK2, hN2, hB2⟩ := unhide H2
  refine (hK2.live hs).mono ?_
  rintro e w3 ⟨v3, rfl, hN3, hB3⟩
  obtain ⟨a3, k3, rfl⟩ := row_form hN3
  rw [List.length_map]
  obtain ⟨hK, hB, hI1, hN1⟩ := unhide H1
  have hB13 : Below w1.heap.size w1 w3 := hB2.trans (hB3.mono hB2.size)
  have c43 := (hB13.cell (p := ⟨bb, 4, none⟩) hbl).trans c4
  have c23 := (hB13.cell (p := ⟨bb, 2, none⟩) hbl).trans c2
  have hNf3 := row_mono (row_below hN2 hB3 (Nat.le_refl _)) (Nat.zero_le _)
  have hNm3 := row_below hN1 hB13 (Nat.le_refl _)
  rw [List.length_map] at hNf3 hNm3
  have HS : Hid (Calls Try.prog 16 #[.slice a2 (Pl.forest s.L).length k2, .slice am (Pl.forest s.L).length cm] w3 fun e w' => e = .returned (.bool true) ∧ Below w3.heap.size w3 w') := by
    have := sameInts_any ((Pl.forest s.L).map It.id) a2 am k2 cm w3 (by unfold Nums; rw [List.length_map]; exact hNf3) (by unfold Nums; rw [List.length_map]; exact hNm3) (by rw [List.length_map]; omega)
    rw [List.length_map] at this
    exact this
  have H3 := hide (And.intro hB13 (And.intro hN3 (And.intro hI1 (And.intro hK hB))))
  clear hK2 hN2 hB2 hN3 hB3 hK hB hI1 hN1 hB13 hNf3 hNm3 H1 H2 d0
  go_wp2_with fail
  refine (unhide HS).mono ?_
  rintro e w4 ⟨rfl, hB4⟩
  obtain ⟨hB13, hN3, hI1, hK, hB⟩ := unhide H3
  have hB14 : Below w1.heap.size w1 w4 := hB13.trans (hB4.mono hB13.size)
  have c24 := (hB14.cell (p := ⟨bb, 2, none⟩) hbl).trans c2
  have hN4 := row_mono (row_below hN3 hB4 (Nat.le_refl _)) (Nat.zero_le _)
  rw [List.length_map] at hN4
  have hK4 := hK.later hB14
  have hI4 := row_below hI1 hB14 (Nat.le_refl _)
  have hBw4 : Below w.heap.size w w4 := hB.trans (hB14.mono hB.size)
  have H4 := hide (And.intro hK4 (And.intro hN4 (And.intro hI4 hBw4)))
  have hbl4 : bb < w4.heap.size := by have := hB14.size; omega
  have c04 := (hB14.cell (p := ⟨bb, 0, none⟩) hbl).trans c0
  clear HS H3 hB4 hB13 hN3 hI1 hK hB hB14 hN4 hK4 hI4 hBw4 c43 c23 c0 c2 c4
  go_wp2_with fail
  go_loopg [9] (s.L.length + 1) (fun gk i wr => ∃ k : Nat, k ≤ s.L.length ∧ i = .int .i64 k ∧ Below w4.heap.size w4 wr ∧ s.L.length - k ≤ gk)
  case atStart => exact ⟨0, Nat.zero_le _, rfl, Below.refl _ _, by omega⟩
  case round =>
    obtain ⟨k, hk, rfl, hbr, hgk⟩ := hrel
    obtain ⟨hK4, hN4, hI4, hBw4⟩ := unhide H4
    by_cases hlt : k < s.L.length
    · have hKr := hK4.later hbr
      have hNr := row_below hN4 hbr (Nat.le_refl _)
      have hIr := row_below hI4 hbr (Nat.le_refl _)
      obtain ⟨g, rfl⟩ := row_some hIr (by omega)
      obtain ⟨gm, rfl⟩ := row_some hNr (by omega)
      obtain ⟨x0, x1, x2, x3⟩ := its_cells hIr k hlt
      have y0 : wr.cell? ⟨gm, k, none⟩ = some (.int .i64 s.L[k].id) := by
        have := nums_cell (l := s.L.map It.id) (g := gm) (cap := k3) (base := 0) (w := wr) (by unfold Nums; rw [List.length_map]; exact hNr) k (by rw [List.length_map]; exact hlt)
        rw [List.getElem_map] at this; exact this
      have hk1 : (0 : Int) ≤ k := by omega
      have hkk : (k : Int) < s.L.length := by omega
      have e0 := (hbr.cell (p := ⟨bb, 0, none⟩) hbl4).trans c04
      have e2 := (hbr.cell (p := ⟨bb, 2, none⟩) hbl4).trans c24
      have hblr : bb < wr.heap.size := by have := hbr.size; omega
      have hgr : g < wr.heap.size := by
        unfold World.cell? at x0; simp only at x0; split at x0
        · rename_i hh; exact lt_of_block hh
        · cases x0
      have hgmr : gm < wr.heap.size := by
        unfold World.cell? at y0; simp only at y0; split at y0
        · rename_i hh; exact lt_of_block hh
        · cases y0
      have hmem : s.L[k] ∈ s.L := List.getElem_mem hlt
      obtain ⟨x, hxe⟩ : ∃ x, x = s.L[k] := ⟨_, rfl⟩
      rw [← hxe] at x0 x1 x2 x3 y0 hmem
      have HE : Hid (∀ w', XG w' xb s → Calls Try.prog 17 #[P0 xb, .int .i64 x.id] w' fun e w'' => e = .returned (.tuple #[.agg #[.int .i64 x.u, .int .i64 x.v, .int .i64 x.w], .int .i64 0]) ∧ Below w'.heap.size w' w'') := fun w' hx' => edgep_ok xb _ _ _ _ s.L x hmem w' hx'.pg hs.ok.gl
      have hxr1 : XG (wr.alloc (ito x)).drew xb s := PF.drew (PF.alloc hKr.xg _)
      have hxr2 : XG ((wr.alloc (ito x)).alloc (.cells #[.int .i64 0, .int .i64 0, .int .i64 0] 42)).drew xb s := PF.drew (PF.alloc (PF.alloc hKr.xg _) _)
      have bx1 : (wr.alloc (ito x)).heap[wr.heap.size]? = some (ito x) := heap_alloc_new _ _
      have bxc1 : (wr.alloc (ito x)).drew.cell? ⟨wr.heap.size, 0, none⟩ = some (.int .i64 x.id) := (four_cells bx1).1
      have bxc2 : ((wr.alloc (ito x)).alloc (.cells #[.int .i64 0, .int .i64 0, .int .i64 0] 42)).drew.cell? ⟨wr.heap.size, 0, none⟩ = some (.int .i64 x.id) := (four_cells (show ((wr.alloc (ito x)).alloc (.cells #[.int .i64 0, .int .i64 0, .int .i64 0] 42)).heap[wr.heap.size]? = some (ito x) by rw [Below.heap_alloc _ _ _ (lt_of_block bx1)]; exact bx1)).1
      clear bx1
      have HX1 := hide hxr1
      have HX2 := hide hxr2
      have HBR := hide hbr
      have n1 : ¬ bb = wr.heap.size := by omega
      have n2 : ¬ wr.heap.size = bb := by omega
      have n3 : ¬ bb = wr.heap.size + 1 := by omega
      have n4 : ¬ gm = wr.heap.size := by omega
      have n5 : ¬ g = wr.heap.size := by omega
      clear hKr hNr hIr hK4 hN4 hI4 hBw4 hbr hxe hmem hxr1 hxr2 H4
      go_upto_region 13 with fail
      go_cut [11, 12] (fun p q wx => ∃ gc, p = .pointer (some ⟨gc, 0, none⟩) ∧ q = .int .i64 0 ∧ wr.heap.size < gc ∧ wx.heap[gc]? = some (.cells #[.int .i64 x.u, .int .i64 x.v, .int .i64 x.w] 42 (0, 0)) ∧ wx.heap[wr.heap.size]? = some (ito x) ∧ Below wr.heap.size wr wx)
      case first =>
        go_region_held3 (fun w' => w'.cell? ⟨bb, 0, none⟩ = some (P0 xb) ∧ w'.cell? ⟨wr.heap.size, 0, none⟩ = some (.int .i64 x.id))
          (first | (refine ⟨?_, ?_⟩ <;> (rw [far3 _ _ _ _ _ _ _ (by omega)]; assumption)) | (refine ⟨?_, ?_⟩ <;> assumption) | (go_keep; done) | (go_split_ands; refine ⟨?_, ?_⟩ <;> (refine cell_later hb1 ?_; first | assumption | simp [*])) | (refine ⟨?_, ?_⟩ <;> (simp [*]; done)))
          (first
            | (go_at_call 17; refine ((unhide HE) _ (unhide HX1)).mono ?_; rintro e w6 ⟨rfl, hb1⟩; have z1 : w6.cell? ⟨bb, 0, none⟩ = some (P0 xb) := cell_later hb1 (by simp [e0, World.cell?_alloc_some]); have z2 : w6.cell? ⟨wr.heap.size, 0, none⟩ = some (.int .i64 x.id) := cell_later hb1 (by exact bxc1); have hl6 : wr.heap.size + 1 ≤ w6.heap.size := Nat.le_trans (Nat.le_of_eq (World.size_alloc _ _).symm) hb1.size; have m1 : ¬ bb = w6.heap.size := (by omega); have m2 : ¬ w6.heap.size = bb := (by omega); have m3 : ¬ wr.heap.size = w6.heap.size := (by omega); have m4 : ¬ w6.heap.size = wr.heap.size := (by omega))
            | (go_at_call 17; refine ((unhide HE) _ (unhide HX2)).mono ?_; rintro e w6 ⟨rfl, hb1⟩; have z1 : w6.cell? ⟨bb, 0, none⟩ = some (P0 xb) := cell_later hb1 (by simp [e0, World.cell?_alloc_some]); have z2 : w6.cell? ⟨wr.heap.size, 0, none⟩ = some (.int .i64 x.id) := cell_later hb1 (by exact bxc2); have q := var3 hb1; obtain ⟨q0, q1, q2, qf⟩ := q; have qf0 := qf 0; have qf1 := qf 1; have qf2 := qf 2; clear qf))
        · go_wp2_with fail
          go_meet
          exact ⟨_, rfl, rfl, cut1 hb1⟩
        · go_wp2_with fail
          go_meet
          exact ⟨_, rfl, rfl, cut3 hb1⟩
      case rest =>
        rename World => wa
        obtain ⟨gc, rfl, rfl, hgc, hvc, hvx, hBa⟩ := hcut
        obtain ⟨u0, u1, u2, _⟩ := three_cells hvc
        obtain ⟨t0, t1, t2, t3, _⟩ := four_cells hvx
        have y0a := (hBa.cell (p := ⟨gm, k, none⟩) hgmr).trans y0
        have HBA := hide hBa
        clear hBa hvc hvx HE HX1 HX2 x0 x1 x2 x3 y0 e0 e2 bxc1 bxc2
        go_wp2_with (go_quiet (fail))
        go_roundg (gk - 1)
        case measure => omega
        case rel => exact ⟨k + 1, by omega, by go_num, below_drewN ((unhide HBR).trans ((unhide HBA).mono (unhide HBR).size)) nq, by omega⟩
    · have kk : ¬ (k : Int) < s.L.length := by omega
      have HBw := hide (hBw4.trans (hbr.mono hBw4.size))
      clear hK4 hN4 hI4 hBw4 hbr H4
      go_wp2
      go_ret
      exact ⟨rfl, unhide HBw⟩

end Go.Proofs.Ytnnnleckoinjoaa
