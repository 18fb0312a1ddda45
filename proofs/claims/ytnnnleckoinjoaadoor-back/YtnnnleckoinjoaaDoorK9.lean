import Derived.Test.YtnnnleckoinjoaaDoorK8
namespace Go.Proofs.YtnnnleckoinjoaaDoor
open Go.RowKit
open Pl (It)

theorem frs_x {w w' : World} {bb xb : Nat} (h : Fr (fun k => k = xb) w w') : Fr (fun k => k = bb ∨ k = xb) w w' := h.mono fun _ _ e => Or.inr e
theorem frs_b {w w' : World} {bb xb : Nat} (h : Fr (fun k => k = bb) w w') : Fr (fun k => k = bb ∨ k = xb) w w' := h.mono fun _ _ e => Or.inl e

set_option maxRecDepth 100000 in
set_option maxHeartbeats 4000000 in
theorem goes_any (bb xb : Nat) (s : St) (h : BOk s) (i : Nat) (hi : i < 24) (h4 : Pl.has s.L (i : Int) = true) (w : World) (hB : BK w bb xb s) :
    Calls Tryd.prog 36 #[P0 bb, .int .i64 i] w fun e w' => e = .returned (.bool true) ∧ BK w' bb xb (delSt s i) ∧ Fr (fun k => k = bb ∨ k = xb) w w' := by
  have hne := hB.ne
  obtain ⟨⟨vl, vp, vm, hb, hI, hP, hN⟩, hx⟩ := hB
  have h1 : Pl.numB (i : Int) = true := Pl.numB_true.2 (by omega)
  have hbl := lt_of_block hb
  obtain ⟨c0, _, c2, _, _, _, _⟩ := six_cells6 hb
  obtain ⟨al, cl, rfl⟩ := row_form hI
  have HD := hide (delX_ok h.ok i h1 h4 w xb hx)
  have HW := hide (fun v2 vl vp vm w' => wrote bb xb s (delSt s i) h.ok (h.ok.del i h1 h4) rfl (h.ok.adjdel i h4) rfl vl vp vm v2 w')
  obtain ⟨oA, hoA⟩ : ∃ o, o = Pl.only (Pl.forest (Pl.withoutI s.L i)) (Pl.forest s.L) := ⟨_, rfl⟩
  obtain ⟨oR, hoR⟩ : ∃ o, o = Pl.only (Pl.forest s.L) (Pl.forest (Pl.withoutI s.L i)) := ⟨_, rfl⟩
  have e1 : (delSt s i).L = Pl.withoutI s.L i := rfl
  rw [← hoA, ← hoR] at HD
  simp only [e1, ← hoA, ← hoR] at HW
  have H0 := hide (And.intro hb (And.intro hI (And.intro hP (And.intro hN hx))))
  have hl100 := h.ok.l100
  clear hb hI hP hN hx hoA hoR e1 h1 h4
  go_enter Tryd.func36, Tryd.ntmps36
  go_wp2_with fail
  refine (unhide HD).mono ?_
  rintro e w1 ⟨rfl, hx1, hF1⟩
  obtain ⟨hb, hI, hP, hN, hx⟩ := unhide H0
  have hb1 := (hF1.block bb hbl hne).trans hb
  have hI1 := (sp_x hx).its hF1 hI
  have hP1 := (sp_x hx).past hF1 hP
  have hN1 := (sp_x hx).nums hF1 hN
  have hBa : Below w1.heap.size w1 (w1.alloc (.cells #[.int .i64 oA, .int .i64 oR] 47)) := (Below.refl _ _).alloc (Nat.le_refl _) _
  have hb2 := (hBa.block bb (lt_of_block hb1)).trans hb1
  have hI2 := row_below hI1 hBa (Nat.le_refl _)
  have hP2 := past_fr hP1 (Fr.of_below (S := fun _ => False) hBa) (fun _ _ _ _ f => f) (fun _ _ f => f)
  have hN2 := row_below hN1 hBa (Nat.le_refl _)
  have hx2 : XG (w1.alloc (.cells #[.int .i64 oA, .int .i64 oR] 47)) xb (delSt s i) := PF.alloc hx1 _
  have hF2 : Fr (fun k => k = bb ∨ k = xb) w (w1.alloc (.cells #[.int .i64 oA, .int .i64 oR] 47)) := (frs_x hF1).alloc _
  have hv2 : (w1.alloc (.cells #[.int .i64 oA, .int .i64 oR] 47)).heap[w1.heap.size]? = some (.cells #[.int .i64 oA, .int .i64 oR] 47 (0, 0)) := heap_alloc_new _ _
  obtain ⟨d0, _, d2, _, _, _, _⟩ := six_cells6 hb1
  have hbl1 := lt_of_block hb1
  have n1 : ¬ bb = w1.heap.size := by omega
  have n2 : ¬ w1.heap.size = bb := by omega
  have H2 := hide (And.intro hb2 (And.intro hI2 (And.intro hP2 (And.intro hN2 (And.intro hx2 (And.intro hF2 hv2))))))
  clear hb hI hP hN hx hb1 hI1 hP1 hN1 hBa hb2 hI2 hP2 hN2 hx2 hF2 hv2 hx1 hF1 H0 HD c0 c2
  go_wp2_with fail
  generalize w1.alloc (.cells #[.int .i64 oA, .int .i64 oR] 47) = W2 at *
  obtain ⟨hb, hI, hP, hN, hx, hF, hv⟩ := unhide H2
  refine (kwithout_any s.L i al cl _ hI hl100).mono ?_
  rintro e w3 ⟨v3, rfl, hI3, hB3⟩
  rw [Pl.out_is] at hI3
  obtain ⟨a3, c3, rfl⟩ := row_form hI3
  have hb3 := (hB3.block bb (lt_of_block hb)).trans hb
  have hIl3 := row_below hI hB3 (Nat.le_refl _)
  have hP3 := past_fr hP (Fr.of_below (S := fun _ => False) hB3) (fun _ _ _ _ f => f) (fun _ _ f => f)
  have hN3 := row_below hN hB3 (Nat.le_refl _)
  have hx3 : XG w3 xb (delSt s i) := PF.later hx hB3 (Nat.le_refl _)
  have hF3 := hF.later hB3
  have hv3 := (hB3.block _ (lt_of_block hv)).trans hv
  have hw := (unhide HW) _ _ vp vm w3 hb3 hIl3 hP3 hN3 (row_mono hI3 (Nat.zero_le _)) hx3 hne
  have H3 := hide (And.intro hF3 hv3)
  have n3 : w1.heap.size ≠ bb := n2
  clear hb hI hP hN hx hF hv hI3 hB3 hb3 hIl3 hP3 hN3 hx3 hF3 hv3 H2 d0 d2 HW
  go_wp2_with fail
  refine hw.mono ?_
  rintro e w4 ⟨rfl, hF4, hch⟩
  obtain ⟨hF3, hv3⟩ := unhide H3
  have hv4 := (hF4.block _ (lt_of_block hv3) n3).trans hv3
  obtain ⟨z0, z1, _⟩ := two_cells hv4
  have hF5 := hF3.trans (frs_b (xb := xb) hF4)
  have hc := hch w4 (Below.refl _ _)
  have H5 := hide hF5
  clear hF3 hv3 hv4 hF4 hF5 H3 hw hch
  go_wp2_with fail
  refine hc.mono ?_
  rintro e w6 ⟨rfl, hBK, hF6⟩
  have H6 := hide (And.intro hBK ((unhide H5).trans (frs_b (xb := xb) hF6)))
  clear hBK hF6 hc z0 z1
  go_wp2
  go_ret
  exact ⟨rfl, (unhide H6).1, (unhide H6).2⟩

end Go.Proofs.YtnnnleckoinjoaaDoor
