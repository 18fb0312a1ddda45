import Derived.Test.YtnnnleckoinjoaaDoorK10
namespace Go.Proofs.YtnnnleckoinjoaaDoor
open Go.RowKit
open Pl (It)

set_option maxRecDepth 100000 in
set_option maxHeartbeats 4000000 in
theorem back_any (bb xb : Nat) (s : St) (h : BOk s) (w : World) (hB : BK w bb xb s) :
    Calls Tryd.prog 15 #[P0 bb] w fun e w' => e = .returned (.bool true) ∧ (∃ s', BOk s' ∧ s'.n = s.n ∧ BK w' bb xb s') ∧ Fr (fun k => k = bb ∨ k = xb) w w' := by
  have hne := hB.ne
  have HBK := hide hB
  obtain ⟨⟨vl, vp, vm, hb, hI, hP, hN⟩, hx⟩ := hB
  have hbl := lt_of_block hb
  obtain ⟨c0, _, c2, c3, _, _, _⟩ := six_cells6 hb
  rcases List.eq_nil_or_concat s.past with hp | ⟨q, l, hp⟩
  · have HD := hide (undoX_no h.ok hp w xb hx)
    rw [hp] at hP
    obtain ⟨ap, cp, hvp, hno⟩ := past_open hP
    subst hvp
    clear hno
    simp only [List.length_nil] at c3 hb
    have HB0 := hide hb
    clear hb hI hP hN hx
    go_enter Tryd.func15, Tryd.ntmps15
    go_wp2_with fail
    refine (unhide HD).mono ?_
    rintro e w1 ⟨rfl, hx1, hB1⟩
    have hBK1 := (unhide HBK).later hB1
    obtain ⟨_, _, _, d3, _, _, _⟩ := six_cells6 ((hB1.block bb hbl).trans (unhide HB0))
    clear HB0
    have hs1 := hB1.size
    have n1 : ¬ bb = w1.heap.size := by omega
    have n2 : ¬ w1.heap.size = bb := by omega
    have H1 := hide (And.intro (hBK1.later ((Below.refl _ _).alloc (Nat.le_refl _) (.cells #[.int .i64 0, .int .i64 0] 47))) (hB1.alloc hs1 (.cells #[.int .i64 0, .int .i64 0] 47)))
    clear HD HBK hx1 hB1 hBK1 c0 c2 c3
    have hw1 : bb < w1.heap.size := by omega
    have d3' : (w1.alloc (.cells #[.int .i64 0, .int .i64 0] 47)).cell? ⟨bb, 3, none⟩ = some (.slice ap 0 cp) := by simp [World.cell?_alloc_some, d3]
    go_wp2_with fail
    go_ret
    obtain ⟨e1, e2⟩ := unhide H1
    exact ⟨rfl, ⟨s, h, rfl, e1⟩, Fr.of_below e2⟩
  · rw [List.concat_eq_append] at hp
    obtain ⟨s', ok', e1, e2, e3, e4, hX⟩ := undoX_ok h.ok hp
    obtain ⟨t, _, _, hadj, _⟩ := h.ok.last hp
    have hP' := hP
    rw [hp] at hP'
    have bok : BOk s' := ⟨ok', by rw [e4]; exact h.most, fun e he => h.fewp l (by rw [hp]; simp) e (by rw [← e1]; exact he), fun m hm => h.fewp m (by rw [hp]; rw [e2] at hm; exact List.mem_append_left _ hm)⟩
    obtain ⟨g, off, cap, a, c, rfl, cg, hIl, hgl, hqc, cur, hg⟩ := past_last hP'
    have hPi := past_init hP'
    have HD := hide (hX w xb hx)
    obtain ⟨tf1, tf2⟩ := told_fits (L := s.L) (L2 := l) h.ok.gl.rng
    have hpl := h.ok.past
    rw [hp, List.length_append, List.length_singleton] at hpl
    obtain ⟨oA, hoA⟩ : ∃ o, o = Pl.only (Pl.forest l) (Pl.forest s.L) := ⟨_, rfl⟩
    obtain ⟨oR, hoR⟩ : ∃ o, o = Pl.only (Pl.forest s.L) (Pl.forest l) := ⟨_, rfl⟩
    have HT : Hid (∀ M' : List Int, M'.Pairwise (· < ·) → (∀ y, y ∈ M' ↔ (y ∈ (Pl.forest s.L).map It.id ∧ y ≠ oR) ∨ (y = oA ∧ oA ≠ -1)) → M' = (Pl.forest s'.L).map It.id) := fun M' m1 m2 => by
      rw [e1]
      refine told_mine hadj ?_ ?_ m1 (by rw [hoA, hoR] at m2; exact m2)
      · rw [← e1]; exact ok'.gl.ids
      · rw [← e1]; exact ok'.gl.rng
    rw [← hoA, ← hoR] at HD
    rw [← hoA] at tf1
    rw [← hoR] at tf2
    have HM := hide (And.intro tf1 tf2)
    have hms := hide (And.intro (ids_sorted (Pl.forest_ids h.ok.gl.ids)) (show ((Pl.forest s.L).map It.id).length ≤ 100 by rw [List.length_map]; exact Nat.le_trans (List.length_filter_le _ _) h.ok.l100))
    have H0 := hide (And.intro hb (And.intro hIl (And.intro hPi (And.intro hN (And.intro hx hg)))))
    have hi1 : ((q.length + 1 : Nat) : Int) - 1 = q.length := by omega
    have hi2 : (0 : Int) ≤ q.length := by omega
    have hi3 : (q.length : Int) < ((q.length + 1 : Nat) : Int) := by omega
    have hi4 : ¬ ((q.length + 1 : Nat) : Int) = 0 := by omega
    have hi5 : (q.length : Int) ≤ cap := by omega
    clear hb hI hP hP' hN hx hoA hoR tf1 tf2 hIl hPi hg hadj HBK hp hX
    go_enter Tryd.func15, Tryd.ntmps15
    go_wp2_with fail
    refine (unhide HD).mono ?_
    rintro e w1 ⟨rfl, hx1, hF1⟩
    obtain ⟨hb, hIl, hPi, hN, hx, hg⟩ := unhide H0
    have hgx : g ≠ xb := by
      rintro rfl
      have hX := PF.row hx
      unfold RowAt at hX
      rw [hg] at hX; simp at hX
    have hb1 := (hF1.block bb hbl hne).trans hb
    have hg1 := (hF1.block g (lt_of_block hg) hgx).trans hg
    have hIl1 := (sp_x hx).its hF1 hIl
    have hPi1 := (sp_x hx).past hF1 hPi
    have hN1 := (sp_x hx).nums hF1 hN
    have cg1 : w1.cell? ⟨g, off + q.length, none⟩ = some (.slice a l.length c) := by
      unfold World.cell? at cg ⊢
      simp only at cg ⊢
      rw [hg1]; rw [hg] at cg; exact cg
    obtain ⟨d0, _, d2, d3, _, _, df⟩ := six_cells6 hb1
    have df2 := df 2
    have df3 := df 3
    have hbl1 := lt_of_block hb1
    have hgl1 := lt_of_block hg1
    have n1 : ¬ bb = w1.heap.size := by omega
    have n2 : ¬ w1.heap.size = bb := by omega
    have n3 : ¬ g = w1.heap.size := by omega
    have n4 : ¬ g = bb := by rintro rfl; rw [hb] at hg; simp at hg
    have n5 : ¬ bb = g := fun e => n4 e.symm
    -- the world in which the change is written down
    have fin : ∀ W4, W4 = ((w1.setCell ⟨bb, 2, none⟩ (.slice a l.length c)).setCell ⟨bb, 3, none⟩ (.slice (some ⟨g, off, none⟩) q.length cap)).alloc (.cells #[.int .i64 oA, .int .i64 oR] 47) →
        W4.heap[bb]? = some (bko xb s.n (.slice a l.length c) (.slice (some ⟨g, off, none⟩) q.length cap) vm) ∧ Its W4 0 (.slice a l.length c) l ∧ PastAt W4 (.slice (some ⟨g, off, none⟩) q.length cap) q ∧ Nums W4 0 vm ((Pl.forest s.L).map It.id) ∧ XG W4 xb s' ∧ Fr (fun k => k = bb ∨ k = xb) w W4 := by
      rintro W4 rfl
      have hf : Fr (fun k => k = bb) w1 ((w1.setCell ⟨bb, 2, none⟩ (.slice a l.length c)).setCell ⟨bb, 3, none⟩ (.slice (some ⟨g, off, none⟩) q.length cap)) := Fr.setCell (S := fun k => k = bb) (Fr.setCell (S := fun k => k = bb) (Fr.refl _ _) (p := ⟨bb, 2, none⟩) (Or.inl rfl) _) (p := ⟨bb, 3, none⟩) (Or.inl rfl) _
      have h3 := heap_setCell_same w1 bb 2 _ _ (.slice a l.length c) hb1
      have h4 := heap_setCell_same _ bb 3 _ _ (.slice (some ⟨g, off, none⟩) q.length cap) h3
      have hf' := hf.alloc (.cells #[.int .i64 oA, .int .i64 oR] 47)
      refine ⟨?_, (sp_b hb1).its hf' hIl1, (sp_b hb1).past hf' hPi1, (sp_b hb1).nums hf' hN1, PF.fr hx1 hf' (fun e => hne e.symm), (frs_x hF1).trans (frs_b hf')⟩
      rw [Below.heap_alloc _ _ _ (lt_of_block h4), h4]; rfl
    have HFn := hide fin
    clear fin hb hIl hPi hN hx hg hb1 hg1 hIl1 hPi1 hN1 hx1 hF1 H0 HD df c0 c2 c3 cg hgx
    go_wp2_with fail
    obtain ⟨f1, f2, f3, f4, f5, f6⟩ := (unhide HFn) _ rfl
    generalize ((w1.setCell ⟨bb, 2, none⟩ (.slice a l.length c)).setCell ⟨bb, 3, none⟩ (.slice (some ⟨g, off, none⟩) q.length cap)).alloc (.cells #[.int .i64 oA, .int .i64 oR] 47) = W4 at f1 f2 f3 f4 f5 f6 ⊢
    refine (changed_any bb _ _ _ _ vm _ _ _ _ W4 f1 f4 (unhide hms).1 (unhide hms).2 (unhide HM).1 (unhide HM).2).mono ?_
    rintro e w5 ⟨rfl, vm', M', hb5, hN5, hS5, hm5, hF5⟩
    have hM := (unhide HT) M' hS5 hm5
    rw [hM] at hN5
    have hBK5 : BK w5 bb xb s' := ⟨⟨_, _, vm', by rw [e3]; exact hb5, by rw [e1]; exact (sp_b f1).its hF5 f2, by rw [e2]; exact (sp_b f1).past hF5 f3, hN5⟩, PF.fr f5 hF5 (fun e => hne e.symm)⟩
    have H6 := hide (And.intro hBK5 (f6.trans (frs_b (xb := xb) hF5)))
    clear hb5 hN5 hS5 hm5 hF5 hM hBK5 f1 f2 f3 f4 f5 f6 HFn HT HM hms d0 d2 d3 df2 df3
    go_wp2
    go_ret
    exact ⟨rfl, ⟨s', bok, e3, (unhide H6).1⟩, (unhide H6).2⟩

end Go.Proofs.YtnnnleckoinjoaaDoor
