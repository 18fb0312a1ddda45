import Derived.Test.YtnnnleckoinjoaaK6
namespace Go.Proofs.Ytnnnleckoinjoaa
open Go.RowKit
open Pl (It)

set_option maxRecDepth 100000 in
set_option maxHeartbeats 4000000 in
theorem changed_any (bb : Nat) (gp nv vl vp vm bv : Value) (M : List Int) (a r : Int) (w : World) (hb : w.heap[bb]? = some (.cells #[gp, nv, vl, vp, vm, bv] 36 (0, 0))) (hvm : Nums w 0 vm M) (hM : M.Pairwise (· < ·)) (hlen : M.length ≤ 100) (ha : a ∉ M) (hr : r = -1 ∨ r ∈ M) :
    Calls Try.prog 55 #[P0 bb, .agg #[.int .i64 a, .int .i64 r]] w fun e w' => e = .returned (.bool true) ∧ ∃ vm' M', w'.heap[bb]? = some (.cells #[gp, nv, vl, vp, vm', bv] 36 (0, 0)) ∧ Nums w' 0 vm' M' ∧ M'.Pairwise (· < ·) ∧ (∀ y, y ∈ M' ↔ (y ∈ M ∧ y ≠ r) ∨ (y = a ∧ a ≠ -1)) ∧ Fr (fun k => k = bb) w w' := by
  obtain ⟨am, cm, rfl⟩ := row_form hvm
  have hbl := lt_of_block hb
  have hbne : ¬ bb = w.heap.size := by omega
  have hbne2 : ¬ w.heap.size = bb := by omega
  obtain ⟨E1, E2, E3⟩ := CS_end hM ha hr
  have HE := hide (And.intro E1 (And.intro E2 E3))
  have HXA : Hid (∀ k (h : k < M.length), M[k] ≠ a) := fun k h e => ha (e ▸ List.getElem_mem h)
  have fin : ∀ (w2 : World) (v' : Value) (M' : List Int), Nums w2 (w.heap.size + 1) v' M' → Below w.heap.size w w2 →
      (w2.setCell ⟨bb, 4, none⟩ v').heap[bb]? = some (.cells #[gp, nv, vl, vp, v', bv] 36 (0, 0)) ∧ Nums (w2.setCell ⟨bb, 4, none⟩ v') 0 v' M' ∧ Fr (fun k => k = bb) w (w2.setCell ⟨bb, 4, none⟩ v') := by
    intro w2 v' M' hN hB
    have hb2 : w2.heap[bb]? = some (.cells #[gp, nv, vl, vp, .slice am M.length cm, bv] 36 (0, 0)) := by rw [hB.block bb hbl]; exact hb
    have hF : Fr (fun k => k = bb) w2 (w2.setCell ⟨bb, 4, none⟩ v') := Fr.setCell (S := fun k => k = bb) (Fr.refl _ _) (p := ⟨bb, 4, none⟩) (Or.inl rfl) _
    refine ⟨?_, ?_, (Fr.of_below hB).trans hF⟩
    · have h3 := heap_setCell_same w2 bb 4 _ _ v' hb2
      rw [h3]; rfl
    · refine row_fr (row_mono hN (Nat.zero_le _)) hF ?_
      rintro k c f hk _ rfl
      rw [hb2] at hk; simp at hk
  have HF := hide fin
  have HL := hide (CS_len M a r)
  have HSC := hide (CS_succ M a r)
  have HB := hide hb
  clear fin E1 E2 E3 hM ha hr hb
  go_enter Try.func55, Try.ntmps55
  go_wp2_with fail
  go_loopg [5, 6, 7, 8] (M.length + 1) (fun gk v gv pv i wr => ∃ (k : Nat) (s : CSt), k ≤ M.length ∧ s = CS M a r k ∧ i = .int .i64 k ∧ gv = .bool s.gone ∧ pv = .bool s.put ∧ Nums wr (w.heap.size + 1) v s.out ∧ Below (w.heap.size + 1) (w.alloc (.cells #[.int .i64 a, .int .i64 r] 50)) wr ∧ M.length - k ≤ gk)
  case atStart => exact ⟨0, _, Nat.zero_le _, rfl, rfl, rfl, rfl, World.ownsRow_nil _ _ _ _, Below.refl _ _, by omega⟩
  case round =>
    obtain ⟨k, s, hk, hs, rfl, rfl, rfl, hown, hb, hgk⟩ := hrel
    obtain ⟨out, put, gone⟩ := s
    simp only at hown ⊢
    have hz1' : w.heap.size + 1 ≤ wr.heap.size := by have := hb.size; rw [World.size_alloc] at this; exact this
    have hbox := made_later hb (by omega)
    obtain ⟨x0, x1, _⟩ := two_cells hbox
    have hBw : Below w.heap.size w wr := ((Below.refl _ _).alloc (Nat.le_refl _) _).trans (hb.mono (by omega))
    have hb2 : wr.heap[bb]? = some (.cells #[gp, nv, vl, vp, .slice am M.length cm, bv] 36 (0, 0)) := by rw [hBw.block bb hbl]; exact unhide HB
    obtain ⟨d0, d1, d2, d3, d4, d5, df⟩ := six_cells6 hb2
    have hol : out.length ≤ 200 := by have := (unhide HL) k hk; rw [← hs] at this; simp only at this; omega
    obtain ⟨ao, co, rfl⟩ := row_form hown
    by_cases hlt : k < M.length
    · obtain ⟨g, rfl⟩ := row_some hvm (by omega)
      have hI : Nums wr 0 (.slice (some ⟨g, 0, none⟩) M.length cm) M := row_below hvm hBw (Nat.le_refl _)
      have hc := nums_cell hI k hlt
      have hk1 : (0 : Int) ≤ k := by omega
      have hk2 : (k : Int) < M.length := by omega
      have hxa := (unhide HXA) k hlt
      have hS := (unhide HSC) k hlt
      rw [← hs] at hS
      have HN := hide hS
      have HK := hide hb
      clear hI hbox hb2 d0 d1 d2 d3 d5 df hs hS HE HF HL HSC HB HXA
      generalize M[k] = x at *
      have hxa' : (x == a) = false := by simpa using hxa
      by_cases hr : x = r
      · have hr' : (x == r) = true := by simpa using hr
        have HR := hide hr
        clear hr
        cases put
        · by_cases hax : a < x
          · go_wp2_with (first | (at_builtin; refine wpList_append_num wr rfl (.tmp 44) (.tmp 47) rfl (w.heap.size + 1) (.slice ao out.length co) out rfl (by exact hown) a (by rfl) (by omega) (by exact hz1') ?_; intro v2 w2 hown2 hgrow; have y1 := (hgrow.cell (p := ⟨w.heap.size, 1, none⟩) (by show w.heap.size < w.heap.size + 1; omega)).trans x1; have hz2 := hgrow.size; have HO2 := hide hown2; clear hown2))
            go_roundg (gk - 1)
            case measure => omega
            case rel => exact ⟨k + 1, ⟨out ++ [a], true, true⟩, by omega, (by rw [unhide HN]; unfold stepC; rw [if_pos ⟨rfl, hax⟩, if_pos (unhide HR)]), by go_num, rfl, rfl, unhide HO2, (unhide HK).trans hgrow, by omega⟩
          · go_wp2
            go_roundg (gk - 1)
            case measure => omega
            case rel => exact ⟨k + 1, ⟨out, false, true⟩, by omega, (by rw [unhide HN]; unfold stepC; rw [if_neg (fun h => by omega), if_pos (unhide HR)]), by go_num, rfl, rfl, hown, unhide HK, by omega⟩
        · go_wp2
          go_roundg (gk - 1)
          case measure => omega
          case rel => exact ⟨k + 1, ⟨out, true, true⟩, by omega, (by rw [unhide HN]; unfold stepC; rw [if_neg (fun h => by cases h.1), if_pos (unhide HR)]), by go_num, rfl, rfl, hown, unhide HK, by omega⟩
      · have hr' : (x == r) = false := by simpa using hr
        have HR := hide hr
        clear hr
        cases put
        · by_cases hax : a < x
          · go_wp2_with (first | (at_builtin; refine wpList_append_num wr rfl (.tmp 44) (.tmp 47) rfl (w.heap.size + 1) (.slice ao out.length co) out rfl (by exact hown) a (by rfl) (by omega) (by exact hz1') ?_; intro v2 w2 hown2 hgrow; have y1 := (hgrow.cell (p := ⟨w.heap.size, 1, none⟩) (by show w.heap.size < w.heap.size + 1; omega)).trans x1; have hz2 := hgrow.size; have HO2 := hide hown2; clear hown2) | (at_builtin; refine wpList_append_num w2 rfl (.tmp 53) (.tmp 55) rfl (w.heap.size + 1) v2 (out ++ [a]) rfl (by exact unhide HO2) x (by rfl) (by simp; omega) (by exact Nat.le_trans hz1' hz2) ?_; intro v3 w3 hown3 hgrow3))
            go_roundg (gk - 1)
            case measure => omega
            case rel => exact ⟨k + 1, ⟨(out ++ [a]) ++ [x], true, gone⟩, by omega, (by rw [unhide HN]; unfold stepC; rw [if_pos ⟨rfl, hax⟩, if_neg (unhide HR)]), by go_num, rfl, rfl, hown3, ((unhide HK).trans hgrow).trans hgrow3, by omega⟩
          · go_wp2_with (first | (at_builtin; refine wpList_append_num wr rfl (.tmp 53) (.tmp 55) rfl (w.heap.size + 1) (.slice ao out.length co) out rfl (by exact hown) x (by rfl) (by omega) (by exact hz1') ?_; intro v2 w2 hown2 hgrow))
            go_roundg (gk - 1)
            case measure => omega
            case rel => exact ⟨k + 1, ⟨out ++ [x], false, gone⟩, by omega, (by rw [unhide HN]; unfold stepC; rw [if_neg (fun h => by omega), if_neg (unhide HR)]), by go_num, rfl, rfl, hown2, (unhide HK).trans hgrow, by omega⟩
        · go_wp2_with (first | (at_builtin; refine wpList_append_num wr rfl (.tmp 53) (.tmp 55) rfl (w.heap.size + 1) (.slice ao out.length co) out rfl (by exact hown) x (by rfl) (by omega) (by exact hz1') ?_; intro v2 w2 hown2 hgrow))
          go_roundg (gk - 1)
          case measure => omega
          case rel => exact ⟨k + 1, ⟨out ++ [x], true, gone⟩, by omega, (by rw [unhide HN]; unfold stepC; rw [if_neg (fun h => by cases h.1), if_neg (unhide HR)]), by go_num, rfl, rfl, hown2, (unhide HK).trans hgrow, by omega⟩
    · have hkl : k = M.length := by omega
      subst hkl
      obtain ⟨E1, E2, E3⟩ := unhide HE
      rw [← hs] at E1 E2 E3
      simp only at E1 E2 E3
      subst E1
      have df4 := df 4
      clear hbox hb2 d0 d1 d2 d3 d5 df hs HE HL HSC HB HXA hvm
      cases put
      · obtain ⟨m1, m2⟩ := E3 rfl
        have HG : Hid (∀ w2, Below (w.heap.size + 1) wr w2 → w2.cell? ⟨bb, 4, none⟩ = some (.slice am M.length cm) ∧ w2.frozen? ⟨bb, 4, none⟩ = false) := fun w2 h2 => ⟨(h2.cell (p := ⟨bb, 4, none⟩) (by show bb < w.heap.size + 1; omega)).trans d4, by
          have := h2.block bb (by omega)
          unfold World.frozen? at df4 ⊢
          simp only at df4 ⊢
          rw [this]; exact df4⟩
        have HM := hide (And.intro m1 m2)
        clear E2 E3 m1 m2
        go_wp2_with (first | (at_builtin; refine wpList_append_num wr rfl (.tmp 59) (.tmp 62) rfl (w.heap.size + 1) (.slice ao out.length co) out rfl (by exact hown) a (by rfl) (by omega) (by exact hz1') ?_; intro v2 w2 hown2 hgrow; have q0 := row_form hown2; obtain ⟨a3, c3, rfl⟩ := q0; have q := (unhide HG) w2 hgrow; obtain ⟨q1, q2⟩ := q; have HO2 := hide hown2; have HW := hide hgrow; clear hown2 hgrow))
        go_ret
        obtain ⟨e1, e2, e3⟩ := (unhide HF) w2 _ _ (unhide HO2) (hBw.trans ((unhide HW).mono (by omega)))
        rw [List.length_append, List.length_singleton] at e1 e2 e3
        exact ⟨rfl, _, _, e1, e2, (unhide HM).1, (unhide HM).2, e3⟩
      · obtain ⟨m1, m2⟩ := E2 rfl
        have HM := hide (And.intro m1 m2)
        clear E2 E3 m1 m2
        go_wp2
        go_ret
        obtain ⟨e1, e2, e3⟩ := (unhide HF) wr _ _ hown hBw
        exact ⟨rfl, _, _, e1, e2, (unhide HM).1, (unhide HM).2, e3⟩

end Go.Proofs.Ytnnnleckoinjoaa
