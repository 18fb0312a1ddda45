/- Changes, and changes taken back, told whole. -/
import Derived.Test.YtnnnleckoinjoaaDoorK13
namespace Go.Proofs.YtnnnleckoinjoaaDoor
open Go.RowKit
open Pl (It)

/-- what a step of kind 0 leaves -/
def KPost0 (bb xb : Nat) (s : St) (i : Nat) (w : World) : Ending → World → Prop := fun e w' => e = .returned (.bool true) ∧ (∃ s', BOk s' ∧ s'.n = s.n ∧ s'.past = push s.past s.L ∧ Pl.has s'.L (i : Int) = !Pl.has s.L (i : Int) ∧ BK w' bb xb s') ∧ Fr (fun k => k = bb ∨ k = xb) w w'

set_option maxRecDepth 100000 in
set_option maxHeartbeats 8000000 in
theorem kstep0_any (bb xb : Nat) (s : St) (h : BOk s) (a b c d : Int) (ha : R64 a) (hbb : R64 b) (hcc : R64 c) (hd : R64 d) (w : World) (hB : BK w bb xb s) :
    Calls Tryd.prog 14 #[P0 bb, stv 0 a b c d] w (KPost0 bb xb s (pk a 24) w) := by
  obtain ⟨i, hi⟩ : ∃ i, i = pk a 24 := ⟨_, rfl⟩
  rw [← hi]
  have hi24 : i < 24 := by rw [hi]; exact pk_lt a 24 (by omega)
  have HA : Hid (∀ w, Calls Tryd.prog 12 #[.int .i64 a, .int .i64 24] w fun e w' => e = .returned (.int .i64 i) ∧ w = w') := fun w => by rw [hi]; exact pick_any a 24 (by omega) (by omega) ha.1 ha.2 w
  have hn1 := h.ok.n1
  have hn30 := h.ok.n30
  have HPb := hide (fun w => pick_any b s.n hn1 (by omega) hbb.1 hbb.2 w)
  have HPc := hide (fun w => pick_any c s.n hn1 (by omega) hcc.1 hcc.2 w)
  have hub := pk_lt b s.n hn1
  have huc := pk_lt c s.n hn1
  clear hi ha hbb hcc
  -- the box of the step
  have hBel : Below w.heap.size w (w.alloc (sto 0 a b c d)) := (Below.refl _ _).alloc (Nat.le_refl _) _
  have hB1 := hB.later hBel
  have hbl : bb < w.heap.size := by obtain ⟨⟨_, _, _, hb, _⟩, _⟩ := hB; exact lt_of_block hb
  have hxl : xb < w.heap.size := (PF.row hB.xg).lt
  have k1 : ¬ bb = w.heap.size := by omega
  have k2 : ¬ w.heap.size = bb := by omega
  have hFb : Fr (fun k => k = bb ∨ k = xb) w (w.alloc (sto 0 a b c d)) := Fr.of_below hBel
  have fin : ∀ w1 w2, Fr (fun k => k = bb ∨ k = xb) w w1 → Fr (fun k => k = bb ∨ k = xb) w1 w2 → Fr (fun k => k = bb ∨ k = xb) w w2 := fun _ _ h1 h2 => h1.trans h2
  obtain ⟨⟨vl, vp, vm, hb1, hI1, hP1, hN1⟩, hx1⟩ := hB1
  obtain ⟨c0, c1, c2, _, _, _, _⟩ := six_cells6 hb1
  obtain ⟨al, cl, rfl⟩ := row_form hI1
  have HK : Hid (BK (w.alloc (sto 0 a b c d)) bb xb s) := hB.later hBel
  have hl100 := h.ok.l100
  have HI := hide hI1
  have HX := hide hx1
  clear hb1 hI1 hP1 hN1 hx1 hB
  cases h4 : Pl.has s.L (i : Int) with
  | true =>
      have HG := hide (fun w' hh => goes_any bb xb s h i hi24 h4 w' hh)
      go_enter Tryd.func14, Tryd.ntmps14
      go_wp2_with (first
        | (go_at_call 12; refine ((unhide HA) _).mono ?_; rintro e w1 ⟨rfl, rfl⟩)
        | (go_at_call 13; refine (at_any s.L i al cl _ (unhide HI) hl100).mono ?_; rintro e w1 ⟨r, rfl, hr, rfl⟩; have hr0 := (Pl.findIs_has hr).1.1 h4; have HR := hide hr; clear hr))
      refine ((unhide HG) _ (unhide HK)).mono ?_
      rintro e w2 ⟨rfl, hBK, hF⟩
      have H2 := hide (And.intro hBK (fin _ _ hFb hF))
      clear hBK hF
      go_wp2
      go_ret
      exact ⟨rfl, ⟨_, h.del i (Pl.numB_true.2 (by omega)) h4, rfl, rfl, by rw [h4]; exact Pl.without_has s.L i, (unhide H2).1⟩, (unhide H2).2⟩
  | false =>
      have HC := hide (fun w' hh => kcomes_any bb xb s h i hi24 (pk b s.n) (pk c s.n) d (Pl.verB_true.2 (by omega)) (Pl.verB_true.2 (by omega)) h4 hd.1 hd.2 w' hh)
      have hkd : BK (w.alloc (sto 0 a b c d)).drew bb xb s := (unhide HK).later ⟨rfl, rfl, rfl, Nat.le_refl _, fun _ _ => rfl⟩
      have HKd := hide hkd
      have hFd : Fr (fun k => k = bb ∨ k = xb) w (w.alloc (sto 0 a b c d)).drew := hFb.drew
      have hbx : (w.alloc (sto 0 a b c d)).heap[w.heap.size]? = some (sto 0 a b c d) := heap_alloc_new _ _
      obtain ⟨x0, x1, x2, x3, x4⟩ := five_cells hbx
      have HBX : Hid (∀ w2, Fr (fun k => k = bb ∨ k = xb) (w.alloc (sto 0 a b c d)).drew w2 → w2.cell? ⟨w.heap.size, 2, none⟩ = some (.int .i64 b) ∧ w2.cell? ⟨w.heap.size, 3, none⟩ = some (.int .i64 c) ∧ w2.cell? ⟨w.heap.size, 4, none⟩ = some (.int .i64 d)) := fun w2 hf => by
        obtain ⟨_, _, y2, y3, y4⟩ := five_cells ((hf.undrew.block _ (lt_of_block hbx) (by omega)).trans hbx)
        exact ⟨y2, y3, y4⟩
      clear hbx hkd
      go_enter Tryd.func14, Tryd.ntmps14
      go_wp2_with (first
        | (go_at_call 12; refine ((unhide HA) _).mono ?_; rintro e w1 ⟨rfl, rfl⟩)
        | (go_at_call 13; refine (at_any s.L i al cl _ (unhide HI) hl100).mono ?_; rintro e w1 ⟨r, rfl, hr, rfl⟩; have hr0 := (Pl.findIs_has hr).2.1 h4; have hr1 : ¬ 0 ≤ r := (by omega); have HR := hide hr; clear hr))
      go_region_held3 (fun w' => w'.cell? ⟨bb, 1, none⟩ = some (.int .i64 s.n) ∧ w'.cell? ⟨w.heap.size, 2, none⟩ = some (.int .i64 b) ∧ w'.cell? ⟨w.heap.size, 3, none⟩ = some (.int .i64 c) ∧ w'.cell? ⟨w.heap.size, 4, none⟩ = some (.int .i64 d))
        (first | go_keep | (refine ⟨?_, ?_, ?_, ?_⟩ <;> assumption) | (go_split_ands; refine ⟨?_, ?_, ?_, ?_⟩ <;> (first | assumption | simp [*])))
        (first
          | (go_at_call 12; first | (with_reducible refine ((unhide HPb) _).mono ?_; rintro e w1 ⟨rfl, rfl⟩) | (with_reducible refine ((unhide HPc) _).mono ?_; rintro e w1 ⟨rfl, rfl⟩))
          | (go_at_call 37; refine ((unhide HC) _ (unhide HKd)).mono ?_; rintro e w2 ⟨rfl, hBK, hF⟩; have q := hBK.book; obtain ⟨q1, q2, q3, q4, _⟩ := q; have r := six_cells6 q4; obtain ⟨_, r1, _⟩ := r; have r1' : w2.cell? ⟨bb, 1, none⟩ = some (.int .i64 s.n) := r1; have y := (unhide HBX) w2 hF; obtain ⟨y2, y3, y4⟩ := y; clear r1 q4))
      have H2 := hide (And.intro hBK (fin _ _ hFd hF))
      clear hBK hF
      go_wp2
      go_ret
      exact ⟨rfl, ⟨_, h.ins i hi24 (pk b s.n) (pk c s.n) d (Pl.verB_true.2 (by omega)) (Pl.verB_true.2 (by omega)) h4 hd.1 hd.2, rfl, rfl, by rw [h4]; exact Pl.has_iff.2 ⟨⟨i, pk b s.n, pk c s.n, d⟩, (Pl.mem_with (x := ⟨(i : Int), (pk b s.n : Int), (pk c s.n : Int), d⟩) h4).2 (Or.inl rfl), rfl⟩, (unhide H2).1⟩, (unhide H2).2⟩

set_option maxRecDepth 100000 in
set_option maxHeartbeats 4000000 in
theorem backq_any (bb xb : Nat) (s : St) (h : BOk s) {q : List (List It)} {l : List It} (hp : s.past = q ++ [l]) (w : World) (hB : BK w bb xb s) :
    Calls Tryd.prog 15 #[P0 bb] w fun e w' => e = .returned (.bool true) ∧ (∃ s', BOk s' ∧ s'.n = s.n ∧ s'.past = q ∧ s'.L = l ∧ BK w' bb xb s') ∧ Fr (fun k => k = bb ∨ k = xb) w w' := by
  have hne := hB.ne
  obtain ⟨⟨vl, vp, vm, hb, hI, hP, hN⟩, hx⟩ := hB
  have hbl := lt_of_block hb
  obtain ⟨c0, _, c2, c3, _, _, _⟩ := six_cells6 hb
  obtain ⟨s', ok', e1, e2, e3, e4, hX⟩ := undoX_ok h.ok hp
  obtain ⟨t, _, _, hadj, _⟩ := h.ok.last hp
  have hP' := hP
  rw [hp] at hP'
  have bok : BOk s' := ⟨ok', by rw [e4]; exact h.most, fun e he => h.fewp l (by rw [hp]; simp) e (by rw [← e1]; exact he), fun m hm => h.fewp m (by rw [hp]; rw [e2] at hm; exact List.mem_append_left _ hm)⟩
  obtain ⟨g, off, cap, a, c, rfl, cg, hIl, hgl, hqc, cur, hg⟩ := past_last hP'
  have hPi := past_init hP'
  have HD := hide (hX w xb hx)
  obtain ⟨tf1, tf2⟩ := told_fits (L := s.L) (L2 := l) h.ok.gl.rng
  have hpl := h.ok.past
  rw [hp, List.length_append, List.length_singleton] at hpl
  obtain ⟨oA, hoA⟩ : ∃ o, o = Pl.only (Pl.forest l) (Pl.forest s.L) := ⟨_, rfl⟩
  obtain ⟨oR, hoR⟩ : ∃ o, o = Pl.only (Pl.forest s.L) (Pl.forest l) := ⟨_, rfl⟩
  have HT : Hid (∀ M' : List Int, M'.Pairwise (· < ·) → (∀ y, y ∈ M' ↔ (y ∈ (Pl.forest s.L).map It.id ∧ y ≠ oR) ∨ (y = oA ∧ oA ≠ -1)) → M' = (Pl.forest s'.L).map It.id) := fun M' m1 m2 => by
    rw [e1]
    refine told_mine hadj ?_ ?_ m1 (by rw [hoA, hoR] at m2; exact m2)
    · rw [← e1]; exact ok'.gl.ids
    · rw [← e1]; exact ok'.gl.rng
  rw [← hoA, ← hoR] at HD
  rw [← hoA] at tf1
  rw [← hoR] at tf2
  have HM := hide (And.intro tf1 tf2)
  have hms := hide (And.intro (ids_sorted (Pl.forest_ids h.ok.gl.ids)) (show ((Pl.forest s.L).map It.id).length ≤ 100 by rw [List.length_map]; exact Nat.le_trans (List.length_filter_le _ _) h.ok.l100))
  have H0 := hide (And.intro hb (And.intro hIl (And.intro hPi (And.intro hN (And.intro hx hg)))))
  have hi1 : ((q.length + 1 : Nat) : Int) - 1 = q.length := by omega
  have hi2 : (0 : Int) ≤ q.length := by omega
  have hi3 : (q.length : Int) < ((q.length + 1 : Nat) : Int) := by omega
  have hi4 : ¬ ((q.length + 1 : Nat) : Int) = 0 := by omega
  have hi5 : (q.length : Int) ≤ cap := by omega
  clear hb hI hP hP' hN hx hoA hoR tf1 tf2 hIl hPi hg hadj hp hX
  go_enter Tryd.func15, Tryd.ntmps15
  go_wp2_with fail
  refine (unhide HD).mono ?_
  rintro e w1 ⟨rfl, hx1, hF1⟩
  obtain ⟨hb, hIl, hPi, hN, hx, hg⟩ := unhide H0
  have hgx : g ≠ xb := by
    rintro rfl
    have hX := PF.row hx
    unfold RowAt at hX
    rw [hg] at hX; simp at hX
  have hb1 := (hF1.block bb hbl hne).trans hb
  have hg1 := (hF1.block g (lt_of_block hg) hgx).trans hg
  have hIl1 := (sp_x hx).its hF1 hIl
  have hPi1 := (sp_x hx).past hF1 hPi
  have hN1 := (sp_x hx).nums hF1 hN
  have cg1 : w1.cell? ⟨g, off + q.length, none⟩ = some (.slice a l.length c) := by
    unfold World.cell? at cg ⊢
    simp only at cg ⊢
    rw [hg1]; rw [hg] at cg; exact cg
  obtain ⟨d0, _, d2, d3, _, _, df⟩ := six_cells6 hb1
  have df2 := df 2
  have df3 := df 3
  have hbl1 := lt_of_block hb1
  have hgl1 := lt_of_block hg1
  have n1 : ¬ bb = w1.heap.size := by omega
  have n2 : ¬ w1.heap.size = bb := by omega
  have n3 : ¬ g = w1.heap.size := by omega
  have n4 : ¬ g = bb := by rintro rfl; rw [hb] at hg; simp at hg
  have n5 : ¬ bb = g := fun e => n4 e.symm
  -- the world in which the change is written down
  have fin : ∀ W4, W4 = ((w1.setCell ⟨bb, 2, none⟩ (.slice a l.length c)).setCell ⟨bb, 3, none⟩ (.slice (some ⟨g, off, none⟩) q.length cap)).alloc (.cells #[.int .i64 oA, .int .i64 oR] 47) →
      W4.heap[bb]? = some (bko xb s.n (.slice a l.length c) (.slice (some ⟨g, off, none⟩) q.length cap) vm) ∧ Its W4 0 (.slice a l.length c) l ∧ PastAt W4 (.slice (some ⟨g, off, none⟩) q.length cap) q ∧ Nums W4 0 vm ((Pl.forest s.L).map It.id) ∧ XG W4 xb s' ∧ Fr (fun k => k = bb ∨ k = xb) w W4 := by
    rintro W4 rfl
    have hf : Fr (fun k => k = bb) w1 ((w1.setCell ⟨bb, 2, none⟩ (.slice a l.length c)).setCell ⟨bb, 3, none⟩ (.slice (some ⟨g, off, none⟩) q.length cap)) := Fr.setCell (S := fun k => k = bb) (Fr.setCell (S := fun k => k = bb) (Fr.refl _ _) (p := ⟨bb, 2, none⟩) (Or.inl rfl) _) (p := ⟨bb, 3, none⟩) (Or.inl rfl) _
    have h3 := heap_setCell_same w1 bb 2 _ _ (.slice a l.length c) hb1
    have h4 := heap_setCell_same _ bb 3 _ _ (.slice (some ⟨g, off, none⟩) q.length cap) h3
    have hf' := hf.alloc (.cells #[.int .i64 oA, .int .i64 oR] 47)
    refine ⟨?_, (sp_b hb1).its hf' hIl1, (sp_b hb1).past hf' hPi1, (sp_b hb1).nums hf' hN1, PF.fr hx1 hf' (fun e => hne e.symm), (frs_x hF1).trans (frs_b hf')⟩
    rw [Below.heap_alloc _ _ _ (lt_of_block h4), h4]; rfl
  have HFn := hide fin
  clear fin hb hIl hPi hN hx hg hb1 hg1 hIl1 hPi1 hN1 hx1 hF1 H0 HD df c0 c2 c3 cg hgx
  go_wp2_with fail
  obtain ⟨f1, f2, f3, f4, f5, f6⟩ := (unhide HFn) _ rfl
  generalize ((w1.setCell ⟨bb, 2, none⟩ (.slice a l.length c)).setCell ⟨bb, 3, none⟩ (.slice (some ⟨g, off, none⟩) q.length cap)).alloc (.cells #[.int .i64 oA, .int .i64 oR] 47) = W4 at f1 f2 f3 f4 f5 f6 ⊢
  refine (changed_any bb _ _ _ _ vm _ _ _ _ W4 f1 f4 (unhide hms).1 (unhide hms).2 (unhide HM).1 (unhide HM).2).mono ?_
  rintro e w5 ⟨rfl, vm', M', hb5, hN5, hS5, hm5, hF5⟩
  have hM := (unhide HT) M' hS5 hm5
  rw [hM] at hN5
  have hBK5 : BK w5 bb xb s' := ⟨⟨_, _, vm', by rw [e3]; exact hb5, by rw [e1]; exact (sp_b f1).its hF5 f2, by rw [e2]; exact (sp_b f1).past hF5 f3, hN5⟩, PF.fr f5 hF5 (fun e => hne e.symm)⟩
  have H6 := hide (And.intro hBK5 (f6.trans (frs_b (xb := xb) hF5)))
  clear hb5 hN5 hS5 hm5 hF5 hM hBK5 f1 f2 f3 f4 f5 f6 HFn HT HM hms d0 d2 d3 df2 df3
  go_wp2
  go_ret
  exact ⟨rfl, ⟨s', bok, e3, e2, e1, (unhide H6).1⟩, (unhide H6).2⟩

/-- k changes taken back lead to L0 -/
def UndP (L0 : List It) : Nat → List (List It) → List It → Prop
  | 0, _, L => L = L0
  | k + 1, past, _ => ∃ q l, past = q ++ [l] ∧ UndP L0 k q l
theorem UndP.tail {L0 : List It} : ∀ {k : Nat} {a : List It} {q : List (List It)} {L : List It}, UndP L0 k (a :: q) L → k ≤ q.length → UndP L0 k q L := by
  intro k
  induction k with
  | zero => intro a q L h _; exact h
  | succ k ih =>
    intro a q L h hk
    obtain ⟨q', l, he, h2⟩ := h
    cases q' with
    | nil =>
      rw [List.nil_append] at he
      injection he with _ e2
      subst e2
      simp at hk
    | cons b q'' =>
      rw [List.cons_append] at he
      injection he with e1 e2
      subst e1
      refine ⟨q'', l, e2, ih h2 ?_⟩
      rw [e2, List.length_append, List.length_singleton] at hk
      omega
theorem UndP.push {L0 : List It} {k : Nat} {past : List (List It)} {L L' : List It} (h : UndP L0 k past L) (hp : past.length ≤ 20) (hk : k < 20) : UndP L0 (k + 1) (push past L) L' := by
  unfold Go.Proofs.YtnnnleckoinjoaaDoor.push
  split
  · rename_i h20
    cases past with
    | nil => simp at h20
    | cons a q =>
      refine ⟨q, L, rfl, h.tail ?_⟩
      simp at h20
      omega
  · exact ⟨past, L, rfl, h⟩
theorem sp_two {w : World} {bb xb : Nat} {s : St} (hK : BK w bb xb s) : Sp (fun k => k = bb ∨ k = xb) w := by
  obtain ⟨⟨vl, vp, vm, hb, _⟩, hx⟩ := hK
  rintro k (rfl | rfl)
  · exact sp_b hb _ rfl
  · exact sp_x hx _ rfl

end Go.Proofs.YtnnnleckoinjoaaDoor
