import Derived.Test.YtigeebbijldnfaaK13
import Derived.Test.YtigeebbijldnfaaK19
import Derived.Test.YtigeebbijldnfaaK31
/- Changes, and changes taken back, told whole. -/
namespace Go.Proofs.Ytigeebbijldnfaa
open Go.RowKit
open Pl (It)

/-- what a step of kind 0 leaves -/
def KPost0 (bb xb : Nat) (s : St) (i : Nat) (w : World) : Ending → World → Prop := fun e w' => e = .returned (.bool true) ∧ (∃ s', BOk s' ∧ s'.n = s.n ∧ s'.past = push s.past s.L ∧ Pl.has s'.L (i : Int) = !Pl.has s.L (i : Int) ∧ BK w' bb xb s') ∧ Fr (fun k => k = bb ∨ k = xb) w w'

set_option maxRecDepth 100000 in
set_option maxHeartbeats 8000000 in
theorem kstep0_any (bb xb : Nat) (s : St) (h : BOk s) (a b c d : Int) (ha : R64 a) (hbb : R64 b) (hcc : R64 c) (hd : R64 d) (w : World) (hB : BK w bb xb s) :
    Calls Try.prog 14 #[P0 bb, stv 0 a b c d] w (KPost0 bb xb s (pk a 24) w) := by
  obtain ⟨i, hi⟩ : ∃ i, i = pk a 24 := ⟨_, rfl⟩
  rw [← hi]
  have hi24 : i < 24 := by rw [hi]; exact pk_lt a 24 (by omega)
  have HA : Hid (∀ w, Calls Try.prog 24 #[.int .i64 a, .int .i64 24] w fun e w' => e = .returned (.int .i64 i) ∧ w = w') := fun w => by rw [hi]; exact pick_any a 24 (by omega) (by omega) ha.1 ha.2 w
  have hn1 := h.ok.n1
  have hn30 := h.ok.n30
  have HPb := hide (fun w => pick_any b s.n hn1 (by omega) hbb.1 hbb.2 w)
  have HPc := hide (fun w => pick_any c s.n hn1 (by omega) hcc.1 hcc.2 w)
  have hub := pk_lt b s.n hn1
  have huc := pk_lt c s.n hn1
  clear hi ha hbb hcc
  -- the box of the step
  have hBel : Below w.heap.size w (w.alloc (sto 0 a b c d)) := (Below.refl _ _).alloc (Nat.le_refl _) _
  have hB1 := hB.later hBel
  have hbl : bb < w.heap.size := by obtain ⟨⟨_, _, _, hb, _⟩, _⟩ := hB; exact lt_of_block hb
  have hxl : xb < w.heap.size := (PF.row hB.xg).lt
  have k1 : ¬ bb = w.heap.size := by omega
  have k2 : ¬ w.heap.size = bb := by omega
  have hFb : Fr (fun k => k = bb ∨ k = xb) w (w.alloc (sto 0 a b c d)) := Fr.of_below hBel
  have fin : ∀ w1 w2, Fr (fun k => k = bb ∨ k = xb) w w1 → Fr (fun k => k = bb ∨ k = xb) w1 w2 → Fr (fun k => k = bb ∨ k = xb) w w2 := fun _ _ h1 h2 => h1.trans h2
  obtain ⟨⟨vl, vp, vm, hb1, hI1, hP1, hN1⟩, hx1⟩ := hB1
  obtain ⟨c0, c1, c2, _, _, _, _⟩ := six_cells6 hb1
  obtain ⟨al, cl, rfl⟩ := row_form hI1
  have HK : Hid (BK (w.alloc (sto 0 a b c d)) bb xb s) := hB.later hBel
  have hl100 := h.ok.l100
  have HI := hide hI1
  have HX := hide hx1
  clear hb1 hI1 hP1 hN1 hx1 hB
  cases h4 : Pl.has s.L (i : Int) with
  | true =>
      have HG := hide (fun w' hh => goes_any bb xb s h i hi24 h4 w' hh)
      go_enter Try.func14, Try.ntmps14
      go_wp2_with (first
        | (go_at_call 24; refine ((unhide HA) _).mono ?_; rintro e w1 ⟨rfl, rfl⟩)
        | (go_at_call 25; refine (at_any s.L i al cl _ (unhide HI) hl100).mono ?_; rintro e w1 ⟨r, rfl, hr, rfl⟩; have hr0 := (Pl.findIs_has hr).1.1 h4; have HR := hide hr; clear hr))
      refine ((unhide HG) _ (unhide HK)).mono ?_
      rintro e w2 ⟨rfl, hBK, hF⟩
      have H2 := hide (And.intro hBK (fin _ _ hFb hF))
      clear hBK hF
      go_wp2
      go_ret
      exact ⟨rfl, ⟨_, h.del i (Pl.numB_true.2 (by omega)) h4, rfl, rfl, by rw [h4]; exact Pl.without_has s.L i, (unhide H2).1⟩, (unhide H2).2⟩
  | false =>
      have HC := hide (fun w' hh => kcomes_any bb xb s h i hi24 (pk b s.n) (pk c s.n) d (Pl.verB_true.2 (by omega)) (Pl.verB_true.2 (by omega)) h4 hd.1 hd.2 w' hh)
      have hkd : BK (w.alloc (sto 0 a b c d)).drew bb xb s := (unhide HK).later ⟨rfl, rfl, rfl, Nat.le_refl _, fun _ _ => rfl⟩
      have HKd := hide hkd
      have hFd : Fr (fun k => k = bb ∨ k = xb) w (w.alloc (sto 0 a b c d)).drew := hFb.drew
      have hbx : (w.alloc (sto 0 a b c d)).heap[w.heap.size]? = some (sto 0 a b c d) := heap_alloc_new _ _
      obtain ⟨x0, x1, x2, x3, x4⟩ := five_cells hbx
      have HBX : Hid (∀ w2, Fr (fun k => k = bb ∨ k = xb) (w.alloc (sto 0 a b c d)).drew w2 → w2.cell? ⟨w.heap.size, 2, none⟩ = some (.int .i64 b) ∧ w2.cell? ⟨w.heap.size, 3, none⟩ = some (.int .i64 c) ∧ w2.cell? ⟨w.heap.size, 4, none⟩ = some (.int .i64 d)) := fun w2 hf => by
        obtain ⟨_, _, y2, y3, y4⟩ := five_cells ((hf.undrew.block _ (lt_of_block hbx) (by omega)).trans hbx)
        exact ⟨y2, y3, y4⟩
      clear hbx hkd
      go_enter Try.func14, Try.ntmps14
      go_wp2_with (first
        | (go_at_call 24; refine ((unhide HA) _).mono ?_; rintro e w1 ⟨rfl, rfl⟩)
        | (go_at_call 25; refine (at_any s.L i al cl _ (unhide HI) hl100).mono ?_; rintro e w1 ⟨r, rfl, hr, rfl⟩; have hr0 := (Pl.findIs_has hr).2.1 h4; have hr1 : ¬ 0 ≤ r := (by omega); have HR := hide hr; clear hr))
      go_region_held3 (fun w' => w'.cell? ⟨bb, 1, none⟩ = some (.int .i64 s.n) ∧ w'.cell? ⟨w.heap.size, 2, none⟩ = some (.int .i64 b) ∧ w'.cell? ⟨w.heap.size, 3, none⟩ = some (.int .i64 c) ∧ w'.cell? ⟨w.heap.size, 4, none⟩ = some (.int .i64 d))
        (first | go_keep | (refine ⟨?_, ?_, ?_, ?_⟩ <;> assumption) | (go_split_ands; refine ⟨?_, ?_, ?_, ?_⟩ <;> (first | assumption | simp [*])))
        (first
          | (go_at_call 24; first | (with_reducible refine ((unhide HPb) _).mono ?_; rintro e w1 ⟨rfl, rfl⟩) | (with_reducible refine ((unhide HPc) _).mono ?_; rintro e w1 ⟨rfl, rfl⟩))
          | (go_at_call 41; refine ((unhide HC) _ (unhide HKd)).mono ?_; rintro e w2 ⟨rfl, hBK, hF⟩; have q := hBK.book; obtain ⟨q1, q2, q3, q4, _⟩ := q; have r := six_cells6 q4; obtain ⟨_, r1, _⟩ := r; have r1' : w2.cell? ⟨bb, 1, none⟩ = some (.int .i64 s.n) := r1; have y := (unhide HBX) w2 hF; obtain ⟨y2, y3, y4⟩ := y; clear r1 q4))
      have H2 := hide (And.intro hBK (fin _ _ hFd hF))
      clear hBK hF
      go_wp2
      go_ret
      exact ⟨rfl, ⟨_, h.ins i hi24 (pk b s.n) (pk c s.n) d (Pl.verB_true.2 (by omega)) (Pl.verB_true.2 (by omega)) h4 hd.1 hd.2, rfl, rfl, by rw [h4]; exact Pl.has_iff.2 ⟨⟨i, pk b s.n, pk c s.n, d⟩, (Pl.mem_with (x := ⟨(i : Int), (pk b s.n : Int), (pk c s.n : Int), d⟩) h4).2 (Or.inl rfl), rfl⟩, (unhide H2).1⟩, (unhide H2).2⟩

set_option maxRecDepth 100000 in
set_option maxHeartbeats 4000000 in
theorem backq_any (bb xb : Nat) (s : St) (h : BOk s) {q : List (List It)} {l : List It} (hp : s.past = q ++ [l]) (w : World) (hB : BK w bb xb s) :
    Calls Try.prog 26 #[P0 bb] w fun e w' => e = .returned (.bool true) ∧ (∃ s', BOk s' ∧ s'.n = s.n ∧ s'.past = q ∧ s'.L = l ∧ BK w' bb xb s') ∧ Fr (fun k => k = bb ∨ k = xb) w w' := by
  have hne := hB.ne
  obtain ⟨⟨vl, vp, vm, hb, hI, hP, hN⟩, hx⟩ := hB
  have hbl := lt_of_block hb
  obtain ⟨c0, _, c2, c3, _, _, _⟩ := six_cells6 hb
  obtain ⟨s', ok', e1, e2, e3, e4, hX⟩ := undoX_ok h.ok hp
  obtain ⟨t, _, _, hadj, _⟩ := h.ok.last hp
  have hP' := hP
  rw [hp] at hP'
  have bok : BOk s' := ⟨ok', by rw [e4]; exact h.most, fun e he => h.fewp l (by rw [hp]; simp) e (by rw [← e1]; exact he), fun m hm => h.fewp m (by rw [hp]; rw [e2] at hm; exact List.mem_append_left _ hm)⟩
  obtain ⟨g, off, cap, a, c, rfl, cg, hIl, hgl, hqc, cur, hg⟩ := past_last hP'
  have hPi := past_init hP'
  have HD := hide (hX w xb hx)
  obtain ⟨tf1, tf2⟩ := told_fits (L := s.L) (L2 := l) h.ok.gl.rng
  have hpl := h.ok.past
  rw [hp, List.length_append, List.length_singleton] at hpl
  obtain ⟨oA, hoA⟩ : ∃ o, o = Pl.only (Pl.forest l) (Pl.forest s.L) := ⟨_, rfl⟩
  obtain ⟨oR, hoR⟩ : ∃ o, o = Pl.only (Pl.forest s.L) (Pl.forest l) := ⟨_, rfl⟩
  have HT : Hid (∀ M' : List Int, M'.Pairwise (· < ·) → (∀ y, y ∈ M' ↔ (y ∈ (Pl.forest s.L).map It.id ∧ y ≠ oR) ∨ (y = oA ∧ oA ≠ -1)) → M' = (Pl.forest s'.L).map It.id) := fun M' m1 m2 => by
    rw [e1]
    refine told_mine hadj ?_ ?_ m1 (by rw [hoA, hoR] at m2; exact m2)
    · rw [← e1]; exact ok'.gl.ids
    · rw [← e1]; exact ok'.gl.rng
  rw [← hoA, ← hoR] at HD
  rw [← hoA] at tf1
  rw [← hoR] at tf2
  have HM := hide (And.intro tf1 tf2)
  have hms := hide (And.intro (ids_sorted (Pl.forest_ids h.ok.gl.ids)) (show ((Pl.forest s.L).map It.id).length ≤ 100 by rw [List.length_map]; exact Nat.le_trans (List.length_filter_le _ _) h.ok.l100))
  have H0 := hide (And.intro hb (And.intro hIl (And.intro hPi (And.intro hN (And.intro hx hg)))))
  have hi1 : ((q.length + 1 : Nat) : Int) - 1 = q.length := by omega
  have hi2 : (0 : Int) ≤ q.length := by omega
  have hi3 : (q.length : Int) < ((q.length + 1 : Nat) : Int) := by omega
  have hi4 : ¬ ((q.length + 1 : Nat) : Int) = 0 := by omega
  have hi5 : (q.length : Int) ≤ cap := by omega
  clear hb hI hP hP' hN hx hoA hoR tf1 tf2 hIl hPi hg hadj hp hX
  go_enter Try.func26, Try.ntmps26
  go_wp2_with fail
  refine (unhide HD).mono ?_
  rintro e w1 ⟨rfl, hx1, hF1⟩
  obtain ⟨hb, hIl, hPi, hN, hx, hg⟩ := unhide H0
  have hgx : g ≠ xb := by
    rintro rfl
    have hX := PF.row hx
    unfold RowAt at hX
    rw [hg] at hX; simp at hX
  have hb1 := (hF1.block bb hbl hne).trans hb
  have hg1 := (hF1.block g (lt_of_block hg) hgx).trans hg
  have hIl1 := (sp_x hx).its hF1 hIl
  have hPi1 := (sp_x hx).past hF1 hPi
  have hN1 := (sp_x hx).nums hF1 hN
  have cg1 : w1.cell? ⟨g, off + q.length, none⟩ = some (.slice a l.length c) := by
    unfold World.cell? at cg ⊢
    simp only at cg ⊢
    rw [hg1]; rw [hg] at cg; exact cg
  obtain ⟨d0, _, d2, d3, _, _, df⟩ := six_cells6 hb1
  have df2 := df 2
  have df3 := df 3
  have hbl1 := lt_of_block hb1
  have hgl1 := lt_of_block hg1
  have n1 : ¬ bb = w1.heap.size := by omega
  have n2 : ¬ w1.heap.size = bb := by omega
  have n3 : ¬ g = w1.heap.size := by omega
  have n4 : ¬ g = bb := by rintro rfl; rw [hb] at hg; simp at hg
  have n5 : ¬ bb = g := fun e => n4 e.symm
  -- the world in which the change is written down
  have fin : ∀ W4, W4 = ((w1.setCell ⟨bb, 2, none⟩ (.slice a l.length c)).setCell ⟨bb, 3, none⟩ (.slice (some ⟨g, off, none⟩) q.length cap)).alloc (.cells #[.int .i64 oA, .int .i64 oR] 55) →
      W4.heap[bb]? = some (bko xb s.n (.slice a l.length c) (.slice (some ⟨g, off, none⟩) q.length cap) vm) ∧ Its W4 0 (.slice a l.length c) l ∧ PastAt W4 (.slice (some ⟨g, off, none⟩) q.length cap) q ∧ Nums W4 0 vm ((Pl.forest s.L).map It.id) ∧ XG W4 xb s' ∧ Fr (fun k => k = bb ∨ k = xb) w W4 := by
    rintro W4 rfl
    have hf : Fr (fun k => k = bb) w1 ((w1.setCell ⟨bb, 2, none⟩ (.slice a l.length c)).setCell ⟨bb, 3, none⟩ (.slice (some ⟨g, off, none⟩) q.length cap)) := Fr.setCell (S := fun k => k = bb) (Fr.setCell (S := fun k => k = bb) (Fr.refl _ _) (p := ⟨bb, 2, none⟩) (Or.inl rfl) _) (p := ⟨bb, 3, none⟩) (Or.inl rfl) _
    have h3 := heap_setCell_same w1 bb 2 _ _ (.slice a l.length c) hb1
    have h4 := heap_setCell_same _ bb 3 _ _ (.slice (some ⟨g, off, none⟩) q.length cap) h3
    have hf' := hf.alloc (.cells #[.int .i64 oA, .int .i64 oR] 55)
    refine ⟨?_, (sp_b hb1).its hf' hIl1, (sp_b hb1).past hf' hPi1, (sp_b hb1).nums hf' hN1, PF.fr hx1 hf' (fun e => hne e.symm), (frs_x hF1).trans (frs_b hf')⟩
    rw [Below.heap_alloc _ _ _ (lt_of_block h4), h4]; rfl
  have HFn := hide fin
  clear fin hb hIl hPi hN hx hg hb1 hg1 hIl1 hPi1 hN1 hx1 hF1 H0 HD df c0 c2 c3 cg hgx
  go_wp2_with fail
  obtain ⟨f1, f2, f3, f4, f5, f6⟩ := (unhide HFn) _ rfl
  generalize ((w1.setCell ⟨bb, 2, none⟩ (.slice a l.length c)).setCell ⟨bb, 3, none⟩ (.slice (some ⟨g, off, none⟩) q.length cap)).alloc (.cells #[.int .i64 oA, .int .i64 oR] 55) = W4 at f1 f2 f3 f4 f5 f6 ⊢
  refine (changed_any bb _ _ _ _ vm _ _ _ _ W4 f1 f4 (unhide hms).1 (unhide hms).2 (unhide HM).1 (unhide HM).2).mono ?_
  rintro e w5 ⟨rfl, vm', M', hb5, hN5, hS5, hm5, hF5⟩
  have hM := (unhide HT) M' hS5 hm5
  rw [hM] at hN5
  have hBK5 : BK w5 bb xb s' := ⟨⟨_, _, vm', by rw [e3]; exact hb5, by rw [e1]; exact (sp_b f1).its hF5 f2, by rw [e2]; exact (sp_b f1).past hF5 f3, hN5⟩, PF.fr f5 hF5 (fun e => hne e.symm)⟩
  have H6 := hide (And.intro hBK5 (f6.trans (frs_b (xb := xb) hF5)))
  clear hb5 hN5 hS5 hm5 hF5 hM hBK5 f1 f2 f3 f4 f5 f6 HFn HT HM hms d0 d2 d3 df2 df3
  go_wp2
  go_ret
  exact ⟨rfl, ⟨s', bok, e3, e2, e1, (unhide H6).1⟩, (unhide H6).2⟩

/-- k changes taken back lead to L0 -/
def UndP (L0 : List It) : Nat → List (List It) → List It → Prop
  | 0, _, L => L = L0
  | k + 1, past, _ => ∃ q l, past = q ++ [l] ∧ UndP L0 k q l
theorem UndP.tail {L0 : List It} : ∀ {k : Nat} {a : List It} {q : List (List It)} {L : List It}, UndP L0 k (a :: q) L → k ≤ q.length → UndP L0 k q L := by
  intro k
  induction k with
  | zero => intro a q L h _; exact h
  | succ k ih =>
    intro a q L h hk
    obtain ⟨q', l, he, h2⟩ := h
    cases q' with
    | nil =>
      rw [List.nil_append] at he
      injection he with _ e2
      subst e2
      simp at hk
    | cons b q'' =>
      rw [List.cons_append] at he
      injection he with e1 e2
      subst e1
      refine ⟨q'', l, e2, ih h2 ?_⟩
      rw [e2, List.length_append, List.length_singleton] at hk
      omega
theorem UndP.push {L0 : List It} {k : Nat} {past : List (List It)} {L L' : List It} (h : UndP L0 k past L) (hp : past.length ≤ 20) (hk : k < 20) : UndP L0 (k + 1) (push past L) L' := by
  unfold Go.Proofs.Ytigeebbijldnfaa.push
  split
  · rename_i h20
    cases past with
    | nil => simp at h20
    | cons a q =>
      refine ⟨q, L, rfl, h.tail ?_⟩
      simp at h20
      omega
  · exact ⟨past, L, rfl, h⟩
theorem sp_two {w : World} {bb xb : Nat} {s : St} (hK : BK w bb xb s) : Sp (fun k => k = bb ∨ k = xb) w := by
  obtain ⟨⟨vl, vp, vm, hb, _⟩, hx⟩ := hK
  rintro k (rfl | rfl)
  · exact sp_b hb _ rfl
  · exact sp_x hx _ rfl

end Go.Proofs.Ytigeebbijldnfaa

/- What is taken back is as though it had not been. -/
namespace Go.Proofs.Ytigeebbijldnfaa
open Go.RowKit
open Pl (It)

theorem neg_one {l : List It} {x r : Int} (h : Pl.FindIs l x r) (hn : Pl.has l x = false) : r = -1 := by
  rcases h with ⟨h, _⟩ | ⟨k, hk, _, h⟩
  · exact h
  · exact absurd h (Pl.has_false.1 hn _ (List.getElem_mem hk))
theorem dump_len {s : St} (h : Ok s) : (Pl.dumpL s.n s.L).length ≤ 100000 := by
  have hn30 := h.n30
  have hl100 := h.l100
  have hfl : (Pl.forest s.L).length ≤ 100 := Nat.le_trans (List.length_filter_le _ _) hl100
  have hu : (Pl.dUs s.n s.L (s.n + 2)).length ≤ 32 * 130 := by rw [Pl.dUs_len]; exact Nat.mul_le_mul (by omega) (by omega)
  unfold Pl.dumpL Pl.dHead
  simp only [List.length_append, List.length_map, List.length_cons, List.length_nil, Pl.dIds_len]
  omega

set_option maxRecDepth 100000 in
set_option maxHeartbeats 8000000 in
theorem undone_any (v0 : Int) (hv : R64 v0) (sa : Option Addr) (sb so len cap : Nat) (I : Nat → StT) (w : World) (hsa : 0 < len → sa = some ⟨sb, so, none⟩) (hsb : 0 < len → sb < w.heap.size) (hlen : len ≤ 9223372036854775807) (hc : ∀ j, j < len → StAt w sb (so + j * 5) (I j))
    (ma : Option Addr) (mb mo mlen mcap : Nat) (J : Nat → StT) (hma : 0 < mlen → ma = some ⟨mb, mo, none⟩) (hmb : 0 < mlen → mb < w.heap.size) (hmlen : mlen ≤ 9223372036854775807) (hmc : ∀ j, j < mlen → StAt w mb (mo + j * 5) (J j)) :
    Calls Try.prog 6 #[.int .i64 v0, .slice sa len cap, .slice ma mlen mcap] w fun e w' => e = .returned (.bool true) ∧ Below w.heap.size w w' := by
  have HP := hide (played_any v0 hv sa sb so len cap I w hsa hsb hlen hc)
  have HMC := hide hmc
  clear hsa hsb hlen hc hv hmc
  go_enter Try.func6, Try.ntmps6
  go_wp2_with fail
  refine (unhide HP).mono ?_
  rintro e w1 ⟨bb, xb, s, rfl, hbb, hxb, hs, hK, hB⟩
  clear HP
  obtain ⟨⟨vl, vp, vm, hb1, _, _, _⟩, hx1⟩ := id hK
  obtain ⟨c0, c1, _, _, _, _, _⟩ := six_cells6 hb1
  have hbl := lt_of_block hb1
  have hlenD := dump_len hs.ok
  have hdump : ∀ (t : St) (W : World), BOk t → t.n = s.n → t.L = s.L → XG W xb t → Calls Try.prog 23 #[P0 xb, .int .i64 s.n] W fun e w' => ∃ v, e = .returned (.tuple #[v, .string (txt s.n s.most s.L)]) ∧ Nums w' W.heap.size v (Pl.dumpL s.n s.L) ∧ Below W.heap.size W w' := fun t W h1 h2 h4 h5 => by
    have := dump_any t h1.ok xb W h5
    rw [h2, show t.most = s.most by rw [h1.most, hs.most], h4] at this
    exact this
  obtain ⟨D, hD⟩ : ∃ D, D = Pl.dumpL s.n s.L := ⟨_, rfl⟩
  obtain ⟨T, hT⟩ : ∃ T, T = txt s.n s.most s.L := ⟨_, rfl⟩
  rw [← hD] at hlenD hdump
  rw [← hT] at hdump
  have HDu := hide hdump
  have HU1 := hide (hdump s w1.drew hs rfl rfl (PF.drew hx1))
  have HLT : Hid (∀ w2 a k, Below w1.drew.heap.size w1.drew w2 → Nums w2 w1.drew.heap.size (.slice a D.length k) D → BK w2 bb xb s ∧ Nums w2 0 (.slice a D.length k) D ∧ Below w.heap.size w w2 ∧ w2.cell? ⟨bb, 0, none⟩ = some (P0 xb) ∧ w2.cell? ⟨bb, 1, none⟩ = some (.int .i64 s.n)) := fun w2 a k hb hN => by
    have hb' : Below w1.heap.size w1 w2 := Below.undrew hb
    exact ⟨hK.later hb', row_mono hN (Nat.zero_le _), hB.trans (hb'.mono hB.size), (hb'.cell (p := ⟨bb, 0, none⟩) hbl).trans c0, (hb'.cell (p := ⟨bb, 1, none⟩) hbl).trans c1⟩
  have HS0 := hide hs
  clear hK hb1 hx1 hB hdump hs hD hT
  go_upto_region 4 with fail
  go_region_held3 (fun w' => w'.cell? ⟨bb, 0, none⟩ = some (P0 xb) ∧ w'.cell? ⟨bb, 1, none⟩ = some (.int .i64 s.n))
    (first | (refine ⟨?_, ?_⟩ <;> assumption) | (go_keep; done))
    (first
      | (go_at_call 23; refine (unhide HU1).mono ?_; rintro e w2 ⟨v2, rfl, hN2, hb2⟩; obtain ⟨a2, k2, rfl⟩ := row_form hN2; have z := (unhide HLT) w2 a2 k2 hb2 hN2; obtain ⟨z0, z1, z2, z3, z4⟩ := z))
  have H2 := hide (And.intro z0 (And.intro z1 z2))
  clear z0 z1 z2 z3 z4 hN2 hb2 HU1 HLT c0 c1
  go_wp2_with fail
  go_loopg [10, 11] 21 (fun gk nv iv wr => ∃ (k : Nat) (t : St), k ≤ 20 ∧ k ≤ mlen ∧ nv = .int .i64 k ∧ iv = .int .i64 k ∧ BOk t ∧ t.n = s.n ∧ UndP s.L k t.past t.L ∧ BK wr bb xb t ∧ Nums wr 0 (.slice a2 D.length k2) D ∧ Below w.heap.size w wr ∧ 20 - k ≤ gk)
  case atStart => exact ⟨0, s, by omega, by omega, rfl, rfl, unhide HS0, rfl, rfl, (unhide H2).1, (unhide H2).2.1, (unhide H2).2.2, by omega⟩
  case round =>
    obtain ⟨k, t, hk, hkm, rfl, rfl, ht, htn, hU, hKr, hNr, hBr, hgk⟩ := hrel
    by_cases hlt : k < mlen ∧ k < 20
    · obtain ⟨hkm2, hk20⟩ := hlt
      obtain rfl := hma (by omega)
      have hO := ((unhide HMC) k hkm2).later hBr (hmb (by omega))
      have hk1 : (0 : Int) ≤ k := by omega
      have hk2 : (k : Int) < mlen := by omega
      have hk3 : (k : Int) < 20 := by omega
      obtain ⟨tt, htt⟩ : ∃ tt, tt = J k := ⟨_, rfl⟩
      rw [← htt] at hO
      clear htt
      obtain ⟨tk, ta, tb, tc, td⟩ := tt
      obtain ⟨o0, o1, o2, o3, o4, r1, r2, r3, r4⟩ := hO
      simp only at o0 o1 o2 o3 o4 r1 r2 r3 r4
      obtain ⟨i, hi⟩ : ∃ i, i = pk ta 24 := ⟨_, rfl⟩
      have HA : Hid (∀ W, Calls Try.prog 24 #[.int .i64 ta, .int .i64 24] W fun e w' => e = .returned (.int .i64 i) ∧ W = w') := fun W => by rw [hi]; exact pick_any ta 24 (by omega) (by omega) r1.1 r1.2 W
      have hBa : Below wr.heap.size wr (wr.alloc (sto tk ta tb tc td)) := (Below.refl _ _).alloc (Nat.le_refl _) _
      have hK1 := hKr.later hBa
      have hN1 := row_below hNr hBa (Nat.le_refl _)
      have hB1 := hBr.trans (hBa.mono hBr.size)
      have hbx := heap_alloc_new wr (sto tk ta tb tc td)
      obtain ⟨x0, x1, x2, x3, x4⟩ := five_cells hbx
      obtain ⟨⟨vl1, vp1, vm1, hb1, hI1, _, _⟩, _⟩ := id hK1
      obtain ⟨al1, cl1, rfl⟩ := row_form hI1
      obtain ⟨_, _, d2, _, _, _, _⟩ := six_cells6 hb1
      have HAT := hide (at_any t.L i al1 cl1 (wr.alloc (sto tk ta tb tc td)) hI1 ht.ok.l100)
      have hst := kstep0_any bb xb t ht ta tb tc td r1 r2 r3 r4 (wr.alloc (sto tk ta tb tc td)) hK1
      rw [← hi] at hst
      have HST := hide hst
      have HU := hide hU
      have HT := hide (And.intro ht htn)
      have HW1 := hide (And.intro hB1 (And.intro hK1 hN1))
      clear ht htn hU hKr hNr hBr hBa hK1 hN1 hB1 hbx hb1 hI1 hst hi H2 r1 r2 r3 r4 hma
      generalize hWA : wr.alloc (sto tk ta tb tc td) = WA at HAT HST HW1 x0 x1 x2 x3 x4 d2
      have HWA := hide hWA
      clear hWA
      go_upto_region 10 with fail
      rw [show wr.alloc (.cells #[.int .i64 tk, .int .i64 ta, .int .i64 tb, .int .i64 tc, .int .i64 td] 27) = WA from unhide HWA]
      clear o0 o1 o2 o3 o4 HWA
      cases h4 : Pl.has t.L (i : Int) with
      | true =>
        go_wp2_with (first
          | (go_at_call 24; refine ((unhide HA) _).mono ?_; rintro e w3 ⟨rfl, rfl⟩))
        refine (unhide HAT).mono ?_
        rintro e w3 ⟨r, rfl, hr, rfl⟩
        have hr0 := (Pl.findIs_has hr).1.1 h4
        clear hr
        go_wp2_with fail
        refine Calls.mono (by exact unhide HST) ?_
        rintro e w3 ⟨rfl, ⟨t', ht', hn', hp', hh', hK3⟩, hF3⟩
        rw [h4] at hh'
        obtain ⟨⟨vl3, vp3, vm3, hb3, hI3, _, _⟩, _⟩ := id hK3
        obtain ⟨al3, cl3, rfl⟩ := row_form hI3
        obtain ⟨_, _, e2, _, _, _, _⟩ := six_cells6 hb3
        have hU3 : UndP s.L (k + 1) t'.past t'.L := by rw [hp']; exact (unhide HU).push ((unhide HT).1.ok.past) hk20
        have HB3 := hide (below_frs (unhide HW1).1 hF3 hbb hxb)
        have HN3 := hide ((sp_two (unhide HW1).2.1).nums hF3 (unhide HW1).2.2)
        have H3 := hide (And.intro ht' (And.intro (hn'.trans (unhide HT).2) (And.intro hU3 hK3)))
        have HAT3 := hide (at_any t'.L i al3 cl3 w3 hI3 ht'.ok.l100)
        clear ht' hn' hp' hK3 hb3 hI3 hU3 hF3 HAT HST HU HT HW1 x0 x1 x2 x3 x4 d2
        go_wp2_with fail
        refine (unhide HAT3).mono ?_
        rintro e w4 ⟨r3, rfl, hr3, rfl⟩
        obtain rfl := neg_one hr3 hh'
        clear hr3
        clear HAT3 e2
        go_wp2
        go_roundg (gk - 1)
        case measure => omega
        case rel => exact ⟨k + 1, t', by omega, by omega, by go_num, by go_num, (unhide H3).1, (unhide H3).2.1, (unhide H3).2.2.1, (unhide H3).2.2.2, unhide HN3, unhide HB3, by omega⟩
      | false =>
        go_wp2_with (first
          | (go_at_call 24; refine ((unhide HA) _).mono ?_; rintro e w3 ⟨rfl, rfl⟩))
        refine (unhide HAT).mono ?_
        rintro e w3 ⟨r, rfl, hr, rfl⟩
        obtain rfl := neg_one hr h4
        clear hr
        go_wp2_with fail
        refine Calls.mono (by exact unhide HST) ?_
        rintro e w3 ⟨rfl, ⟨t', ht', hn', hp', hh', hK3⟩, hF3⟩
        rw [h4] at hh'
        obtain ⟨⟨vl3, vp3, vm3, hb3, hI3, _, _⟩, _⟩ := id hK3
        obtain ⟨al3, cl3, rfl⟩ := row_form hI3
        obtain ⟨_, _, e2, _, _, _, _⟩ := six_cells6 hb3
        have hU3 : UndP s.L (k + 1) t'.past t'.L := by rw [hp']; exact (unhide HU).push ((unhide HT).1.ok.past) hk20
        have HB3 := hide (below_frs (unhide HW1).1 hF3 hbb hxb)
        have HN3 := hide ((sp_two (unhide HW1).2.1).nums hF3 (unhide HW1).2.2)
        have H3 := hide (And.intro ht' (And.intro (hn'.trans (unhide HT).2) (And.intro hU3 hK3)))
        have HAT3 := hide (at_any t'.L i al3 cl3 w3 hI3 ht'.ok.l100)
        clear ht' hn' hp' hK3 hb3 hI3 hU3 hF3 HAT HST HU HT HW1 x0 x1 x2 x3 x4 d2
        go_wp2_with fail
        refine (unhide HAT3).mono ?_
        rintro e w4 ⟨r3, rfl, hr3, rfl⟩
        have hr4 := (Pl.findIs_has hr3).1.1 hh'
        clear hr3
        clear HAT3 e2
        go_wp2
        go_roundg (gk - 1)
        case measure => omega
        case rel => exact ⟨k + 1, t', by omega, by omega, by go_num, by go_num, (unhide H3).1, (unhide H3).2.1, (unhide H3).2.2.1, (unhide H3).2.2.2, unhide HN3, unhide HB3, by omega⟩
    · have HT := hide (And.intro ht (And.intro htn (And.intro hU (And.intro hKr (And.intro hNr hBr)))))
      clear ht htn hU hKr hNr hBr H2
      rcases (show ¬ (k : Int) < mlen ∨ ((k : Int) < mlen ∧ ¬ (k : Int) < 20) by omega) with hkk | ⟨hkk, hk20⟩
      all_goals
        go_wp2_with fail
        go_loopg [17] (k + 1) (fun gk iv wr => ∃ (j : Nat) (t : St), j ≤ k ∧ iv = .int .i64 j ∧ BOk t ∧ t.n = s.n ∧ UndP s.L (k - j) t.past t.L ∧ BK wr bb xb t ∧ Nums wr 0 (.slice a2 D.length k2) D ∧ Below w.heap.size w wr ∧ k - j ≤ gk)
        case atStart =>
          obtain ⟨ht, htn, hU, hKr, hNr, hBr⟩ := unhide HT
          exact ⟨0, t, Nat.zero_le _, rfl, ht, htn, hU, hKr, hNr, hBr, by omega⟩
        case round =>
          obtain ⟨j, t2, hj, rfl, ht2, htn2, hU2, hK2, hN2, hB2, hgj⟩ := hrel
          by_cases hjk : j < k
          · have hj1 : (j : Int) < k := by omega
            rw [show k - j = (k - (j + 1)) + 1 by omega] at hU2
            obtain ⟨q, l, hq, hU3⟩ := hU2
            have HBQ := hide (backq_any bb xb t2 ht2 hq wr hK2)
            have HR := hide (And.intro hB2 (And.intro hK2 (And.intro hN2 (And.intro htn2 hU3))))
            clear ht2 htn2 hK2 hN2 hB2 hq hU3 HT
            go_wp2_with fail
            refine (unhide HBQ).mono ?_
            rintro e w5 ⟨rfl, ⟨t3, ht3, hn3, hp3, hL3, hK3⟩, hF3⟩
            obtain ⟨hB2, hK2, hN2, htn2, hU3⟩ := unhide HR
            rw [← hp3, ← hL3] at hU3
            have H5 := hide (And.intro ht3 (And.intro (hn3.trans htn2) (And.intro hU3 (And.intro hK3 (And.intro ((sp_two hK2).nums hF3 hN2) (below_frs hB2 hF3 hbb hxb))))))
            clear ht3 hn3 hp3 hL3 hK3 hF3 hB2 hK2 hN2 htn2 hU3 HBQ HR
            go_wp2
            go_roundg (gk - 1)
            case measure => omega
            case rel =>
              obtain ⟨f1, f2, f3, f4, f5, f6⟩ := unhide H5
              exact ⟨j + 1, t3, by omega, by go_num, f1, f2, f3, f4, f5, f6, by omega⟩
          · have hjk' : j = k := by omega
            subst hjk'
            rw [Nat.sub_self] at hU2
            have hL2 : t2.L = s.L := hU2
            obtain ⟨⟨vl5, vp5, vm5, hb5, _, _, _⟩, hx5⟩ := id hK2
            obtain ⟨d0, d1, _, _, _, _, _⟩ := six_cells6 hb5
            rw [htn2] at d1
            have hbl5 := lt_of_block hb5
            have hdd := (unhide HDu) t2 wr.drew ht2 htn2 hL2 (PF.drew hx5)
            have HDD := hide hdd
            have HLT : Hid (∀ w6 a k, Below wr.drew.heap.size wr.drew w6 → Nums w6 wr.drew.heap.size (.slice a D.length k) D → w6.cell? ⟨bb, 0, none⟩ = some (P0 xb) ∧ w6.cell? ⟨bb, 1, none⟩ = some (.int .i64 s.n) ∧ BK w6 bb xb t2 ∧ Below w.heap.size w w6 ∧ Calls Try.prog 19 #[.slice a2 D.length k2, .slice a D.length k] w6 fun e w'' => e = .returned (.bool true) ∧ Below w6.heap.size w6 w'') := fun w6 a k hb hN => by
              have hb' : Below wr.heap.size wr w6 := Below.undrew hb
              exact ⟨(hb'.cell (p := ⟨bb, 0, none⟩) hbl5).trans d0, (hb'.cell (p := ⟨bb, 1, none⟩) hbl5).trans d1, hK2.later hb', hB2.trans (hb'.mono hB2.size), sameInts_big D a2 a k2 k w6 (row_below hN2 hb' (Nat.le_refl _)) (row_mono hN (Nat.zero_le _)) hlenD⟩
            have HT2 := hide ht2
            clear ht2 htn2 hU2 hL2 hK2 hN2 hB2 hb5 hx5 hdd HT
            go_wp2_with fail
            go_region_held3 (fun w' => w'.cell? ⟨bb, 0, none⟩ = some (P0 xb) ∧ w'.cell? ⟨bb, 1, none⟩ = some (.int .i64 s.n))
              (first | (refine ⟨?_, ?_⟩ <;> assumption) | (go_keep; done))
              (first
                | (go_at_call 23; refine (unhide HDD).mono ?_; rintro e w6 ⟨v6, rfl, hN6, hb6⟩; obtain ⟨a6, k6, rfl⟩ := row_form hN6; have y := (unhide HLT) w6 a6 k6 hb6 hN6; obtain ⟨y0, y1, y2, y3, y4⟩ := y))
            have H6 := hide (And.intro y2 y3)
            have HSM := hide y4
            clear y0 y1 y2 y3 y4 hN6 hb6 HLT HDD d0 d1
            go_wp2_with fail
            refine (unhide HSM).mono ?_
            rintro e w7 ⟨rfl, hb7⟩
            have HL7 := hide (light_any bb xb t2 (unhide HT2) w7 ((unhide H6).1.later hb7))
            have HB7 := hide ((unhide H6).2.trans (hb7.mono (unhide H6).2.size))
            clear hb7 H6 HSM
            go_wp2_with fail
            refine (unhide HL7).mono ?_
            rintro e w8 ⟨rfl, hb8⟩
            have HB8 := hide ((unhide HB7).trans (hb8.mono (unhide HB7).size))
            clear hb8 HL7 HB7
            go_wp2
            go_ret
            exact ⟨ret_bool (by simp), unhide HB8⟩

end Go.Proofs.Ytigeebbijldnfaa
