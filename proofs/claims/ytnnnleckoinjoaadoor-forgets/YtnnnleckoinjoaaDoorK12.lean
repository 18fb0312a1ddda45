import Derived.Test.YtnnnleckoinjoaaDoorK11
namespace Go.Proofs.YtnnnleckoinjoaaDoor
open Go.RowKit
open Pl (It)

abbrev stv (k a b c d : Int) : Value := .agg #[.int .i64 k, .int .i64 a, .int .i64 b, .int .i64 c, .int .i64 d]
abbrev sto (k a b c d : Int) : Obj := .cells #[.int .i64 k, .int .i64 a, .int .i64 b, .int .i64 c, .int .i64 d] 39 (0, 0)
def R64 (x : Int) : Prop := -9223372036854775808 ≤ x ∧ x ≤ 9223372036854775807
theorem five_cells {w : World} {b t : Nat} {v0 v1 v2 v3 v4 : Value} (h : w.heap[b]? = some (.cells #[v0, v1, v2, v3, v4] t (0, 0))) :
    w.cell? ⟨b, 0, none⟩ = some v0 ∧ w.cell? ⟨b, 1, none⟩ = some v1 ∧ w.cell? ⟨b, 2, none⟩ = some v2 ∧ w.cell? ⟨b, 3, none⟩ = some v3 ∧ w.cell? ⟨b, 4, none⟩ = some v4 := by
  refine ⟨?_, ?_, ?_, ?_, ?_⟩ <;> simp [World.cell?, h]

/-- what a step leaves -/
def KPost (bb xb : Nat) (s : St) (w : World) : Ending → World → Prop := fun e w' => e = .returned (.bool true) ∧ (∃ s', BOk s' ∧ s'.n = s.n ∧ BK w' bb xb s') ∧ Fr (fun k => k = bb ∨ k = xb) w w'

set_option maxRecDepth 100000 in
set_option maxHeartbeats 8000000 in
theorem kstep_any (bb xb : Nat) (s : St) (h : BOk s) (k a b c d : Int) (ha : R64 a) (hbb : R64 b) (hcc : R64 c) (hd : R64 d) (w : World) (hB : BK w bb xb s) :
    Calls Tryd.prog 14 #[P0 bb, stv k a b c d] w (KPost bb xb s w) := by
  obtain ⟨i, hi⟩ : ∃ i, i = pk a 24 := ⟨_, rfl⟩
  have hi24 : i < 24 := by rw [hi]; exact pk_lt a 24 (by omega)
  have HA : Hid (∀ w, Calls Tryd.prog 12 #[.int .i64 a, .int .i64 24] w fun e w' => e = .returned (.int .i64 i) ∧ w = w') := fun w => by rw [hi]; exact pick_any a 24 (by omega) (by omega) ha.1 ha.2 w
  have hn1 := h.ok.n1
  have hn30 := h.ok.n30
  have HPb := hide (fun w => pick_any b s.n hn1 (by omega) hbb.1 hbb.2 w)
  have HPc := hide (fun w => pick_any c s.n hn1 (by omega) hcc.1 hcc.2 w)
  have hub := pk_lt b s.n hn1
  have huc := pk_lt c s.n hn1
  clear hi ha hbb hcc
  -- the box of the step
  have hBel : Below w.heap.size w (w.alloc (sto k a b c d)) := (Below.refl _ _).alloc (Nat.le_refl _) _
  have hB1 := hB.later hBel
  have hbl : bb < w.heap.size := by obtain ⟨⟨_, _, _, hb, _⟩, _⟩ := hB; exact lt_of_block hb
  have hxl : xb < w.heap.size := (PF.row hB.xg).lt
  have k1 : ¬ bb = w.heap.size := by omega
  have k2 : ¬ w.heap.size = bb := by omega
  have hFb : Fr (fun k => k = bb ∨ k = xb) w (w.alloc (sto k a b c d)) := Fr.of_below hBel
  have fin : ∀ w1 w2, Fr (fun k => k = bb ∨ k = xb) w w1 → Fr (fun k => k = bb ∨ k = xb) w1 w2 → Fr (fun k => k = bb ∨ k = xb) w w2 := fun _ _ h1 h2 => h1.trans h2
  obtain ⟨⟨vl, vp, vm, hb1, hI1, hP1, hN1⟩, hx1⟩ := hB1
  obtain ⟨c0, c1, c2, _, _, _, _⟩ := six_cells6 hb1
  obtain ⟨al, cl, rfl⟩ := row_form hI1
  have HK : Hid (BK (w.alloc (sto k a b c d)) bb xb s) := hB.later hBel
  have hl100 := h.ok.l100
  have HI := hide hI1
  have HX := hide hx1
  clear hb1 hI1 hP1 hN1 hx1 hB
  by_cases h01 : k = 0 ∨ k = 1
  · cases h4 : Pl.has s.L (i : Int) with
    | true =>
      have HG := hide (fun w' hh => goes_any bb xb s h i hi24 h4 w' hh)
      rcases h01 with rfl | rfl
      all_goals
        go_enter Tryd.func14, Tryd.ntmps14
        go_wp2_with (first
          | (go_at_call 12; refine ((unhide HA) _).mono ?_; rintro e w1 ⟨rfl, rfl⟩)
          | (go_at_call 13; refine (at_any s.L i al cl _ (unhide HI) hl100).mono ?_; rintro e w1 ⟨r, rfl, hr, rfl⟩; have hr0 := (Pl.findIs_has hr).1.1 h4; have HR := hide hr; clear hr))
        refine ((unhide HG) _ (unhide HK)).mono ?_
        rintro e w2 ⟨rfl, hBK, hF⟩
        have H2 := hide (And.intro hBK (fin _ _ hFb hF))
        clear hBK hF
        go_wp2
        go_ret
        exact ⟨rfl, ⟨_, h.del i (Pl.numB_true.2 (by omega)) h4, rfl, (unhide H2).1⟩, (unhide H2).2⟩
    | false =>
      rcases h01 with rfl | rfl
      · have HC := hide (fun w' hh => kcomes_any bb xb s h i hi24 (pk b s.n) (pk c s.n) d (Pl.verB_true.2 (by omega)) (Pl.verB_true.2 (by omega)) h4 hd.1 hd.2 w' hh)
        have hkd : BK (w.alloc (sto 0 a b c d)).drew bb xb s := (unhide HK).later ⟨rfl, rfl, rfl, Nat.le_refl _, fun _ _ => rfl⟩
        have HKd := hide hkd
        have hFd : Fr (fun k => k = bb ∨ k = xb) w (w.alloc (sto 0 a b c d)).drew := hFb.drew
        have hbx : (w.alloc (sto 0 a b c d)).heap[w.heap.size]? = some (sto 0 a b c d) := heap_alloc_new _ _
        obtain ⟨x0, x1, x2, x3, x4⟩ := five_cells hbx
        have HBX : Hid (∀ w2, Fr (fun k => k = bb ∨ k = xb) (w.alloc (sto 0 a b c d)).drew w2 → w2.cell? ⟨w.heap.size, 2, none⟩ = some (.int .i64 b) ∧ w2.cell? ⟨w.heap.size, 3, none⟩ = some (.int .i64 c) ∧ w2.cell? ⟨w.heap.size, 4, none⟩ = some (.int .i64 d)) := fun w2 hf => by
          obtain ⟨_, _, y2, y3, y4⟩ := five_cells ((hf.undrew.block _ (lt_of_block hbx) (by omega)).trans hbx)
          exact ⟨y2, y3, y4⟩
        clear hbx hkd
        go_enter Tryd.func14, Tryd.ntmps14
        go_wp2_with (first
          | (go_at_call 12; refine ((unhide HA) _).mono ?_; rintro e w1 ⟨rfl, rfl⟩)
          | (go_at_call 13; refine (at_any s.L i al cl _ (unhide HI) hl100).mono ?_; rintro e w1 ⟨r, rfl, hr, rfl⟩; have hr0 := (Pl.findIs_has hr).2.1 h4; have hr1 : ¬ 0 ≤ r := (by omega); have HR := hide hr; clear hr))
        go_region_held3 (fun w' => w'.cell? ⟨bb, 1, none⟩ = some (.int .i64 s.n) ∧ w'.cell? ⟨w.heap.size, 2, none⟩ = some (.int .i64 b) ∧ w'.cell? ⟨w.heap.size, 3, none⟩ = some (.int .i64 c) ∧ w'.cell? ⟨w.heap.size, 4, none⟩ = some (.int .i64 d))
          (first | go_keep | (refine ⟨?_, ?_, ?_, ?_⟩ <;> assumption) | (go_split_ands; refine ⟨?_, ?_, ?_, ?_⟩ <;> (first | assumption | simp [*])))
          (first
            | (go_at_call 12; first | (with_reducible refine ((unhide HPb) _).mono ?_; rintro e w1 ⟨rfl, rfl⟩) | (with_reducible refine ((unhide HPc) _).mono ?_; rintro e w1 ⟨rfl, rfl⟩))
            | (go_at_call 37; refine ((unhide HC) _ (unhide HKd)).mono ?_; rintro e w2 ⟨rfl, hBK, hF⟩; have q := hBK.book; obtain ⟨q1, q2, q3, q4, _⟩ := q; have r := six_cells6 q4; obtain ⟨_, r1, _⟩ := r; have r1' : w2.cell? ⟨bb, 1, none⟩ = some (.int .i64 s.n) := r1; have y := (unhide HBX) w2 hF; obtain ⟨y2, y3, y4⟩ := y; clear r1 q4))
        have H2 := hide (And.intro hBK (fin _ _ hFd hF))
        clear hBK hF
        go_wp2
        go_ret
        exact ⟨rfl, ⟨_, h.ins i hi24 (pk b s.n) (pk c s.n) d (Pl.verB_true.2 (by omega)) (Pl.verB_true.2 (by omega)) h4 hd.1 hd.2, rfl, (unhide H2).1⟩, (unhide H2).2⟩
      · have HD := hide (fun w' hh => delX_no h.ok i 6 (Or.inr ⟨Pl.numB_true.2 (by omega), h4, rfl⟩) w' xb hh)
        go_enter Tryd.func14, Tryd.ntmps14
        go_wp2_with (first
          | (go_at_call 12; refine ((unhide HA) _).mono ?_; rintro e w1 ⟨rfl, rfl⟩)
          | (go_at_call 13; refine (at_any s.L i al cl _ (unhide HI) hl100).mono ?_; rintro e w1 ⟨r, rfl, hr, rfl⟩; have hr0 := (Pl.findIs_has hr).2.1 h4; have hr1 : ¬ 0 ≤ r := (by omega); have HR := hide hr; clear hr))
        refine ((unhide HD) _ (unhide HX)).mono ?_
        rintro e w2 ⟨rfl, hX2, hB2⟩
        have hBK2 := ((unhide HK).later hB2).later ((Below.refl _ _).alloc (Nat.le_refl _) (.cells #[.int .i64 0, .int .i64 0] 47))
        have H2 := hide (And.intro hBK2 (hFb.trans ((Fr.of_below hB2).alloc (.cells #[.int .i64 0, .int .i64 0] 47))))
        clear hX2 hB2 hBK2
        go_wp2
        go_ret
        exact ⟨rfl, ⟨s, h, rfl, (unhide H2).1⟩, (unhide H2).2⟩
  · have e0 : ¬ k = 0 := fun e => h01 (Or.inl e)
    have e1 : ¬ k = 1 := fun e => h01 (Or.inr e)
    by_cases h2 : k = 2
    · subst h2
      have HC := hide (fun w' hh => back_any bb xb s h w' hh)
      go_enter Tryd.func14, Tryd.ntmps14
      go_wp2_with (first
        | (go_at_call 12; refine ((unhide HA) _).mono ?_; rintro e w1 ⟨rfl, rfl⟩))
      refine ((unhide HC) _ (unhide HK)).mono ?_
      rintro e w2 ⟨rfl, hs', hF⟩
      have H2 := hide (And.intro hs' (fin _ _ hFb hF))
      clear hs' hF
      go_wp2
      go_ret
      exact ⟨rfl, (unhide H2).1, (unhide H2).2⟩
    · go_enter Tryd.func14, Tryd.ntmps14
      go_wp2_with (first
        | (go_at_call 12; refine ((unhide HA) _).mono ?_; rintro e w1 ⟨rfl, rfl⟩))
      go_ret
      exact ⟨rfl, ⟨s, h, rfl, unhide HK⟩, hFb⟩

end Go.Proofs.YtnnnleckoinjoaaDoor
