/- What is read from a graph's text tells the same, and goes on alike. -/
import Derived.Test.YtnnnleckoinjoaaDoorK40
import Derived.Test.YtnnnleckoinjoaaDoorK31
import Derived.Test.YtnnnleckoinjoaaDoorK35
import Derived.Test.YtnnnleckoinjoaaDoorK19
import Derived.Test.YtnnnleckoinjoaaDoorT5
namespace Go.Proofs.YtnnnleckoinjoaaDoor
open Go.RowKit
open Pl (It)

theorem BK.fr2 {w w' : World} {bb xb cb yb : Nat} {t : St} (h : BK w cb yb t) (hf : Fr (fun k => k = bb ∨ k = xb) w w') (hsp : Sp (fun k => k = bb ∨ k = xb) w) (h1 : cb ≠ bb) (h2 : cb ≠ xb) (h3 : yb ≠ bb) (h4 : yb ≠ xb) : BK w' cb yb t := by
  obtain ⟨⟨vl, vp, vm, hb, hI, hP, hN⟩, hx⟩ := h
  refine ⟨⟨vl, vp, vm, (hf.block cb (lt_of_block hb) (by omega)).trans hb, hsp.its hf hI, hsp.past hf hP, hsp.nums hf hN⟩, PF.fr hx hf (by omega)⟩
theorem BK.n0 {w : World} {bb xb : Nat} {s : St} (h : BK w bb xb s) : w.cell? ⟨bb, 0, none⟩ = some (P0 xb) ∧ w.cell? ⟨bb, 1, none⟩ = some (.int .i64 s.n) ∧ bb < w.heap.size ∧ xb < w.heap.size := by
  obtain ⟨⟨vl, vp, vm, hb, _⟩, hx⟩ := h
  obtain ⟨c0, c1, _⟩ := six_cells6 hb
  exact ⟨c0, c1, lt_of_block hb, (PF.row hx).lt⟩
/-- the two books, while they go on alike -/
structure Two (w wr : World) (bb xb cb yb n : Nat) (t1 t2 : St) : Prop where
  o1 : BOk t1
  o2 : BOk t2
  n1 : t1.n = n
  n2 : t2.n = n
  L : t2.L = t1.L
  b1 : BK wr bb xb t1
  b2 : BK wr cb yb t2
  low : Below w.heap.size w wr

set_option maxRecDepth 100000 in
set_option maxHeartbeats 8000000 in
theorem backs_any (v0 : Int) (hv : R64 v0) (sa : Option Addr) (sb so len cap : Nat) (I : Nat → StT) (w : World) (hsa : 0 < len → sa = some ⟨sb, so, none⟩) (hsb : 0 < len → sb < w.heap.size) (hlen : len ≤ 9223372036854775807) (hc : ∀ j, j < len → StAt w sb (so + j * 5) (I j))
    (ma : Option Addr) (mb mo mlen mcap : Nat) (J : Nat → StT) (hma : 0 < mlen → ma = some ⟨mb, mo, none⟩) (hmb : 0 < mlen → mb < w.heap.size) (hmlen : mlen ≤ 9223372036854775807) (hmc : ∀ j, j < mlen → StAt w mb (mo + j * 5) (J j)) (htab : Tab w) :
    Calls Tryd.prog 6 #[.int .i64 v0, .slice sa len cap, .slice ma mlen mcap] w fun e w' => e = .returned (.bool true) ∧ Below w.heap.size w w' := by
  have HP := hide (played_any v0 hv sa sb so len cap I w hsa hsb hlen hc)
  have HMC := hide hmc
  have HTB := hide htab
  clear hsa hsb hlen hc hv hmc htab
  go_enter Tryd.func6, Tryd.ntmps6
  go_wp2_with fail
  refine (unhide HP).mono ?_
  rintro e w1 ⟨bb, xb, s, rfl, hbb, hxb, hs, hK, hB⟩
  clear HP
  obtain ⟨c0, c1, hbl, hxl⟩ := hK.n0
  have hgv := hs.ok.gv (by rw [hs.most]; omega)
  have HX := hide (textX s xb w1 hs.ok ((unhide HTB).later hB) hK.xg)
  have H1 := hide (And.intro hs (And.intro hK hB))
  have HGV := hide hgv
  clear hs hK hB hgv
  go_wp2_with fail
  refine (unhide HX).mono ?_
  rintro e w2 ⟨rfl, hb2⟩
  obtain ⟨hs, hK, hB⟩ := unhide H1
  have hB2 := hB.trans (hb2.mono hB.size)
  have HL := hide (loadp_any (Pl.text s.n s.most s.L) w2 (by have := text_len (unhide HGV); omega) ((unhide HTB).later hB2))
  have hs2 := hb2.size
  have H2 := hide (And.intro hs (And.intro (hK.later hb2) hB2))
  clear hs hK hB hb2 hB2 H1 HX c0 c1
  go_wp2_with fail
  refine (unhide HL).mono ?_
  rintro e w3 ⟨hb3, hcase⟩
  obtain ⟨s2, yb, ok2, hpast2, hm2, htx2, rfl, hyb, hX2⟩ := hcase.resolve_right (fun h => h.1 s.n s.most s.L (unhide HGV) rfl)
  obtain ⟨hs, hK2, hB2⟩ := unhide H2
  have hgv := unhide HGV
  obtain ⟨e1, e2, e3⟩ := text_inj hgv.n30 hgv.m60 hgv.rng hgv.ends hgv.wb (ok2.gv hm2).n30 (ok2.gv hm2).m60 ok2.gl.rng ok2.ends ok2.wb htx2
  have hs2' : BOk s2 := ⟨ok2, by rw [← e2]; exact hs.most, by rw [← e3]; exact hs.few, by rw [hpast2]; intro l h; cases h⟩
  have hK3 := hK2.later hb3
  have hB3 := hB2.trans (hb3.mono hB2.size)
  have hyl := (PF.row hX2).lt
  have hs3 := hb3.size
  obtain ⟨c0, c1, hbl3, hxl3⟩ := hK3.n0
  have HAl := hide (alike_any s s2 hs.ok ok2 e1.symm e2.symm e3.symm xb yb w3.drew ((unhide HTB).later hB3.drew) (PF.drew hK3.xg) (PF.drew hX2))
  have HLT : Hid (∀ w4, Below w3.drew.heap.size w3.drew w4 → w4.cell? ⟨bb, 0, none⟩ = some (P0 xb) ∧ w4.cell? ⟨bb, 1, none⟩ = some (.int .i64 s.n) ∧ BK w4 bb xb s ∧ XG w4 yb s2 ∧ Below w.heap.size w w4 ∧ w3.heap.size ≤ w4.heap.size) := fun w4 hb4 => by
    have hb4' : Below w3.heap.size w3 w4 := Below.undrew hb4
    exact ⟨(hb4'.cell (p := ⟨bb, 0, none⟩) hbl3).trans c0, (hb4'.cell (p := ⟨bb, 1, none⟩) hbl3).trans c1, hK3.later hb4', PF.later hX2 hb4' (Nat.le_refl _), hB3.trans (hb4'.mono hB3.size), hb4'.size⟩
  have H3 := hide (And.intro hs (And.intro hs2' (And.intro hpast2 (And.intro e1 (And.intro e2 e3)))))
  clear hs hK2 hB2 hgv e1 e2 e3 hs2' hK3 hB3 hb3 hX2 ok2 hpast2 hm2 htx2 HGV H2 HL hcase
  go_wp2_with fail
  go_region_held3 (fun w' => w'.cell? ⟨bb, 0, none⟩ = some (P0 xb) ∧ w'.cell? ⟨bb, 1, none⟩ = some (.int .i64 s.n))
    (first | (refine ⟨?_, ?_⟩ <;> assumption) | (go_keep; done))
    (first
      | (go_at_call 10; refine (unhide HAl).mono ?_; rintro e w4 ⟨rfl, hb4⟩; have z := (unhide HLT) w4 hb4; obtain ⟨z0, z1, z2, z3, z4, z5⟩ := z))
  have HU := hide (undoX_no (unhide H3).2.1.ok (unhide H3).2.2.1 w4 yb z3)
  have H4 := hide (And.intro z2 z4)
  clear z0 z1 z2 z3 z4 hb4 HLT HAl c0 c1
  go_wp2_with fail
  refine (unhide HU).mono ?_
  rintro e w5 ⟨rfl, hX5, hb5⟩
  have hK5 := (unhide H4).1.later hb5
  have hB5 := (unhide H4).2.trans (hb5.mono (unhide H4).2.size)
  have hs5 := hb5.size
  obtain ⟨⟨vl, vp, vm, hbk, hI, hP, hN⟩, hx5⟩ := id hK5
  obtain ⟨c0, c1, c2, _, c4, _, _⟩ := six_cells6 hbk
  have hbl5 := lt_of_block hbk
  obtain ⟨hs, hs2', hpast2, e1, e2, e3⟩ := unhide H3
  have hbkn := heap_alloc_new w5 (.cells #[P0 yb, .int .i64 s.n, vl, .slice none 0 0, vm, .bool false] 30)
  have hTwo : Two w (w5.alloc (.cells #[P0 yb, .int .i64 s.n, vl, .slice none 0 0, vm, .bool false] 30)).drew bb xb w5.heap.size yb s.n s s2 := by
    refine ⟨hs, hs2', rfl, e1.symm, e3.symm, ?_, ⟨⟨vl, .slice none 0 0, vm, ?_, ?_, ?_, ?_⟩, ?_⟩, (hB5.alloc hB5.size _).drew⟩
    · exact hK5.later ((Below.refl _ _).alloc (Nat.le_refl _) _).drew
    · rw [← e1]; exact hbkn
    · rw [← e3]; exact row_below hI ((Below.refl _ _).alloc (Nat.le_refl _) _).drew (Nat.le_refl _)
    · exact Or.inl ⟨rfl, hpast2⟩
    · rw [← e3]; exact row_below hN ((Below.refl _ _).alloc (Nat.le_refl _) _).drew (Nat.le_refl _)
    · exact PF.drew (PF.alloc hX5 _)
  have HTw := hide hTwo
  obtain ⟨al, cl, hvl⟩ := row_form hI
  obtain ⟨am, cm, hvm⟩ := row_form hN
  subst hvl
  subst hvm
  have d1 : ¬ bb = w5.heap.size := by omega
  have d2 : ¬ w5.heap.size = bb := by omega
  have d3 : bb ≠ yb := by omega
  have d4 : xb ≠ w5.heap.size := by omega
  have d5 : xb ≠ yb := by omega
  have d6 : yb ≠ w5.heap.size := by omega
  have d7 : w.heap.size ≤ yb := by have := (unhide H4).2.size; omega
  have d8 : w.heap.size ≤ w5.heap.size := hB5.size
  clear hs hs2' hpast2 e1 e2 e3 hTwo hbkn hK5 hB5 hb5 hbk hI hP hN hx5 hX5 H4 HU H3
  go_wp2_with fail
  go_region
  obtain ⟨cb, hcb⟩ : ∃ cb, cb = w5.heap.size := ⟨_, rfl⟩
  rw [← hcb] at d1 d2 d4 d6 d8 HTw ⊢
  simp only [List.length_map] at HTw
  generalize (w5.alloc (.cells #[P0 yb, .int .i64 s.n, .slice al s.L.length cl, .slice none 0 0, .slice am (Pl.forest s.L).length cm, .bool false] 30)).drew = W6 at *
  clear hcb c0 c1 c2 c4 hbl5 hs5
  go_wp2_with fail
  go_loopg [12] (mlen + 1) (fun gk iv wr => ∃ (k : Nat) (t1 t2 : St), k ≤ mlen ∧ iv = .int .i64 k ∧ Two w wr bb xb cb yb s.n t1 t2 ∧ mlen - k ≤ gk)
  case atStart => exact ⟨0, s, s2, Nat.zero_le _, rfl, unhide HTw, by omega⟩
  case round =>
    obtain ⟨k, t1, t2, hk, rfl, hT, hgk⟩ := hrel
    by_cases hlt : k < mlen
    · obtain rfl := hma (by omega)
      have hO := ((unhide HMC) k hlt).later hT.low (hmb (by omega))
      have hk1 : (0 : Int) ≤ k := by omega
      have hk2 : (k : Int) < mlen := by omega
      obtain ⟨t, ht⟩ : ∃ t, t = J k := ⟨_, rfl⟩
      rw [← ht] at hO
      clear ht
      obtain ⟨tk, ta, tb, tc, td⟩ := t
      obtain ⟨c0, c1, c2, c3, c4, r1, r2, r3, r4⟩ := hO
      simp only at c0 c1 c2 c3 c4 r1 r2 r3 r4
      have hbel : Below wr.heap.size wr (wr.alloc (sto tk ta tb tc td)) := (Below.refl _ _).alloc (Nat.le_refl _) _
      have hbx : (wr.alloc (sto tk ta tb tc td)).heap[wr.heap.size]? = some (sto tk ta tb tc td) := heap_alloc_new _ _
      obtain ⟨q0, q1, q2, q3, q4⟩ := five_cells hbx
      have hT2 : Two w (wr.alloc (sto tk ta tb tc td)) bb xb cb yb s.n t1 t2 := ⟨hT.o1, hT.o2, hT.n1, hT.n2, hT.L, hT.b1.later hbel, hT.b2.later hbel, hT.low.trans (hbel.mono hT.low.size)⟩
      obtain ⟨_, _, l1, l2⟩ := hT.b1.n0
      obtain ⟨_, _, l3, l4⟩ := hT.b2.n0
      have HT2 := hide hT2
      by_cases htk : tk = 2
      · subst htk
        clear hT hT2 hbel hbx HTw
        go_wp2_with fail
        go_roundg (gk - 1)
        case measure => omega
        case rel => exact ⟨k + 1, t1, t2, by omega, by go_num, unhide HT2, by omega⟩
      · have HS1 := hide (kstepL_any bb xb t1 hT.o1 tk ta tb tc td r1 r2 r3 r4 htk _ hT2.b1)
        have HS2 := hide (fun W hW => kstepL_any cb yb t2 hT.o2 tk ta tb tc td r1 r2 r3 r4 htk W hW)
        have HBX := hide hbx
        clear hT hT2 hbel hbx HTw r1 r2 r3 r4
        go_wp2_with fail
        refine Calls.mono (by exact unhide HS1) ?_
        rintro e w3' ⟨rfl, ⟨t3, ho3, hn3, hL3, hb3'⟩, hF3⟩
        have hT2 := unhide HT2
        have hb2' := hT2.b2.fr2 hF3 (sp_two hT2.b1) (by omega) (by omega) (by omega) (by omega)
        have hbx3 := (hF3.block wr.heap.size (lt_of_block (unhide HBX)) (by omega)).trans (unhide HBX)
        have hlow3 := below_frs hT2.low hF3 hbb hxb
        have HS3 := hide ((unhide HS2) w3' hb2')
        have H7 := hide (And.intro ho3 (And.intro hn3 (And.intro hL3 (And.intro hb3' (And.intro hlow3 hb2')))))
        clear q0 q1 q2 q3 q4 ho3 hn3 hL3 hb3' hF3 hT2 hb2' hlow3 HS1 HS2
        obtain ⟨q0, q1, q2, q3, q4⟩ := five_cells hbx3
        clear hbx3
        go_wp2_with fail
        refine Calls.mono (by exact unhide HS3) ?_
        rintro e w4' ⟨rfl, ⟨t4, ho4, hn4, hL4, hb4'⟩, hF4⟩
        obtain ⟨ho3, hn3, hL3, hb3', hlow3, hb2'⟩ := unhide H7
        have hT0 := unhide HT2
        have hb3'' := hb3'.fr2 hF4 (sp_two hb2') (by omega) (by omega) (by omega) (by omega)
        have hT4 : Two w w4' bb xb cb yb s.n t3 t4 := ⟨ho3, ho4, hn3.trans hT0.n1, hn4.trans hT0.n2, by rw [hL4, hL3, hT0.n1, hT0.n2, hT0.L], hb3'', hb4', below_frs hlow3 hF4 d8 d7⟩
        have HT4 := hide hT4
        clear ho3 hn3 hL3 hb3' hlow3 hb2' hT0 hb3'' hT4 ho4 hn4 hL4 hb4' hF4 H7 HT2 HS3 q0 q1 q2 q3 q4 c0 c1 c2 c3 c4
        go_wp2_with fail
        go_roundg (gk - 1)
        case measure => omega
        case rel => exact ⟨k + 1, t3, t4, by omega, by go_num, unhide HT4, by omega⟩
    · have hkk : ¬ (k : Int) < mlen := by omega
      obtain ⟨c0, c1, l1, l2⟩ := hT.b1.n0
      have hmm : t2.most = t1.most := by rw [hT.o1.most, hT.o2.most]
      have HAl := hide (alike_any t1 t2 hT.o1.ok hT.o2.ok (hT.n2.trans hT.n1.symm) hmm hT.L xb yb wr.drew ((unhide HTB).later hT.low.drew) (PF.drew hT.b1.xg) (PF.drew hT.b2.xg))
      have HLT : Hid (∀ w4, Below wr.drew.heap.size wr.drew w4 → w4.cell? ⟨bb, 0, none⟩ = some (P0 xb) ∧ w4.cell? ⟨bb, 1, none⟩ = some (.int .i64 t1.n) ∧ BK w4 cb yb t2 ∧ Below w.heap.size w w4) := fun w4 hb4 => by
        have hb4' : Below wr.heap.size wr w4 := Below.undrew hb4
        exact ⟨(hb4'.cell (p := ⟨bb, 0, none⟩) l1).trans c0, (hb4'.cell (p := ⟨bb, 1, none⟩) l1).trans c1, hT.b2.later hb4', hT.low.trans (hb4'.mono hT.low.size)⟩
      have HO2 := hide hT.o2
      clear hT HTw hmm
      go_wp2_with fail
      go_region_held3 (fun w' => w'.cell? ⟨bb, 0, none⟩ = some (P0 xb) ∧ w'.cell? ⟨bb, 1, none⟩ = some (.int .i64 t1.n))
        (first | (refine ⟨?_, ?_⟩ <;> assumption) | (go_keep; done))
        (first
          | (go_at_call 10; refine (unhide HAl).mono ?_; rintro e w7 ⟨rfl, hb7⟩; have z := (unhide HLT) w7 hb7; obtain ⟨z0, z1, z2, z3⟩ := z))
      have HLi := hide (light_any cb yb t2 (unhide HO2) w7 z2)
      have HB7 := hide z3
      clear z0 z1 z2 z3 hb7 HLT HAl c0 c1
      go_wp2_with fail
      refine (unhide HLi).mono ?_
      rintro e w8 ⟨rfl, hb8⟩
      have HB8 := hide ((unhide HB7).trans (hb8.mono (unhide HB7).size))
      clear hb8 HLi HB7
      go_wp2
      go_ret
      exact ⟨rfl, unhide HB8⟩

end Go.Proofs.YtnnnleckoinjoaaDoor
