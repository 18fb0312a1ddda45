/- What is taken back is as though it had not been. -/
import Derived.Test.YtnnnleckoinjoaaDoorK35
import Derived.Test.YtnnnleckoinjoaaDoorK31
import Derived.Test.YtnnnleckoinjoaaDoorK19
namespace Go.Proofs.YtnnnleckoinjoaaDoor
open Go.RowKit
open Pl (It)

theorem neg_one {l : List It} {x r : Int} (h : Pl.FindIs l x r) (hn : Pl.has l x = false) : r = -1 := by
  rcases h with ⟨h, _⟩ | ⟨k, hk, _, h⟩
  · exact h
  · exact absurd h (Pl.has_false.1 hn _ (List.getElem_mem hk))
theorem dump_len {s : St} (h : Ok s) : (Pl.dumpL s.n s.L).length ≤ 100000 := by
  have hn30 := h.n30
  have hl100 := h.l100
  have hfl : (Pl.forest s.L).length ≤ 100 := Nat.le_trans (List.length_filter_le _ _) hl100
  have hu : (Pl.dUs s.n s.L (s.n + 2)).length ≤ 32 * 130 := by rw [Pl.dUs_len]; exact Nat.mul_le_mul (by omega) (by omega)
  unfold Pl.dumpL Pl.dHead
  simp only [List.length_append, List.length_map, List.length_cons, List.length_nil, Pl.dIds_len]
  omega

set_option maxRecDepth 100000 in
set_option maxHeartbeats 8000000 in
theorem undone_any (v0 : Int) (hv : R64 v0) (sa : Option Addr) (sb so len cap : Nat) (I : Nat → StT) (w : World) (hsa : 0 < len → sa = some ⟨sb, so, none⟩) (hsb : 0 < len → sb < w.heap.size) (hlen : len ≤ 9223372036854775807) (hc : ∀ j, j < len → StAt w sb (so + j * 5) (I j))
    (ma : Option Addr) (mb mo mlen mcap : Nat) (J : Nat → StT) (hma : 0 < mlen → ma = some ⟨mb, mo, none⟩) (hmb : 0 < mlen → mb < w.heap.size) (hmlen : mlen ≤ 9223372036854775807) (hmc : ∀ j, j < mlen → StAt w mb (mo + j * 5) (J j)) (htab : Tab w) :
    Calls Tryd.prog 4 #[.int .i64 v0, .slice sa len cap, .slice ma mlen mcap] w fun e w' => e = .returned (.bool true) ∧ Below w.heap.size w w' := by
  have HP := hide (played_any v0 hv sa sb so len cap I w hsa hsb hlen hc)
  have HMC := hide hmc
  have HTB := hide htab
  clear hsa hsb hlen hc hv hmc htab
  go_enter Tryd.func4, Tryd.ntmps4
  go_wp2_with fail
  refine (unhide HP).mono ?_
  rintro e w1 ⟨bb, xb, s, rfl, hbb, hxb, hs, hK, hB⟩
  clear HP
  obtain ⟨⟨vl, vp, vm, hb1, _, _, _⟩, hx1⟩ := id hK
  obtain ⟨c0, c1, _, _, _, _, _⟩ := six_cells6 hb1
  have hbl := lt_of_block hb1
  have hlenD := dump_len hs.ok
  have hdump : ∀ (t : St) (W : World), Below w.heap.size w W → BOk t → t.n = s.n → t.L = s.L → XG W xb t → Calls Tryd.prog 11 #[P0 xb, .int .i64 s.n] W fun e w' => ∃ v, e = .returned (.tuple #[v, .string (txt s.n s.most s.L)]) ∧ Nums w' W.heap.size v (Pl.dumpL s.n s.L) ∧ Below W.heap.size W w' := fun t W hbl0 h1 h2 h4 h5 => by
    have := dump_any t h1.ok xb W ((unhide HTB).later hbl0) h5
    rw [h2, show t.most = s.most by rw [h1.most, hs.most], h4] at this
    exact this
  obtain ⟨D, hD⟩ : ∃ D, D = Pl.dumpL s.n s.L := ⟨_, rfl⟩
  obtain ⟨T, hT⟩ : ∃ T, T = txt s.n s.most s.L := ⟨_, rfl⟩
  rw [← hD] at hlenD hdump
  rw [← hT] at hdump
  have HDu := hide hdump
  have HU1 := hide (hdump s w1.drew hB.drew hs rfl rfl (PF.drew hx1))
  have HLT : Hid (∀ w2 a k, Below w1.drew.heap.size w1.drew w2 → Nums w2 w1.drew.heap.size (.slice a D.length k) D → BK w2 bb xb s ∧ Nums w2 0 (.slice a D.length k) D ∧ Below w.heap.size w w2 ∧ w2.cell? ⟨bb, 0, none⟩ = some (P0 xb) ∧ w2.cell? ⟨bb, 1, none⟩ = some (.int .i64 s.n)) := fun w2 a k hb hN => by
    have hb' : Below w1.heap.size w1 w2 := Below.undrew hb
    exact ⟨hK.later hb', row_mono hN (Nat.zero_le _), hB.trans (hb'.mono hB.size), (hb'.cell (p := ⟨bb, 0, none⟩) hbl).trans c0, (hb'.cell (p := ⟨bb, 1, none⟩) hbl).trans c1⟩
  have HS0 := hide hs
  clear hK hb1 hx1 hB hdump hs hD hT
  go_upto_region 4 with fail
  go_region_held3 (fun w' => w'.cell? ⟨bb, 0, none⟩ = some (P0 xb) ∧ w'.cell? ⟨bb, 1, none⟩ = some (.int .i64 s.n))
    (first | (refine ⟨?_, ?_⟩ <;> assumption) | (go_keep; done))
    (first
      | (go_at_call 11; refine (unhide HU1).mono ?_; rintro e w2 ⟨v2, rfl, hN2, hb2⟩; obtain ⟨a2, k2, rfl⟩ := row_form hN2; have z := (unhide HLT) w2 a2 k2 hb2 hN2; obtain ⟨z0, z1, z2, z3, z4⟩ := z))
  have H2 := hide (And.intro z0 (And.intro z1 z2))
  clear z0 z1 z2 z3 z4 hN2 hb2 HU1 HLT c0 c1
  go_wp2_with fail
  go_loopg [10, 11] 21 (fun gk nv iv wr => ∃ (k : Nat) (t : St), k ≤ 20 ∧ k ≤ mlen ∧ nv = .int .i64 k ∧ iv = .int .i64 k ∧ BOk t ∧ t.n = s.n ∧ UndP s.L k t.past t.L ∧ BK wr bb xb t ∧ Nums wr 0 (.slice a2 D.length k2) D ∧ Below w.heap.size w wr ∧ 20 - k ≤ gk)
  case atStart => exact ⟨0, s, by omega, by omega, rfl, rfl, unhide HS0, rfl, rfl, (unhide H2).1, (unhide H2).2.1, (unhide H2).2.2, by omega⟩
  case round =>
    obtain ⟨k, t, hk, hkm, rfl, rfl, ht, htn, hU, hKr, hNr, hBr, hgk⟩ := hrel
    by_cases hlt : k < mlen ∧ k < 20
    · obtain ⟨hkm2, hk20⟩ := hlt
      obtain rfl := hma (by omega)
      have hO := ((unhide HMC) k hkm2).later hBr (hmb (by omega))
      have hk1 : (0 : Int) ≤ k := by omega
      have hk2 : (k : Int) < mlen := by omega
      have hk3 : (k : Int) < 20 := by omega
      obtain ⟨tt, htt⟩ : ∃ tt, tt = J k := ⟨_, rfl⟩
      rw [← htt] at hO
      clear htt
      obtain ⟨tk, ta, tb, tc, td⟩ := tt
      obtain ⟨o0, o1, o2, o3, o4, r1, r2, r3, r4⟩ := hO
      simp only at o0 o1 o2 o3 o4 r1 r2 r3 r4
      obtain ⟨i, hi⟩ : ∃ i, i = pk ta 24 := ⟨_, rfl⟩
      have HA : Hid (∀ W, Calls Tryd.prog 12 #[.int .i64 ta, .int .i64 24] W fun e w' => e = .returned (.int .i64 i) ∧ W = w') := fun W => by rw [hi]; exact pick_any ta 24 (by omega) (by omega) r1.1 r1.2 W
      have hBa : Below wr.heap.size wr (wr.alloc (sto tk ta tb tc td)) := (Below.refl _ _).alloc (Nat.le_refl _) _
      have hK1 := hKr.later hBa
      have hN1 := row_below hNr hBa (Nat.le_refl _)
      have hB1 := hBr.trans (hBa.mono hBr.size)
      have hbx := heap_alloc_new wr (sto tk ta tb tc td)
      obtain ⟨x0, x1, x2, x3, x4⟩ := five_cells hbx
      obtain ⟨⟨vl1, vp1, vm1, hb1, hI1, _, _⟩, _⟩ := id hK1
      obtain ⟨al1, cl1, rfl⟩ := row_form hI1
      obtain ⟨_, _, d2, _, _, _, _⟩ := six_cells6 hb1
      have HAT := hide (at_any t.L i al1 cl1 (wr.alloc (sto tk ta tb tc td)) hI1 ht.ok.l100)
      have hst := kstep0_any bb xb t ht ta tb tc td r1 r2 r3 r4 (wr.alloc (sto tk ta tb tc td)) hK1
      rw [← hi] at hst
      have HST := hide hst
      have HU := hide hU
      have HT := hide (And.intro ht htn)
      have HW1 := hide (And.intro hB1 (And.intro hK1 hN1))
      clear ht htn hU hKr hNr hBr hBa hK1 hN1 hB1 hbx hb1 hI1 hst hi H2 r1 r2 r3 r4 hma
      generalize hWA : wr.alloc (sto tk ta tb tc td) = WA at HAT HST HW1 x0 x1 x2 x3 x4 d2
      have HWA := hide hWA
      clear hWA
      go_upto_region 10 with fail
      rw [show wr.alloc (.cells #[.int .i64 tk, .int .i64 ta, .int .i64 tb, .int .i64 tc, .int .i64 td] 39) = WA from unhide HWA]
      clear o0 o1 o2 o3 o4 HWA
      cases h4 : Pl.has t.L (i : Int) with
      | true =>
        go_wp2_with (first
          | (go_at_call 12; refine ((unhide HA) _).mono ?_; rintro e w3 ⟨rfl, rfl⟩))
        refine (unhide HAT).mono ?_
        rintro e w3 ⟨r, rfl, hr, rfl⟩
        have hr0 := (Pl.findIs_has hr).1.1 h4
        clear hr
        go_wp2_with fail
        refine Calls.mono (by exact unhide HST) ?_
        rintro e w3 ⟨rfl, ⟨t', ht', hn', hp', hh', hK3⟩, hF3⟩
        rw [h4] at hh'
        obtain ⟨⟨vl3, vp3, vm3, hb3, hI3, _, _⟩, _⟩ := id hK3
        obtain ⟨al3, cl3, rfl⟩ := row_form hI3
        obtain ⟨_, _, e2, _, _, _, _⟩ := six_cells6 hb3
        have hU3 : UndP s.L (k + 1) t'.past t'.L := by rw [hp']; exact (unhide HU).push ((unhide HT).1.ok.past) hk20
        have HB3 := hide (below_frs (unhide HW1).1 hF3 hbb hxb)
        have HN3 := hide ((sp_two (unhide HW1).2.1).nums hF3 (unhide HW1).2.2)
        have H3 := hide (And.intro ht' (And.intro (hn'.trans (unhide HT).2) (And.intro hU3 hK3)))
        have HAT3 := hide (at_any t'.L i al3 cl3 w3 hI3 ht'.ok.l100)
        clear ht' hn' hp' hK3 hb3 hI3 hU3 hF3 HAT HST HU HT HW1 x0 x1 x2 x3 x4 d2
        go_wp2_with fail
        refine (unhide HAT3).mono ?_
        rintro e w4 ⟨r3, rfl, hr3, rfl⟩
        obtain rfl := neg_one hr3 hh'
        clear hr3
        clear HAT3 e2
        go_wp2
        go_roundg (gk - 1)
        case measure => omega
        case rel => exact ⟨k + 1, t', by omega, by omega, by go_num, by go_num, (unhide H3).1, (unhide H3).2.1, (unhide H3).2.2.1, (unhide H3).2.2.2, unhide HN3, unhide HB3, by omega⟩
      | false =>
        go_wp2_with (first
          | (go_at_call 12; refine ((unhide HA) _).mono ?_; rintro e w3 ⟨rfl, rfl⟩))
        refine (unhide HAT).mono ?_
        rintro e w3 ⟨r, rfl, hr, rfl⟩
        obtain rfl := neg_one hr h4
        clear hr
        go_wp2_with fail
        refine Calls.mono (by exact unhide HST) ?_
        rintro e w3 ⟨rfl, ⟨t', ht', hn', hp', hh', hK3⟩, hF3⟩
        rw [h4] at hh'
        obtain ⟨⟨vl3, vp3, vm3, hb3, hI3, _, _⟩, _⟩ := id hK3
        obtain ⟨al3, cl3, rfl⟩ := row_form hI3
        obtain ⟨_, _, e2, _, _, _, _⟩ := six_cells6 hb3
        have hU3 : UndP s.L (k + 1) t'.past t'.L := by rw [hp']; exact (unhide HU).push ((unhide HT).1.ok.past) hk20
        have HB3 := hide (below_frs (unhide HW1).1 hF3 hbb hxb)
        have HN3 := hide ((sp_two (unhide HW1).2.1).nums hF3 (unhide HW1).2.2)
        have H3 := hide (And.intro ht' (And.intro (hn'.trans (unhide HT).2) (And.intro hU3 hK3)))
        have HAT3 := hide (at_any t'.L i al3 cl3 w3 hI3 ht'.ok.l100)
        clear ht' hn' hp' hK3 hb3 hI3 hU3 hF3 HAT HST HU HT HW1 x0 x1 x2 x3 x4 d2
        go_wp2_with fail
        refine (unhide HAT3).mono ?_
        rintro e w4 ⟨r3, rfl, hr3, rfl⟩
        have hr4 := (Pl.findIs_has hr3).1.1 hh'
        clear hr3
        clear HAT3 e2
        go_wp2
        go_roundg (gk - 1)
        case measure => omega
        case rel => exact ⟨k + 1, t', by omega, by omega, by go_num, by go_num, (unhide H3).1, (unhide H3).2.1, (unhide H3).2.2.1, (unhide H3).2.2.2, unhide HN3, unhide HB3, by omega⟩
    · have HT := hide (And.intro ht (And.intro htn (And.intro hU (And.intro hKr (And.intro hNr hBr)))))
      clear ht htn hU hKr hNr hBr H2
      rcases (show ¬ (k : Int) < mlen ∨ ((k : Int) < mlen ∧ ¬ (k : Int) < 20) by omega) with hkk | ⟨hkk, hk20⟩
      all_goals
        go_wp2_with fail
        go_loopg [17] (k + 1) (fun gk iv wr => ∃ (j : Nat) (t : St), j ≤ k ∧ iv = .int .i64 j ∧ BOk t ∧ t.n = s.n ∧ UndP s.L (k - j) t.past t.L ∧ BK wr bb xb t ∧ Nums wr 0 (.slice a2 D.length k2) D ∧ Below w.heap.size w wr ∧ k - j ≤ gk)
        case atStart =>
          obtain ⟨ht, htn, hU, hKr, hNr, hBr⟩ := unhide HT
          exact ⟨0, t, Nat.zero_le _, rfl, ht, htn, hU, hKr, hNr, hBr, by omega⟩
        case round =>
          obtain ⟨j, t2, hj, rfl, ht2, htn2, hU2, hK2, hN2, hB2, hgj⟩ := hrel
          by_cases hjk : j < k
          · have hj1 : (j : Int) < k := by omega
            rw [show k - j = (k - (j + 1)) + 1 by omega] at hU2
            obtain ⟨q, l, hq, hU3⟩ := hU2
            have HBQ := hide (backq_any bb xb t2 ht2 hq wr hK2)
            have HR := hide (And.intro hB2 (And.intro hK2 (And.intro hN2 (And.intro htn2 hU3))))
            clear ht2 htn2 hK2 hN2 hB2 hq hU3 HT
            go_wp2_with fail
            refine (unhide HBQ).mono ?_
            rintro e w5 ⟨rfl, ⟨t3, ht3, hn3, hp3, hL3, hK3⟩, hF3⟩
            obtain ⟨hB2, hK2, hN2, htn2, hU3⟩ := unhide HR
            rw [← hp3, ← hL3] at hU3
            have H5 := hide (And.intro ht3 (And.intro (hn3.trans htn2) (And.intro hU3 (And.intro hK3 (And.intro ((sp_two hK2).nums hF3 hN2) (below_frs hB2 hF3 hbb hxb))))))
            clear ht3 hn3 hp3 hL3 hK3 hF3 hB2 hK2 hN2 htn2 hU3 HBQ HR
            go_wp2
            go_roundg (gk - 1)
            case measure => omega
            case rel =>
              obtain ⟨f1, f2, f3, f4, f5, f6⟩ := unhide H5
              exact ⟨j + 1, t3, by omega, by go_num, f1, f2, f3, f4, f5, f6, by omega⟩
          · have hjk' : j = k := by omega
            subst hjk'
            rw [Nat.sub_self] at hU2
            have hL2 : t2.L = s.L := hU2
            obtain ⟨⟨vl5, vp5, vm5, hb5, _, _, _⟩, hx5⟩ := id hK2
            obtain ⟨d0, d1, _, _, _, _, _⟩ := six_cells6 hb5
            rw [htn2] at d1
            have hbl5 := lt_of_block hb5
            have hdd := (unhide HDu) t2 wr.drew hB2.drew ht2 htn2 hL2 (PF.drew hx5)
            have HDD := hide hdd
            have HLT : Hid (∀ w6 a k, Below wr.drew.heap.size wr.drew w6 → Nums w6 wr.drew.heap.size (.slice a D.length k) D → w6.cell? ⟨bb, 0, none⟩ = some (P0 xb) ∧ w6.cell? ⟨bb, 1, none⟩ = some (.int .i64 s.n) ∧ BK w6 bb xb t2 ∧ Below w.heap.size w w6 ∧ Calls Tryd.prog 16 #[.slice a2 D.length k2, .slice a D.length k] w6 fun e w'' => e = .returned (.bool true) ∧ Below w6.heap.size w6 w'') := fun w6 a k hb hN => by
              have hb' : Below wr.heap.size wr w6 := Below.undrew hb
              exact ⟨(hb'.cell (p := ⟨bb, 0, none⟩) hbl5).trans d0, (hb'.cell (p := ⟨bb, 1, none⟩) hbl5).trans d1, hK2.later hb', hB2.trans (hb'.mono hB2.size), sameInts_big D a2 a k2 k w6 (row_below hN2 hb' (Nat.le_refl _)) (row_mono hN (Nat.zero_le _)) hlenD⟩
            have HT2 := hide ht2
            clear ht2 htn2 hU2 hL2 hK2 hN2 hB2 hb5 hx5 hdd HT
            go_wp2_with fail
            go_region_held3 (fun w' => w'.cell? ⟨bb, 0, none⟩ = some (P0 xb) ∧ w'.cell? ⟨bb, 1, none⟩ = some (.int .i64 s.n))
              (first | (refine ⟨?_, ?_⟩ <;> assumption) | (go_keep; done))
              (first
                | (go_at_call 11; refine (unhide HDD).mono ?_; rintro e w6 ⟨v6, rfl, hN6, hb6⟩; obtain ⟨a6, k6, rfl⟩ := row_form hN6; have y := (unhide HLT) w6 a6 k6 hb6 hN6; obtain ⟨y0, y1, y2, y3, y4⟩ := y))
            have H6 := hide (And.intro y2 y3)
            have HSM := hide y4
            clear y0 y1 y2 y3 y4 hN6 hb6 HLT HDD d0 d1
            go_wp2_with fail
            refine (unhide HSM).mono ?_
            rintro e w7 ⟨rfl, hb7⟩
            have HL7 := hide (light_any bb xb t2 (unhide HT2) w7 ((unhide H6).1.later hb7))
            have HB7 := hide ((unhide H6).2.trans (hb7.mono (unhide H6).2.size))
            clear hb7 H6 HSM
            go_wp2_with fail
            refine (unhide HL7).mono ?_
            rintro e w8 ⟨rfl, hb8⟩
            have HB8 := hide ((unhide HB7).trans (hb8.mono (unhide HB7).size))
            clear hb8 HL7 HB7
            go_wp2
            go_ret
            exact ⟨ret_bool (by simp), unhide HB8⟩

end Go.Proofs.YtnnnleckoinjoaaDoor
