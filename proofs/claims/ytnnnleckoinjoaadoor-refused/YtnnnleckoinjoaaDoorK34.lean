/- The statement over Refused. -/
import Derived.Test.YtnnnleckoinjoaaDoorK33
import Derived.Deep.DeepCutAuto
namespace Go.Proofs.YtnnnleckoinjoaaDoor
open Go.RowKit
open Pl (It)

set_option maxRecDepth 100000 in
set_option maxHeartbeats 8000000 in
theorem refused_any (v0 : Int) (hv : R64 v0) (sa : Option Addr) (sb so len cap : Nat) (I : Nat → StT) (w : World) (hsa : 0 < len → sa = some ⟨sb, so, none⟩) (hsb : 0 < len → sb < w.heap.size) (hlen : len ≤ 9223372036854775807) (hc : ∀ j, j < len → StAt w sb (so + j * 5) (I j)) (nd u v wt : Int) (hwt : R64 wt) (htab : Tab w) :
    Calls Tryd.prog 5 #[.int .i64 v0, .slice sa len cap, .int .i64 nd, .int .i64 u, .int .i64 v, .int .i64 wt] w fun e w' => e = .returned (.bool true) ∧ Below w.heap.size w w' := by
  have HP := hide (played_any v0 hv sa sb so len cap I w hsa hsb hlen hc)
  have HTB := hide htab
  clear hsa hsb hlen hc hv htab
  go_enter Tryd.func5, Tryd.ntmps5
  go_wp2_with fail
  refine (unhide HP).mono ?_
  rintro e w1 ⟨bb, xb, s, rfl, hbb, hxb, hs, hK, hB⟩
  clear HP
  have hne := hK.ne
  obtain ⟨⟨vl, vp, vm, hb1, hI1, _, _⟩, hx1⟩ := id hK
  obtain ⟨al, cl, rfl⟩ := row_form hI1
  obtain ⟨c0, c1, c2, _, _, _, _⟩ := six_cells6 hb1
  have hbl := lt_of_block hb1
  have hl100 := hs.ok.l100
  have hn30 := hs.ok.n30
  have hlenD : (Pl.dumpL s.n s.L).length ≤ 100000 := by
    have hfl : (Pl.forest s.L).length ≤ 100 := Nat.le_trans (List.length_filter_le _ _) hl100
    have hu : (Pl.dUs s.n s.L (s.n + 2)).length ≤ 32 * 130 := by rw [Pl.dUs_len]; exact Nat.mul_le_mul (by omega) (by omega)
    unfold Pl.dumpL Pl.dHead
    simp only [List.length_append, List.length_map, List.length_cons, List.length_nil, Pl.dIds_len]
    omega
  have hdump : ∀ (t : St) (W : World), Below w.heap.size w W → Ok t → t.n = s.n → t.most = s.most → t.L = s.L → XG W xb t → Calls Tryd.prog 11 #[P0 xb, .int .i64 s.n] W fun e w' => ∃ v, e = .returned (.tuple #[v, .string (txt s.n s.most s.L)]) ∧ Nums w' W.heap.size v (Pl.dumpL s.n s.L) ∧ Below W.heap.size W w' := fun t W hbl0 h1 h2 h3 h4 h5 => by
    have := dump_any t h1 xb W ((unhide HTB).later hbl0) h5
    rw [h2, h3, h4] at this
    exact this
  obtain ⟨D, hD⟩ : ∃ D, D = Pl.dumpL s.n s.L := ⟨_, rfl⟩
  obtain ⟨T, hT⟩ : ∃ T, T = txt s.n s.most s.L := ⟨_, rfl⟩
  rw [← hD] at hlenD hdump
  rw [← hT] at hdump
  obtain ⟨iA, iB, iC, s2, ok2, hn2, hm2, hcase, hIns⟩ := ins_raw hs nd u v wt hwt
  have HDu := hide hdump
  have HIn := hide hIns
  have HCS := hide (And.intro hcase (And.intro ok2 (And.intro hn2 hm2)))
  have H0 := hide (And.intro hs (And.intro hI1 (And.intro hx1 (And.intro hB hb1))))
  have hu1 := hdump s w1.drew hB.drew hs.ok rfl rfl rfl (PF.drew hx1)
  have HU1 := hide hu1
  have HLT : Hid (∀ w2 a k, Below w1.drew.heap.size w1.drew w2 → Nums w2 w1.drew.heap.size (.slice a D.length k) D → Rf w w2 bb xb s.n (.slice al s.L.length cl) vp vm (.slice a D.length k) D s ∧ w2.cell? ⟨bb, 0, none⟩ = some (P0 xb) ∧ w2.cell? ⟨bb, 1, none⟩ = some (.int .i64 s.n) ∧ w2.cell? ⟨bb, 2, none⟩ = some (.slice al s.L.length cl) ∧ Its w2 0 (.slice al s.L.length cl) s.L) := fun w2 a k hb hN => by
    have hb' : Below w1.heap.size w1 w2 := Below.undrew hb
    exact ⟨⟨hne, hbb, hxb, (hb'.block bb hbl).trans hb1, row_mono hN (Nat.zero_le _), PF.later hx1 hb' (Nat.le_refl _), hB.trans (hb'.mono hB.size)⟩, (hb'.cell (p := ⟨bb, 0, none⟩) hbl).trans c0, (hb'.cell (p := ⟨bb, 1, none⟩) hbl).trans c1, (hb'.cell (p := ⟨bb, 2, none⟩) hbl).trans c2, row_below hI1 hb' (Nat.le_refl _)⟩
  clear hK hb1 hI1 hx1 hB hdump hIns hcase ok2 hn2 hm2 hu1 hs hD hT
  go_upto_region 4 with fail
  go_region_held3 (fun w' => w'.cell? ⟨bb, 0, none⟩ = some (P0 xb) ∧ w'.cell? ⟨bb, 1, none⟩ = some (.int .i64 s.n))
    (first | (refine ⟨?_, ?_⟩ <;> assumption) | (go_keep; done))
    (first
      | (go_at_call 11; refine (unhide HU1).mono ?_; rintro e w2 ⟨v2, rfl, hN2, hb2⟩; obtain ⟨a2, k2, rfl⟩ := row_form hN2; have z := (unhide HLT) w2 a2 k2 hb2 hN2; obtain ⟨z0, z1, z2, z3, z4⟩ := z))
  have H2 := hide z0
  have HAT := hide (at_any s.L nd al cl w2 z4 hl100)
  clear z0 z4 hN2 hb2 HU1 HLT c0 c1 c2
  obtain ⟨th, hth⟩ : ∃ th, th = Pl.has s.L nd := ⟨_, rfl⟩
  obtain ⟨nb, hnb⟩ : ∃ nb, nb = Pl.numB nd := ⟨_, rfl⟩
  obtain ⟨eb, heb⟩ : ∃ eb, eb = (Pl.verB s.n u && Pl.verB s.n v) := ⟨_, rfl⟩
  have HNB := hide (And.intro hnb (And.intro heb hth))
  clear hnb heb hth
  go_upto_region 5 with fail
  go_cut [16] (fun p wx => p = .bool th ∧ w2 = wx)
  case first =>
    as_aux_lemma =>
      go_wp2_with fail
      refine (unhide HAT).mono ?_
      rintro e w3 ⟨r, rfl, hfi, rfl⟩
      rcases hfi with ⟨rfl, hno⟩ | ⟨k, hk, rfl, hkid⟩
      · obtain rfl : th = false := by rw [(unhide HNB).2.2]; exact Pl.has_false.2 hno
        clear hno
        go_wp2_with fail
        go_meet
        exact ⟨rfl, rfl⟩
      · obtain rfl : th = true := by rw [(unhide HNB).2.2]; exact Pl.has_iff.2 ⟨_, List.getElem_mem hk, hkid⟩
        clear hkid
        have hk0 : (0 : Int) ≤ k := by omega
        go_wp2_with fail
        go_meet
        exact ⟨rfl, rfl⟩
  case rest =>
    obtain ⟨rfl, rfl⟩ := hcut
    clear HAT
    go_upto_region 6 with fail
    go_cut [17] (fun p wx => p = .bool nb ∧ w2 = wx)
    case first =>
      as_aux_lemma =>
        rcases (show nd < 0 ∨ (0 ≤ nd ∧ nd < 100) ∨ 100 ≤ nd by omega) with h | ⟨h, h'⟩ | h
        · obtain rfl : nb = false := by rw [(unhide HNB).1]; simp [Pl.numB]; omega
          go_wp2_with fail
          go_meet
          exact ⟨rfl, rfl⟩
        · obtain rfl : nb = true := by rw [(unhide HNB).1]; simp [Pl.numB]; omega
          go_wp2_with fail
          go_meet
          exact ⟨rfl, rfl⟩
        · obtain rfl : nb = false := by rw [(unhide HNB).1]; simp [Pl.numB]; omega
          have h0 : 0 ≤ nd := by omega
          have h1 : ¬ nd < 100 := by omega
          go_wp2_with fail
          go_meet
          exact ⟨rfl, rfl⟩
    case rest =>
      obtain ⟨rfl, rfl⟩ := hcut
      go_upto_region 7 with fail
      go_cut [18] (fun p wx => p = .bool eb ∧ w2 = wx)
      case first =>
        as_aux_lemma =>
          rcases (show u < 0 ∨ (0 ≤ u ∧ s.n ≤ u) ∨ (0 ≤ u ∧ u < s.n ∧ v < 0) ∨ (0 ≤ u ∧ u < s.n ∧ 0 ≤ v ∧ s.n ≤ v) ∨ (0 ≤ u ∧ u < s.n ∧ 0 ≤ v ∧ v < s.n) by omega) with g1 | ⟨g1, g2⟩ | ⟨g1, g2, g3⟩ | ⟨g1, g2, g3, g4⟩ | ⟨g1, g2, g3, g4⟩
          · obtain rfl : eb = false := by rw [(unhide HNB).2.1]; simp [Pl.verB]; omega
            go_wp2_with fail
            go_meet
            exact ⟨by first | rfl | (simp; omega), rfl⟩
          · obtain rfl : eb = false := by rw [(unhide HNB).2.1]; simp [Pl.verB]; omega
            go_wp2_with fail
            go_meet
            exact ⟨by first | rfl | (simp; omega), rfl⟩
          · obtain rfl : eb = false := by rw [(unhide HNB).2.1]; simp [Pl.verB]; omega
            go_wp2_with fail
            go_meet
            exact ⟨by first | rfl | (simp; omega), rfl⟩
          · obtain rfl : eb = false := by rw [(unhide HNB).2.1]; simp [Pl.verB]; omega
            go_wp2_with fail
            go_meet
            exact ⟨by first | rfl | (simp; omega), rfl⟩
          · obtain rfl : eb = true := by rw [(unhide HNB).2.1]; simp [Pl.verB]; omega
            go_wp2_with fail
            go_meet
            exact ⟨by first | rfl | (simp; omega), rfl⟩
      case rest =>
        obtain ⟨rfl, rfl⟩ := hcut
        go_wp2_with fail
        refine ((unhide HIn) _ xb (unhide H2).xg).mono ?_
        rintro e w3 ⟨rfl, hx3, hf3⟩
        have hR3 := (unhide H2).call hx3 hf3
        have hR4 := hR3.later ((Below.refl _ _).alloc (Nat.le_refl _) (.cells #[.int .i64 iA, .int .i64 iB] 47))
        have hcc := heap_alloc_new w3 (.cells #[.int .i64 iA, .int .i64 iB] 47)
        have hgw : w.heap.size ≤ w3.heap.size := hR3.be.size
        clear hx3 hf3 hR3 H2 z1 z2 z3 HIn
        go_upto_region 9 with fail
        generalize w3.alloc (.cells #[.int .i64 iA, .int .i64 iB] 47) = W4 at *
        generalize w3.heap.size = gc at *
        have H4 := hide (And.intro hR4 hcc)
        clear hR4 hcc
        have hfin : ∀ (W : World) (s3 : St), Ok s3 → s3.n = s.n → s3.most = s.most → s3.L = s.L → Rf w W bb xb s.n (.slice al s.L.length cl) vp vm (.slice a2 D.length k2) D s3 → Calls Tryd.prog 11 #[P0 xb, .int .i64 s.n] W.drew fun e w' => ∃ a k, e = .returned (.tuple #[.slice a D.length k, .string T]) ∧ w'.cell? ⟨bb, 0, none⟩ = some (P0 xb) ∧ w'.cell? ⟨bb, 1, none⟩ = some (.int .i64 s.n) ∧ (Calls Tryd.prog 16 #[.slice a2 D.length k2, .slice a D.length k] w' fun e w'' => e = .returned (.bool true) ∧ Below w'.heap.size w' w'') ∧ Below w.heap.size w w' := fun W s3 ok3 hn3 hm3 hL3 hR => by
          refine ((unhide HDu) s3 W.drew hR.be.drew ok3 hn3 hm3 hL3 (PF.drew hR.xg)).mono ?_
          rintro e w' ⟨v', rfl, hN, hb⟩
          obtain ⟨a', k', rfl⟩ := row_form hN
          have hR' := hR.later (Below.undrew hb)
          obtain ⟨e0, e1, _, _, _, _, _⟩ := six_cells6 hR'.bk
          exact ⟨a', k', rfl, e0, e1, sameInts_big D a2 a' k2 k' w' hR'.nm (row_mono hN (Nat.zero_le _)) hlenD, hR'.be⟩
        have HFin := hide hfin
        obtain ⟨hcase, ok2, hn2, hm2⟩ := unhide HCS
        obtain ⟨hR4, hcc⟩ := unhide H4
        obtain ⟨d0, d1, _, _, _, _, _⟩ := six_cells6 hR4.bk
        obtain ⟨q0, q1, qf⟩ := two_cells hcc
        have qf0 := qf 0
        have qf1 := qf 1
        obtain ⟨hnb, heb, hth⟩ := unhide HNB
        have hgl := lt_of_block hcc
        have hgx : gc ≠ xb := by
          rintro rfl
          have hX := PF.row hR4.xg
          unfold RowAt at hX
          rw [hcc] at hX; simp at hX
        have hgb : gc ≠ bb := by
          rintro rfl
          have hX := hR4.bk
          rw [hcc] at hX; simp at hX
        clear hfin HDu HCS H4 qf
        rcases hcase with ⟨k1', rfl, rfl, rfl, rfl⟩ | ⟨k1', k2', rfl, rfl, rfl, rfl⟩ | ⟨k1', k2', k3', rfl, rfl, rfl, rfl⟩ | ⟨k1', k2', k3', rfl, k4'⟩
        · as_aux_lemma =>
            have hno := Pl.has_num (unhide H0).1.ok.gl.rng k1'
            rw [k1'] at hnb
            rw [hno] at hth
            subst hnb
            subst hth
            obtain ⟨dA, dB, dC, s3, ok3, hn3, hm3, hcase3, hDel⟩ := del_raw ok2 nd
            obtain ⟨hA, hB', hC, hS⟩ : dA = 0 ∧ dB = 0 ∧ dC = 2 ∧ s3 = s2 := by
              rcases hcase3 with ⟨h, h1, h2, h3, h4⟩ | ⟨h0, h, h1, h2, h3, h4⟩ | ⟨h0, h, _⟩
              · exact ⟨h1, h2, h3, h4⟩
              · rw [k1'] at h0; cases h0
              · rw [k1'] at h0; cases h0
            subst hA
            subst hB'
            subst hC
            subst hS
            have HDl := hide (fun W hW => hDel W xb hW)
            have HE := hide (And.intro ok3 (And.intro hR4 hcc))
            clear ok2 hn2 hm2 hR4 hcc HNB hcase3 hDel ok3 hn3 hm3 hno k1' heb
            go_wp2_with fail
            refine ((unhide HDl) _ (unhide HE).2.1.xg).mono ?_
            rintro e w5 ⟨rfl, hx5, hf5⟩
            have hR5 := (unhide HE).2.1.call hx5 hf5
            have hcc5 := (hf5.block gc hgl hgx).trans (unhide HE).2.2
            obtain ⟨p0, p1, pf⟩ := two_cells hcc5
            have pf0 := pf 0
            have pf1 := pf 1
            have hR6 := hR5.put hcc5 hgw (.int .i64 0) (.int .i64 0)
            have hcc6 := set_two (x := .int .i64 0) (y := .int .i64 0) hcc5
            have H6 := hide (And.intro hR6 hcc6)
            clear hx5 hf5 hR5 hcc5 hR6 hcc6 pf d0 d1 q0 q1 qf0 qf1
            go_upto_region 22 with fail
            generalize (w5.setCell ⟨gc, 0, none⟩ (.int .i64 0)).setCell ⟨gc, 1, none⟩ (.int .i64 0) = W6 at *
            obtain ⟨hR6, hcc6⟩ := unhide H6
            obtain ⟨d0, d1, _, _, _, _, _⟩ := six_cells6 hR6.bk
            obtain ⟨q0, q1, _⟩ := two_cells hcc6
            have HFi := hide ((unhide HFin) W6 _ (unhide HE).1 rfl rfl rfl hR6)
            clear hR6 hcc6 H6 HFin p0 p1 pf0 pf1 HE HDl
            go_wp2_with fail
            go_region_held3 (fun w' => w'.cell? ⟨bb, 0, none⟩ = some (P0 xb) ∧ w'.cell? ⟨bb, 1, none⟩ = some (.int .i64 s3.n))
              (first | (refine ⟨?_, ?_⟩ <;> assumption) | (go_keep; done))
              (first
                | (go_at_call 11; refine (unhide HFi).mono ?_; rintro e w6 ⟨a6, k6, rfl, r0, r1, hsame, hB6⟩; have HB6 := hide hB6; have HSM := hide hsame; clear hB6 hsame))
            go_wp2_with fail
            refine (unhide HSM).mono ?_
            rintro e w7 ⟨rfl, hb7⟩
            have HB7 := hide ((unhide HB6).trans (hb7.mono (unhide HB6).size))
            clear hb7 HSM HB6 HFi
            go_wp2
            go_ret
            exact ⟨ret_bool (by simp), unhide HB7⟩
        · as_aux_lemma =>
            rw [k1'] at hnb
            rw [k2'] at heb
            subst hnb
            subst heb
            cases th with
            | true =>
              have HFi := hide ((unhide HFin) W4 _ ok2 rfl rfl rfl hR4)
              clear ok2 hn2 hm2 hR4 hcc HFin HNB hth
              go_wp2_with fail
              go_region_held3 (fun w' => w'.cell? ⟨bb, 0, none⟩ = some (P0 xb) ∧ w'.cell? ⟨bb, 1, none⟩ = some (.int .i64 s2.n))
                (first | (refine ⟨?_, ?_⟩ <;> assumption) | (go_keep; done))
                (first
                  | (go_at_call 11; refine (unhide HFi).mono ?_; rintro e w6 ⟨a6, k6, rfl, r0, r1, hsame, hB6⟩; have HB6 := hide hB6; have HSM := hide hsame; clear hB6 hsame))
              go_wp2_with fail
              refine (unhide HSM).mono ?_
              rintro e w7 ⟨rfl, hb7⟩
              have HB7 := hide ((unhide HB6).trans (hb7.mono (unhide HB6).size))
              clear hb7 HSM HB6 HFi
              go_wp2
              go_ret
              exact ⟨ret_bool (by simp), unhide HB7⟩
            | false =>
              have hno := hth.symm
              obtain ⟨dA, dB, dC, s3, ok3, hn3, hm3, hcase3, hDel⟩ := del_raw ok2 nd
              obtain ⟨hA, hB', hC, hS⟩ : dA = 0 ∧ dB = 0 ∧ dC = 6 ∧ s3 = s2 := by
                rcases hcase3 with ⟨h, h1, h2, h3, h4⟩ | ⟨h0, h, h1, h2, h3, h4⟩ | ⟨h0, h, _⟩
                · rw [k1'] at h; cases h
                · exact ⟨h1, h2, h3, h4⟩
                · rw [hno] at h; cases h
              subst hA
              subst hB'
              subst hC
              subst hS
              have HDl := hide (fun W hW => hDel W xb hW)
              have HE := hide (And.intro ok3 (And.intro hR4 hcc))
              clear ok2 hn2 hm2 hR4 hcc HNB hcase3 hDel ok3 hn3 hm3 hno k1' k2' hth
              go_wp2_with fail
              refine ((unhide HDl) _ (unhide HE).2.1.xg).mono ?_
              rintro e w5 ⟨rfl, hx5, hf5⟩
              have hR5 := (unhide HE).2.1.call hx5 hf5
              have hcc5 := (hf5.block gc hgl hgx).trans (unhide HE).2.2
              obtain ⟨p0, p1, pf⟩ := two_cells hcc5
              have pf0 := pf 0
              have pf1 := pf 1
              have hR6 := hR5.put hcc5 hgw (.int .i64 0) (.int .i64 0)
              have hcc6 := set_two (x := .int .i64 0) (y := .int .i64 0) hcc5
              have H6 := hide (And.intro hR6 hcc6)
              clear hx5 hf5 hR5 hcc5 hR6 hcc6 pf d0 d1 q0 q1 qf0 qf1
              go_upto_region 22 with fail
              generalize (w5.setCell ⟨gc, 0, none⟩ (.int .i64 0)).setCell ⟨gc, 1, none⟩ (.int .i64 0) = W6 at *
              obtain ⟨hR6, hcc6⟩ := unhide H6
              obtain ⟨d0, d1, _, _, _, _, _⟩ := six_cells6 hR6.bk
              obtain ⟨q0, q1, _⟩ := two_cells hcc6
              have HFi := hide ((unhide HFin) W6 _ (unhide HE).1 rfl rfl rfl hR6)
              clear hR6 hcc6 H6 HFin p0 p1 pf0 pf1 HE HDl
              go_wp2_with fail
              go_region_held3 (fun w' => w'.cell? ⟨bb, 0, none⟩ = some (P0 xb) ∧ w'.cell? ⟨bb, 1, none⟩ = some (.int .i64 s3.n))
                (first | (refine ⟨?_, ?_⟩ <;> assumption) | (go_keep; done))
                (first
                  | (go_at_call 11; refine (unhide HFi).mono ?_; rintro e w6 ⟨a6, k6, rfl, r0, r1, hsame, hB6⟩; have HB6 := hide hB6; have HSM := hide hsame; clear hB6 hsame))
              go_wp2_with fail
              refine (unhide HSM).mono ?_
              rintro e w7 ⟨rfl, hb7⟩
              have HB7 := hide ((unhide HB6).trans (hb7.mono (unhide HB6).size))
              clear hb7 HSM HB6 HFi
              go_wp2
              go_ret
              exact ⟨ret_bool (by simp), unhide HB7⟩
        · as_aux_lemma =>
            rw [k1'] at hnb
            rw [k2'] at heb
            rw [k3'] at hth
            subst hnb
            subst heb
            subst hth
            have HFi := hide ((unhide HFin) W4 _ ok2 rfl rfl rfl hR4)
            clear ok2 hn2 hm2 hR4 hcc HFin HNB
            go_wp2_with fail
            go_region_held3 (fun w' => w'.cell? ⟨bb, 0, none⟩ = some (P0 xb) ∧ w'.cell? ⟨bb, 1, none⟩ = some (.int .i64 s2.n))
              (first | (refine ⟨?_, ?_⟩ <;> assumption) | (go_keep; done))
              (first
                | (go_at_call 11; refine (unhide HFi).mono ?_; rintro e w6 ⟨a6, k6, rfl, r0, r1, hsame, hB6⟩; have HB6 := hide hB6; have HSM := hide hsame; clear hB6 hsame))
            go_wp2_with fail
            refine (unhide HSM).mono ?_
            rintro e w7 ⟨rfl, hb7⟩
            have HB7 := hide ((unhide HB6).trans (hb7.mono (unhide HB6).size))
            clear hb7 HSM HB6 HFi
            go_wp2
            go_ret
            exact ⟨ret_bool (by simp), unhide HB7⟩
        · as_aux_lemma =>
            rw [k1'] at hnb
            rw [k2'] at heb
            rw [k3'] at hth
            subst hnb
            subst heb
            subst hth
            have hh2 : Pl.has s2.L nd = true := by rw [k4']; exact Pl.has_iff.2 ⟨_, (Pl.mem_with (x := ⟨nd, u, v, wt⟩) k3').2 (Or.inl rfl), rfl⟩
            obtain ⟨eA, eB, eC, s4, ok4, hn4, hm4, hcase4, hDel4⟩ := del_raw ok2 nd
            obtain ⟨hC4, hL4⟩ : eC = 0 ∧ s4.L = s.L := by
              rcases hcase4 with ⟨h, _⟩ | ⟨_, h, _⟩ | ⟨_, _, h1, h2⟩
              · rw [k1'] at h; cases h
              · rw [hh2] at h; cases h
              · refine ⟨h1, ?_⟩
                rw [h2, k4']
                exact Pl.without_with (x := ⟨nd, u, v, wt⟩) (unhide H0).1.ok.gl.ids k3'
            subst hC4
            obtain ⟨dA, dB, dC, s3, ok3, hn3, hm3, hcase3, hDel⟩ := del_raw ok4 nd
            obtain ⟨hA, hB', hC, hS⟩ : dA = 0 ∧ dB = 0 ∧ dC = 6 ∧ s3 = s4 := by
              rcases hcase3 with ⟨h, h1, h2, h3, h4⟩ | ⟨h0, h, h1, h2, h3, h4⟩ | ⟨h0, h, _⟩
              · rw [k1'] at h; cases h
              · exact ⟨h1, h2, h3, h4⟩
              · rw [hL4, k3'] at h; cases h
            subst hA
            subst hB'
            subst hC
            subst hS
            have HD4 := hide (fun W hW => hDel4 W xb hW)
            have HDl := hide (fun W hW => hDel W xb hW)
            have HE := hide (And.intro ok3 (And.intro hR4 (And.intro hcc (And.intro (hn4.trans hn2) (And.intro (hm4.trans hm2) hL4)))))
            clear ok2 ok4 hn2 hm2 hn4 hm4 hR4 hcc HNB hcase3 hDel hcase4 hDel4 ok3 hn3 hm3 k1' k2' k3' k4' hh2 hL4
            go_wp2_with fail
            refine ((unhide HD4) _ (unhide HE).2.1.xg).mono ?_
            rintro e w4 ⟨rfl, hx4, hf4⟩
            have hR5 := (unhide HE).2.1.call hx4 hf4
            have hcc5 := (hf4.block gc hgl hgx).trans (unhide HE).2.2.1
            obtain ⟨b0, b1, _, _, _, _, _⟩ := six_cells6 hR5.bk
            have H5 := hide (And.intro hR5 hcc5)
            have hgl5 := lt_of_block hcc5
            clear hx4 hf4 hR5 hcc5 d0 d1 q0 q1 qf0 qf1 HD4
            go_wp2_with fail
            refine ((unhide HDl) _ (unhide H5).1.xg).mono ?_
            rintro e w5 ⟨rfl, hx5, hf5⟩
            have hR5 := (unhide H5).1.call hx5 hf5
            have hcc5 := (hf5.block gc hgl5 hgx).trans (unhide H5).2
            obtain ⟨p0, p1, pf⟩ := two_cells hcc5
            have pf0 := pf 0
            have pf1 := pf 1
            have hR6 := hR5.put hcc5 hgw (.int .i64 0) (.int .i64 0)
            have hcc6 := set_two (x := .int .i64 0) (y := .int .i64 0) hcc5
            have H6 := hide (And.intro hR6 hcc6)
            clear hx5 hf5 hR5 hcc5 hR6 hcc6 pf b0 b1 H5
            go_upto_region 22 with fail
            generalize (w5.setCell ⟨gc, 0, none⟩ (.int .i64 0)).setCell ⟨gc, 1, none⟩ (.int .i64 0) = W6 at *
            obtain ⟨hR6, hcc6⟩ := unhide H6
            obtain ⟨d0, d1, _, _, _, _, _⟩ := six_cells6 hR6.bk
            obtain ⟨q0, q1, _⟩ := two_cells hcc6
            have HFi := hide ((unhide HFin) W6 _ (unhide HE).1 (unhide HE).2.2.2.1 (unhide HE).2.2.2.2.1 (unhide HE).2.2.2.2.2 hR6)
            clear hR6 hcc6 H6 HFin p0 p1 pf0 pf1 HE HDl
            go_wp2_with fail
            go_region_held3 (fun w' => w'.cell? ⟨bb, 0, none⟩ = some (P0 xb) ∧ w'.cell? ⟨bb, 1, none⟩ = some (.int .i64 s.n))
              (first | (refine ⟨?_, ?_⟩ <;> assumption) | (go_keep; done))
              (first
                | (go_at_call 11; refine (unhide HFi).mono ?_; rintro e w6 ⟨a6, k6, rfl, r0, r1, hsame, hB6⟩; have HB6 := hide hB6; have HSM := hide hsame; clear hB6 hsame))
            go_wp2_with fail
            refine (unhide HSM).mono ?_
            rintro e w7 ⟨rfl, hb7⟩
            have HB7 := hide ((unhide HB6).trans (hb7.mono (unhide HB6).size))
            clear hb7 HSM HB6 HFi
            go_wp2
            go_ret
            exact ⟨ret_bool (by simp), unhide HB7⟩

end Go.Proofs.YtnnnleckoinjoaaDoor
