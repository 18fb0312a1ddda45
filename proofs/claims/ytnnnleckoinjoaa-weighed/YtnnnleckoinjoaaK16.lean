/- Weighed. -/
import Derived.Test.YtnnnleckoinjoaaK15
import Derived.Test.YtnnnleckoinjoaaP10
namespace Go.Proofs.Ytnnnleckoinjoaa
open Go.RowKit
open Pl (It)

set_option maxRecDepth 100000 in
set_option maxHeartbeats 8000000 in
theorem weighed_any (v0 : Int) (hv : R64 v0) (sa : Option Addr) (sb so len cap : Nat) (I : Nat → StT) (w : World) (hsa : 0 < len → sa = some ⟨sb, so, none⟩) (hsb : 0 < len → sb < w.heap.size) (hlen : len ≤ 9223372036854775807) (hc : ∀ j, j < len → StAt w sb (so + j * 5) (I j)) :
    Calls Try.prog 9 #[.int .i64 v0, .slice sa len cap] w fun e w' => e = .returned (.bool true) ∧ Below w.heap.size w w' := by
  have HP := hide (played_any v0 hv sa sb so len cap I w hsa hsb hlen hc)
  clear hsa hsb hlen hc hv
  go_enter Try.func9, Try.ntmps9
  go_wp2_with fail
  refine (unhide HP).mono ?_
  rintro e w1 ⟨bb, xb, s, rfl, hbb, hxb, hs, hK, hB⟩
  clear HP
  obtain ⟨⟨vl, vp, vm, hb1, hI1, _, hN1⟩, hx1⟩ := id hK
  obtain ⟨al, cl, rfl⟩ := row_form hI1
  obtain ⟨am, cm, rfl⟩ := row_form hN1
  rw [List.length_map] at hb1
  obtain ⟨c0, c1, c2, _, c4, _, _⟩ := six_cells6 hb1
  have hbl := lt_of_block hb1
  have hl100 := hs.ok.l100
  have hn30 := hs.ok.n30
  obtain ⟨F, hF⟩ : ∃ F, F = Pl.forest s.L := ⟨_, rfl⟩
  have hfl : F.length ≤ 100 := by rw [hF]; exact Nat.le_trans (List.length_filter_le _ _) hl100
  have hcomp := Pl.comps hs.ok.gl.ids hs.ok.ends
  rw [← hF] at hcomp
  have hmem : ∀ e, e ∈ F → e ∈ s.L := fun e h => by rw [hF] at h; exact (List.mem_filter.1 h).1
  have hwF : Pl.WB F := fun e h => hs.ok.wb e (hmem e h)
  have hbd := Pl.sumw_bd F hwF
  obtain ⟨S, hS⟩ : ∃ S, S = Pl.sumw F := ⟨_, rfl⟩
  have HW : Hid (∀ w', XG w' xb s → Calls Try.prog 33 #[P0 xb] w' fun e w'' => e = .returned (.tuple #[.int .i64 (S / 4294967296), .int .i64 (S % 4294967296)]) ∧ Below w'.heap.size w' w'') := fun w' hx' => by
    rw [hS, hF]; exact weightp_any xb _ _ _ _ s.L w' hx'.pg hs.ok.gl hl100 hn30 hs.ok.ends hs.ok.wb
  have HFo : Hid (∀ w', BK w' bb xb s → Calls Try.prog 14 #[P0 xb] w' fun e w'' => ∃ v, e = .returned v ∧ Nums w'' w'.heap.size v (F.map It.id) ∧ Below w'.heap.size w' w'') := fun w' hk' => by rw [hF]; exact hk'.forest hs
  have HCo : Hid (∀ w', XG w' xb s → Calls Try.prog 27 #[P0 xb] w' fun e w'' => e = .returned (.int .i64 (Pl.parts s.n s.L)) ∧ Below w'.heap.size w' w'') := fun w' hx' => compp_any xb _ _ _ _ s.L w' hx'.pg hs.ok.gl hl100 hn30 hs.ok.ends
  rw [← hF] at hN1 hb1 c4
  rw [← hS] at hbd
  have s0 : 0 ≤ S % 4294967296 := by omega
  have s1 : S % 4294967296 < 4294967296 := by omega
  have s2 : -2147483648 * 101 ≤ S / 4294967296 := by omega
  have s3 : S / 4294967296 ≤ 2147483648 * 101 := by omega
  have s4 : S = 4294967296 * (S / 4294967296) + S % 4294967296 := by omega
  have HS4 := hide s4
  have HSS := hide hS
  have HFF := hide (And.intro hmem hwF)
  have HCC := hide hcomp
  have HIds := hide hs.ok.gl.ids
  have H1 := hide (And.intro hK (And.intro hB (And.intro hI1 hN1)))
  clear hK hB hI1 hN1 hx1 hb1 hF hS hmem hwF hbd s4 hcomp
  generalize S / 4294967296 = SH at *
  generalize S % 4294967296 = SL at *
  go_wp2_with fail
  obtain ⟨hK, hB, hI1, hN1⟩ := unhide H1
  refine ((unhide HW) _ hK.xg).mono ?_
  rintro e w2 ⟨rfl, hB2⟩
  have d0 := (hB2.cell (p := ⟨bb, 0, none⟩) hbl).trans c0
  have H2 := hide (And.intro (hK.later hB2) hB2)
  clear hK hB hI1 hN1 hB2 HW
  go_wp2_with fail
  obtain ⟨hK2, hB2⟩ := unhide H2
  refine ((unhide HFo) _ hK2).mono ?_
  rintro e w3 ⟨v3, rfl, hN3, hB3⟩
  obtain ⟨a3, k3, rfl⟩ := row_form hN3
  rw [List.length_map]
  obtain ⟨hK, hB, hI1, hN1⟩ := unhide H1
  have hB13 : Below w1.heap.size w1 w3 := hB2.trans (hB3.mono hB2.size)
  have c43 := (hB13.cell (p := ⟨bb, 4, none⟩) hbl).trans c4
  have hNf3 := row_mono hN3 (Nat.zero_le _)
  have hNm3 := row_below hN1 hB13 (Nat.le_refl _)
  rw [List.length_map] at hNf3 hNm3
  have HS : Hid (Calls Try.prog 16 #[.slice a3 F.length k3, .slice am F.length cm] w3 fun e w' => e = .returned (.bool true) ∧ Below w3.heap.size w3 w') := by
    have := sameInts_any (F.map It.id) a3 am k3 cm w3 (by unfold Nums; rw [List.length_map]; exact hNf3) (by unfold Nums; rw [List.length_map]; exact hNm3) (by rw [List.length_map]; omega)
    rw [List.length_map] at this
    exact this
  have H3 := hide (And.intro hB13 (And.intro hNf3 (And.intro hI1 (And.intro hK hB))))
  clear hK2 hB2 hN3 hB3 hK hB hI1 hN1 hB13 hNf3 hNm3 H1 H2 d0 HFo
  go_wp2_with fail
  refine (unhide HS).mono ?_
  rintro e w4 ⟨rfl, hB4⟩
  obtain ⟨hB13, hN3, hI1, hK, hB⟩ := unhide H3
  have hB14 : Below w1.heap.size w1 w4 := hB13.trans (hB4.mono hB13.size)
  have c24 := (hB14.cell (p := ⟨bb, 2, none⟩) hbl).trans c2
  have c04 := (hB14.cell (p := ⟨bb, 0, none⟩) hbl).trans c0
  have c14 := (hB14.cell (p := ⟨bb, 1, none⟩) hbl).trans c1
  have hN4 := row_below hN3 hB4 (Nat.le_refl _)
  have hK4 := hK.later hB14
  have hI4 := row_below hI1 hB14 (Nat.le_refl _)
  have hBw4 : Below w.heap.size w w4 := hB.trans (hB14.mono hB.size)
  have H4 := hide (And.intro hK4 (And.intro hN4 (And.intro hI4 hBw4)))
  have hbl4 : bb < w4.heap.size := by have := hB14.size; omega
  clear HS H3 hB4 hB13 hN3 hI1 hK hB hB14 hN4 hK4 hI4 hBw4 c43 c0 c1 c2 c4
  go_wp2_with fail
  go_loopg [6, 7, 10] (F.length + 1) (fun gk hi lo i wr => ∃ (k nq : Nat) (h o : Int), k ≤ F.length ∧ i = .int .i64 k ∧ hi = .int .i64 h ∧ lo = .int .i64 o ∧ wr = w4.drewN nq ∧ S - Pl.sumw (F.take k) = 4294967296 * h + o ∧ o < 4294967296 ∧ -4294967295 * (k : Int) ≤ o ∧ -2147483648 * ((k : Int) + 101) ≤ h ∧ h ≤ 2147483648 * ((k : Int) + 101) ∧ F.length - k ≤ gk)
  case atStart => exact ⟨0, 0, SH, SL, Nat.zero_le _, rfl, rfl, rfl, rfl, by have := unhide HS4; simp [Pl.sumw]; omega, by omega, by omega, by omega, by omega, by omega⟩
  case round =>
    obtain ⟨k, nq, h, o, hk, rfl, rfl, rfl, rfl, hSk, o0, o1, h0, h1, hgk⟩ := hrel
    obtain ⟨hK4, hN4, hI4, hBw4⟩ := unhide H4
    obtain ⟨hmem, hwF⟩ := unhide HFF
    by_cases hlt : k < F.length
    · obtain ⟨gf, rfl⟩ := row_some hN4 (by omega)
      have hxm := hmem _ (List.getElem_mem hlt)
      have hlp : 0 < s.L.length := List.length_pos_of_mem hxm
      obtain ⟨g, rfl⟩ := row_some hI4 (by omega)
      have y0 : w4.cell? ⟨gf, k, none⟩ = some (.int .i64 F[k].id) := by
        have := nums_cell (l := F.map It.id) (g := gf) (cap := k3) (base := 0) (w := w4) (by unfold Nums; rw [List.length_map]; exact hN4) k (by rw [List.length_map]; exact hlt)
        rw [List.getElem_map] at this; exact this
      obtain ⟨W0, W1⟩ := hwF F[k] (List.getElem_mem hlt)
      have hhas : Pl.has s.L F[k].id = true := Pl.has_iff.2 ⟨F[k], hxm, rfl⟩
      -- where it stands in the book's list
      have HAt : Hid (∀ m, Calls Try.prog 32 #[.slice (some ⟨g, 0, none⟩) s.L.length cl, .int .i64 F[k].id] (w4.drewN m) fun e w' => ∃ j : Nat, e = .returned (.int .i64 j) ∧ j < s.L.length ∧ w4.cell? ⟨g, j * 4 + 3, none⟩ = some (.int .i64 F[k].w) ∧ w4.drewN m = w') := fun m => by
        refine (at_any s.L F[k].id _ cl (w4.drewN m) hI4 hl100).mono ?_
        rintro e w' ⟨r, rfl, hr, rfl⟩
        rcases hr with ⟨_, hno⟩ | ⟨j, hj, rfl, hid⟩
        · exact absurd rfl (hno F[k] hxm)
        · refine ⟨j, rfl, hj, ?_, rfl⟩
          have := (its_cells hI4 j hj).2.2.2
          rw [Pl.ids_inj (unhide HIds) (List.getElem_mem hj) hxm hid] at this
          exact this
      have hk1 : (0 : Int) ≤ k := by omega
      have hk2 : (k : Int) < F.length := by omega
      have HSn := hide (And.intro hSk (Pl.sumw_snoc F k hlt))
      have hand := and_mask F[k].w
      have m0 : 0 ≤ F[k].w % 4294967296 := by omega
      have m1 : F[k].w % 4294967296 ≤ 4294967295 := by omega
      have e0 : -2147483648 ≤ F[k].w / 4294967296 := by omega
      have e1 : F[k].w / 4294967296 ≤ 2147483647 := by omega
      have e2 : F[k].w = 4294967296 * (F[k].w / 4294967296) + F[k].w % 4294967296 := by omega
      have HE2 := hide e2
      clear hK4 hN4 hI4 hBw4 hmem hwF hxm hhas hSk H4 HFF e2 HCo HSS HS4
      generalize F[k].w = W at *
      generalize F[k].id = X at *
      go_wp2_with fail
      go_region_held3 (fun w' => w'.cell? ⟨bb, 2, none⟩ = some (.slice (some ⟨g, 0, none⟩) s.L.length cl) ∧ w'.cell? ⟨gf, k, none⟩ = some (.int .i64 X))
        (first | (refine ⟨?_, ?_⟩ <;> assumption) | (go_keep; done))
        (first
          | (go_at_call 32; refine ((unhide HAt) (nq + 1)).mono ?_; rintro e w6 ⟨j, rfl, hj, hjw, rfl⟩))
      have j0 : (0 : Int) ≤ j := by omega
      have j1 : ¬ (j : Int) < 0 := by omega
      have j2 : (j : Int) < s.L.length := by omega
      go_wp2
      go_roundg (gk - 1)
      case measure => omega
      case rel =>
        obtain ⟨hS1, hS2⟩ := unhide HSn
        have hE := unhide HE2
        exact ⟨k + 1, _, _, _, by omega, by go_num, rfl, rfl, rfl, by rw [hS2]; omega, by omega, by omega, by omega, by omega, by omega⟩
    · have kk : ¬ (k : Int) < F.length := by omega
      have hke : F.take k = F := List.take_of_length_le (by omega)
      rw [hke, ← unhide HSS, Int.sub_self] at hSk
      have t0 : o = 4294967296 * (-h) := by omega
      have t1 : o.tmod 4294967296 = 0 := by rw [t0]; exact Int.mul_tmod_right _ _
      have t2 : o.tdiv 4294967296 = -h := by rw [t0]; exact Int.mul_tdiv_cancel_left _ (by decide)
      have hkl : k = F.length := by omega
      have hcomp := unhide HCC
      have hpn : (Pl.parts s.n s.L : Int) = (s.n : Int) - F.length := by omega
      have HBw := hide hBw4
      have hxn : XG (w4.drewN nq) xb s := ⟨hK4.xg.row, hK4.xg.ll, hK4.xg.le, hK4.xg.lt⟩
      clear hK4 hN4 hI4 hBw4 hmem hwF hSk t0 hke H4 HFF
      go_wp2_with fail
      refine ((unhide HCo) _ hxn).mono ?_
      rintro e w6 ⟨rfl, hB6⟩
      have c16 := (hB6.cell (p := ⟨bb, 1, none⟩) hbl4).trans c14
      have H6 := hide (((below_drewN (unhide HBw) nq)).trans (hB6.mono (unhide HBw).size))
      clear hB6 hxn HCo
      go_wp2
      go_ret
      exact ⟨rfl, unhide H6⟩

end Go.Proofs.Ytnnnleckoinjoaa
