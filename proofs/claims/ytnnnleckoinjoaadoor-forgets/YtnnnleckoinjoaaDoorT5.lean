import Derived.Deep.RegionHeld3
import Derived.Test.YtnnnleckoinjoaaDoorQ1
import Derived.Test.YtnnnleckoinjoaaDoorT1
/- The program's Text. -/
namespace Go.Proofs.YtnnnleckoinjoaaDoor
open Go.RowKit
open Pl (It)

theorem lowdrew {B : Nat} {w w1 : World} (h : Below B w.drew w1) : Below B w w1 := ⟨h.os, h.tape, h.output, h.size, h.block⟩
theorem line_bs2 (x : It) : bs (Lib.itoa x.id) ++ bs [32] ++ (bs (Lib.itoa x.u) ++ bs [32] ++ bs (Lib.itoa x.v)) ++ bs [32] ++ bs (Lib.itoa x.w) ++ bs [10] = bs (Pl.line x) := by
  unfold Pl.line
  simp only [bs_append, List.append_assoc]

set_option maxRecDepth 100000 in
set_option maxHeartbeats 4000000 in
theorem edgeLine_any (x : It) (hi : 0 ≤ x.id ∧ x.id < 100) (hu : 0 ≤ x.u ∧ x.u < 30 ∧ 0 ≤ x.v ∧ x.v < 30) (hw : -9223372036854775808 ≤ x.w ∧ x.w ≤ 9223372036854775807) (w : World) (ht : Tab w) :
    Calls Tryd.prog 48 #[.int .i64 x.id, .agg #[.int .i64 x.u, .int .i64 x.v, .int .i64 x.w]] w fun e w' => e = .returned (.string (bs (Pl.line x))) ∧ Below w.heap.size w w' := by
  have G0 := hide (fun W hW => itoa_bs x.id (by omega) (by omega) W hW)
  have G1 := hide (fun W hW => itoa_bs x.u (by omega) (by omega) W hW)
  have G2 := hide (fun W hW => itoa_bs x.v (by omega) (by omega) W hW)
  have G3 := hide (fun W hW => itoa_bs x.w hw.1 hw.2 W hW)
  have m0 : (bs (Lib.itoa x.id)).size ≤ 30 := by rw [bs_size]; have := Lib.itoa_length_le x.id (by omega) (by omega); omega
  have m1 : (bs (Lib.itoa x.u)).size ≤ 30 := by rw [bs_size]; have := Lib.itoa_length_le x.u (by omega) (by omega); omega
  have m2 : (bs (Lib.itoa x.v)).size ≤ 30 := by rw [bs_size]; have := Lib.itoa_length_le x.v (by omega) (by omega); omega
  have m3 : (bs (Lib.itoa x.w)).size ≤ 30 := by rw [bs_size]; have := Lib.itoa_length_le x.w hw.1 hw.2; omega
  have HLB := hide (line_bs2 x)
  have hbx := row_new w 65 [.int .i64 x.u, .int .i64 x.v, .int .i64 x.w]
  have x0 := hbx.cell 0 (by simp)
  have x1 := hbx.cell 1 (by simp)
  have x2 := hbx.cell 2 (by simp)
  simp only [List.getElem_cons_zero, List.getElem_cons_succ] at x0 x1 x2
  have hBa : Below w.heap.size w (w.alloc (.cells #[.int .i64 x.u, .int .i64 x.v, .int .i64 x.w] 65)) := (Below.refl _ _).alloc (Nat.le_refl _) _
  have hTa : Tab (w.alloc (.cells #[.int .i64 x.u, .int .i64 x.v, .int .i64 x.w] 65)) := ht.later hBa
  have HTa : Hid (Tab (w.alloc (.cells #[.int .i64 x.u, .int .i64 x.v, .int .i64 x.w] 65)).drew) := hTa
  have HBa := hide hBa
  change World.cell? (w.alloc (.cells #[.int .i64 x.u, .int .i64 x.v, .int .i64 x.w] 65)) _ = _ at x0 x1 x2
  clear hbx hBa hTa ht hi hu hw
  generalize bs (Lib.itoa x.id) = A0 at *
  generalize bs (Lib.itoa x.u) = A1 at *
  generalize bs (Lib.itoa x.v) = A2 at *
  generalize bs (Lib.itoa x.w) = A3 at *
  have f0 : ¬ 9223372036854775807 < A1.size + 1 := by omega
  have f1 : ¬ 9223372036854775807 < A1.size + 1 + A2.size := by omega
  have f2 : ¬ 9223372036854775807 < A0.size + 1 := by omega
  have f3 : ¬ 9223372036854775807 < A0.size + 1 + (A1.size + 1 + A2.size) := by omega
  have f4 : ¬ 9223372036854775807 < A0.size + 1 + (A1.size + 1 + A2.size) + 1 := by omega
  have f5 : ¬ 9223372036854775807 < A0.size + 1 + (A1.size + 1 + A2.size) + 1 + A3.size := by omega
  have f6 : ¬ 9223372036854775807 < A0.size + 1 + (A1.size + 1 + A2.size) + 1 + A3.size + 1 := by omega
  go_enter Tryd.func48, Tryd.ntmps48
  go_upto_region 1 with fail
  generalize (w.alloc (.cells #[.int .i64 x.u, .int .i64 x.v, .int .i64 x.w] 65)) = WA at *
  have i0 : WA.drew.cell? ⟨w.heap.size, 0, none⟩ = some (.int .i64 x.u) := x0
  have i1 : WA.drew.cell? ⟨w.heap.size, 1, none⟩ = some (.int .i64 x.v) := x1
  have i2 : WA.drew.cell? ⟨w.heap.size, 2, none⟩ = some (.int .i64 x.w) := x2
  go_region_held3 (fun w' => w'.cell? ⟨w.heap.size, 0, none⟩ = some (.int .i64 x.u) ∧ w'.cell? ⟨w.heap.size, 1, none⟩ = some (.int .i64 x.v))
    (first | (refine ⟨?_, ?_⟩ <;> assumption) | (go_keep; done))
    (first
      | (go_at_call 47; with_reducible refine ((unhide G1) _ (by first | exact unhide HTa | assumption)).mono ?_; rintro e w2 ⟨rfl, hb2⟩; have t2 : Tab w2 := Tab.later (by first | exact unhide HTa | assumption) hb2; have u0 := cell_later hb2 i0; have u1 := cell_later hb2 i1; have u2 := cell_later hb2 i2)
      | (go_at_call 47; with_reducible refine ((unhide G2) _ (by first | exact unhide HTa | assumption)).mono ?_; rintro e w3 ⟨rfl, hb3⟩; have t3 : Tab w3 := Tab.later t2 hb3; have v0 := cell_later hb3 u0; have v1 := cell_later hb3 u1; have v2 := cell_later hb3 u2))
  have hBa := unhide HBa
  have hB2 := hBa.trans ((lowdrew hb2).mono hBa.size)
  have hB3 := hB2.trans (hb3.mono hB2.size)
  have HB3 := hide hB3
  have HT3 : Hid (Tab w3.drew) := t3
  have k2 : w3.drew.cell? ⟨w.heap.size, 2, none⟩ = some (.int .i64 x.w) := v2
  clear hBa hB2 hB3 hb2 hb3 t2 t3 u0 u1 u2 v0 v1 i0 i1 i2 x0 x1 x2 HBa HTa G1 G2
  go_wp2_with fail
  go_region_held3 (fun w' => w'.cell? ⟨w.heap.size, 2, none⟩ = some (.int .i64 x.w))
    (first | assumption | (go_keep; done))
    (first
      | (go_at_call 47; with_reducible refine ((unhide G0) _ (by first | exact unhide HT3 | assumption)).mono ?_; rintro e w4 ⟨rfl, hb4⟩; have t4 : Tab w4 := Tab.later (by first | exact unhide HT3 | assumption) hb4; have u2 := cell_later hb4 k2)
      | (go_at_call 47; with_reducible refine ((unhide G3) _ (by first | exact unhide HT3 | assumption)).mono ?_; rintro e w5 ⟨rfl, hb5⟩; have y2 := cell_later hb5 u2))
  have hB4 := (unhide HB3).trans ((lowdrew hb4).mono (unhide HB3).size)
  have HB5 := hide (hB4.trans (hb5.mono hB4.size))
  rw [show A0 ++ { data := #[32] } ++ (A1 ++ { data := #[32] } ++ A2) ++ { data := #[32] } ++ A3 ++ { data := #[10] } = bs (Pl.line x) from (unhide HLB)]
  clear hB4 hb4 hb5 t4 u2 y2 k2
  go_wp2
  go_ret
  exact ⟨rfl, unhide HB5⟩

end Go.Proofs.YtnnnleckoinjoaaDoor

/- The program's Text, walked. -/
namespace Go.Proofs.YtnnnleckoinjoaaDoor
open Go.RowKit
open Pl (It)

set_option maxRecDepth 100000 in
set_option maxHeartbeats 4000000 in
theorem textp_any (b n most : Nat) (live : List Bool) (ed L : List It) (w : World) (hG : PG w b n most live ed) (hL : Pl.GL L live ed) (hl : L.length ≤ 100) (hn : n ≤ 30) (hm : most ≤ 60) (he : Pl.Ends n L) (hw : Pl.WB L) (ht : Tab w) :
    Calls Tryd.prog 21 #[.pointer (some ⟨b, 0, none⟩)] w fun e w' => e = .returned (.string (bs (Pl.text n most L))) ∧ Below w.heap.size w w' := by
  have hbl := hG.blt
  have c0 := hG.c0
  have c1 := hG.c1
  have H1 := hide (fun W hW => itoa_bs n (by omega) (by omega) W hW)
  have H2 := hide (fun W hW => itoa_bs most (by omega) (by omega) W hW)
  have l1 : (bs (Lib.itoa n)).size ≤ 30 := by rw [bs_size]; have := Lib.itoa_length_le n (by omega) (by omega); omega
  have l2 : (bs (Lib.itoa most)).size ≤ 30 := by rw [bs_size]; have := Lib.itoa_length_le most (by omega) (by omega); omega
  have hz : bs (txtTo n most L 0) = bs (Lib.itoa n) ++ bs [32] ++ bs (Lib.itoa most) ++ bs [10] := by
    simp only [bs_append]; rw [txtTo, List.take_zero, List.flatMap_nil, List.append_nil]
  have HZ := hide hz
  clear hz
  have hlz : (txtTo n most L 0).length ≤ 100 := by
    have h1 := Lib.itoa_length_le n (by omega) (by omega)
    have h2 := Lib.itoa_length_le most (by omega) (by omega)
    unfold txtTo
    simp only [List.take_zero, List.flatMap_nil, List.append_nil, List.length_append, List.length_cons, List.length_nil]
    omega
  generalize hA : bs (Lib.itoa n) = A at *
  generalize hB : bs (Lib.itoa most) = B at *
  have HTd : Hid (Tab w.drew) := ht
  have HT := hide ht
  have f1 : ¬ 9223372036854775807 < A.size + 1 := by omega
  have f2 : ¬ 9223372036854775807 < A.size + 1 + B.size := by omega
  have f3 : ¬ 9223372036854775807 < A.size + 1 + B.size + 1 := by omega
  have H0 := hide (And.intro hG (And.intro hL (And.intro he hw)))
  clear hG ht hA hB hL he hw
  go_enter Tryd.func21, Tryd.ntmps21
  go_upto_region 1 with fail
  go_region_held3 (fun w' => w'.cell? ⟨b, 0, none⟩ = some (.int .i64 n) ∧ w'.cell? ⟨b, 1, none⟩ = some (.int .i64 most))
    (first | (refine ⟨?_, ?_⟩ <;> assumption) | (go_keep; done) | (refine ⟨?_, ?_⟩ <;> (refine cell_later hb2 ?_; first | assumption | simp [*])) | (refine ⟨?_, ?_⟩ <;> (refine cell_later hb3 ?_; first | assumption | simp [*])))
    (first
      | (go_at_call 47; with_reducible refine ((unhide H1) _ (by first | exact unhide HTd | assumption)).mono ?_; rintro e w2 ⟨rfl, hb2⟩; have t2 : Tab w2 := Tab.later (by first | exact unhide HTd | assumption) hb2)
      | (go_at_call 47; with_reducible refine ((unhide H2) _ (by first | exact unhide HTd | assumption)).mono ?_; rintro e w3 ⟨rfl, hb3⟩; have t3 : Tab w3 := Tab.later (by first | exact unhide HTd | assumption) hb3))
  have hB3 : Below w.heap.size w w3 := (lowdrew hb2).trans (hb3.mono (lowdrew hb2).size)
  rw [show A ++ { data := #[32] } ++ B ++ { data := #[10] } = bs (txtTo n most L 0) from (unhide HZ).symm]
  have HG3 := hide ((unhide H0).1.later hB3 (Nat.le_refl _))
  have HW3 := hide (And.intro hB3 t3)
  clear hb2 hb3 t2 t3 hB3 HZ H1 H2 l1 l2 f1 f2 f3 HTd HT c0 c1
  go_wp2_with fail
  refine (livep_any b n most live ed _ (unhide HG3)).mono ?_
  rintro e w4 ⟨v, rfl, hN, hb4⟩
  rw [(unhide H0).2.1.marks] at hN
  obtain ⟨a, cap, rfl⟩ := row_form hN
  have hB4 := (unhide HW3).1.trans (hb4.mono (unhide HW3).1.size)
  have hs3 := (unhide HW3).1.size
  have hs4 := hb4.size
  have HW4 := hide (And.intro hB4 (And.intro ((unhide HW3).2.later hb4) hN))
  simp only [List.length_map]
  clear hN hb4 hB4 HW3 HG3
  go_wp2_with fail
  go_loopg [3, 5] (L.length + 1) (fun gk sv iv wr => ∃ k : Nat, k ≤ L.length ∧ iv = .int .i64 k ∧ sv = .string (bs (txtTo n most L k)) ∧ (txtTo n most L k).length ≤ 100 + k * 100 ∧ Below w4.heap.size w4 wr ∧ Tab wr ∧ L.length - k ≤ gk)
  case atStart => exact ⟨0, Nat.zero_le _, rfl, rfl, by omega, Below.refl _ _, (unhide HW4).2.1, by omega⟩
  case round =>
    obtain ⟨k, hk, rfl, rfl, hlen, hBr, hTr, hgk⟩ := hrel
    by_cases hlt : k < L.length
    · obtain ⟨hG, hL, he, hw⟩ := unhide H0
      have hGr := hG.later ((unhide HW4).1.trans (hBr.mono (by omega))) (Nat.le_refl _)
      have hN4 := (unhide HW4).2.2
      simp only [Nums, List.length_map] at hN4
      have hNr := row_below hN4 hBr (Nat.le_refl _)
      obtain ⟨g, rfl⟩ := row_some hNr (by omega)
      have y0 : wr.cell? ⟨g, k, none⟩ = some (.int .i64 L[k].id) := by
        have := nums_cell (l := L.map It.id) (g := g) (cap := cap) (w := wr) (by unfold Nums; rw [List.length_map]; exact hNr) k (by rw [List.length_map]; exact hlt)
        rw [this]; simp
      have hmem := List.getElem_mem hlt
      have hsn := txtTo_snoc n most L k hlt
      obtain ⟨r0, r1⟩ := hL.rng _ hmem
      obtain ⟨e0, e1, e2, e3⟩ := he _ hmem
      obtain ⟨q0, q1⟩ := hw _ hmem
      have hll := line_len L[k] ⟨r0, r1⟩ ⟨e0, by omega, e2, by omega⟩ ⟨q0, q1⟩
      have hed := hL.ed _ hmem
      obtain ⟨x, hx⟩ : ∃ x, x = L[k] := ⟨_, rfl⟩
      rw [← hx] at y0 hsn hll r0 r1 e0 e1 e2 e3 q0 q1 hed
      obtain ⟨i, hi⟩ := Int.eq_ofNat_of_zero_le r0
      rw [hi, Int.toNat_natCast] at hed
      obtain ⟨hil, hie⟩ := List.getElem?_eq_some_iff.1 hed
      obtain ⟨z0, z1, z2⟩ := hGr.ce i hil
      rw [hie] at z0 z1 z2
      have hk0 : (0 : Int) ≤ k := by omega
      have hk1 : (k : Int) < L.length := by omega
      have hi1 : (i : Int) < 100 := by omega
      have HE := hide (fun W hW => edgeLine_any x ⟨r0, r1⟩ ⟨e0, by omega, e2, by omega⟩ ⟨q0, q1⟩ W hW)
      rw [hi] at y0 HE
      have ml : (bs (Pl.line x)).size ≤ 100 := by rw [bs_size]; exact hll
      have ms : (bs (txtTo n most L k)).size ≤ 20000 := by rw [bs_size]; omega
      have hlb : bs (txtTo n most L k) ++ bs (Pl.line x) = bs (txtTo n most L (k + 1)) := by rw [hsn, bs_append]
      have hl2 : (txtTo n most L (k + 1)).length ≤ 100 + (k + 1) * 100 := by rw [hsn, List.length_append]; omega
      have HLB := hide (And.intro hlb hl2)
      have HBr := hide hBr
      have HTr : Hid (Tab wr.drew) := hTr
      clear hG hL he hw hGr hN4 hNr hmem hsn hll hed hil hie hx hlb hl2 hlen hBr hTr r0 r1 e0 e1 e2 e3 q0 q1 hi
      generalize bs (txtTo n most L k) = S at *
      generalize bs (Pl.line x) = A0 at *
      have f0 : ¬ 9223372036854775807 < S.size + A0.size := by omega
      go_upto_region 6 with fail
      have y0d : wr.drew.cell? ⟨g, k, none⟩ = some (.int .i64 i) := y0
      have z0d : wr.drew.cell? ⟨b, 102 + i * 3, none⟩ = some (.int .i64 x.u) := z0
      have z1d : wr.drew.cell? ⟨b, 102 + i * 3 + 1, none⟩ = some (.int .i64 x.v) := z1
      have z2d : wr.drew.cell? ⟨b, 102 + i * 3 + 2, none⟩ = some (.int .i64 x.w) := z2
      go_region_held3 (fun w' => w'.cell? ⟨g, k, none⟩ = some (.int .i64 i) ∧ w'.cell? ⟨b, 102 + i * 3, none⟩ = some (.int .i64 x.u) ∧ w'.cell? ⟨b, 102 + i * 3 + 1, none⟩ = some (.int .i64 x.v) ∧ w'.cell? ⟨b, 102 + i * 3 + 2, none⟩ = some (.int .i64 x.w))
        (first | (refine ⟨?_, ?_, ?_, ?_⟩ <;> assumption) | (go_keep; done))
        (first
          | (go_at_call 48; with_reducible refine ((unhide HE) _ (by first | exact unhide HTr | assumption)).mono ?_; rintro e w2 ⟨rfl, hb2⟩; have t2 : Tab w2 := Tab.later (by first | exact unhide HTr | assumption) hb2; have u0 := cell_later hb2 y0d; have u1 := cell_later hb2 z0d; have u2 := cell_later hb2 z1d; have u3 := cell_later hb2 z2d))
      have hBr := unhide HBr
      have HB2 := hide (hBr.trans ((lowdrew hb2).mono hBr.size))
      have HT2 := hide t2
      rw [show S ++ A0 = bs (txtTo n most L (k + 1)) from (unhide HLB).1]
      have HL2 := hide (unhide HLB).2
      clear hBr hb2 t2 u0 u1 u2 u3 y0 z0 z1 z2 y0d z0d z1d z2d HLB HBr HTr HE f0
      go_wp2
      go_roundg (gk - 1)
      case measure => omega
      case rel => exact ⟨k + 1, by omega, by go_num, rfl, unhide HL2, unhide HB2, unhide HT2, by omega⟩
    · have hkk : k = L.length := by omega
      have hall := txtTo_all n most L k (by omega)
      rw [hall]
      have hkn : ¬ (k : Int) < L.length := by omega
      have hB := (unhide HW4).1.trans (hBr.mono (by omega))
      clear hTr hlen hall
      go_wp2
      go_ret
      exact ⟨rfl, hB⟩

/-- what the program's Text must give -/
theorem textX (s : St) (xb : Nat) (w : World) (h : Ok s) (ht : Tab w) (hx : XG w xb s) : Calls Tryd.prog 21 #[P0 xb] w fun e w' => e = .returned (.string (bs (Pl.text s.n s.most s.L))) ∧ Below w.heap.size w w' :=
  textp_any xb s.n s.most s.live s.ed s.L w hx.pg h.gl h.l100 h.n30 h.m60 h.ends h.wb ht

end Go.Proofs.YtnnnleckoinjoaaDoor
