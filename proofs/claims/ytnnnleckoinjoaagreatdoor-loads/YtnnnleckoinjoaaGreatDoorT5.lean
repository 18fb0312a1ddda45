import Derived.Deep.LoopGhost
import Derived.Deep.RegionHeld3
import Derived.Test.YtnnnleckoinjoaaGreatDoorQ1
import Derived.Test.YtnnnleckoinjoaaGreatDoorT1
/- The program's Text. -/
namespace Go.Proofs.YtnnnleckoinjoaaGreatDoor
open Go.RowKit
open Pl (It)

theorem lowdrew {B : Nat} {w w1 : World} (h : Below B w.drew w1) : Below B w w1 := ⟨h.os, h.tape, h.output, h.size, h.block⟩
theorem line_bs2 (x : It) : bs (Lib.itoa x.id) ++ bs [32] ++ (bs (Lib.itoa x.u) ++ bs [32] ++ bs (Lib.itoa x.v)) ++ bs [32] ++ bs (Lib.itoa x.w) ++ bs [10] = bs (Pl.line x) := by
  unfold Pl.line
  simp only [bs_append, List.append_assoc]

set_option maxRecDepth 100000 in
set_option maxHeartbeats 4000000 in
theorem edgeLine_any (x : It) (hi : 0 ≤ x.id ∧ x.id < 100) (hu : 0 ≤ x.u ∧ x.u < 30 ∧ 0 ≤ x.v ∧ x.v < 30) (hw : -9223372036854775808 ≤ x.w ∧ x.w ≤ 9223372036854775807) (w : World) (ht : Tab w) :
    Calls Tryz.prog 18 #[.int .i64 x.id, .agg #[.int .i64 x.u, .int .i64 x.v, .int .i64 x.w]] w fun e w' => e = .returned (.string (bs (Pl.line x))) ∧ Below w.heap.size w w' := by
  have G0 := hide (fun W hW => itoa_bs x.id (by omega) (by omega) W hW)
  have G1 := hide (fun W hW => itoa_bs x.u (by omega) (by omega) W hW)
  have G2 := hide (fun W hW => itoa_bs x.v (by omega) (by omega) W hW)
  have G3 := hide (fun W hW => itoa_bs x.w hw.1 hw.2 W hW)
  have m0 : (bs (Lib.itoa x.id)).size ≤ 30 := by rw [bs_size]; have := Lib.itoa_length_le x.id (by omega) (by omega); omega
  have m1 : (bs (Lib.itoa x.u)).size ≤ 30 := by rw [bs_size]; have := Lib.itoa_length_le x.u (by omega) (by omega); omega
  have m2 : (bs (Lib.itoa x.v)).size ≤ 30 := by rw [bs_size]; have := Lib.itoa_length_le x.v (by omega) (by omega); omega
  have m3 : (bs (Lib.itoa x.w)).size ≤ 30 := by rw [bs_size]; have := Lib.itoa_length_le x.w hw.1 hw.2; omega
  have HLB := hide (line_bs2 x)
  have hbx := row_new w 51 [.int .i64 x.u, .int .i64 x.v, .int .i64 x.w]
  have x0 := hbx.cell 0 (by simp)
  have x1 := hbx.cell 1 (by simp)
  have x2 := hbx.cell 2 (by simp)
  simp only [List.getElem_cons_zero, List.getElem_cons_succ] at x0 x1 x2
  have hBa : Below w.heap.size w (w.alloc (.cells #[.int .i64 x.u, .int .i64 x.v, .int .i64 x.w] 51)) := (Below.refl _ _).alloc (Nat.le_refl _) _
  have hTa : Tab (w.alloc (.cells #[.int .i64 x.u, .int .i64 x.v, .int .i64 x.w] 51)) := ht.later hBa
  have HTa : Hid (Tab (w.alloc (.cells #[.int .i64 x.u, .int .i64 x.v, .int .i64 x.w] 51)).drew) := hTa
  have HBa := hide hBa
  change World.cell? (w.alloc (.cells #[.int .i64 x.u, .int .i64 x.v, .int .i64 x.w] 51)) _ = _ at x0 x1 x2
  clear hbx hBa hTa ht hi hu hw
  generalize bs (Lib.itoa x.id) = A0 at *
  generalize bs (Lib.itoa x.u) = A1 at *
  generalize bs (Lib.itoa x.v) = A2 at *
  generalize bs (Lib.itoa x.w) = A3 at *
  have f0 : ¬ 9223372036854775807 < A1.size + 1 := by omega
  have f1 : ¬ 9223372036854775807 < A1.size + 1 + A2.size := by omega
  have f2 : ¬ 9223372036854775807 < A0.size + 1 := by omega
  have f3 : ¬ 9223372036854775807 < A0.size + 1 + (A1.size + 1 + A2.size) := by omega
  have f4 : ¬ 9223372036854775807 < A0.size + 1 + (A1.size + 1 + A2.size) + 1 := by omega
  have f5 : ¬ 9223372036854775807 < A0.size + 1 + (A1.size + 1 + A2.size) + 1 + A3.size := by omega
  have f6 : ¬ 9223372036854775807 < A0.size + 1 + (A1.size + 1 + A2.size) + 1 + A3.size + 1 := by omega
  go_enter Tryz.func18, Tryz.ntmps18
  go_upto_region 1 with fail
  generalize (w.alloc (.cells #[.int .i64 x.u, .int .i64 x.v, .int .i64 x.w] 51)) = WA at *
  have i0 : WA.drew.cell? ⟨w.heap.size, 0, none⟩ = some (.int .i64 x.u) := x0
  have i1 : WA.drew.cell? ⟨w.heap.size, 1, none⟩ = some (.int .i64 x.v) := x1
  have i2 : WA.drew.cell? ⟨w.heap.size, 2, none⟩ = some (.int .i64 x.w) := x2
  go_region_held3 (fun w' => w'.cell? ⟨w.heap.size, 0, none⟩ = some (.int .i64 x.u) ∧ w'.cell? ⟨w.heap.size, 1, none⟩ = some (.int .i64 x.v))
    (first | (refine ⟨?_, ?_⟩ <;> assumption) | (go_keep; done))
    (first
      | (go_at_call 16; with_reducible refine ((unhide G1) _ (by first | exact unhide HTa | assumption)).mono ?_; rintro e w2 ⟨rfl, hb2⟩; have t2 : Tab w2 := Tab.later (by first | exact unhide HTa | assumption) hb2; have u0 := cell_later hb2 i0; have u1 := cell_later hb2 i1; have u2 := cell_later hb2 i2)
      | (go_at_call 16; with_reducible refine ((unhide G2) _ (by first | exact unhide HTa | assumption)).mono ?_; rintro e w3 ⟨rfl, hb3⟩; have t3 : Tab w3 := Tab.later t2 hb3; have v0 := cell_later hb3 u0; have v1 := cell_later hb3 u1; have v2 := cell_later hb3 u2))
  have hBa := unhide HBa
  have hB2 := hBa.trans ((lowdrew hb2).mono hBa.size)
  have hB3 := hB2.trans (hb3.mono hB2.size)
  have HB3 := hide hB3
  have HT3 : Hid (Tab w3.drew) := t3
  have k2 : w3.drew.cell? ⟨w.heap.size, 2, none⟩ = some (.int .i64 x.w) := v2
  clear hBa hB2 hB3 hb2 hb3 t2 t3 u0 u1 u2 v0 v1 i0 i1 i2 x0 x1 x2 HBa HTa G1 G2
  go_wp2_with fail
  go_region_held3 (fun w' => w'.cell? ⟨w.heap.size, 2, none⟩ = some (.int .i64 x.w))
    (first | assumption | (go_keep; done))
    (first
      | (go_at_call 16; with_reducible refine ((unhide G0) _ (by first | exact unhide HT3 | assumption)).mono ?_; rintro e w4 ⟨rfl, hb4⟩; have t4 : Tab w4 := Tab.later (by first | exact unhide HT3 | assumption) hb4; have u2 := cell_later hb4 k2)
      | (go_at_call 16; with_reducible refine ((unhide G3) _ (by first | exact unhide HT3 | assumption)).mono ?_; rintro e w5 ⟨rfl, hb5⟩; have y2 := cell_later hb5 u2))
  have hB4 := (unhide HB3).trans ((lowdrew hb4).mono (unhide HB3).size)
  have HB5 := hide (hB4.trans (hb5.mono hB4.size))
  rw [show A0 ++ { data := #[32] } ++ (A1 ++ { data := #[32] } ++ A2) ++ { data := #[32] } ++ A3 ++ { data := #[10] } = bs (Pl.line x) from (unhide HLB)]
  clear hB4 hb4 hb5 t4 u2 y2 k2
  go_wp2
  go_ret
  exact ⟨rfl, unhide HB5⟩

end Go.Proofs.YtnnnleckoinjoaaGreatDoor

/- The program's Text, walked. -/
namespace Go.Proofs.YtnnnleckoinjoaaGreatDoor
open Go.RowKit
open Pl (It)

set_option maxRecDepth 100000 in
set_option maxHeartbeats 4000000 in
theorem textp_any (b n most : Nat) (live : List Bool) (ed L : List It) (w : World) (hG : PG w b n most live ed) (hL : Pl.GL L live ed) (hl : L.length ≤ 100) (hn : n ≤ 30) (hm : most ≤ 60) (he : Pl.Ends n L) (hw : Pl.WB L) (ht : Tab w) :
    Calls Tryz.prog 10 #[.pointer (some ⟨b, 0, none⟩)] w fun e w' => e = .returned (.string (bs (Pl.text n most L))) ∧ Below w.heap.size w w' := by
  have hbl := hG.blt
  have c0 := hG.c0
  have c1 := hG.c1
  have H1 := hide (fun W hW => itoa_bs n (by omega) (by omega) W hW)
  have H2 := hide (fun W hW => itoa_bs most (by omega) (by omega) W hW)
  have l1 : (bs (Lib.itoa n)).size ≤ 30 := by rw [bs_size]; have := Lib.itoa_length_le n (by omega) (by omega); omega
  have l2 : (bs (Lib.itoa most)).size ≤ 30 := by rw [bs_size]; have := Lib.itoa_length_le most (by omega) (by omega); omega
  have hz : bs (txtTo n most L 0) = bs (Lib.itoa n) ++ bs [32] ++ bs (Lib.itoa most) ++ bs [10] := by
    simp only [bs_append]; rw [txtTo, List.take_zero, List.flatMap_nil, List.append_nil]
  have HZ := hide hz
  clear hz
  have hlz : (txtTo n most L 0).length ≤ 100 := by
    have h1 := Lib.itoa_length_le n (by omega) (by omega)
    have h2 := Lib.itoa_length_le most (by omega) (by omega)
    unfold txtTo
    simp only [List.take_zero, List.flatMap_nil, List.append_nil, List.length_append, List.length_cons, List.length_nil]
    omega
  generalize hA : bs (Lib.itoa n) = A at *
  generalize hB : bs (Lib.itoa most) = B at *
  have HTd : Hid (Tab w.drew) := ht
  have HT := hide ht
  have f1 : ¬ 9223372036854775807 < A.size + 1 := by omega
  have f2 : ¬ 9223372036854775807 < A.size + 1 + B.size := by omega
  have f3 : ¬ 9223372036854775807 < A.size + 1 + B.size + 1 := by omega
  have H0 := hide (And.intro hG (And.intro hL (And.intro he hw)))
  clear hG ht hA hB hL he hw
  go_enter Tryz.func10, Tryz.ntmps10
  go_upto_region 1 with fail
  go_region_held3 (fun w' => w'.cell? ⟨b, 0, none⟩ = some (.int .i64 n) ∧ w'.cell? ⟨b, 1, none⟩ = some (.int .i64 most))
    (first | (refine ⟨?_, ?_⟩ <;> assumption) | (go_keep; done) | (refine ⟨?_, ?_⟩ <;> (refine cell_later hb2 ?_; first | assumption | simp [*])) | (refine ⟨?_, ?_⟩ <;> (refine cell_later hb3 ?_; first | assumption | simp [*])))
    (first
      | (go_at_call 16; with_reducible refine ((unhide H1) _ (by first | exact unhide HTd | assumption)).mono ?_; rintro e w2 ⟨rfl, hb2⟩; have t2 : Tab w2 := Tab.later (by first | exact unhide HTd | assumption) hb2)
      | (go_at_call 16; with_reducible refine ((unhide H2) _ (by first | exact unhide HTd | assumption)).mono ?_; rintro e w3 ⟨rfl, hb3⟩; have t3 : Tab w3 := Tab.later (by first | exact unhide HTd | assumption) hb3))
  have hB3 : Below w.heap.size w w3 := (lowdrew hb2).trans (hb3.mono (lowdrew hb2).size)
  rw [show A ++ { data := #[32] } ++ B ++ { data := #[10] } = bs (txtTo n most L 0) from (unhide HZ).symm]
  have HG3 := hide ((unhide H0).1.later hB3 (Nat.le_refl _))
  have HW3 := hide (And.intro hB3 t3)
  clear hb2 hb3 t2 t3 hB3 HZ H1 H2 l1 l2 f1 f2 f3 HTd HT c0 c1
  go_wp2_with fail
  refine (livep_any b n most live ed _ (unhide HG3)).mono ?_
  rintro e w4 ⟨v, rfl, hN, hb4⟩
  rw [(unhide H0).2.1.marks] at hN
  obtain ⟨a, cap, rfl⟩ := row_form hN
  have hB4 := (unhide HW3).1.trans (hb4.mono (unhide HW3).1.size)
  have hs3 := (unhide HW3).1.size
  have hs4 := hb4.size
  have HW4 := hide (And.intro hB4 (And.intro ((unhide HW3).2.later hb4) hN))
  simp only [List.length_map]
  clear hN hb4 hB4 HW3 HG3
  go_wp2_with fail
  go_loopg [3, 5] (L.length + 1) (fun gk sv iv wr => ∃ k : Nat, k ≤ L.length ∧ iv = .int .i64 k ∧ sv = .string (bs (txtTo n most L k)) ∧ (txtTo n most L k).length ≤ 100 + k * 100 ∧ Below w4.heap.size w4 wr ∧ Tab wr ∧ L.length - k ≤ gk)
  case atStart => exact ⟨0, Nat.zero_le _, rfl, rfl, by omega, Below.refl _ _, (unhide HW4).2.1, by omega⟩
  case round =>
    obtain ⟨k, hk, rfl, rfl, hlen, hBr, hTr, hgk⟩ := hrel
    by_cases hlt : k < L.length
    · obtain ⟨hG, hL, he, hw⟩ := unhide H0
      have hGr := hG.later ((unhide HW4).1.trans (hBr.mono (by omega))) (Nat.le_refl _)
      have hN4 := (unhide HW4).2.2
      simp only [Nums, List.length_map] at hN4
      have hNr := row_below hN4 hBr (Nat.le_refl _)
      obtain ⟨g, rfl⟩ := row_some hNr (by omega)
      have y0 : wr.cell? ⟨g, k, none⟩ = some (.int .i64 L[k].id) := by
        have := nums_cell (l := L.map It.id) (g := g) (cap := cap) (w := wr) (by unfold Nums; rw [List.length_map]; exact hNr) k (by rw [List.length_map]; exact hlt)
        rw [this]; simp
      have hmem := List.getElem_mem hlt
      have hsn := txtTo_snoc n most L k hlt
      obtain ⟨r0, r1⟩ := hL.rng _ hmem
      obtain ⟨e0, e1, e2, e3⟩ := he _ hmem
      obtain ⟨q0, q1⟩ := hw _ hmem
      have hll := line_len L[k] ⟨r0, r1⟩ ⟨e0, by omega, e2, by omega⟩ ⟨q0, q1⟩
      have hed := hL.ed _ hmem
      obtain ⟨x, hx⟩ : ∃ x, x = L[k] := ⟨_, rfl⟩
      rw [← hx] at y0 hsn hll r0 r1 e0 e1 e2 e3 q0 q1 hed
      obtain ⟨i, hi⟩ := Int.eq_ofNat_of_zero_le r0
      rw [hi, Int.toNat_natCast] at hed
      obtain ⟨hil, hie⟩ := List.getElem?_eq_some_iff.1 hed
      obtain ⟨z0, z1, z2⟩ := hGr.ce i hil
      rw [hie] at z0 z1 z2
      have hk0 : (0 : Int) ≤ k := by omega
      have hk1 : (k : Int) < L.length := by omega
      have hi1 : (i : Int) < 100 := by omega
      have HE := hide (fun W hW => edgeLine_any x ⟨r0, r1⟩ ⟨e0, by omega, e2, by omega⟩ ⟨q0, q1⟩ W hW)
      rw [hi] at y0 HE
      have ml : (bs (Pl.line x)).size ≤ 100 := by rw [bs_size]; exact hll
      have ms : (bs (txtTo n most L k)).size ≤ 20000 := by rw [bs_size]; omega
      have hlb : bs (txtTo n most L k) ++ bs (Pl.line x) = bs (txtTo n most L (k + 1)) := by rw [hsn, bs_append]
      have hl2 : (txtTo n most L (k + 1)).length ≤ 100 + (k + 1) * 100 := by rw [hsn, List.length_append]; omega
      have HLB := hide (And.intro hlb hl2)
      have HBr := hide hBr
      have HTr : Hid (Tab wr.drew) := hTr
      clear hG hL he hw hGr hN4 hNr hmem hsn hll hed hil hie hx hlb hl2 hlen hBr hTr r0 r1 e0 e1 e2 e3 q0 q1 hi
      generalize bs (txtTo n most L k) = S at *
      generalize bs (Pl.line x) = A0 at *
      have f0 : ¬ 9223372036854775807 < S.size + A0.size := by omega
      go_upto_region 6 with fail
      have y0d : wr.drew.cell? ⟨g, k, none⟩ = some (.int .i64 i) := y0
      have z0d : wr.drew.cell? ⟨b, 102 + i * 3, none⟩ = some (.int .i64 x.u) := z0
      have z1d : wr.drew.cell? ⟨b, 102 + i * 3 + 1, none⟩ = some (.int .i64 x.v) := z1
      have z2d : wr.drew.cell? ⟨b, 102 + i * 3 + 2, none⟩ = some (.int .i64 x.w) := z2
      go_region_held3 (fun w' => w'.cell? ⟨g, k, none⟩ = some (.int .i64 i) ∧ w'.cell? ⟨b, 102 + i * 3, none⟩ = some (.int .i64 x.u) ∧ w'.cell? ⟨b, 102 + i * 3 + 1, none⟩ = some (.int .i64 x.v) ∧ w'.cell? ⟨b, 102 + i * 3 + 2, none⟩ = some (.int .i64 x.w))
        (first | (refine ⟨?_, ?_, ?_, ?_⟩ <;> assumption) | (go_keep; done))
        (first
          | (go_at_call 18; with_reducible refine ((unhide HE) _ (by first | exact unhide HTr | assumption)).mono ?_; rintro e w2 ⟨rfl, hb2⟩; have t2 : Tab w2 := Tab.later (by first | exact unhide HTr | assumption) hb2; have u0 := cell_later hb2 y0d; have u1 := cell_later hb2 z0d; have u2 := cell_later hb2 z1d; have u3 := cell_later hb2 z2d))
      have hBr := unhide HBr
      have HB2 := hide (hBr.trans ((lowdrew hb2).mono hBr.size))
      have HT2 := hide t2
      rw [show S ++ A0 = bs (txtTo n most L (k + 1)) from (unhide HLB).1]
      have HL2 := hide (unhide HLB).2
      clear hBr hb2 t2 u0 u1 u2 u3 y0 z0 z1 z2 y0d z0d z1d z2d HLB HBr HTr HE f0
      go_wp2
      go_roundg (gk - 1)
      case measure => omega
      case rel => exact ⟨k + 1, by omega, by go_num, rfl, unhide HL2, unhide HB2, unhide HT2, by omega⟩
    · have hkk : k = L.length := by omega
      have hall := txtTo_all n most L k (by omega)
      rw [hall]
      have hkn : ¬ (k : Int) < L.length := by omega
      have hB := (unhide HW4).1.trans (hBr.mono (by omega))
      clear hTr hlen hall
      go_wp2
      go_ret
      exact ⟨rfl, hB⟩

/-- what the program's Text must give -/
theorem textX (s : St) (xb : Nat) (w : World) (h : Ok s) (ht : Tab w) (hx : XG w xb s) : Calls Tryz.prog 10 #[P0 xb] w fun e w' => e = .returned (.string (bs (Pl.text s.n s.most s.L))) ∧ Below w.heap.size w w' :=
  textp_any xb s.n s.most s.live s.ed s.L w hx.pg h.gl h.l100 h.n30 h.m60 h.ends h.wb ht

end Go.Proofs.YtnnnleckoinjoaaGreatDoor

/- The program's reading of numbers. -/
namespace Go.Proofs.YtnnnleckoinjoaaGreatDoor
open Go.RowKit
open Pl (It)

set_option maxRecDepth 100000 in
theorem isDigit_any (c : UInt8) (w : World) : Calls Tryz.prog 64 #[.int .u8 c.toNat] w fun e w' => e = .returned (.bool (dig c)) ∧ w = w' := by
  rcases (show (c.toNat : Int) < 48 ∨ ((48 : Int) ≤ c.toNat ∧ (57 : Int) < c.toNat) ∨ ((48 : Int) ≤ c.toNat ∧ (c.toNat : Int) ≤ 57) by omega) with d1 | ⟨d1, d2⟩ | ⟨d1, d2⟩
  · have h : dig c = false := by unfold dig; simp; omega
    rw [h]
    have d3 : ¬ (48 : Int) ≤ c.toNat := by omega
    go_enter Tryz.func64, Tryz.ntmps64
    go_wp2
    go_ret
    exact ⟨rfl, rfl⟩
  · have h : dig c = false := by unfold dig; simp; omega
    rw [h]
    have d3 : ¬ (c.toNat : Int) ≤ 57 := by omega
    go_enter Tryz.func64, Tryz.ntmps64
    go_wp2
    go_ret
    exact ⟨rfl, rfl⟩
  · have h : dig c = true := by unfold dig; simp; omega
    rw [h]
    go_enter Tryz.func64, Tryz.ntmps64
    go_wp2
    go_ret
    exact ⟨rfl, rfl⟩

set_option maxRecDepth 100000 in
set_option maxHeartbeats 4000000 in
theorem readNumber_any (t : List UInt8) (a : Nat) (w : World) (hlt : t.length ≤ 4611686018427387904) (ha : a ≤ t.length + 8) :
    Calls Tryz.prog 28 #[.string (bs t), .int .i64 a] w fun e w' => e = .returned (.tuple #[.int .i64 (rdNum t a).1, .int .i64 ((rdNum t a).2 : Nat)]) ∧ w = w' := by
  have hsz : (bs t).size = t.length := bs_size t
  rcases (show t.length ≤ a ∨ (∃ h : a < t.length, ¬ t[a].toNat = 45) ∨ (∃ h : a < t.length, t[a].toNat = 45) from by
    rcases Nat.lt_or_ge a t.length with h | h
    · by_cases e : t[a].toNat = 45
      · exact Or.inr (Or.inr ⟨h, e⟩)
      · exact Or.inr (Or.inl ⟨h, e⟩)
    · exact Or.inl h) with h1 | ⟨h1, h2⟩ | ⟨h1, h2⟩
  · have hk2 : ¬ (a : Int) < (bs t).size := by omega
    have e1 : t[a]? = none := List.getElem?_eq_none h1
    obtain ⟨R, hR⟩ : ∃ R, rnD (t.drop a) 0 a = R := ⟨_, rfl⟩
    have HR := hide hR
    have HN : Hid (rdNum t a = (wrap64 (-R.1), R.2 + 1)) := by
      show _ = _
      unfold rdNum
      rw [e1, if_neg (by simp), hR]
    clear hR e1
    go_enter Tryz.func28, Tryz.ntmps28
    go_wp2
    go_loopg [1, 7] (t.length + 1) (fun gk av nv wr => ∃ (k : Nat) (v : Int), k ≤ t.length + 8 ∧ av = .int .i64 k ∧ nv = .int .i64 v ∧ Hid (rnD (t.drop k) v k = R) ∧ w = wr ∧ t.length - k ≤ gk)
    case atStart => exact ⟨a, 0, by omega, by go_num, rfl, HR, rfl, by omega⟩
    case round =>
      obtain ⟨k, v, hk, rfl, rfl, hr, rfl, hgk⟩ := hrel
      by_cases hlk : k < t.length
      · have j2 : (k : Int) < (bs t).size := by omega
        have j3 : k < (bs t).size := by omega
        have hcc : (bs t)[k] = t[k] := bs_get t k hlk j3
        have hdr : t.drop k = (bs t)[k] :: t.drop (k + 1) := by rw [hcc]; exact List.drop_eq_getElem_cons hlk
        have hr' := unhide hr
        rw [hdr] at hr'
        have k0 : (0 : Int) ≤ k := by omega
        generalize hce : (bs t)[k] = c at *
        by_cases hd : dig c = true
        · have hr2 : Hid (rnD (t.drop (k + 1)) (wrap64 (wrap64 (v * 10) - ((c.toNat : Int) - 48))) (k + 1) = R) := by
            show _ = _
            rw [← hr', rnD_dig _ _ _ _ hd, Int.mul_comm v 10]
          have hdn : 48 ≤ c.toNat ∧ c.toNat ≤ 57 := by unfold dig at hd; simpa using hd
          have d1 : (48 : Int) ≤ c.toNat := by omega
          have d2 : (c.toNat : Int) ≤ 57 := by omega
          clear hr hr' hdr hcc hdn
          go_wp2_with (go_at_call 64; refine (isDigit_any _ _).mono ?_; rintro e w1 ⟨rfl, rfl⟩; rw [hd])
          go_roundg (gk - 1)
          case measure => omega
          case rel => exact ⟨k + 1, _, by omega, by go_num, rfl, hr2, rfl, by omega⟩
        · have hd' : dig c = false := by simpa using hd
          rw [rnD_end _ _ _ _ hd'] at hr'
          have hN := unhide HN
          rw [← hr'] at hN
          have HN2 := hide hN
          clear hr hr' hdr hcc hN HN HR hd
          go_wp2_with (go_at_call 64; refine (isDigit_any _ _).mono ?_; rintro e w1 ⟨rfl, rfl⟩; rw [hd'])
          go_ret2
          refine ⟨?_, rfl⟩
          rw [unhide HN2]
          go_num
      · have j2 : ¬ (k : Int) < (bs t).size := by omega
        have hr' := unhide hr
        rw [List.drop_of_length_le (by omega), rnD] at hr'
        have hN := unhide HN
        rw [← hr'] at hN
        have HN2 := hide hN
        clear hr hr' hN HN HR
        go_wp2
        go_ret2
        refine ⟨?_, rfl⟩
        rw [unhide HN2]
        go_num
  · have hk2 : (a : Int) < (bs t).size := by omega
    have hk3 : a < (bs t).size := by omega
    have hc : (bs t)[a] = t[a] := bs_get t a h1 hk3
    have hc0 : ¬ (((bs t)[a]).toNat : Int) = 45 := by rw [hc]; omega
    have hbq : ((((bs t)[a]).toNat : Int) == 45) = false := by rw [beq_eq_false_iff_ne]; exact hc0
    have e1 : ¬ t[a]? = some 45 := by
      rw [List.getElem?_eq_getElem h1]
      intro e
      injection e with e
      rw [e] at h2
      exact h2 (by decide)
    obtain ⟨R, hR⟩ : ∃ R, rnD (t.drop a) 0 a = R := ⟨_, rfl⟩
    have HR := hide hR
    have HN : Hid (rdNum t a = (wrap64 (-R.1), R.2 + 1)) := by
      show _ = _
      unfold rdNum
      rw [if_neg e1, hR]
    clear hR e1 hc
    go_enter Tryz.func28, Tryz.ntmps28
    go_wp2
    go_loopg [1, 7] (t.length + 1) (fun gk av nv wr => ∃ (k : Nat) (v : Int), k ≤ t.length + 8 ∧ av = .int .i64 k ∧ nv = .int .i64 v ∧ Hid (rnD (t.drop k) v k = R) ∧ w = wr ∧ t.length - k ≤ gk)
    case atStart => exact ⟨a, 0, by omega, by go_num, rfl, HR, rfl, by omega⟩
    case round =>
      obtain ⟨k, v, hk, rfl, rfl, hr, rfl, hgk⟩ := hrel
      by_cases hlk : k < t.length
      · have j2 : (k : Int) < (bs t).size := by omega
        have j3 : k < (bs t).size := by omega
        have hcc : (bs t)[k] = t[k] := bs_get t k hlk j3
        have hdr : t.drop k = (bs t)[k] :: t.drop (k + 1) := by rw [hcc]; exact List.drop_eq_getElem_cons hlk
        have hr' := unhide hr
        rw [hdr] at hr'
        have k0 : (0 : Int) ≤ k := by omega
        generalize hce : (bs t)[k] = c at *
        by_cases hd : dig c = true
        · have hr2 : Hid (rnD (t.drop (k + 1)) (wrap64 (wrap64 (v * 10) - ((c.toNat : Int) - 48))) (k + 1) = R) := by
            show _ = _
            rw [← hr', rnD_dig _ _ _ _ hd, Int.mul_comm v 10]
          have hdn : 48 ≤ c.toNat ∧ c.toNat ≤ 57 := by unfold dig at hd; simpa using hd
          have d1 : (48 : Int) ≤ c.toNat := by omega
          have d2 : (c.toNat : Int) ≤ 57 := by omega
          clear hr hr' hdr hcc hdn
          go_wp2_with (go_at_call 64; refine (isDigit_any _ _).mono ?_; rintro e w1 ⟨rfl, rfl⟩; rw [hd])
          go_roundg (gk - 1)
          case measure => omega
          case rel => exact ⟨k + 1, _, by omega, by go_num, rfl, hr2, rfl, by omega⟩
        · have hd' : dig c = false := by simpa using hd
          rw [rnD_end _ _ _ _ hd'] at hr'
          have hN := unhide HN
          rw [← hr'] at hN
          have HN2 := hide hN
          clear hr hr' hdr hcc hN HN HR hd
          go_wp2_with (go_at_call 64; refine (isDigit_any _ _).mono ?_; rintro e w1 ⟨rfl, rfl⟩; rw [hd'])
          go_ret2
          refine ⟨?_, rfl⟩
          rw [unhide HN2]
          go_num
      · have j2 : ¬ (k : Int) < (bs t).size := by omega
        have hr' := unhide hr
        rw [List.drop_of_length_le (by omega), rnD] at hr'
        have hN := unhide HN
        rw [← hr'] at hN
        have HN2 := hide hN
        clear hr hr' hN HN HR
        go_wp2
        go_ret2
        refine ⟨?_, rfl⟩
        rw [unhide HN2]
        go_num
  · have hk2 : (a : Int) < (bs t).size := by omega
    have hk3 : a < (bs t).size := by omega
    have hc : (bs t)[a] = t[a] := bs_get t a h1 hk3
    have hc0 : (((bs t)[a]).toNat : Int) = 45 := by rw [hc]; omega
    have e1 : t[a]? = some 45 := by
      rw [List.getElem?_eq_getElem h1]
      congr 1
      exact UInt8.toNat_inj.1 (by rw [h2]; rfl)
    obtain ⟨R, hR⟩ : ∃ R, rnD (t.drop (a + 1)) 0 (a + 1) = R := ⟨_, rfl⟩
    have HR := hide hR
    have HN : Hid (rdNum t a = (R.1, R.2 + 1)) := by
      show _ = _
      unfold rdNum
      rw [if_pos e1, hR]
    clear hR e1 hc
    go_enter Tryz.func28, Tryz.ntmps28
    go_wp2
    go_loopg [1, 7] (t.length + 1) (fun gk av nv wr => ∃ (k : Nat) (v : Int), k ≤ t.length + 8 ∧ av = .int .i64 k ∧ nv = .int .i64 v ∧ Hid (rnD (t.drop k) v k = R) ∧ w = wr ∧ t.length - k ≤ gk)
    case atStart => exact ⟨a + 1, 0, by omega, by go_num, rfl, HR, rfl, by omega⟩
    case round =>
      obtain ⟨k, v, hk, rfl, rfl, hr, rfl, hgk⟩ := hrel
      by_cases hlk : k < t.length
      · have j2 : (k : Int) < (bs t).size := by omega
        have j3 : k < (bs t).size := by omega
        have hcc : (bs t)[k] = t[k] := bs_get t k hlk j3
        have hdr : t.drop k = (bs t)[k] :: t.drop (k + 1) := by rw [hcc]; exact List.drop_eq_getElem_cons hlk
        have hr' := unhide hr
        rw [hdr] at hr'
        have k0 : (0 : Int) ≤ k := by omega
        generalize hce : (bs t)[k] = c at *
        by_cases hd : dig c = true
        · have hr2 : Hid (rnD (t.drop (k + 1)) (wrap64 (wrap64 (v * 10) - ((c.toNat : Int) - 48))) (k + 1) = R) := by
            show _ = _
            rw [← hr', rnD_dig _ _ _ _ hd, Int.mul_comm v 10]
          have hdn : 48 ≤ c.toNat ∧ c.toNat ≤ 57 := by unfold dig at hd; simpa using hd
          have d1 : (48 : Int) ≤ c.toNat := by omega
          have d2 : (c.toNat : Int) ≤ 57 := by omega
          clear hr hr' hdr hcc hdn
          go_wp2_with (go_at_call 64; refine (isDigit_any _ _).mono ?_; rintro e w1 ⟨rfl, rfl⟩; rw [hd])
          go_roundg (gk - 1)
          case measure => omega
          case rel => exact ⟨k + 1, _, by omega, by go_num, rfl, hr2, rfl, by omega⟩
        · have hd' : dig c = false := by simpa using hd
          rw [rnD_end _ _ _ _ hd'] at hr'
          have hN := unhide HN
          rw [← hr'] at hN
          have HN2 := hide hN
          clear hr hr' hdr hcc hN HN HR hd
          go_wp2_with (go_at_call 64; refine (isDigit_any _ _).mono ?_; rintro e w1 ⟨rfl, rfl⟩; rw [hd'])
          go_ret2
          refine ⟨?_, rfl⟩
          rw [unhide HN2]
          go_num
      · have j2 : ¬ (k : Int) < (bs t).size := by omega
        have hr' := unhide hr
        rw [List.drop_of_length_le (by omega), rnD] at hr'
        have hN := unhide HN
        rw [← hr'] at hN
        have HN2 := hide hN
        clear hr hr' hN HN HR
        go_wp2
        go_ret2
        refine ⟨?_, rfl⟩
        rw [unhide HN2]
        go_num

set_option maxRecDepth 100000 in
set_option maxHeartbeats 4000000 in
theorem readEdge_any (t : List UInt8) (a : Nat) (w : World) (hlt : t.length ≤ 4611686018427387904) (ha : a ≤ t.length) :
    Calls Tryz.prog 29 #[.string (bs t), .int .i64 a] w fun e w' => e = .returned (.tuple #[.agg #[.int .i64 (rdEd t a).1.id, .bool true, .int .i64 (rdEd t a).1.u, .int .i64 (rdEd t a).1.v, .int .i64 (rdEd t a).1.w], .int .i64 ((rdEd t a).2 : Nat)]) ∧ Below w.heap.size w w' := by
  have h1 := rdNum_at t a
  have h2 := rdNum_at t (rdNum t a).2
  have h3 := rdNum_at t (rdNum t (rdNum t a).2).2
  have h4 := rdNum_at t (rdNum t (rdNum t (rdNum t a).2).2).2
  have R1 := hide (fun W => readNumber_any t a W hlt (by omega))
  have R2 := hide (fun W => readNumber_any t (rdNum t a).2 W hlt (by omega))
  have R3 := hide (fun W => readNumber_any t (rdNum t (rdNum t a).2).2 W hlt (by omega))
  have R4 := hide (fun W => readNumber_any t (rdNum t (rdNum t (rdNum t a).2).2).2 W hlt (by omega))
  have HE : Hid (rdEd t a = (⟨(rdNum t a).1, (rdNum t (rdNum t a).2).1, (rdNum t (rdNum t (rdNum t a).2).2).1, (rdNum t (rdNum t (rdNum t (rdNum t a).2).2).2).1⟩, (rdNum t (rdNum t (rdNum t (rdNum t a).2).2).2).2)) := by
    show _ = _
    rfl
  generalize rdNum t (rdNum t (rdNum t (rdNum t a).2).2).2 = n4 at *
  generalize rdNum t (rdNum t (rdNum t a).2).2 = n3 at *
  generalize rdNum t (rdNum t a).2 = n2 at *
  generalize rdNum t a = n1 at *
  obtain ⟨v1, a1⟩ := n1
  obtain ⟨v2, a2⟩ := n2
  obtain ⟨v3, a3⟩ := n3
  obtain ⟨v4, a4⟩ := n4
  simp only at R1 R2 R3 R4 HE h1 h2 h3 h4
  clear h1 h2 h3 h4
  go_enter Tryz.func29, Tryz.ntmps29
  go_wp2_with (first
    | (go_at_call 28; with_reducible refine ((unhide R1) _).mono ?_; rintro e q ⟨rfl, rfl⟩)
    | (go_at_call 28; with_reducible refine ((unhide R2) _).mono ?_; rintro e q ⟨rfl, rfl⟩)
    | (go_at_call 28; with_reducible refine ((unhide R3) _).mono ?_; rintro e q ⟨rfl, rfl⟩)
    | (go_at_call 28; with_reducible refine ((unhide R4) _).mono ?_; rintro e q ⟨rfl, rfl⟩))
  refine bodyPost_ret (v := .tuple #[.agg #[.int .i64 v1, .bool true, .int .i64 v2, .int .i64 v3, .int .i64 v4], .int .i64 (a4 : Nat)]) (by simp [results, Tryz.results29, go_sem]) rfl ?_
  rw [unhide HE]
  exact ⟨rfl, (Below.refl _ _).alloc (Nat.le_refl _) _⟩

end Go.Proofs.YtnnnleckoinjoaaGreatDoor

/- The program's Load. -/
namespace Go.Proofs.YtnnnleckoinjoaaGreatDoor
open Go.RowKit
open Pl (It)

/-- what the program's Load gives -/
def LoadPr (t : List UInt8) (w : World) : Ending → World → Prop := fun e w' => Below w.heap.size w w' ∧
  ((∃ s xb, Ok s ∧ s.past = [] ∧ 1 ≤ s.most ∧ t = Pl.text s.n s.most s.L ∧ e = .returned (.tuple #[P0 xb, .int .i64 0]) ∧ w.heap.size ≤ xb ∧ XG w' xb s) ∨
   ((∀ n most L, Gv n most L → t ≠ Pl.text n most L) ∧ e = .returned (.tuple #[.pointer none, .int .i64 9])))
theorem Ok.gv {s : St} (h : Ok s) (hm : 1 ≤ s.most) : Gv s.n s.most s.L := ⟨h.n1, h.n30, hm, h.m60, h.gl.ids, h.gl.rng, h.ends, h.wb, h.len⟩
theorem Fr.lowT {S : Nat → Prop} {w w' : World} {B : Nat} (h : Fr S w w') (hB : B ≤ w.heap.size) (hS : ∀ k, S k → B ≤ k) : Below B w w' :=
  ⟨h.os, h.tape, h.output, h.size, fun k hk => h.block k (by omega) fun hs => by have := hS k hs; omega⟩

/-- the state behind an edge that was read -/
def putSt (s : St) (i : Nat) (u v wt : Int) : St := ⟨s.n, s.most, Pl.withI s.L ⟨i, u, v, wt⟩, s.live.set i true, s.ed.set i ⟨i, u, v, wt⟩, s.past, s.sl⟩
theorem Ok.put {s : St} (h : Ok s) (hp : s.past = []) (i : Nat) (u v wt : Int) (h1 : Pl.numB (i : Int) = true) (h2 : Pl.verB s.n u = true) (h3 : Pl.verB s.n v = true) (h4 : Pl.has s.L (i : Int) = false) (h5 : s.L.length < s.most) (hw0 : -9223372036854775808 ≤ wt) (hw1 : wt ≤ 9223372036854775807) : Ok (putSt s i u v wt) := by
  obtain ⟨i0, i1⟩ := Pl.numB_true.1 h1
  obtain ⟨u0, u1⟩ := Pl.verB_true.1 h2
  obtain ⟨v0, v1⟩ := Pl.verB_true.1 h3
  have hll := Pl.with_len_eq s.L ⟨i, u, v, wt⟩ h4
  have hgl : Pl.GL (Pl.withI s.L ⟨i, u, v, wt⟩) (s.live.set i true) (s.ed.set i ⟨i, u, v, wt⟩) := by
    have := h.gl.with ⟨i, u, v, wt⟩ h4 i0 i1 h.ll h.le
    simpa using this
  refine ⟨h.n1, h.n30, h.m60, ?_, Pl.with_ends h.ends ⟨u0, u1, v0, v1⟩, ?_, h.past, hgl, by rw [putSt, List.length_set]; exact h.ll, by rw [putSt, List.length_set]; exact h.le, eid_set h.eid i _ rfl, h.sll, ?_⟩
  · show (Pl.withI s.L ⟨i, u, v, wt⟩).length ≤ s.most
    omega
  · intro e hee
    rcases (Pl.mem_with h4).1 hee with e1 | e1
    · subst e1; exact ⟨hw0, hw1⟩
    · exact h.wb e e1
  · show PastOk _ _ (s.sl.take s.past.length).reverse s.past.reverse _ _ _
    rw [hp]
    simp [PastOk]

/-- while Load reads -/
structure Rdg (t : List UInt8) (w wr : World) (xb : Nat) (s : St) (k : Nat) : Prop where
  ok : Ok s
  past : s.past = []
  m1 : 1 ≤ s.most
  x : XG wr xb s
  at' : At t s.n s.most s.L k
  low : Below w.heap.size w wr
  xl : w.heap.size ≤ xb

theorem newCode_ex (n most : Nat) (L : List It) (id u v : Int) : (Pl.numB id = true ∧ Pl.verB n u = true ∧ Pl.verB n v = true ∧ Pl.has L id = false ∧ L.length < most) ∨ ∃ code, ¬ code = 0 ∧ NewCode n most L id u v code := by
  unfold NewCode
  by_cases h1 : Pl.numB id = true
  · by_cases h2 : Pl.verB n u = true
    · by_cases h3 : Pl.verB n v = true
      · by_cases h4 : Pl.has L id = true
        · exact Or.inr ⟨4, by decide, Or.inr (Or.inr (Or.inr (Or.inl ⟨h1, h2, h3, h4, rfl⟩)))⟩
        · have h4 : Pl.has L id = false := by simpa using h4
          rcases Nat.lt_or_ge L.length most with h5 | h5
          · exact Or.inl ⟨h1, h2, h3, h4, h5⟩
          · exact Or.inr ⟨5, by decide, Or.inr (Or.inr (Or.inr (Or.inr ⟨h1, h2, h3, h4, h5, rfl⟩)))⟩
      · have h3 : Pl.verB n v = false := by simpa using h3
        exact Or.inr ⟨3, by decide, Or.inr (Or.inr (Or.inl ⟨h1, h2, h3, rfl⟩))⟩
    · have h2 : Pl.verB n u = false := by simpa using h2
      exact Or.inr ⟨3, by decide, Or.inr (Or.inl ⟨h1, h2, rfl⟩)⟩
  · have h1 : Pl.numB id = false := by simpa using h1
    exact Or.inr ⟨2, by decide, Or.inl ⟨h1, rfl⟩⟩

set_option maxRecDepth 100000 in
set_option maxHeartbeats 4000000 in
theorem loadp_any (t : List UInt8) (w : World) (hlt : t.length ≤ 4611686018427387904) (ht : Tab w) : Calls Tryz.prog 14 #[.string (bs t)] w (LoadPr t w) := by
  have hsz : (bs t).size = t.length := bs_size t
  have b1 := rdNum_at t 0
  have b2 := rdNum_at t (rdNum t 0).2
  have R1 := hide (fun W => readNumber_any t 0 W hlt (by omega))
  simp only [Int.natCast_zero] at R1
  have R2 := hide (fun W => readNumber_any t (rdNum t 0).2 W hlt (by omega))
  have HT := hide ht
  clear ht
  have hst := @At.start t
  have hno := @NoG.start t
  obtain ⟨n1, e1⟩ : ∃ n1, n1 = rdNum t 0 := ⟨_, rfl⟩
  rw [← e1] at b1 b2 R1 R2 hst hno
  obtain ⟨n2, e2⟩ : ∃ n2, n2 = rdNum t n1.2 := ⟨_, rfl⟩
  rw [← e2] at b2 R2 hst hno
  clear e1 e2
  obtain ⟨v1, a1⟩ := n1
  obtain ⟨v2, a2⟩ := n2
  simp only at b1 b2 R1 R2 hst hno
  by_cases hnew : ¬ (1 ≤ v1 ∧ v1 ≤ 30 ∧ 1 ≤ v2 ∧ v2 ≤ 60)
  · have HN := hide (hno hnew)
    have HC := hide (newp_no v1 v2 w hnew)
    clear hst hno hnew
    go_enter Tryz.func14, Tryz.ntmps14
    go_wp2_with (first
      | (go_at_call 28; with_reducible refine ((unhide R1) _).mono ?_; rintro e q ⟨rfl, rfl⟩)
      | (go_at_call 28; with_reducible refine ((unhide R2) _).mono ?_; rintro e q ⟨rfl, rfl⟩)
      | (go_at_call 25; with_reducible refine (unhide HC).mono ?_; rintro e q ⟨rfl, rfl⟩))
    go_ret2
    exact ⟨Below.refl _ _, Or.inr ⟨unhide HN, rfl⟩⟩
  obtain ⟨u1, u2, u3, u4⟩ := Classical.not_not.1 hnew
  clear hnew hno
  obtain ⟨n, rfl⟩ := Int.eq_ofNat_of_zero_le (show 0 ≤ v1 by omega)
  obtain ⟨most, rfl⟩ := Int.eq_ofNat_of_zero_le (show 0 ≤ v2 by omega)
  have HS := hide (hst (n := n) (most := most) rfl rfl)
  have HC := hide (newX_ok n most w (by omega) (by omega) (by omega) (by omega))
  clear hst
  go_enter Tryz.func14, Tryz.ntmps14
  go_wp2_with (first
    | (go_at_call 28; with_reducible refine ((unhide R1) _).mono ?_; rintro e q ⟨rfl, rfl⟩)
    | (go_at_call 28; with_reducible refine ((unhide R2) _).mono ?_; rintro e q ⟨rfl, rfl⟩)
    | (go_at_call 25; with_reducible refine (unhide HC).mono ?_; rintro e w1 ⟨rfl, hX1, hB1, hs1⟩))
  have H1 : Hid (Rdg t w w1 w.heap.size (st0 n most) a2) := ⟨ok0 n most (by omega) (by omega) (by omega), rfl, by show 1 ≤ most; omega, hX1, unhide HS, hB1, Nat.le_refl _⟩
  clear hX1 hB1 HS HC R1 R2
  obtain ⟨xb, hxb⟩ : ∃ xb, xb = w.heap.size := ⟨_, rfl⟩
  rw [← hxb] at H1
  go_loopg [5] (t.length + 1) (fun gk av wr => ∃ (k : Nat) (s : St), k ≤ t.length + 8 ∧ av = .int .i64 k ∧ Rdg t w wr w.heap.size s k ∧ t.length - k ≤ gk)
  case atStart => exact ⟨a2, st0 n most, by omega, rfl, by rw [hxb] at H1; exact unhide H1, by omega⟩
  case round =>
    obtain ⟨k, s, hk, rfl, hR, hgk⟩ := hrel
    by_cases hlk : k < t.length
    · have j2 : (k : Int) < (bs t).size := by omega
      have HE := hide (fun W => readEdge_any t k W hlt (by omega))
      have hat := rdEd_at t k (by omega)
      have hnx := hR.at'.next hlk
      have hbd := hR.at'.bad hlk
      have hwr := rdNum_rng t (rdNum t (rdNum t (rdNum t k).2).2).2
      change -9223372036854775808 ≤ (rdEd t k).1.w ∧ (rdEd t k).1.w ≤ 9223372036854775807 at hwr
      generalize rdEd t k = E at *
      obtain ⟨x, k2⟩ := E
      simp only at HE hat hnx hbd hwr
      have HRr := hide hR
      have HK := hide (And.intro hnx (And.intro hbd hwr))
      clear hR hnx hbd hwr
      go_wp2_with (first
        | (go_at_call 29; with_reducible refine ((unhide HE) _).mono ?_; rintro e w2 ⟨rfl, hb2⟩))
      obtain ⟨ok, hpast, hm1, hX, hat', hB, hxl⟩ := unhide HRr
      have hXa : XG (w2.alloc (.cells #[.int .i64 x.id, .bool true, .int .i64 x.u, .int .i64 x.v, .int .i64 x.w] 54)) w.heap.size s := PF.alloc (PF.later hX hb2 (Nat.le_refl _)) _
      have hbx := row_new w2 54 [.int .i64 x.id, .bool true, .int .i64 x.u, .int .i64 x.v, .int .i64 x.w]
      have hB2 := hB.trans (hb2.mono hB.size)
      have hBa : Below w.heap.size w (w2.alloc (.cells #[.int .i64 x.id, .bool true, .int .i64 x.u, .int .i64 x.v, .int .i64 x.w] 54)) := hB2.alloc hB2.size _
      rcases newCode_ex s.n s.most s.L x.id x.u x.v with hgood | ⟨code, hc0, hcode⟩
      · obtain ⟨g1, g2, g3, g4, g5⟩ := hgood
        refine (checkNew_any _ s.n s.most s.live s.ed s.L x.id x.u x.v _ hXa.pg ok.gl 0 (Or.inr ⟨g1, g2, g3, g4, g5, rfl⟩)).mono ?_
        rintro e w3 ⟨rfl, hb3⟩
        obtain ⟨hnx, _, hwr⟩ := unhide HK
        obtain ⟨i0, i1⟩ := Pl.numB_true.1 g1
        obtain ⟨i, hi⟩ := Int.eq_ofNat_of_zero_le i0
        obtain ⟨xi, xu, xv, xw⟩ := x
        simp only at hi i0 i1 g1 g2 g3 g4 hnx hwr hbx hXa hBa HE ⊢
        subst hi
        have hX3 : XG w3 w.heap.size s := PF.later hXa hb3 (Nat.le_refl _)
        have hr3 := hbx.later hb3 (by rw [World.size_alloc]; omega)
        have hB3 := hBa.trans (hb3.mono hBa.size)
        have y0 := hr3.cell 0 (by simp)
        have y1 := hr3.cell 1 (by simp)
        have y2 := hr3.cell 2 (by simp)
        have y3 := hr3.cell 3 (by simp)
        have y4 := hr3.cell 4 (by simp)
        simp only [List.getElem_cons_zero, List.getElem_cons_succ] at y0 y1 y2 y3 y4
        have HP := hide (put_any w.heap.size s.n s.most s.live s.ed (pcells s.sl s.past.length) i true ⟨i, xu, xv, xw⟩ w3 hX3 (by omega))
        have HO := hide (ok.put hpast i xu xv xw g1 g2 g3 g4 g5 hwr.1 hwr.2)
        have H5 := hide (And.intro hpast (And.intro hm1 (And.intro hnx hB3)))
        clear ok hpast hm1 hX hat' hB hxl hXa hbx hB2 hBa hb2 hb3 hX3 hr3 hB3 hnx hwr g1 g2 g3 g4 g5 HRr HK HE
        go_wp2_with (first
          | (go_at_call 31; refine (unhide HP).mono ?_; rintro e w4 ⟨rfl, hP4, hF4⟩))
        obtain ⟨hpast, hm1, hnx, hB3⟩ := unhide H5
        have hB4 := hB3.trans (hF4.lowT hB3.size (fun q hq => by omega))
        have H6 : Hid (Rdg t w w4 w.heap.size (putSt s i xu xv xw) k2) := ⟨unhide HO, hpast, hm1, hP4, hnx, hB4, Nat.le_refl _⟩
        clear hP4 hF4 hpast hm1 hnx hB3 hB4 H5 HO HP y0 y1 y2 y3 y4
        go_roundg (gk - 1)
        case measure => omega
        case rel => exact ⟨k2, putSt s i xu xv xw, by omega, rfl, unhide H6, by omega⟩
      · refine (checkNew_any _ s.n s.most s.live s.ed s.L x.id x.u x.v _ hXa.pg ok.gl code (Or.inl hcode)).mono ?_
        rintro e w3 ⟨rfl, hb3⟩
        have HB3 := hide (hBa.trans (hb3.mono hBa.size))
        have HN : Hid (NoG t) := (unhide HK).2.1 (by unfold NewCode at hcode; rintro ⟨g1, g2, g3, g4, g5⟩; rw [g1, g2, g3, g4] at hcode; simp at hcode; omega)
        clear ok hpast hm1 hX hat' hB hxl hXa hbx hB2 hBa hb2 hb3 HRr HK HE hcode
        go_wp2
        go_ret2
        exact ⟨unhide HB3, Or.inr ⟨unhide HN, rfl⟩⟩
    · have j2 : ¬ (k : Int) < (bs t).size := by omega
      obtain ⟨ok, hpast, hm1, hX, hat', hB, hxl⟩ := hR
      have HX := hide (textX s w.heap.size wr ok ((unhide HT).later hB) hX)
      have H5 := hide (And.intro ok (And.intro hpast (And.intro hm1 (And.intro hX (And.intro hat' hB)))))
      clear ok hpast hm1 hX hat' hB
      go_wp2_with fail
      refine (unhide HX).mono ?_
      rintro e w3 ⟨rfl, hb3⟩
      obtain ⟨ok, hpast, hm1, hX, hat', hB⟩ := unhide H5
      have hB3 := hB.trans (hb3.mono hB.size)
      by_cases heq : Pl.text s.n s.most s.L = t
      · have HF : Hid (LoadPr t w (.returned (.tuple #[P0 w.heap.size, .int .i64 0])) w3) := ⟨hB3, Or.inl ⟨s, _, ok, hpast, hm1, heq.symm, rfl, Nat.le_refl _, PF.later hX hb3 (Nat.le_refl _)⟩⟩
        rw [heq]
        clear ok hpast hm1 hX hat' hB hB3 hb3 HX H5 heq
        go_wp2
        go_ret2
        exact unhide HF
      · have hbn : ((bs (Pl.text s.n s.most s.L)).toList == (bs t).toList) = false := by
          rw [bs_toList, bs_toList, beq_eq_false_iff_ne]; exact heq
        have HF : Hid (LoadPr t w (.returned (.tuple #[.pointer none, .int .i64 9])) w3) := ⟨hB3, Or.inr ⟨hat'.done (by omega) (fun e => heq e.symm), rfl⟩⟩
        clear ok hpast hm1 hX hat' hB hB3 hb3 HX H5 heq
        go_wp2
        go_ret2
        exact unhide HF

end Go.Proofs.YtnnnleckoinjoaaGreatDoor
