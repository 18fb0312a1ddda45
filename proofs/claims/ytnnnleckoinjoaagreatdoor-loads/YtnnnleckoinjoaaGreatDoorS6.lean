import Derived.Deep.LoopGhost
import Derived.Deep.RegionHeld3
import Derived.Test.YtnnnleckoinjoaaGreatDoorRAll
import Derived.Test.YtnnnleckoinjoaaGreatDoorT1
/- The reference's Text, walked. -/
namespace Go.Proofs.YtnnnleckoinjoaaGreatDoor
open Go.RowKit
open Pl (It)

set_option maxRecDepth 100000 in
set_option maxHeartbeats 4000000 in
theorem textr_any (b n most : Nat) (L : List It) (past : List (List It)) (p : Option Nat) (w : World) (hG : RG w b n most L past p) (hL : L.length ≤ 100) (hn : n ≤ 30) (hm : most ≤ 60) (he : Pl.Ends n L) (hr : Pl.Rng L) (hw : Pl.WB L) (ht : Tab w) :
    Calls Tryz.prog 24 #[.pointer (some ⟨b, 0, none⟩)] w fun e w' => e = .returned (.string (bs (Pl.text n most L))) ∧ Below w.heap.size w w' := by
  obtain ⟨a, cap, vP, c0, c1, c2, c3, hI, hbl⟩ := rg_open hG
  have H1 := hide (fun W hW => itoa_bs n (by omega) (by omega) W hW)
  have H2 := hide (fun W hW => itoa_bs most (by omega) (by omega) W hW)
  have l1 : (bs (Lib.itoa n)).size ≤ 30 := by rw [bs_size]; have := Lib.itoa_length_le n (by omega) (by omega); omega
  have l2 : (bs (Lib.itoa most)).size ≤ 30 := by rw [bs_size]; have := Lib.itoa_length_le most (by omega) (by omega); omega
  have hz : bs (txtTo n most L 0) = bs (Lib.itoa n) ++ bs [32] ++ bs (Lib.itoa most) ++ bs [10] := by
    simp only [bs_append]; rw [txtTo, List.take_zero, List.flatMap_nil, List.append_nil]
  have HZ := hide hz
  clear hz
  have hlz : (txtTo n most L 0).length ≤ 100 := by
    have h1 := Lib.itoa_length_le n (by omega) (by omega)
    have h2 := Lib.itoa_length_le most (by omega) (by omega)
    unfold txtTo
    simp only [List.take_zero, List.flatMap_nil, List.append_nil, List.length_append, List.length_cons, List.length_nil]
    omega
  generalize hA : bs (Lib.itoa n) = A at *
  generalize hB : bs (Lib.itoa most) = B at *
  have HTd : Hid (Tab w.drew) := ht
  have HT := hide ht
  have f1 : ¬ 9223372036854775807 < A.size + 1 := by omega
  have f2 : ¬ 9223372036854775807 < A.size + 1 + B.size := by omega
  have f3 : ¬ 9223372036854775807 < A.size + 1 + B.size + 1 := by omega
  have H0 := hide (And.intro hI (And.intro he (And.intro hr hw)))
  clear hG ht hA hB hI he hr hw
  go_enter Tryz.func24, Tryz.ntmps24
  go_upto_region 1 with fail
  go_region_held3 (fun w' => w'.cell? ⟨b, 0, none⟩ = some (.int .i64 n) ∧ w'.cell? ⟨b, 1, none⟩ = some (.int .i64 most))
    (first | (refine ⟨?_, ?_⟩ <;> assumption) | (go_keep; done) | (refine ⟨?_, ?_⟩ <;> (refine cell_later hb2 ?_; first | assumption | simp [*])) | (refine ⟨?_, ?_⟩ <;> (refine cell_later hb3 ?_; first | assumption | simp [*])))
    (first
      | (go_at_call 16; with_reducible refine ((unhide H1) _ (by first | exact unhide HTd | assumption)).mono ?_; rintro e w2 ⟨rfl, hb2⟩; have t2 : Tab w2 := Tab.later (by first | exact unhide HTd | assumption) hb2)
      | (go_at_call 16; with_reducible refine ((unhide H2) _ (by first | exact unhide HTd | assumption)).mono ?_; rintro e w3 ⟨rfl, hb3⟩; have t3 : Tab w3 := Tab.later (by first | exact unhide HTd | assumption) hb3))
  have hB3 : Below w.heap.size w w3 := (undrew hb2).trans (hb3.mono (undrew hb2).size)
  rw [show A ++ { data := #[32] } ++ B ++ { data := #[10] } = bs (txtTo n most L 0) from (unhide HZ).symm]
  have HW3 := hide (And.intro hB3 t3)
  clear hb2 hb3 t2 t3 hB3 HZ H1 H2 l1 l2 f1 f2 f3 HTd HT
  go_wp2_with fail
  go_loopg [3, 4] (L.length + 1) (fun gk sv iv wr => ∃ k : Nat, k ≤ L.length ∧ iv = .int .i64 k ∧ sv = .string (bs (txtTo n most L k)) ∧ (txtTo n most L k).length ≤ 100 + k * 100 ∧ Below w.heap.size w wr ∧ Tab wr ∧ L.length - k ≤ gk)
  case atStart => exact ⟨0, Nat.zero_le _, rfl, rfl, by omega, (unhide HW3).1, (unhide HW3).2, by omega⟩
  case round =>
    obtain ⟨k, hk, rfl, rfl, hlen, hBr, hTr, hgk⟩ := hrel
    have d2 := (hBr.cell (p := ⟨b, 2, none⟩) hbl).trans c2
    by_cases hlt : k < L.length
    · obtain ⟨hI, he, hr, hw⟩ := unhide H0
      have hIr := row_below hI hBr (Nat.le_refl _)
      obtain ⟨g, rfl⟩ := row_some hIr (by omega)
      obtain ⟨y0, y1, y2, y3⟩ := its_cells hIr k hlt
      have hk0 : (0 : Int) ≤ k := by omega
      have hk1 : (k : Int) < L.length := by omega
      have hmem := List.getElem_mem hlt
      have hsn := txtTo_snoc n most L k hlt
      obtain ⟨r0, r1⟩ := hr _ hmem
      obtain ⟨e0, e1, e2, e3⟩ := he _ hmem
      obtain ⟨q0, q1⟩ := hw _ hmem
      have hll := line_len L[k] ⟨r0, r1⟩ ⟨e0, by omega, e2, by omega⟩ ⟨q0, q1⟩
      have hlb := line_bs (txtTo n most L k) L[k]
      obtain ⟨x, hx⟩ : ∃ x, x = L[k] := ⟨_, rfl⟩
      rw [← hx] at y0 y1 y2 y3 hsn hll hlb r0 r1 e0 e1 e2 e3 q0 q1
      rw [← hsn] at hlb
      have hl2 : (txtTo n most L (k + 1)).length ≤ 100 + (k + 1) * 100 := by rw [hsn, List.length_append]; omega
      have G0 := hide (fun W hW => itoa_bs x.id (by omega) (by omega) W hW)
      have G1 := hide (fun W hW => itoa_bs x.u (by omega) (by omega) W hW)
      have G2 := hide (fun W hW => itoa_bs x.v (by omega) (by omega) W hW)
      have G3 := hide (fun W hW => itoa_bs x.w q0 q1 W hW)
      have m0 : (bs (Lib.itoa x.id)).size ≤ 30 := by rw [bs_size]; have := Lib.itoa_length_le x.id (by omega) (by omega); omega
      have m1 : (bs (Lib.itoa x.u)).size ≤ 30 := by rw [bs_size]; have := Lib.itoa_length_le x.u (by omega) (by omega); omega
      have m2 : (bs (Lib.itoa x.v)).size ≤ 30 := by rw [bs_size]; have := Lib.itoa_length_le x.v (by omega) (by omega); omega
      have m3 : (bs (Lib.itoa x.w)).size ≤ 30 := by rw [bs_size]; have := Lib.itoa_length_le x.w q0 q1; omega
      have ms : (bs (txtTo n most L k)).size ≤ 20000 := by rw [bs_size]; omega
      have HLB := hide (And.intro hlb hl2)
      have hbx := heap_alloc_new wr (.cells #[.int .i64 x.id, .int .i64 x.u, .int .i64 x.v, .int .i64 x.w] 97)
      obtain ⟨x0, x1, x2, x3, _⟩ := four_cells hbx
      have hBa := hBr.alloc hBr.size (.cells #[.int .i64 x.id, .int .i64 x.u, .int .i64 x.v, .int .i64 x.w] 97)
      have hTa : Tab (wr.alloc (.cells #[.int .i64 x.id, .int .i64 x.u, .int .i64 x.v, .int .i64 x.w] 97)) := hTr.later ((Below.refl _ _).alloc (Nat.le_refl _) _)
      have HTa : Hid (Tab (wr.alloc (.cells #[.int .i64 x.id, .int .i64 x.u, .int .i64 x.v, .int .i64 x.w] 97)).drew) := hTa
      have HBa := hide hBa
      clear hI he hr hw hIr hmem hsn hll hlb hx hl2 hlen hBr hTr hbx hBa hTa r0 r1 e0 e1 e2 e3 q0 q1 HW3
      generalize bs (txtTo n most L k) = S at *
      generalize bs (Lib.itoa x.id) = A0 at *
      generalize bs (Lib.itoa x.u) = A1 at *
      generalize bs (Lib.itoa x.v) = A2 at *
      generalize bs (Lib.itoa x.w) = A3 at *
      have f0 : ¬ 9223372036854775807 < S.size + A0.size := by omega
      have f1 : ¬ 9223372036854775807 < S.size + A0.size + 1 := by omega
      have f2 : ¬ 9223372036854775807 < S.size + A0.size + 1 + A1.size := by omega
      have f3 : ¬ 9223372036854775807 < S.size + A0.size + 1 + A1.size + 1 := by omega
      have f4 : ¬ 9223372036854775807 < S.size + A0.size + 1 + A1.size + 1 + A2.size := by omega
      have f5 : ¬ 9223372036854775807 < S.size + A0.size + 1 + A1.size + 1 + A2.size + 1 := by omega
      have f6 : ¬ 9223372036854775807 < S.size + A0.size + 1 + A1.size + 1 + A2.size + 1 + A3.size := by omega
      have f7 : ¬ 9223372036854775807 < S.size + A0.size + 1 + A1.size + 1 + A2.size + 1 + A3.size + 1 := by omega
      go_upto_region 6 with fail
      generalize (wr.alloc (.cells #[.int .i64 x.id, .int .i64 x.u, .int .i64 x.v, .int .i64 x.w] 97)) = WA at *
      generalize wr.heap.size = gx at *
      have i0 : WA.drew.cell? ⟨gx, 0, none⟩ = some (.int .i64 x.id) := x0
      have i1 : WA.drew.cell? ⟨gx, 1, none⟩ = some (.int .i64 x.u) := x1
      have i2 : WA.drew.cell? ⟨gx, 2, none⟩ = some (.int .i64 x.v) := x2
      have i3 : WA.drew.cell? ⟨gx, 3, none⟩ = some (.int .i64 x.w) := x3
      clear y0 y1 y2 y3 d2
      go_region_held3 (fun w' => w'.cell? ⟨gx, 0, none⟩ = some (.int .i64 x.id) ∧ w'.cell? ⟨gx, 1, none⟩ = some (.int .i64 x.u) ∧ w'.cell? ⟨gx, 2, none⟩ = some (.int .i64 x.v) ∧ w'.cell? ⟨gx, 3, none⟩ = some (.int .i64 x.w))
        (first | (refine ⟨?_, ?_, ?_, ?_⟩ <;> assumption) | (go_keep; done))
        (first
          | (go_at_call 16; with_reducible refine ((unhide G0) _ (by first | exact unhide HTa | assumption)).mono ?_; rintro e w2 ⟨rfl, hb2⟩; have t2 : Tab w2 := Tab.later (by first | exact unhide HTa | assumption) hb2; have u0 := cell_later hb2 i0; have u1 := cell_later hb2 i1; have u2 := cell_later hb2 i2; have u3 := cell_later hb2 i3)
          | (go_at_call 16; with_reducible refine ((unhide G1) _ (by first | exact unhide HTa | assumption)).mono ?_; rintro e w3 ⟨rfl, hb3⟩; have t3 : Tab w3 := Tab.later t2 hb3; have v0 := cell_later hb3 u0; have v1 := cell_later hb3 u1; have v2 := cell_later hb3 u2; have v3 := cell_later hb3 u3)
          | (go_at_call 16; with_reducible refine ((unhide G2) _ (by first | exact unhide HTa | assumption)).mono ?_; rintro e w4 ⟨rfl, hb4⟩; have t4 : Tab w4 := Tab.later t3 hb4; have s0 := cell_later hb4 v0; have s1 := cell_later hb4 v1; have s2 := cell_later hb4 v2; have s3 := cell_later hb4 v3)
          | (go_at_call 16; with_reducible refine ((unhide G3) _ (by first | exact unhide HTa | assumption)).mono ?_; rintro e w5 ⟨rfl, hb5⟩; have t5 : Tab w5 := Tab.later t4 hb5; have z0 := cell_later hb5 s0; have z1 := cell_later hb5 s1; have z2 := cell_later hb5 s2; have z3 := cell_later hb5 s3))
      have hBa := unhide HBa
      have hB2 := hBa.trans ((undrew hb2).mono hBa.size)
      have hB3 := hB2.trans (hb3.mono hB2.size)
      have hB4 := hB3.trans (hb4.mono hB3.size)
      have HB5 := hide (hB4.trans (hb5.mono hB4.size))
      have HT5 := hide t5
      rw [show S ++ A0 ++ { data := #[32] } ++ A1 ++ { data := #[32] } ++ A2 ++ { data := #[32] } ++ A3 ++ { data := #[10] } = bs (txtTo n most L (k + 1)) from (unhide HLB).1]
      have HL2 := hide (unhide HLB).2
      clear hBa hB2 hB3 hB4 hb2 hb3 hb4 hb5 t2 t3 t4 t5 u0 u1 u2 u3 v0 v1 v2 v3 s0 s1 s2 s3 z0 z1 z2 z3 i0 i1 i2 i3 x0 x1 x2 x3 HLB HBa HTa G0 G1 G2 G3 f0 f1 f2 f3 f4 f5 f6 f7
      go_wp2
      go_roundg (gk - 1)
      case measure => omega
      case rel => exact ⟨k + 1, by omega, by go_num, rfl, unhide HL2, unhide HB5, unhide HT5, by omega⟩
    · have hkk : k = L.length := by omega
      have hall := txtTo_all n most L k (by omega)
      rw [hall]
      have hkn : ¬ (k : Int) < L.length := by omega
      clear hTr hlen hall
      go_wp2
      go_ret
      exact ⟨rfl, hBr⟩

end Go.Proofs.YtnnnleckoinjoaaGreatDoor

/- The reference's numbers: those that a text could tell. -/
namespace Go.Proofs.YtnnnleckoinjoaaGreatDoor
open Go.RowKit
open Pl (It)

theorem wpList_append_num2 {ops : Array Oper} {rest : List Oper} {o : Oper} {a : Act} {Q : Exit → Act → World → Prop} (w : World) (hgd : o.guard = none) (s x : Operand)
    (ho : o.op = .call { callee := .builtin .append, args := #[s, x], argTypes := #[58, 58] }) (base : Nat) (v : Value) (l : List Int) (hs : a.eval s = v) (hown : Nums w base v l) (e : Int)
    (hx : a.eval x = .slice (some ⟨w.heap.size, 0, none⟩) 1 1) (hl : l.length ≤ 100000) (hbase : base ≤ w.heap.size)
    (h : ∀ v' w', Nums w' base v' (l ++ [e]) → Below base w w' → wpList Tryz.prog ops Q rest (a.put o.dst v') w') :
    wpList Tryz.prog ops Q (o :: rest) a (w.alloc (.cells #[.int .i64 e] 3)) := by
  obtain ⟨i0, hi, hz0, hz1, hz2⟩ := info_parts info3
  refine wpList_append_own _ hgd s x 58 ho base 3 i0 _ 1 8 Tryz.underlying58 hi hz0 hz1 hz2 rfl (by decide) v l.length (l.map (Value.int .i64)) hs (World.ownsRow.alloc hown _) ⟨w.heap.size, 0, none⟩ 1 1 [.int .i64 e] hx rfl ?_ ?_ ?_ ?_ ?_ ?_
  · intro j u hj
    match j, hj with
    | 0, hj => simp at hj; subst hj; simp [Addr.add]
    | n + 1, hj => simp at hj
  · intro u hu; simp at hu; subst hu; rfl
  · unfold maxLen; omega
  · omega
  · simp; omega
  · intro v' w' h1 h2 _
    refine h v' w' (nums_snoc h1) (((Below.refl _ _).alloc hbase _).grown h2 (by simp; omega) fun k hk => (World.ownsRow.lt hown k hk).1)

set_option maxRecDepth 100000 in
set_option maxHeartbeats 4000000 in
theorem numbers_any (l : List UInt8) (hl : l.length ≤ 2000) (w : World) :
    Calls Tryz.prog 32 #[.string (bs l)] w fun e w' => ∃ v, e = .returned v ∧ Nums w' w.heap.size v (numsL l) ∧ Below w.heap.size w w' := by
  have hsz : (bs l).size = l.length := bs_size l
  go_enter Tryz.func32, Tryz.ntmps32
  go_wp2
  go_loopg [3, 4, 5, 6, 7] l.length (fun gk ov vv bv nv iv wr => ∃ (k : Nat) (r : Rd), k ≤ l.length ∧ Hid (r = rdTo l k) ∧ iv = .int .i64 k ∧ Nums wr w.heap.size ov r.out ∧ vv = .int .i64 r.v ∧ bv = .bool r.below ∧ nv = .bool r.inn ∧ Below w.heap.size w wr ∧ l.length - k ≤ gk)
  case atStart => exact ⟨0, rd0, Nat.zero_le _, hide rfl, rfl, World.ownsRow_nil _ _ _ _, rfl, rfl, rfl, Below.refl _ _, by omega⟩
  case round =>
    obtain ⟨k, r, hk, hr, rfl, hN, rfl, rfl, rfl, hB, hgk⟩ := hrel
    obtain ⟨ro, rv, rb, ri⟩ := r
    simp only at hN
    by_cases hlt : k < l.length
    · have hk0 : (0 : Int) ≤ k := by omega
      have hk1 : (k : Int) < l.length := by omega
      have hk2 : (k : Int) < (bs l).size := by omega
      have HN := hide hN
      have HB := hide hB
      clear hN hB
      go_upto_region 9 with fail
      generalize hc : (bs l)[k] = c
      have hcl : c = l[k] := by rw [← hc]; exact bs_get l k hlt _
      have HC := hide hcl
      clear hc hcl
      by_cases hd : 48 ≤ c.toNat ∧ c.toNat ≤ 57
      · have d1 : (48 : Int) ≤ c.toNat := by omega
        have d2 : (c.toNat : Int) ≤ 57 := by omega
        have HD := hide hd
        clear hd
        cases rb with
        | true =>
          go_wp2
          go_roundg (gk - 1)
          case measure => omega
          case rel =>
            refine ⟨k + 1, ⟨ro, wrap64 (wrap64 (10 * rv) - ((c.toNat : Int) - 48)), true, true⟩, by omega, ?_, by go_num, unhide HN, rfl, rfl, rfl, unhide HB, by omega⟩
            show _ = _
            rw [rdTo_succ l k hlt, ← unhide HC, ← unhide hr]
            unfold rdStep dig
            rw [if_pos (by simpa using unhide HD)]; rfl
        | false =>
          go_wp2
          go_roundg (gk - 1)
          case measure => omega
          case rel =>
            refine ⟨k + 1, ⟨ro, wrap64 (wrap64 (10 * rv) + ((c.toNat : Int) - 48)), false, true⟩, by omega, ?_, by go_num, unhide HN, rfl, rfl, rfl, unhide HB, by omega⟩
            show _ = _
            rw [rdTo_succ l k hlt, ← unhide HC, ← unhide hr]
            unfold rdStep dig
            rw [if_pos (by simpa using unhide HD)]; rfl
      · have HD : Hid (rdStep ⟨ro, rv, rb, ri⟩ c = ⟨if ri then ro ++ [rv] else ro, 0, (c.toNat : Int) == 45, false⟩) := by
          show _ = _
          unfold rdStep dig
          rw [if_neg (by simpa using hd)]
        have hlo : ro.length ≤ 2000 := by
          have h1 := rdTo_len l k hk
          rw [← unhide hr] at h1
          exact Nat.le_trans h1 (by omega)
        have hz := (unhide HB).size
        rcases (show (c.toNat : Int) < 48 ∨ ((48 : Int) ≤ c.toNat ∧ (57 : Int) < c.toNat) by omega) with d1 | ⟨d1, d2⟩
        all_goals
          clear hd
          cases ri with
          | true =>
            have hN := unhide HN
            go_wp2_with (at_builtin; refine wpList_append_num2 wr rfl (.tmp 38) (.tmp 40) rfl w.heap.size _ ro rfl (by exact hN) rv (by rfl) (by omega) (by exact hz) ?_; intro v' w2 hown2 hgrow)
            have HN2 := hide hown2
            have HB2 := hide ((unhide HB).trans hgrow)
            clear hN hown2 hgrow HN HB
            go_roundg (gk - 1)
            case measure => omega
            case rel =>
              refine ⟨k + 1, ⟨ro ++ [rv], 0, (c.toNat : Int) == 45, false⟩, by omega, ?_, by go_num, unhide HN2, rfl, rfl, rfl, unhide HB2, by omega⟩
              show _ = _
              rw [rdTo_succ l k hlt, ← unhide HC, ← unhide hr, unhide HD]; rfl
          | false =>
            go_wp2
            go_roundg (gk - 1)
            case measure => omega
            case rel =>
              refine ⟨k + 1, ⟨ro, 0, (c.toNat : Int) == 45, false⟩, by omega, ?_, by go_num, unhide HN, rfl, rfl, rfl, unhide HB, by omega⟩
              show _ = _
              rw [rdTo_succ l k hlt, ← unhide HC, ← unhide hr, unhide HD]; rfl
    · have hkn : ¬ (k : Int) < (bs l).size := by omega
      have hres : ro = numsL l := by
        have h1 := unhide hr
        unfold rdTo at h1
        rw [List.take_of_length_le (by omega)] at h1
        unfold numsL
        rw [← h1]
      rw [hres] at hN
      clear hr hres
      go_wp2
      go_ret
      exact ⟨_, rfl, hN, hB⟩

end Go.Proofs.YtnnnleckoinjoaaGreatDoor

/- The reference's Load. -/
namespace Go.Proofs.YtnnnleckoinjoaaGreatDoor
open Go.RowKit
open Pl (It)

/-- what Load gives: the graph of which the text tells, or nothing -/
def LoadR (t : List UInt8) (w : World) : Ending → World → Prop := fun e w' => Below w.heap.size w w' ∧
  ((∃ n most L gb, Gv n most L ∧ t = Pl.text n most L ∧ e = .returned (.tuple #[.pointer (some ⟨gb, 0, none⟩), .int .i64 0]) ∧ w.heap.size ≤ gb ∧ RG w' gb n most L [] none) ∨
   ((∀ n most L, Gv n most L → t ≠ Pl.text n most L) ∧ e = .returned (.tuple #[.pointer none, .int .i64 9])))

theorem ins_rw (gb n most : Nat) (L : List It) (past : List (List It)) (p : Option Nat) (id u v wt : Int) (w : World) (hG : RG w gb n most L past p) (hv : Gv n most L) (hp : past.length ≤ 20) :
    ∃ code : Int, (code = 0 ↔ (Pl.numB id = true ∧ Pl.verB n u = true ∧ Pl.verB n v = true ∧ Pl.has L id = false ∧ L.length < most)) ∧
    Calls Tryz.prog 33 #[.pointer (some ⟨gb, 0, none⟩), .int .i64 id, .int .i64 u, .int .i64 v, .int .i64 wt] w fun e w' => ∃ a b : Int, e = .returned (.tuple #[.agg #[.int .i64 a, .int .i64 b], .int .i64 code]) ∧
      (code = 0 → ∃ p', RG w' gb n most (Pl.withI L ⟨id, u, v, wt⟩) (push past L) p' ∧ (p' = p ∨ ∃ k, p' = some k ∧ w.heap.size ≤ k)) ∧ Fr (fun k => k = gb ∨ p = some k) w w' := by
  have hl := hv.len
  have hm := hv.m60
  have no : ∀ code : Int, code ≠ 0 → ((Pl.numB id = false ∧ code = 2) ∨ (Pl.numB id = true ∧ Pl.verB n u = false ∧ code = 3) ∨ (Pl.numB id = true ∧ Pl.verB n u = true ∧ Pl.verB n v = false ∧ code = 3) ∨ (Pl.numB id = true ∧ Pl.verB n u = true ∧ Pl.verB n v = true ∧ Pl.has L id = true ∧ code = 4) ∨
      (Pl.numB id = true ∧ Pl.verB n u = true ∧ Pl.verB n v = true ∧ Pl.has L id = false ∧ most ≤ L.length ∧ code = 5)) →
      Calls Tryz.prog 33 #[.pointer (some ⟨gb, 0, none⟩), .int .i64 id, .int .i64 u, .int .i64 v, .int .i64 wt] w fun e w' => ∃ a b : Int, e = .returned (.tuple #[.agg #[.int .i64 a, .int .i64 b], .int .i64 code]) ∧
      (code = 0 → ∃ p', RG w' gb n most (Pl.withI L ⟨id, u, v, wt⟩) (push past L) p' ∧ (p' = p ∨ ∃ k, p' = some k ∧ w.heap.size ≤ k)) ∧ Fr (fun k => k = gb ∨ p = some k) w w' := fun code h0 hc => by
    refine (insr_no gb n most L past p id u v wt w hG (by omega) code hc).mono ?_
    rintro e w' ⟨rfl, hb⟩
    exact ⟨0, 0, rfl, fun h => absurd h h0, Fr.of_below hb⟩
  cases h1 : Pl.numB id with
  | false => exact ⟨2, ⟨(fun h => absurd h (by decide)), (fun h => by cases h.1)⟩, no 2 (by decide) (Or.inl ⟨h1, rfl⟩)⟩
  | true =>
    cases h2 : Pl.verB n u with
    | false => exact ⟨3, ⟨(fun h => absurd h (by decide)), (fun h => by cases h.2.1)⟩, no 3 (by decide) (Or.inr (Or.inl ⟨h1, h2, rfl⟩))⟩
    | true =>
      cases h3 : Pl.verB n v with
      | false => exact ⟨3, ⟨(fun h => absurd h (by decide)), (fun h => by cases h.2.2.1)⟩, no 3 (by decide) (Or.inr (Or.inr (Or.inl ⟨h1, h2, h3, rfl⟩)))⟩
      | true =>
        cases h4 : Pl.has L id with
        | true => exact ⟨4, ⟨(fun h => absurd h (by decide)), (fun h => by cases h.2.2.2.1)⟩, no 4 (by decide) (Or.inr (Or.inr (Or.inr (Or.inl ⟨h1, h2, h3, h4, rfl⟩))))⟩
        | false =>
          by_cases h5 : L.length < most
          · refine ⟨0, ⟨fun _ => ⟨rfl, rfl, rfl, rfl, h5⟩, fun _ => rfl⟩, ?_⟩
            refine (insr_ok gb n most L past p id u v wt w hG (by omega) hv.n30 hv.ends hp h1 h2 h3 h4 h5).mono ?_
            rintro e w' ⟨rfl, p', hG', hp', hf⟩
            exact ⟨_, _, rfl, fun _ => ⟨p', hG', hp'⟩, hf⟩
          · exact ⟨5, ⟨(fun h => absurd h (by decide)), (fun h => absurd h.2.2.2.2 h5)⟩, no 5 (by decide) (Or.inr (Or.inr (Or.inr (Or.inr ⟨h1, h2, h3, h4, by omega, rfl⟩))))⟩

theorem push_few (past : List (List It)) (L : List It) (h : past.length ≤ 20) : (push past L).length ≤ 20 := by
  unfold push
  split
  · simp; omega
  · rename_i hh; simp at hh ⊢; omega
theorem bs_inj {a b : List UInt8} (h : bs a = bs b) : a = b := by
  have := congrArg (fun x => x.data.toList) h
  simpa [bs] using this
/-- no graph's, by its numbers -/
theorem no_by {t : List UInt8} (h : ∀ n most L, Gv n most L → numsL t ≠ (n : Int) :: (most : Int) :: L.flatMap four) : ∀ n most L, Gv n most L → t ≠ Pl.text n most L := by
  rintro n most L hv rfl
  exact h n most L hv hv.nums

set_option maxRecDepth 100000 in
set_option maxHeartbeats 8000000 in
theorem loadr_any (t : List UInt8) (w : World) (ht : Tab w) : Calls Tryz.prog 15 #[.string (bs t)] w (LoadR t w) := by
  have hsz : (bs t).size = t.length := bs_size t
  by_cases hlen : t.length ≤ 1806
  · have hsz1 : ¬ (1806 : Int) < (bs t).size := by omega
    have HN := hide (numbers_any t (by omega) w)
    obtain ⟨l, hl⟩ : ∃ l, l = numsL t := ⟨_, rfl⟩
    rw [← hl] at HN
    have hrg := nums_rng t
    rw [← hl] at hrg
    have HL := hide (And.intro hl hrg)
    have HT := hide ht
    clear ht hl hrg
    go_enter Tryz.func15, Tryz.ntmps15
    go_wp2_with fail
    refine (unhide HN).mono ?_
    rintro e w1 ⟨v1, rfl, hN1, hB1⟩
    obtain ⟨a1, k1, rfl⟩ := row_form hN1
    have HN1 := hide (And.intro hN1 hB1)
    have hno : (∀ n most L, Gv n most L → l ≠ (n : Int) :: (most : Int) :: L.flatMap four) → LoadR t w (.returned (.tuple #[.pointer none, .int .i64 9])) w1 := fun h => ⟨hB1, Or.inr ⟨no_by (by rw [← (unhide HL).1]; exact h), rfl⟩⟩
    have HNO := hide hno
    clear hN1 hB1 HN hno
    by_cases h2 : l.length < 2
    · have g2 : (l.length : Int) < 2 := by omega
      have HF := hide ((unhide HNO) (fun n most L _ h => by rw [h, List.length_cons, List.length_cons] at h2; omega))
      clear HNO h2
      go_wp2
      go_ret2
      exact unhide HF
    by_cases h4 : ¬ l.length % 4 = 2
    · have g2 : ¬ (l.length : Int) < 2 := by omega
      have g4 : ((l.length : Int) % 4 != 2) = true := by
        rw [bne_iff_ne]; omega
      have HF := hide ((unhide HNO) (fun n most L _ h => by rw [h, List.length_cons, List.length_cons, four_len] at h4; omega))
      clear HNO h4 h2
      go_wp2
      go_ret2
      exact unhide HF
    have h4 := Classical.not_not.1 h4
    have g2 : ¬ (l.length : Int) < 2 := by omega
    have g4 : ((l.length : Int) % 4 != 2) = false := by
      rw [bne_eq_false_iff_eq]; omega
    obtain ⟨g, rfl⟩ := row_some (unhide HN1).1 (by omega)
    have y0 := nums_cell (unhide HN1).1 0 (by omega)
    have y1 := nums_cell (unhide HN1).1 1 (by omega)
    have hgl := (World.ownsRow.lt (unhide HN1).1 g rfl).2
    have k0 : (0 : Int) < l.length := by omega
    have k1' : (1 : Int) < l.length := by omega
    have kn0 : 0 < l.length := by omega
    have kn1 : 1 < l.length := by omega
    have kne : l ≠ [] := by rintro rfl; simp at kn0
    obtain ⟨p0, hp0⟩ : ∃ p0, p0 = l[0]'(by omega) := ⟨_, rfl⟩
    obtain ⟨p1, hp1⟩ : ∃ p1, p1 = l[1]'(by omega) := ⟨_, rfl⟩
    rw [← hp0] at y0
    rw [← hp1] at y1
    have HP := hide (And.intro hp0 hp1)
    clear hp0 hp1
    go_upto_region 6 with fail
    by_cases hnew : ¬ (1 ≤ p0 ∧ p0 ≤ 30 ∧ 1 ≤ p1 ∧ p1 ≤ 60)
    · have HNw := hide (newr_no p0 p1 w1.drew hnew)
      have HF := hide ((unhide HNO) (fun n most L hv h => by
        have e0 := (unhide HP).1
        have e1 := (unhide HP).2
        simp only [h, List.getElem_cons_zero, List.getElem_cons_succ] at e0 e1
        exact hnew ⟨by have := hv.n1; omega, by have := hv.n30; omega, by have := hv.m1; omega, by have := hv.m60; omega⟩))
      clear HNO hnew
      go_region_held3 (fun w' => w'.cell? ⟨g, 0, none⟩ = some (.int .i64 p0) ∧ w'.cell? ⟨g, 1, none⟩ = some (.int .i64 p1))
        (first | (refine ⟨?_, ?_⟩ <;> assumption) | (go_keep; done))
        (first
          | (go_at_call 26; refine (unhide HNw).mono ?_; rintro e w2 ⟨rfl, rfl⟩))
      go_wp2
      go_ret2
      obtain ⟨q1, q2⟩ := unhide HF
      exact ⟨q1.drew, q2⟩
    obtain ⟨u1, u2, u3, u4⟩ := Classical.not_not.1 hnew
    clear hnew
    obtain ⟨n, rfl⟩ := Int.eq_ofNat_of_zero_le (show 0 ≤ p0 by omega)
    obtain ⟨most, rfl⟩ := Int.eq_ofNat_of_zero_le (show 0 ≤ p1 by omega)
    have hgb : w1.drew.heap.size = w1.heap.size := rfl
    have HNw := hide (newr_ok n most w1.drew (by omega) (by omega) (by omega) (by omega))
    clear HNO
    go_region_held3 (fun w' => w'.cell? ⟨g, 0, none⟩ = some (.int .i64 n) ∧ w'.cell? ⟨g, 1, none⟩ = some (.int .i64 most))
      (first | (refine ⟨?_, ?_⟩ <;> assumption) | (go_keep; done))
      (first
        | (go_at_call 26; refine (unhide HNw).mono ?_; rintro e w2 ⟨rfl, rfl⟩; have z0 : (w1.drew.alloc (.cells #[.int .i64 n, .int .i64 most, .slice none 0 0, .slice none 0 0] 79)).cell? ⟨g, 0, none⟩ = some (.int .i64 n) := (by rw [World.cell?_alloc_lt _ _ _ hgl]; exact y0); have z1 : (w1.drew.alloc (.cells #[.int .i64 n, .int .i64 most, .slice none 0 0, .slice none 0 0] 79)).cell? ⟨g, 1, none⟩ = some (.int .i64 most) := (by rw [World.cell?_alloc_lt _ _ _ hgl]; exact y1)))
    obtain ⟨gb, hgbe⟩ : ∃ gb, gb = w1.heap.size := ⟨_, rfl⟩
    have hRG : RG (w1.alloc (.cells #[.int .i64 n, .int .i64 most, .slice none 0 0, .slice none 0 0] 79)).drew gb n most [] [] none := by
      rw [hgbe]
      exact ⟨_, _, heap_alloc_new _ _, World.ownsRow_nil _ _ _ _, Or.inl ⟨rfl, rfl⟩, rfl⟩
    have hBg : Below gb w1 (w1.alloc (.cells #[.int .i64 n, .int .i64 most, .slice none 0 0, .slice none 0 0] 79)).drew := by
      rw [hgbe]; exact ((Below.refl _ _).alloc (Nat.le_refl _) _).drew
    have hSo : Sofar l n most [] 0 := ⟨⟨by omega, by omega, by omega, by omega, List.Pairwise.nil, (fun e h => by cases h), (fun e h => by cases h), (fun e h => by cases h), Nat.zero_le _⟩, rfl, fun M _ _ => rfl⟩
    have H2 := hide (And.intro hRG (And.intro hBg hSo))
    rw [← hgbe]
    have HGB := hide hgbe
    clear hRG hBg hSo z0 z1 y0 y1 HNw hgbe hgb
    go_wp2_with fail
    go_loopg [6, 7] (l.length + 1) (fun gk ev iv wr => ∃ (k : Nat) (Lk : List It) (past : List (List It)) (p : Option Nat), 2 + k * 4 ≤ l.length ∧ iv = .int .i64 ((2 + k * 4 : Nat) : Int) ∧ Sofar l n most Lk k ∧ RG wr gb n most Lk past p ∧ past.length ≤ 20 ∧ (∀ q, p = some q → gb ≤ q) ∧ Below gb w1 wr ∧ l.length - k ≤ gk)
    case atStart => exact ⟨0, [], [], none, by omega, rfl, (unhide H2).2.2, (unhide H2).1, by simp, (fun q h => by cases h), (unhide H2).2.1, by omega⟩
    case round =>
      obtain ⟨k, Lk, past, p, hk, rfl, hSo, hG, hp, hpq, hBg, hgk⟩ := hrel
      have hgb1 := unhide HGB
      have hNr := row_below (unhide HN1).1 hBg (by omega)
      have hwr := hBg.size
      have hB1 := (unhide HN1).2
      have hBw := hB1.trans (hBg.mono (by have := hB1.size; omega))
      -- the first two numbers
      have hfirst : ∀ (n' most' : Nat) (M : List Int), l = (n' : Int) :: (most' : Int) :: M → n' = n ∧ most' = most := by
        intro n' most' M h
        obtain ⟨e0, e1⟩ := unhide HP
        simp only [h, List.getElem_cons_zero, List.getElem_cons_succ] at e0 e1
        omega
      by_cases hlt : 2 + k * 4 + 3 < l.length
      · obtain ⟨i, hi⟩ : ∃ i, i = 2 + k * 4 := ⟨_, rfl⟩
        rw [← hi] at hlt
        obtain ⟨x, hx⟩ : ∃ x : It, x = ⟨l[i]'(by omega), l[i + 1]'(by omega), l[i + 2]'(by omega), l[i + 3]'(by omega)⟩ := ⟨_, rfl⟩
        have e0 : l[i]? = some x.id := by rw [hx]; exact List.getElem?_eq_getElem _
        have e1 : l[i + 1]? = some x.u := by rw [hx]; exact List.getElem?_eq_getElem _
        have e2 : l[i + 2]? = some x.v := by rw [hx]; exact List.getElem?_eq_getElem _
        have e3 : l[i + 3]? = some x.w := by rw [hx]; exact List.getElem?_eq_getElem _
        have hxw := (unhide HL).2 x.w (by rw [hx]; exact List.getElem_mem _)
        have y0 : wr.cell? ⟨g, i, none⟩ = some (.int .i64 x.id) := by
          have h := nums_cell (w := wr) (by exact hNr) i (by omega)
          rw [h, hx]
        have y1 : wr.cell? ⟨g, i + 1, none⟩ = some (.int .i64 x.u) := by
          have h := nums_cell (w := wr) (by exact hNr) (i + 1) (by omega)
          rw [h, hx]
        have y2 : wr.cell? ⟨g, i + 2, none⟩ = some (.int .i64 x.v) := by
          have h := nums_cell (w := wr) (by exact hNr) (i + 2) (by omega)
          rw [h, hx]
        have y3 : wr.cell? ⟨g, i + 3, none⟩ = some (.int .i64 x.w) := by
          have h := nums_cell (w := wr) (by exact hNr) (i + 3) (by omega)
          rw [h, hx]
        rw [hi] at e0 e1 e2 e3
        obtain ⟨code, hcode, hIns⟩ := ins_rw gb n most Lk past p x.id x.u x.v x.w wr.drew (RG.later hG (Below.refl _ _).drew) hSo.1 hp
        have hnext : code = 0 → Sofar l n most (Pl.withI Lk x) (k + 1) := fun h => by
          obtain ⟨a1, a2, a3, a4, a5⟩ := hcode.1 h
          exact hSo.next x e0 e1 e2 e3 hxw a1 a2 a3 a4 a5
        have hbad : code ≠ 0 → ∀ n' most' M, Gv n' most' M → l ≠ (n' : Int) :: (most' : Int) :: M.flatMap four := fun h n' most' M hv hl => by
          obtain ⟨rfl, rfl⟩ := hfirst n' most' _ hl
          exact hSo.bad x e0 e1 e2 e3 (fun hh => h (hcode.2 hh)) M hv hl
        have HLT : Hid (∀ w2, Fr (fun k => k = gb ∨ p = some k) wr.drew w2 → Below gb w1 w2 ∧ w2.cell? ⟨g, i, none⟩ = some (.int .i64 x.id) ∧ w2.cell? ⟨g, i + 1, none⟩ = some (.int .i64 x.u) ∧ w2.cell? ⟨g, i + 2, none⟩ = some (.int .i64 x.v) ∧ w2.cell? ⟨g, i + 3, none⟩ = some (.int .i64 x.w)) := fun w2 hf => by
          have hb2 : Below gb wr w2 := ⟨hf.os, hf.tape, hf.output, hf.size, fun q hq => hf.block q (by show q < wr.heap.size; omega) (by
            rintro (h | h)
            · omega
            · have := hpq q h; omega)⟩
          have hgg : g < gb := by omega
          exact ⟨hBg.trans hb2, (hb2.cell (p := ⟨g, i, none⟩) hgg).trans y0, (hb2.cell (p := ⟨g, i + 1, none⟩) hgg).trans y1, (hb2.cell (p := ⟨g, i + 2, none⟩) hgg).trans y2, (hb2.cell (p := ⟨g, i + 3, none⟩) hgg).trans y3⟩
        have i0 : (0 : Int) ≤ i := by omega
        have i1 : (i : Int) + 3 < l.length := by omega
        have j0 : (i : Int) < l.length := by omega
        have j1 : (i : Int) + 1 < l.length := by omega
        have z1 : (0 : Int) ≤ (i : Int) + 1 := by omega
        have t1 : ((i : Int) + 1).toNat = i + 1 := by omega
        have j2 : (i : Int) + 2 < l.length := by omega
        have z2 : (0 : Int) ≤ (i : Int) + 2 := by omega
        have t2 : ((i : Int) + 2).toNat = i + 2 := by omega
        have j3 : (i : Int) + 3 < l.length := by omega
        have z3 : (0 : Int) ≤ (i : Int) + 3 := by omega
        have t3 : ((i : Int) + 3).toNat = i + 3 := by omega
        have hll : l.length ≤ 2000 := by
          have h1 := rdTo_len t t.length (Nat.le_refl _)
          unfold rdTo at h1
          rw [List.take_length] at h1
          have h2 := (unhide HL).1
          unfold numsL at h2
          rw [h2]
          omega
        have w1' : IntKind.i64.wrap ((i : Int) + 1) = (i : Int) + 1 := by rw [IntKind.wrap_i64]; omega
        have w2' : IntKind.i64.wrap ((i : Int) + 2) = (i : Int) + 2 := by rw [IntKind.wrap_i64]; omega
        have w3' : IntKind.i64.wrap ((i : Int) + 3) = (i : Int) + 3 := by rw [IntKind.wrap_i64]; omega
        have HI := hide hi
        have hwr' : gb ≤ wr.heap.size := by omega
        have HIN := hide hIns
        have HN2 := hide (And.intro hnext (And.intro hbad (And.intro hp (And.intro hpq hB1))))
        rw [show ((2 + k * 4 : Nat) : Int) = (i : Int) by omega]
        clear hSo hG hp hpq hBg hNr hB1 hBw hfirst hx e0 e1 e2 e3 hxw hcode hIns hnext hbad hi H2 hgb1
        go_upto_region 12 with fail
        go_region_held3 (fun w' => w'.cell? ⟨g, i, none⟩ = some (.int .i64 x.id) ∧ w'.cell? ⟨g, i + 1, none⟩ = some (.int .i64 x.u) ∧ w'.cell? ⟨g, i + 2, none⟩ = some (.int .i64 x.v) ∧ w'.cell? ⟨g, i + 3, none⟩ = some (.int .i64 x.w))
          (first | (refine ⟨?_, ?_, ?_, ?_⟩ <;> assumption) | (go_keep; done))
          (first
            | (go_at_call 33; with_reducible refine (unhide HIN).mono ?_; rintro e w2 ⟨ca, cb, rfl, hok, hf⟩; have q := (unhide HLT) w2 hf; obtain ⟨q0, q1, q2, q3, q4⟩ := q; have H5 := hide (And.intro hok q0); clear hok hf q0))
        have hB2 := (unhide H5).2
        by_cases hc0 : code = 0
        · subst hc0
          obtain ⟨p', hG', hp'⟩ := (unhide H5).1 rfl
          obtain ⟨hnext, _, hp, hpq, _⟩ := unhide HN2
          have hwl : gb ≤ wr.heap.size := hwr'
          have H6 := hide (And.intro (hnext rfl) (And.intro hG' (And.intro (show ∀ q, p' = some q → gb ≤ q from by
            intro q hq
            rcases hp' with h | ⟨k', h, h'⟩
            · exact hpq q (h ▸ hq)
            · rw [h] at hq
              injection hq with hq
              subst hq
              exact Nat.le_trans hwl h') hB2)))
          have HPL := hide (push_few past Lk hp)
          clear hG' hp' hnext hp hpq hB2 H5 HN2 HIN HLT q1 q2 q3 q4 y0 y1 y2 y3 w1' w2' w3' t1 t2 t3 z1 z2 z3 j1 j2 j3
          go_wp2
          go_roundg (gk - 1)
          case measure => omega
          case rel =>
            have h9 := unhide HI
            exact ⟨k + 1, Pl.withI Lk x, push past Lk, p', by omega, by go_num, (unhide H6).1, (unhide H6).2.1, unhide HPL, (unhide H6).2.2.1, (unhide H6).2.2.2, by omega⟩
        · obtain ⟨_, hbad, _, _, hB1⟩ := unhide HN2
          have HF : Hid (LoadR t w (.returned (.tuple #[.pointer none, .int .i64 9])) w2) := ⟨hB1.trans (hB2.mono (by have := hB1.size; have := unhide HGB; omega)), Or.inr ⟨no_by (by rw [← (unhide HL).1]; exact hbad hc0), rfl⟩⟩
          clear hB1 hB2 H5 HN2 HIN HLT q1 q2 q3 q4 y0 y1 y2 y3 w1' w2' w3' t1 t2 t3 z1 z2 z3 j1 j2 j3 hbad
          go_wp2
          go_ret2
          exact unhide HF
      · have hkl : l.length = 2 + k * 4 := by omega
        have hTr : Tab wr := (unhide HT).later (show Below w.heap.size w wr from hBw)
        have HTX := hide (textr_any gb n most Lk past p wr hG (by have := hSo.1.len; omega) (by omega) (by omega) hSo.1.ends hSo.1.rng hSo.1.wb hTr)
        have hall : ∀ n' most' M, Gv n' most' M → t = Pl.text n' most' M → Pl.text n most Lk = t := fun n' most' M hv h => by
          have hl := (unhide HL).1
          rw [h, hv.nums] at hl
          obtain ⟨rfl, rfl⟩ := hfirst n' most' _ hl
          have e := hSo.2.2 M hv hl
          have hlm : M.length ≤ k := by
            rw [hl, List.length_cons, List.length_cons, four_len] at hkl
            omega
          rw [List.take_of_length_le hlm] at e
          rw [e, h]
        have HAL := hide (And.intro hall (And.intro hSo (And.intro hG hBw)))
        have g7 : ¬ ((2 + k * 4 : Nat) : Int) + 3 < l.length := by omega
        obtain ⟨i, hi⟩ : ∃ i, i = 2 + k * 4 := ⟨_, rfl⟩
        have hll : l.length ≤ 2000 := by
          have h1 := rdTo_len t t.length (Nat.le_refl _)
          unfold rdTo at h1
          rw [List.take_length] at h1
          have h2 := (unhide HL).1
          unfold numsL at h2
          rw [h2]
          omega
        have i0 : (0 : Int) ≤ i := by omega
        have i9 : (i : Int) ≤ 2000 := by omega
        have w3' : IntKind.i64.wrap ((i : Int) + 3) = (i : Int) + 3 := by rw [IntKind.wrap_i64]; omega
        rw [← hi] at g7 ⊢
        clear hkl hTr hall hfirst hSo hG hp hpq hBg hNr hB1 hBw hgb1 H2 hi hlt
        go_wp2_with fail
        refine (unhide HTX).mono ?_
        rintro e w3 ⟨rfl, hb3⟩
        obtain ⟨hall, hSo, hG, hBw⟩ := unhide HAL
        by_cases heq : Pl.text n most Lk = t
        · have hG3 := RG.later hG hb3
          obtain ⟨vL, vP, hblk, hI3, _, _⟩ := hG3
          obtain ⟨d0, d1, d2, d3, df⟩ := four_cells hblk
          have df3 := df 3
          obtain ⟨aL, cL, rfl⟩ := row_form hI3
          have hgl3 := lt_of_block hblk
          have hblk2 := heap_setCell_same w3 gb 3 _ _ (.slice none 0 0) hblk
          have hfr : Fr (fun k => k = gb) w3 (w3.setCell ⟨gb, 3, none⟩ (.slice none 0 0)) := Fr.setCell (S := fun k => k = gb) (Fr.refl _ _) (p := ⟨gb, 3, none⟩) (Or.inl rfl) _
          have hI4 : Its (w3.setCell ⟨gb, 3, none⟩ (.slice none 0 0)) 0 (.slice aL Lk.length cL) Lk := row_fr hI3 hfr (fun k' c f hk' _ hs => by subst hs; rw [hblk] at hk'; simp at hk')
          have hgw : w.heap.size ≤ gb := by have := unhide HGB; have := (unhide HN1).2.size; omega
          have HF : Hid (LoadR t w (.returned (.tuple #[.pointer (some ⟨gb, 0, none⟩), .int .i64 0])) (w3.setCell ⟨gb, 3, none⟩ (.slice none 0 0))) :=
            ⟨(hBw.trans (hb3.mono hBw.size)).trans ⟨hfr.os, hfr.tape, hfr.output, hfr.size, fun q hq => hfr.block q (by have := (hBw.trans (hb3.mono hBw.size)).size; omega) (by omega)⟩,
              Or.inl ⟨n, most, Lk, gb, hSo.1, heq.symm, rfl, hgw, ⟨_, _, hblk2, hI4, Or.inl ⟨rfl, rfl⟩, rfl⟩⟩⟩
          rw [heq]
          clear hall hSo hG hBw hb3 HAL HTX heq hblk hI3 df hblk2 hfr hI4 d0 d1 d2
          go_wp2
          go_ret2
          exact unhide HF
        · have hbn : ((bs (Pl.text n most Lk)).toList == (bs t).toList) = false := by
            rw [bs_toList, bs_toList, beq_eq_false_iff_ne]; exact heq
          have HF : Hid (LoadR t w (.returned (.tuple #[.pointer none, .int .i64 9])) w3) := ⟨hBw.trans (hb3.mono hBw.size), Or.inr ⟨fun n' most' M hv h => heq (hall n' most' M hv h), rfl⟩⟩
          clear hall hSo hG hBw hb3 HAL HTX heq
          go_wp2
          go_ret2
          exact unhide HF
  · have hsz1 : (1806 : Int) < (bs t).size := by omega
    clear ht
    go_enter Tryz.func15, Tryz.ntmps15
    go_wp2
    go_ret2
    refine ⟨Below.refl _ _, Or.inr ⟨?_, rfl⟩⟩
    rintro n most L hv rfl
    exact hlen (text_len hv)

end Go.Proofs.YtnnnleckoinjoaaGreatDoor
