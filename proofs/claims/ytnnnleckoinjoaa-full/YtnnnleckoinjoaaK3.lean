import Derived.Test.YtnnnleckoinjoaaK2
import Derived.Deep.RegionHeld3
namespace Go.Proofs.Ytnnnleckoinjoaa
open Go.RowKit
open Pl (It)

theorem below_fr {a c d : World} {k : Nat} (h : Below a.heap.size a c) (hf : Fr (fun q => q = k) c d) (hk : a.heap.size ≤ k) : Below a.heap.size a d :=
  ⟨hf.os.trans h.os, hf.tape.trans h.tape, hf.output.trans h.output, Nat.le_trans h.size hf.size, fun q hq => (hf.block q (by have := h.size; omega) (by omega)).trans (h.block q hq)⟩

set_option maxRecDepth 100000 in
set_option maxHeartbeats 4000000 in
theorem full_any (v0 m0 wt : Int) (hv0 : -9223372036854775808 ≤ v0) (hv1 : v0 ≤ 9223372036854775807) (hm0 : -9223372036854775808 ≤ m0) (hm1 : m0 ≤ 9223372036854775807) (hw0 : -9223372036854775808 ≤ wt) (hw1 : wt ≤ 9223372036854775807) (w : World) :
    Calls Try.prog 5 #[.int .i64 v0, .int .i64 m0, .int .i64 wt] w fun e w' => e = .returned (.bool true) ∧ Below w.heap.size w w' := by
  obtain ⟨a, ha⟩ : ∃ a, a = pk v0 30 := ⟨_, rfl⟩
  obtain ⟨b, hb⟩ : ∃ b, b = pk m0 60 := ⟨_, rfl⟩
  have ha30 : a < 30 := by rw [ha]; exact pk_lt v0 30 (by omega)
  have hb60 : b < 60 := by rw [hb]; exact pk_lt m0 60 (by omega)
  have HA : Hid (∀ w, Calls Try.prog 18 #[.int .i64 v0, .int .i64 30] w fun e w' => e = .returned (.int .i64 a) ∧ w = w') := fun w => by rw [ha]; exact pick_any v0 30 (by omega) (by omega) hv0 hv1 w
  have HB : Hid (∀ w, Calls Try.prog 18 #[.int .i64 m0, .int .i64 60] w fun e w' => e = .returned (.int .i64 b) ∧ w = w') := fun w => by rw [hb]; exact pick_any m0 60 (by omega) (by omega) hm0 hm1 w
  clear ha hb
  have HF := hide (fst_ok (a + 1) (b + 1) wt (by omega) (by omega) (by omega) hw0 hw1)
  go_enter Try.func5, Try.ntmps5
  go_wp2_with fail
  refine ((unhide HA) _).mono ?_
  rintro e w1 ⟨rfl, rfl⟩
  go_wp2_with fail
  refine ((unhide HB) _).mono ?_
  rintro e w1 ⟨rfl, rfl⟩
  have HN : Hid (∀ w, Calls Try.prog 19 #[.int .i64 (1 + (a : Int)), .int .i64 (1 + (b : Int))] w fun e w' => e = .returned (.tuple #[P0 w.heap.size, .int .i64 0]) ∧ XG w' w.heap.size (st0 (a + 1) (b + 1)) ∧ Below w.heap.size w w' ∧ w'.heap.size = w.heap.size + 1) := fun w => by
    rw [show (1 : Int) + a = ((a + 1 : Nat) : Int) by omega, show (1 : Int) + b = ((b + 1 : Nat) : Int) by omega]; exact newX_ok (a + 1) (b + 1) w (by omega) (by omega) (by omega) (by omega)
  have HI : Hid (∀ k, k < b + 1 → ∀ w xb, XG w xb (fst (a + 1) (b + 1) wt k) → Calls Try.prog 20 #[P0 xb, .int .i64 k, .int .i64 ((k : Int) % (1 + (a : Int))), .int .i64 (((k : Int) + 1) % (1 + (a : Int))), .int .i64 wt] w fun e w' => (∃ x y : Int, e = .returned (.tuple #[.agg #[.int .i64 x, .int .i64 y], .int .i64 0])) ∧ XG w' xb (fst (a + 1) (b + 1) wt (k + 1)) ∧ Fr (fun k => k = xb) w w') := fun k hk w xb hx => by
    rw [show (1 : Int) + a = ((a + 1 : Nat) : Int) by omega]; exact full_in (a + 1) (b + 1) wt (by omega) (by omega) (by omega) hw0 hw1 k hk w xb hx
  have HO : Hid (∀ k, b + 1 ≤ k → k ≤ b + 2 → ∀ w xb, XG w xb (fst (a + 1) (b + 1) wt (b + 1)) → Calls Try.prog 20 #[P0 xb, .int .i64 k, .int .i64 ((k : Int) % (1 + (a : Int))), .int .i64 (((k : Int) + 1) % (1 + (a : Int))), .int .i64 wt] w fun e w' => e = .returned (.tuple #[.agg #[.int .i64 0, .int .i64 0], .int .i64 5]) ∧ XG w' xb (fst (a + 1) (b + 1) wt (b + 1)) ∧ Below w.heap.size w w') := fun k hk hk2 w xb hx => by
    rw [show (1 : Int) + a = ((a + 1 : Nat) : Int) by omega]; exact full_out (a + 1) (b + 1) wt (by omega) (by omega) (by omega) hw0 hw1 k hk hk2 w xb hx
  obtain ⟨s1, s2, E1, E2, E3⟩ := full_end (a + 1) (b + 1) wt (by omega) (by omega) (by omega) (by omega) hw0 hw1
  rw [show (((b + 1 : Nat) : Int)) = 1 + (b : Int) by omega] at E2 E3
  have HE := hide (And.intro E1 (And.intro E2 E3))
  clear E1 E2 E3 HF HA HB
  go_wp2_with fail
  refine ((unhide HN) _).mono ?_
  rintro e w1 ⟨rfl, hX1, hB1, _⟩
  have HX1 := hide (And.intro hX1 hB1)
  clear hX1 hB1
  go_wp2_with fail
  obtain ⟨hX1, hB1⟩ := unhide HX1
  have hane : ¬ (1 + (a : Int)) = 0 := by omega
  go_loopg [10, 11] (b + 3) (fun gk e i wr => ∃ k : Nat, k ≤ b + 3 ∧ i = .int .i64 k ∧ XG wr w.heap.size (fst (a + 1) (b + 1) wt (min k (b + 1))) ∧ Below w.heap.size w wr ∧ b + 3 - k ≤ gk)
  case atStart => exact ⟨0, Nat.zero_le _, rfl, by rw [Nat.zero_min]; exact hX1, hB1, by omega⟩
  case round =>
    obtain ⟨k, hk, rfl, hX, hB, hgk⟩ := hrel
    by_cases hlt : k < b + 3
    · by_cases hin : k < b + 1
      · rw [Nat.min_eq_left (by omega)] at hX
        have hXd : XG wr.drew w.heap.size (fst (a + 1) (b + 1) wt k) := PF.drew hX
        have HX := hide hXd
        have HBl := hide hB.drew
        clear hX hB hX1 hB1 HX1 hXd
        have k1 : (k : Int) < 1 + (b : Int) + 2 := by omega
        have k2 : (k : Int) < 1 + (b : Int) := by omega
        have k3 : ¬ 1 + (b : Int) ≤ k := by omega
        have T1 : Hid ((k : Int).tmod (1 + (a : Int)) = (k : Int) % (1 + (a : Int))) := Int.tmod_eq_emod_of_nonneg (by omega)
        have T2 : Hid ((IntKind.i64.wrap ((k : Int) + 1)).tmod (1 + (a : Int)) = ((k : Int) + 1) % (1 + (a : Int))) := by
          show _ = _
          rw [Go.IntWalk.i64_in _ (by omega)]; exact Int.tmod_eq_emod_of_nonneg (by omega)
        go_wp2_with fail
        go_region_held3 (fun _ => True) (trivial) (first
          | (go_at_call 20; rw [unhide T1, unhide T2]; refine ((unhide HI) k hin _ w.heap.size (unhide HX)).mono ?_; rintro e w2 ⟨⟨x, y, rfl⟩, hX2, hF2⟩))
        have H2 := hide (And.intro hX2 hF2)
        clear hX2 hF2
        go_wp2
        go_roundg (gk - 1)
        case measure => omega
        case rel =>
          obtain ⟨hX2, hF2⟩ := unhide H2
          exact ⟨k + 1, by omega, by go_num, by rw [Nat.min_eq_left (by omega)]; exact hX2, below_fr (unhide HBl) hF2 (Nat.le_refl _), by omega⟩
      · rw [Nat.min_eq_right (by omega)] at hX
        have hXd : XG wr.drew w.heap.size (fst (a + 1) (b + 1) wt (b + 1)) := PF.drew hX
        have HX := hide hXd
        have HBl := hide hB.drew
        clear hX hB hX1 hB1 HX1 hXd
        have k1 : (k : Int) < 1 + (b : Int) + 2 := by omega
        have k2 : ¬ (k : Int) < 1 + (b : Int) := by omega
        have k3 : 1 + (b : Int) ≤ k := by omega
        have T1 : Hid ((k : Int).tmod (1 + (a : Int)) = (k : Int) % (1 + (a : Int))) := Int.tmod_eq_emod_of_nonneg (by omega)
        have T2 : Hid ((IntKind.i64.wrap ((k : Int) + 1)).tmod (1 + (a : Int)) = ((k : Int) + 1) % (1 + (a : Int))) := by
          show _ = _
          rw [Go.IntWalk.i64_in _ (by omega)]; exact Int.tmod_eq_emod_of_nonneg (by omega)
        go_wp2_with fail
        go_region_held3 (fun _ => True) (trivial) (first
          | (go_at_call 20; rw [unhide T1, unhide T2]; refine ((unhide HO) k (by omega) (by omega) _ w.heap.size (unhide HX)).mono ?_; rintro e w2 ⟨rfl, hX2, hB2⟩))
        have H2 := hide (And.intro hX2 hB2)
        clear hX2 hB2
        go_wp2
        go_roundg (gk - 1)
        case measure => omega
        case rel =>
          obtain ⟨hX2, hB2⟩ := unhide H2
          exact ⟨k + 1, by omega, by go_num, by rw [Nat.min_eq_right (by omega)]; exact hX2, (unhide HBl).trans (hB2.mono (unhide HBl).size), by omega⟩
    · have hk' : k = b + 3 := by omega
      subst hk'
      rw [Nat.min_eq_right (by omega)] at hX
      have k1 : ¬ ((b + 3 : Nat) : Int) < 1 + (b : Int) + 2 := by omega
      obtain ⟨E1, E2, E3⟩ := unhide HE
      clear hX1 hB1 HX1
      go_wp2_with fail
      refine (E1 _ _ hX).mono ?_
      rintro e w2 ⟨⟨x, y, rfl⟩, hX2, hF2⟩
      have hB2 : Below w.heap.size w w2 := below_fr hB hF2 (Nat.le_refl _)
      clear hX hB hF2
      have H2 := hide (And.intro hX2 hB2)
      clear hX2 hB2
      go_wp2_with fail
      obtain ⟨hX2, hB2⟩ := unhide H2
      refine (E2 _ _ hX2).mono ?_
      rintro e w3 ⟨⟨x', y', rfl⟩, hX3, hF3⟩
      have hB3 : Below w.heap.size w w3 := below_fr hB2 hF3 (Nat.le_refl _)
      have hX3' : XG (w3.alloc (.cells #[.int .i64 x', .int .i64 y'] 50)) w.heap.size s2 := PF.alloc hX3 _
      have hB3' : Below w.heap.size w (w3.alloc (.cells #[.int .i64 x', .int .i64 y'] 50)) := hB3.alloc hB3.size _
      have H3 := hide (And.intro hX3' hB3')
      clear hX2 hB2 hF3 H2 hX3 hB3 hX3' hB3'
      go_wp2_with fail
      obtain ⟨hX3, hB3⟩ := unhide H3
      refine (E3 _ _ hX3).mono ?_
      rintro e w4 ⟨rfl, hX4, hB4⟩
      have hB5 : Below w.heap.size w w4 := hB3.trans (hB4.mono hB3.size)
      have H4 := hide (hB5.alloc hB5.size (.cells #[.int .i64 0, .int .i64 0] 50))
      clear hX3 hB3 H3 hX4 hB4 hB5
      go_wp2
      go_ret
      exact ⟨rfl, unhide H4⟩

end Go.Proofs.Ytnnnleckoinjoaa
