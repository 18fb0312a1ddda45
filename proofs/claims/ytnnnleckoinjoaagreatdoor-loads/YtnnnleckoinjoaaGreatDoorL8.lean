import Derived.Test.YtnnnleckoinjoaaGreatDoorL7
import Derived.Test.YtnnnleckoinjoaaGreatDoorL10
import Derived.Test.YtnnnleckoinjoaaGreatDoorB2
namespace Go.Proofs.YtnnnleckoinjoaaGreatDoor
open Go.RowKit
open Pl (It)

/-- what a step leaves -/
def SPost (B W x0 g0 x1 g1 n : Nat) (w : World) : Ending → World → Prop := fun e w' =>
  e = .returned (.bool true) ∧ (∃ vl vm ls ms s0 s1 p0 p1, TW B w' W x0 g0 x1 g1 vl vm ls ms s0 s1 p0 p1 ∧ ls.length ≤ n) ∧ Below B w w'

section
variable {B : Nat} {w : World} {W x0 g0 x1 g1 : Nat} {vl vm : Value} {ls ms : List Value} {s0 s1 : St} {p0 p1 : Option Nat}

theorem changes_any (xb gb : Nat) (s : St) (p : Option Nat) (hs : Ok s) (k : Int) (hk : k = 1 ∨ k = 9 ∨ k = 10) (o : Bool) (a b c d : Int) (hd0 : -9223372036854775808 ≤ d) (hd1 : d ≤ 9223372036854775807) (sx : ByteArray) (w : World) (hx : XG w xb s) (hy : YG w gb s p) :
    Calls Tryz.prog 19 #[sdv xb gb, opv k o a b c d sx] w fun e w' => e = .returned (.bool true) ∧ ∃ s' p', Ok s' ∧ XG w' xb s' ∧ YG w' gb s' p' ∧ (p' = p ∨ ∃ k, p' = some k ∧ w.heap.size ≤ k) ∧ Fr (fun k => k = xb ∨ k = gb ∨ p = some k) w w' := by
  rcases hk with rfl | rfl | rfl
  · exact changes_ins xb gb s p hs o a b c d hd0 hd1 sx w hx hy
  · exact changes_del xb gb s p hs o a b c d sx w hx hy
  · exact changes_undo xb gb s p hs o a b c d sx w hx hy
theorem at_changes (h : TW B w W x0 g0 x1 g1 vl vm ls ms s0 s1 p0 p1) (k : Int) (hk : k = 1 ∨ k = 9 ∨ k = 10) (o : Bool) (a b c d : Int) (hd0 : -9223372036854775808 ≤ d) (hd1 : d ≤ 9223372036854775807) (sx : ByteArray) :
    Calls Tryz.prog 19 #[sdv (bif o then x1 else x0) (bif o then g1 else g0), opv k o a b c d sx] w (SPost B W x0 g0 x1 g1 (ls.length + 1) w) := by
  cases o
  · refine (changes_any x0 g0 s0 p0 h.k0 k hk false a b c d hd0 hd1 sx w h.a0 h.b0).mono ?_
    rintro e w' ⟨rfl, s', p', q1, q2, q3, q4, q5⟩
    obtain ⟨r1, r2⟩ := h.side0 q1 q2 q3 q4 q5
    exact ⟨rfl, ⟨_, _, _, _, _, _, _, _, r1, by omega⟩, r2⟩
  · refine (changes_any x1 g1 s1 p1 h.k1 k hk true a b c d hd0 hd1 sx w h.a1 h.b1).mono ?_
    rintro e w' ⟨rfl, s', p', q1, q2, q3, q4, q5⟩
    obtain ⟨r1, r2⟩ := h.side1 q1 q2 q3 q4 q5
    exact ⟨rfl, ⟨_, _, _, _, _, _, _, _, r1, by omega⟩, r2⟩
theorem at_edges (h : TW B w W x0 g0 x1 g1 vl vm ls ms s0 s1 p0 p1) (k : Int) (hk : k = 2 ∨ k = 4 ∨ k = 6) (o : Bool) (a b c d : Int) (sx : ByteArray) :
    Calls Tryz.prog 20 #[sdv (bif o then x1 else x0) (bif o then g1 else g0), opv k o a b c d sx] w (SPost B W x0 g0 x1 g1 (ls.length + 1) w) := by
  cases o
  · refine (edges_any x0 g0 s0 p0 h.k0 k hk false a b c d sx w h.a0 h.b0).mono ?_
    rintro e w' ⟨rfl, hb⟩
    exact ⟨rfl, ⟨_, _, _, _, _, _, _, _, h.later hb, by omega⟩, hb.mono h.hB⟩
  · refine (edges_any x1 g1 s1 p1 h.k1 k hk true a b c d sx w h.a1 h.b1).mono ?_
    rintro e w' ⟨rfl, hb⟩
    exact ⟨rfl, ⟨_, _, _, _, _, _, _, _, h.later hb, by omega⟩, hb.mono h.hB⟩
theorem whole14 (xb gb : Nat) (s : St) (p : Option Nat) (hs : Ok s) (k : Int) (hk : k = 7 ∨ k = 8 ∨ k = 14) (o : Bool) (a b c d : Int) (sx : ByteArray) (w : World) (hx : XG w xb s) (hy : YG w gb s p) :
    Calls Tryz.prog 22 #[sdv xb gb, opv k o a b c d sx] w fun e w' => e = .returned (.bool true) ∧ Below w.heap.size w w' := by
  rcases hk with hk | hk | rfl
  · exact whole_any xb gb s p hs k (Or.inl hk) o a b c d sx w hx hy
  · exact whole_any xb gb s p hs k (Or.inr hk) o a b c d sx w hx hy
  · exact groups_any xb gb s p o a b c d sx w hx hy (groups_both s hs d)
theorem ways14 (xb gb : Nat) (s : St) (p : Option Nat) (hs : Ok s) (k : Int) (hk : k = 11 ∨ k = 12 ∨ k = 13) (o : Bool) (a b c d : Int) (sx : ByteArray) (w : World) (hx : XG w xb s) (hy : YG w gb s p) :
    Calls Tryz.prog 23 #[sdv xb gb, opv k o a b c d sx] w fun e w' => e = .returned (.bool true) ∧ Below w.heap.size w w' :=
  ways_any xb gb s p k hk o a b c d sx w hx hy (heav_both s hs a b) (other_both s hs a) (reach_both s hs a d)
theorem at_ways (h : TW B w W x0 g0 x1 g1 vl vm ls ms s0 s1 p0 p1) (k : Int) (hk : k = 11 ∨ k = 12 ∨ k = 13) (o : Bool) (a b c d : Int) (sx : ByteArray) :
    Calls Tryz.prog 23 #[sdv (bif o then x1 else x0) (bif o then g1 else g0), opv k o a b c d sx] w (SPost B W x0 g0 x1 g1 (ls.length + 1) w) := by
  cases o
  · refine (ways14 x0 g0 s0 p0 h.k0 k hk false a b c d sx w h.a0 h.b0).mono ?_
    rintro e w' ⟨rfl, hb⟩
    exact ⟨rfl, ⟨_, _, _, _, _, _, _, _, h.later hb, by omega⟩, hb.mono h.hB⟩
  · refine (ways14 x1 g1 s1 p1 h.k1 k hk true a b c d sx w h.a1 h.b1).mono ?_
    rintro e w' ⟨rfl, hb⟩
    exact ⟨rfl, ⟨_, _, _, _, _, _, _, _, h.later hb, by omega⟩, hb.mono h.hB⟩
theorem at_whole (h : TW B w W x0 g0 x1 g1 vl vm ls ms s0 s1 p0 p1) (k : Int) (hk : k = 7 ∨ k = 8 ∨ k = 14) (o : Bool) (a b c d : Int) (sx : ByteArray) :
    Calls Tryz.prog 22 #[sdv (bif o then x1 else x0) (bif o then g1 else g0), opv k o a b c d sx] w (SPost B W x0 g0 x1 g1 (ls.length + 1) w) := by
  cases o
  · refine (whole14 x0 g0 s0 p0 h.k0 k hk false a b c d sx w h.a0 h.b0).mono ?_
    rintro e w' ⟨rfl, hb⟩
    exact ⟨rfl, ⟨_, _, _, _, _, _, _, _, h.later hb, by omega⟩, hb.mono h.hB⟩
  · refine (whole14 x1 g1 s1 p1 h.k1 k hk true a b c d sx w h.a1 h.b1).mono ?_
    rintro e w' ⟨rfl, hb⟩
    exact ⟨rfl, ⟨_, _, _, _, _, _, _, _, h.later hb, by omega⟩, hb.mono h.hB⟩
theorem at_told (h : TW B w W x0 g0 x1 g1 vl vm ls ms s0 s1 p0 p1) (hcnt : ls.length < 1100000) (k : Int) (hk : k = 3 ∨ k = 5) (o : Bool) (a b c d : Int) (sx : ByteArray) :
    Calls Tryz.prog 21 #[P0 W, sdv (bif o then x1 else x0) (bif o then g1 else g0), opv k o a b c d sx] w (SPost B W x0 g0 x1 g1 (ls.length + 1) w) := by
  cases o
  · refine (told_any W (P0 x0) (P0 g0) (P0 x1) (P0 g1) vl vm ls ms x0 g0 s0 p0 h.k0 k hk false a b c d sx w h.a0 h.b0 h.li hcnt).mono ?_
    rintro e w' ⟨rfl, vl', vm', ls', ms', q1, q2, q3, q4, q5⟩
    obtain ⟨r1, r2⟩ := h.told q1 q3 q4 q5
    exact ⟨rfl, ⟨_, _, _, _, _, _, _, _, r1, by omega⟩, r2⟩
  · refine (told_any W (P0 x0) (P0 g0) (P0 x1) (P0 g1) vl vm ls ms x1 g1 s1 p1 h.k1 k hk true a b c d sx w h.a1 h.b1 h.li hcnt).mono ?_
    rintro e w' ⟨rfl, vl', vm', ls', ms', q1, q2, q3, q4, q5⟩
    obtain ⟨r1, r2⟩ := h.told q1 q3 q4 q5
    exact ⟨rfl, ⟨_, _, _, _, _, _, _, _, r1, by omega⟩, r2⟩
end

set_option maxRecDepth 100000 in
set_option maxHeartbeats 4000000 in
theorem step_any (B W x0 g0 x1 g1 : Nat) (vl vm : Value) (ls ms : List Value) (s0 s1 : St) (p0 p1 : Option Nat) (k : Int) (hk8 : k ≤ 14) (o : Bool) (a b c d : Int) (hd0 : -9223372036854775808 ≤ d) (hd1 : d ≤ 9223372036854775807) (sx : ByteArray) (w : World)
    (h : TW B w W x0 g0 x1 g1 vl vm ls ms s0 s1 p0 p1) (hcnt : ls.length < 1100000) :
    Calls Tryz.prog 11 #[P0 W, opv k o a b c d sx] w (SPost B W x0 g0 x1 g1 (ls.length + 1) w) := by
  obtain ⟨c0, c1, c2, c3, _, _, _⟩ := six_cells h.li.blk
  have hWl := lt_of_block h.li.blk
  have hB := h.hB
  have hkk : k ≤ 0 ∨ (k = 1 ∨ k = 9 ∨ k = 10) ∨ (k = 2 ∨ k = 4 ∨ k = 6) ∨ (k = 3 ∨ k = 5) ∨ (k = 7 ∨ k = 8 ∨ k = 14) ∨ (k = 11 ∨ k = 12 ∨ k = 13) := by omega
  have hb2 := boxes_below w (opo k o a b c d sx) (sdo (bif o then x1 else x0) (bif o then g1 else g0))
  have h2 := h.later hb2
  rcases hkk with hk | hk | hk | hk | hk | hk
  · have e1 : ¬ k = 1 := by omega
    have e2 : ¬ k = 2 := by omega
    have e3 : ¬ k = 3 := by omega
    have e4 : ¬ k = 4 := by omega
    have e5 : ¬ k = 5 := by omega
    have e6 : ¬ k = 6 := by omega
    have e7 : ¬ k = 7 := by omega
    have e8 : ¬ k = 8 := by omega
    have e9 : ¬ k = 9 := by omega
    have e10 : ¬ k = 10 := by omega
    have e11 : ¬ k = 11 := by omega
    have e12 : ¬ k = 12 := by omega
    have e13 : ¬ k = 13 := by omega
    have e14 : ¬ k = 14 := by omega
    have e15 : ¬ k = 15 := by omega
    have e16 : ¬ k = 16 := by omega
    have e17 : ¬ k = 17 := by omega
    have e18 : ¬ k = 18 := by omega
    have HP : Hid (SPost B W x0 g0 x1 g1 (ls.length + 1) w (.returned (.bool true)) ((w.alloc (opo k o a b c d sx)).alloc (sdo (bif o then x1 else x0) (bif o then g1 else g0)))) := ⟨rfl, ⟨_, _, _, _, _, _, _, _, h2, by omega⟩, hb2.mono hB⟩
    clear h h2 hb2
    cases o
    · go_enter Tryz.func11, Tryz.ntmps11
      go_wp2
      go_ret
      exact unhide HP
    · go_enter Tryz.func11, Tryz.ntmps11
      go_wp2
      go_ret
      exact unhide HP
  · have hc := at_changes h2 k hk o a b c d hd0 hd1 sx
    clear h h2
    rcases hk with rfl | rfl | rfl <;> cases o
    all_goals
      go_enter Tryz.func11, Tryz.ntmps11
      go_wp2_with fail
      refine (Calls.mono (by exact hc) ?_)
      rintro e w3 ⟨rfl, hT, hb⟩
      clear hc
      go_wp2
      go_ret
      exact ⟨rfl, hT, (hb2.mono hB).trans hb⟩
  · have hc := at_edges h2 k hk o a b c d sx
    clear h h2
    rcases hk with rfl | rfl | rfl <;> cases o
    all_goals
      go_enter Tryz.func11, Tryz.ntmps11
      go_wp2_with fail
      refine (Calls.mono (by exact hc) ?_)
      rintro e w3 ⟨rfl, hT, hb⟩
      clear hc
      go_wp2
      go_ret
      exact ⟨rfl, hT, (hb2.mono hB).trans hb⟩
  · have hc := at_told h2 hcnt k hk o a b c d sx
    clear h h2
    rcases hk with rfl | rfl <;> cases o
    all_goals
      go_enter Tryz.func11, Tryz.ntmps11
      go_wp2_with fail
      refine (Calls.mono (by exact hc) ?_)
      rintro e w3 ⟨rfl, hT, hb⟩
      clear hc
      go_wp2
      go_ret
      exact ⟨rfl, hT, (hb2.mono hB).trans hb⟩
  · have hc := at_whole h2 k hk o a b c d sx
    clear h h2
    rcases hk with rfl | rfl | rfl <;> cases o
    all_goals
      go_enter Tryz.func11, Tryz.ntmps11
      go_wp2_with fail
      refine (Calls.mono (by exact hc) ?_)
      rintro e w3 ⟨rfl, hT, hb⟩
      clear hc
      go_wp2
      go_ret
      exact ⟨rfl, hT, (hb2.mono hB).trans hb⟩
  · have hc := at_ways h2 k hk o a b c d sx
    clear h h2
    rcases hk with rfl | rfl | rfl <;> cases o
    all_goals
      go_enter Tryz.func11, Tryz.ntmps11
      go_wp2_with fail
      refine (Calls.mono (by exact hc) ?_)
      rintro e w3 ⟨rfl, hT, hb⟩
      clear hc
      go_wp2
      go_ret
      exact ⟨rfl, hT, (hb2.mono hB).trans hb⟩
end Go.Proofs.YtnnnleckoinjoaaGreatDoor
