/- What hangs on the forest, asked of both graphs: given that both answer alike. -/
import Derived.Test.YtnnnleckoinjoaaGreatDoorL2
namespace Go.Proofs.YtnnnleckoinjoaaGreatDoor
open Go.RowKit
open Pl (It)

/-- both answer alike: a number and an error, with these arguments -/
def Both2 (f g : Nat) (args : List Value) (s : St) : Prop := ∃ r c : Int,
    (∀ w xb, XG w xb s → Calls Tryz.prog f (#[P0 xb] ++ args.toArray) w fun e w' => e = .returned (.tuple #[.int .i64 r, .int .i64 c]) ∧ Below w.heap.size w w') ∧
    (∀ w gb p, YG w gb s p → Calls Tryz.prog g (#[P0 gb] ++ args.toArray) w fun e w' => e = .returned (.tuple #[.int .i64 r, .int .i64 c]) ∧ Below w.heap.size w w')
def Both1 (f g : Nat) (args : List Value) (s : St) : Prop := ∃ r : Int,
    (∀ w xb, XG w xb s → Calls Tryz.prog f (#[P0 xb] ++ args.toArray) w fun e w' => e = .returned (.int .i64 r) ∧ Below w.heap.size w w') ∧
    (∀ w gb p, YG w gb s p → Calls Tryz.prog g (#[P0 gb] ++ args.toArray) w fun e w' => e = .returned (.int .i64 r) ∧ Below w.heap.size w w')

set_option maxRecDepth 100000 in
set_option maxHeartbeats 2000000 in
theorem ways_any (xb gb : Nat) (s : St) (p : Option Nat) (k : Int) (hk : k = 11 ∨ k = 12 ∨ k = 13) (o : Bool) (a b c d : Int) (sx : ByteArray) (w : World) (hx : XG w xb s) (hy : YG w gb s p)
    (hh : Both2 58 59 [.int .i64 a, .int .i64 b] s) (ho : Both2 60 61 [.int .i64 a] s) (hre : Both2 62 63 [.int .i64 a, .int .i64 d] s) :
    Calls Tryz.prog 23 #[sdv xb gb, opv k o a b c d sx] w fun e w' => e = .returned (.bool true) ∧ Below w.heap.size w w' := by
  have hx0 := xg_boxes hx (sdo xb gb) (opo k o a b c d sx)
  have hB0 := boxes_below w (sdo xb gb) (opo k o a b c d sx)
  have hy0 := yg_later hy hB0 (Nat.le_refl _)
  have hz0 := size2 w (sdo xb gb) (opo k o a b c d sx)
  rcases hk with rfl | rfl | rfl
  · obtain ⟨r, q, hp, hr⟩ := hh
    clear ho hre
    go_enter Tryz.func23, Tryz.ntmps23
    go_wp2_with fail
    refine (hp _ xb hx0).mono ?_
    rintro e w1 ⟨rfl, hb1⟩
    rw [hz0] at hb1
    obtain ⟨b0, b1, b2, b3, b4, b5⟩ := boxes hb1
    have hs1 : w.heap.size + 1 + 1 ≤ w1.heap.size := by have := hb1.size; rw [hz0] at this; exact this
    have hB1 := hB0.trans (hb1.mono (by omega))
    have hy1 := yg_later hy0 hb1 (by rw [hz0]; omega)
    clear hx hy hx0 hy0 hp hb1
    go_wp2_with fail
    refine (hr _ gb p hy1).mono ?_
    rintro e w2 ⟨rfl, hb2⟩
    have hB2 := hB1.trans (hb2.mono (by omega))
    clear hr hy1 hb2 hB0 hB1
    go_wp2
    go_ret
    exact ⟨ret_bool (by simp), hB2⟩
  · obtain ⟨r, q, hp, hr⟩ := ho
    clear hh hre
    go_enter Tryz.func23, Tryz.ntmps23
    go_wp2_with fail
    refine (hp _ xb hx0).mono ?_
    rintro e w1 ⟨rfl, hb1⟩
    rw [hz0] at hb1
    obtain ⟨b0, b1, b2, b3, b4, b5⟩ := boxes hb1
    have hs1 : w.heap.size + 1 + 1 ≤ w1.heap.size := by have := hb1.size; rw [hz0] at this; exact this
    have hB1 := hB0.trans (hb1.mono (by omega))
    have hy1 := yg_later hy0 hb1 (by rw [hz0]; omega)
    clear hx hy hx0 hy0 hp hb1
    go_wp2_with fail
    refine (hr _ gb p hy1).mono ?_
    rintro e w2 ⟨rfl, hb2⟩
    have hB2 := hB1.trans (hb2.mono (by omega))
    clear hr hy1 hb2 hB0 hB1
    go_wp2
    go_ret
    exact ⟨ret_bool (by simp), hB2⟩
  · obtain ⟨r, q, hp, hr⟩ := hre
    clear ho hh
    go_enter Tryz.func23, Tryz.ntmps23
    go_wp2_with fail
    refine (hp _ xb hx0).mono ?_
    rintro e w1 ⟨rfl, hb1⟩
    rw [hz0] at hb1
    obtain ⟨b0, b1, b2, b3, b4, b5⟩ := boxes hb1
    have hs1 : w.heap.size + 1 + 1 ≤ w1.heap.size := by have := hb1.size; rw [hz0] at this; exact this
    have hB1 := hB0.trans (hb1.mono (by omega))
    have hy1 := yg_later hy0 hb1 (by rw [hz0]; omega)
    clear hx hy hx0 hy0 hp hb1
    go_wp2_with fail
    refine (hr _ gb p hy1).mono ?_
    rintro e w2 ⟨rfl, hb2⟩
    have hB2 := hB1.trans (hb2.mono (by omega))
    clear hr hy1 hb2 hB0 hB1
    go_wp2
    go_ret
    exact ⟨ret_bool (by simp), hB2⟩

set_option maxRecDepth 100000 in
set_option maxHeartbeats 2000000 in
theorem groups_any (xb gb : Nat) (s : St) (p : Option Nat) (o : Bool) (a b c d : Int) (sx : ByteArray) (w : World) (hx : XG w xb s) (hy : YG w gb s p) (hg : Both1 56 57 [.int .i64 d] s) :
    Calls Tryz.prog 22 #[sdv xb gb, opv 14 o a b c d sx] w fun e w' => e = .returned (.bool true) ∧ Below w.heap.size w w' := by
  have hx0 := xg_boxes hx (sdo xb gb) (opo 14 o a b c d sx)
  have hB0 := boxes_below w (sdo xb gb) (opo 14 o a b c d sx)
  have hy0 := yg_later hy hB0 (Nat.le_refl _)
  have hz0 := size2 w (sdo xb gb) (opo 14 o a b c d sx)
  · obtain ⟨r, hp, hr⟩ := hg
    go_enter Tryz.func22, Tryz.ntmps22
    go_wp2_with fail
    refine (hp _ xb hx0).mono ?_
    rintro e w1 ⟨rfl, hb1⟩
    rw [hz0] at hb1
    obtain ⟨b0, b1, b2, b3, b4, b5⟩ := boxes hb1
    have hs1 : w.heap.size + 1 + 1 ≤ w1.heap.size := by have := hb1.size; rw [hz0] at this; exact this
    have hB1 := hB0.trans (hb1.mono (by omega))
    have hy1 := yg_later hy0 hb1 (by rw [hz0]; omega)
    clear hx hy hx0 hy0 hp hb1
    go_wp2_with fail
    refine (hr _ gb p hy1).mono ?_
    rintro e w2 ⟨rfl, hb2⟩
    have hB2 := hB1.trans (hb2.mono (by omega))
    clear hr hy1 hb2 hB0 hB1
    go_wp2
    go_ret
    exact ⟨ret_bool (by simp), hB2⟩

end Go.Proofs.YtnnnleckoinjoaaGreatDoor
