import Derived.Test.YtnnnleckoinjoaaGreatDoorL1
namespace Go.Proofs.YtnnnleckoinjoaaGreatDoor
open Go.RowKit
open Pl (It)

abbrev sdv (xb gb : Nat) : Value := .agg #[P0 xb, P0 gb]
abbrev opv (k : Int) (o : Bool) (a b c d : Int) (s : ByteArray) : Value := .agg #[.int .i64 k, .bool o, .int .i64 a, .int .i64 b, .int .i64 c, .int .i64 d, .string s]
abbrev sdo (xb gb : Nat) : Obj := .cells #[P0 xb, P0 gb] 29
abbrev opo (k : Int) (o : Bool) (a b c d : Int) (s : ByteArray) : Obj := .cells #[.int .i64 k, .bool o, .int .i64 a, .int .i64 b, .int .i64 c, .int .i64 d, .string s] 38

/-- the two boxes in which a step's side and its step lie -/
theorem boxes {w w1 : World} {xb gb : Nat} {k : Int} {o : Bool} {a b c d : Int} {s : ByteArray} (hb : Below (w.heap.size + 1 + 1) ((w.alloc (sdo xb gb)).alloc (opo k o a b c d s)) w1) :
    w1.cell? ⟨w.heap.size, 0, none⟩ = some (P0 xb) ∧ w1.cell? ⟨w.heap.size, 1, none⟩ = some (P0 gb) ∧ w1.cell? ⟨w.heap.size + 1, 2, none⟩ = some (.int .i64 a) ∧ w1.cell? ⟨w.heap.size + 1, 3, none⟩ = some (.int .i64 b) ∧ w1.cell? ⟨w.heap.size + 1, 4, none⟩ = some (.int .i64 c) ∧ w1.cell? ⟨w.heap.size + 1, 5, none⟩ = some (.int .i64 d) := by
  have h0 : w1.heap[w.heap.size]? = some (sdo xb gb) := by
    rw [hb.block _ (by omega), Below.heap_alloc _ _ _ (by rw [World.size_alloc]; omega)]; exact heap_alloc_new _ _
  have h1 : w1.heap[w.heap.size + 1]? = some (opo k o a b c d s) := by
    rw [hb.block _ (by omega)]
    have := heap_alloc_new (w.alloc (sdo xb gb)) (opo k o a b c d s)
    rw [World.size_alloc] at this; exact this
  refine ⟨?_, ?_, ?_, ?_, ?_, ?_⟩ <;> simp [World.cell?, h0, h1]

theorem xg_boxes {w : World} {xb : Nat} {s : St} (h : XG w xb s) (o1 o2 : Obj) : XG ((w.alloc o1).alloc o2) xb s := PF.alloc (PF.alloc h _) _
theorem xg_later {w w' : World} {xb : Nat} {s : St} {B : Nat} (h : XG w xb s) (hb : Below B w w') (hB : w.heap.size ≤ B) : XG w' xb s := PF.later h hb hB
theorem yg_later {w w' : World} {gb : Nat} {s : St} {p : Option Nat} {B : Nat} (h : YG w gb s p) (hb : Below B w w') (hB : w.heap.size ≤ B) : YG w' gb s p := RG.later h (hb.mono hB)
theorem boxes_below (w : World) (o1 o2 : Obj) : Below w.heap.size w ((w.alloc o1).alloc o2) := ((Below.refl _ _).alloc (Nat.le_refl _) _).alloc (by rw [World.size_alloc]; omega) _
theorem size2 (w : World) (o1 o2 : Obj) : ((w.alloc o1).alloc o2).heap.size = w.heap.size + 1 + 1 := by rw [World.size_alloc, World.size_alloc]

set_option maxRecDepth 100000 in
set_option maxHeartbeats 2000000 in
theorem edges_any (xb gb : Nat) (s : St) (p : Option Nat) (hs : Ok s) (k : Int) (hk : k = 2 ∨ k = 4 ∨ k = 6) (o : Bool) (a b c d : Int) (sx : ByteArray) (w : World) (hx : XG w xb s) (hy : YG w gb s p) :
    Calls Tryz.prog 20 #[sdv xb gb, opv k o a b c d sx] w fun e w' => e = .returned (.bool true) ∧ Below w.heap.size w w' := by
  have hx0 := xg_boxes hx (sdo xb gb) (opo k o a b c d sx)
  have hB0 := boxes_below w (sdo xb gb) (opo k o a b c d sx)
  have hy0 := yg_later hy hB0 (Nat.le_refl _)
  have hz0 := size2 w (sdo xb gb) (opo k o a b c d sx)
  rcases hk with rfl | rfl | rfl
  · obtain ⟨r0, r1, r2, q, hp, hr⟩ := edge_both s hs a
    go_enter Tryz.func20, Tryz.ntmps20
    go_wp2_with fail
    refine (hp _ xb hx0).mono ?_
    rintro e w1 ⟨rfl, hb1⟩
    rw [hz0] at hb1
    obtain ⟨b0, b1, b2, b3, _, _⟩ := boxes hb1
    have hs1 : w.heap.size + 1 + 1 ≤ w1.heap.size := by have := hb1.size; rw [hz0] at this; exact this
    have hB1 := hB0.trans (hb1.mono (by omega))
    have hy1 := yg_later hy0 hb1 (by rw [hz0]; omega)
    have hya : YG (w1.alloc (.cells #[.int .i64 r0, .int .i64 r1, .int .i64 r2] 51)) gb s p := yg_later hy1 ((Below.refl w1.heap.size _).alloc (Nat.le_refl _) _) (Nat.le_refl _)
    have hq1 : w.heap.size < w1.heap.size := by omega
    have hq2 : w.heap.size + 1 < w1.heap.size := by omega
    clear hx hy hx0 hy0 hp hb1
    go_wp2_with fail
    refine (hr _ gb p hya).mono ?_
    rintro e w2 ⟨rfl, hb2⟩
    rw [World.size_alloc] at hb2
    obtain ⟨e0, e1, e2, _⟩ := three_cells (made_later hb2 (by omega))
    have hs2 : w1.heap.size + 1 ≤ w2.heap.size := by have := hb2.size; rw [World.size_alloc] at this; exact this
    have hn1 : ¬ w1.heap.size = w2.heap.size := by omega
    have hn2 : w1.heap.size < w2.heap.size := by omega
    have hB2 := (hB1.alloc (by omega) (.cells #[.int .i64 r0, .int .i64 r1, .int .i64 r2] 51)).trans (hb2.mono (by omega))
    clear hr hya hy1 hb2 hB0 hB1
    go_wp2
    go_ret
    exact ⟨rfl, hB2.alloc (by omega) _⟩
  · obtain ⟨r, q, hp, hr⟩ := in_both s hs a
    go_enter Tryz.func20, Tryz.ntmps20
    go_wp2_with fail
    refine (hp _ xb hx0).mono ?_
    rintro e w1 ⟨rfl, hb1⟩
    rw [hz0] at hb1
    obtain ⟨b0, b1, b2, b3, _, _⟩ := boxes hb1
    have hs1 : w.heap.size + 1 + 1 ≤ w1.heap.size := by have := hb1.size; rw [hz0] at this; exact this
    have hB1 := hB0.trans (hb1.mono (by omega))
    have hy1 := yg_later hy0 hb1 (by rw [hz0]; omega)
    clear hx hy hx0 hy0 hp hb1
    go_wp2_with fail
    refine (hr _ gb p hy1).mono ?_
    rintro e w2 ⟨rfl, hb2⟩
    have hB2 := hB1.trans (hb2.mono (by omega))
    have hrr : (r == r) = true := by simp
    clear hr hy1 hb2 hB0 hB1
    go_wp2
    go_ret
    exact ⟨rfl, hB2⟩
  · obtain ⟨r, q, hp, hr⟩ := conn_both s hs a b
    go_enter Tryz.func20, Tryz.ntmps20
    go_wp2_with fail
    refine (hp _ xb hx0).mono ?_
    rintro e w1 ⟨rfl, hb1⟩
    rw [hz0] at hb1
    obtain ⟨b0, b1, b2, b3, _, _⟩ := boxes hb1
    have hs1 : w.heap.size + 1 + 1 ≤ w1.heap.size := by have := hb1.size; rw [hz0] at this; exact this
    have hB1 := hB0.trans (hb1.mono (by omega))
    have hy1 := yg_later hy0 hb1 (by rw [hz0]; omega)
    clear hx hy hx0 hy0 hp hb1
    go_wp2_with fail
    refine (hr _ gb p hy1).mono ?_
    rintro e w2 ⟨rfl, hb2⟩
    have hB2 := hB1.trans (hb2.mono (by omega))
    have hrr : (r == r) = true := by simp
    clear hr hy1 hb2 hB0 hB1
    go_wp2
    go_ret
    exact ⟨rfl, hB2⟩

set_option maxRecDepth 100000 in
set_option maxHeartbeats 2000000 in
theorem whole_any (xb gb : Nat) (s : St) (p : Option Nat) (hs : Ok s) (k : Int) (hk : k = 7 ∨ k = 8) (o : Bool) (a b c d : Int) (sx : ByteArray) (w : World) (hx : XG w xb s) (hy : YG w gb s p) :
    Calls Tryz.prog 22 #[sdv xb gb, opv k o a b c d sx] w fun e w' => e = .returned (.bool true) ∧ Below w.heap.size w w' := by
  have hx0 := xg_boxes hx (sdo xb gb) (opo k o a b c d sx)
  have hB0 := boxes_below w (sdo xb gb) (opo k o a b c d sx)
  have hy0 := yg_later hy hB0 (Nat.le_refl _)
  have hz0 := size2 w (sdo xb gb) (opo k o a b c d sx)
  rcases hk with rfl | rfl
  · obtain ⟨r, hp, hr⟩ := comp_both s hs
    go_enter Tryz.func22, Tryz.ntmps22
    go_wp2_with fail
    refine (hp _ xb hx0).mono ?_
    rintro e w1 ⟨rfl, hb1⟩
    rw [hz0] at hb1
    obtain ⟨b0, b1, b2, b3, _, _⟩ := boxes hb1
    have hs1 : w.heap.size + 1 + 1 ≤ w1.heap.size := by have := hb1.size; rw [hz0] at this; exact this
    have hB1 := hB0.trans (hb1.mono (by omega))
    have hy1 := yg_later hy0 hb1 (by rw [hz0]; omega)
    clear hx hy hx0 hy0 hp hb1
    go_wp2_with fail
    refine (hr _ gb p hy1).mono ?_
    rintro e w2 ⟨rfl, hb2⟩
    have hB2 := hB1.trans (hb2.mono (by omega))
    clear hr hy1 hb2 hB0 hB1
    go_wp2
    go_ret
    exact ⟨ret_bool (by simp), hB2⟩
  · obtain ⟨r, q, hp, hr⟩ := weight_both s hs
    go_enter Tryz.func22, Tryz.ntmps22
    go_wp2_with fail
    refine (hp _ xb hx0).mono ?_
    rintro e w1 ⟨rfl, hb1⟩
    rw [hz0] at hb1
    obtain ⟨b0, b1, b2, b3, _, _⟩ := boxes hb1
    have hs1 : w.heap.size + 1 + 1 ≤ w1.heap.size := by have := hb1.size; rw [hz0] at this; exact this
    have hB1 := hB0.trans (hb1.mono (by omega))
    have hy1 := yg_later hy0 hb1 (by rw [hz0]; omega)
    clear hx hy hx0 hy0 hp hb1
    go_wp2_with fail
    refine (hr _ gb p hy1).mono ?_
    rintro e w2 ⟨rfl, hb2⟩
    have hB2 := hB1.trans (hb2.mono (by omega))
    clear hr hy1 hb2 hB0 hB1
    go_wp2
    go_ret
    exact ⟨ret_bool (by simp), hB2⟩

end Go.Proofs.YtnnnleckoinjoaaGreatDoor
