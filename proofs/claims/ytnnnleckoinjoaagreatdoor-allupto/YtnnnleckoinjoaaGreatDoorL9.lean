import Derived.Test.YtnnnleckoinjoaaGreatDoorL8
import Derived.RegionTactic
import Derived.ChangeAlike
namespace Go.Proofs.YtnnnleckoinjoaaGreatDoor
open Go.RowKit
open Pl (It)

structure OpT where
  k : Int
  o : Bool
  a : Int
  b : Int
  c : Int
  d : Int
  s : ByteArray

/-- a step of the script lies in seven cells -/
structure OpAt (w : World) (xb p : Nat) (t : OpT) : Prop where
  c0 : w.cell? ⟨xb, p, none⟩ = some (.int .i64 t.k)
  c1 : w.cell? ⟨xb, p + 1, none⟩ = some (.bool t.o)
  c2 : w.cell? ⟨xb, p + 2, none⟩ = some (.int .i64 t.a)
  c3 : w.cell? ⟨xb, p + 3, none⟩ = some (.int .i64 t.b)
  c4 : w.cell? ⟨xb, p + 4, none⟩ = some (.int .i64 t.c)
  c5 : w.cell? ⟨xb, p + 5, none⟩ = some (.int .i64 t.d)
  c6 : w.cell? ⟨xb, p + 6, none⟩ = some (.string t.s)
  r0 : -9223372036854775808 ≤ t.d
  r1 : t.d ≤ 9223372036854775807
theorem OpAt.later {w w' : World} {xb p B : Nat} {t : OpT} (h : OpAt w xb p t) (hb : Below B w w') (hx : xb < B) : OpAt w' xb p t :=
  ⟨(hb.cell (p := ⟨xb, p, none⟩) hx).trans h.c0, (hb.cell (p := ⟨xb, p + 1, none⟩) hx).trans h.c1, (hb.cell (p := ⟨xb, p + 2, none⟩) hx).trans h.c2, (hb.cell (p := ⟨xb, p + 3, none⟩) hx).trans h.c3,
    (hb.cell (p := ⟨xb, p + 4, none⟩) hx).trans h.c4, (hb.cell (p := ⟨xb, p + 5, none⟩) hx).trans h.c5, (hb.cell (p := ⟨xb, p + 6, none⟩) hx).trans h.c6, h.r0, h.r1⟩

set_option maxRecDepth 100000 in
set_option maxHeartbeats 4000000 in
theorem plays_no (T : Int) (v m : Int) (sv : Value) (w : World) (h : ¬ (1 ≤ v ∧ v ≤ 30 ∧ 1 ≤ m ∧ m ≤ 60)) :
    Calls Tryz.prog 8 #[.int .i64 v, .int .i64 m, sv, .int .i64 T] w fun e w' => e = .returned (.bool true) ∧ Below w.heap.size w w' := by
  go_enter Tryz.func8, Tryz.ntmps8
  go_wp2_with fail
  refine (fresh_no v m _ h).mono ?_
  rintro e w1 ⟨rfl, hb1⟩
  have hz1 := hb1.size
  go_wp2_with fail
  refine (fresh_no v m _ h).mono ?_
  rintro e w2 ⟨rfl, hb2⟩
  have hz2 := hb2.size
  rw [World.size_alloc] at hz2
  have hn1 : w1.heap.size < w2.heap.size := by omega
  have i9 := made_later hb2 (by rw [World.size_alloc]; omega)
  obtain ⟨m0, m1, _⟩ := two_cells i9
  have hB : Below w.heap.size w w2 := (hb1.alloc hz1 _).trans (hb2.mono (by rw [World.size_alloc]; omega))
  have HB := hide (And.intro hB hz2)
  clear hB hb1 hb2 i9 h
  go_wp2
  go_ret
  obtain ⟨hB, hz⟩ := unhide HB
  exact ⟨rfl, hB.alloc (by omega) _⟩

/-- while the two sides are laid into the statement's world -/
structure PW (B : Nat) (w : World) (u0 u1 W x0 g0 x1 g1 : Nat) (s : St) (cs : Array Value) (V : World) : Prop where
  hB : Below B w V
  a0 : XG V x0 s
  b0 : YG V g0 s none
  a1 : XG V x1 s
  b1 : YG V g1 s none
  e0 : V.heap[u0]? = some (sdo x0 g0)
  e1 : V.heap[u1]? = some (sdo x1 g1)
  eW : V.heap[W]? = some (.cells cs 33 (0, 0))
theorem PW.store {B : Nat} {w : World} {u0 u1 W x0 g0 x1 g1 : Nat} {s : St} {cs : Array Value} {V : World} (h : PW B w u0 u1 W x0 g0 x1 g1 s cs V) (hW : B ≤ W) (i j : Nat) (x y : Value) :
    PW B w u0 u1 W x0 g0 x1 g1 s ((cs.setIfInBounds i x).setIfInBounds j y) ((V.setCell ⟨W, i, none⟩ x).setCell ⟨W, j, none⟩ y).drew := by
  have hf : Fr (fun k => k = W) V ((V.setCell ⟨W, i, none⟩ x).setCell ⟨W, j, none⟩ y).drew := by
    refine Fr.drew (Fr.setCell (Fr.setCell (Fr.refl _ _) ?_ _) ?_ _)
    · exact Or.inl rfl
    · exact Or.inl rfl
  have kx : ∀ {b : Nat}, XG V b s → XG ((V.setCell ⟨W, i, none⟩ x).setCell ⟨W, j, none⟩ y).drew b s := by
    intro b hx
    have hX := PF.row hx
    unfold RowAt at hX
    refine PF.fr hx hf ?_
    rintro rfl; rw [h.eW] at hX; simp at hX
  have ky : ∀ {b : Nat}, YG V b s none → YG ((V.setCell ⟨W, i, none⟩ x).setCell ⟨W, j, none⟩ y).drew b s none := by
    intro b hy
    refine RG.fr hy hf ?_ ?_ ?_
    · rintro k c f hk rfl; rw [h.eW] at hk; simp at hk
    · rintro rfl
      obtain ⟨vL, vP, hb, _⟩ := hy
      rw [h.eW] at hb; simp at hb
    · intro k e; cases e
  refine ⟨h.hB.trans ⟨hf.os, hf.tape, hf.output, hf.size, fun k hk => hf.block k ?_ (by omega)⟩, kx h.a0, ky h.b0, kx h.a1, ky h.b1, ?_, ?_, ?_⟩
  · have := h.hB.size; have := lt_of_block h.eW; omega
  · rw [hf.block u0 (lt_of_block h.e0) (by rintro rfl; have := h.e0; rw [h.eW] at this; simp at this)]; exact h.e0
  · rw [hf.block u1 (lt_of_block h.e1) (by rintro rfl; have := h.e1; rw [h.eW] at this; simp at this)]; exact h.e1
  · have := heap_setCell_same V W i _ _ x h.eW
    exact heap_setCell_same _ W j _ _ y this

set_option maxRecDepth 100000 in
set_option maxHeartbeats 8000000 in
theorem plays_ok (T : Int) (hT10 : T ≤ 14) (v m : Nat) (h1 : 1 ≤ v) (h2 : v ≤ 30) (h3 : 1 ≤ m) (h4 : m ≤ 60) (xa : Option Addr) (xb xo len cap : Nat) (I : Nat → OpT) (w : World) (hxa : 0 < len → xa = some ⟨xb, xo, none⟩) (hxb : 0 < len → xb < w.heap.size) (hlen : len ≤ 1048576)
    (hc : ∀ j, j < len → OpAt w xb (xo + j * 7) (I j)) :
    Calls Tryz.prog 8 #[.int .i64 v, .int .i64 m, .slice xa len cap, .int .i64 T] w fun e w' => e = .returned (.bool true) ∧ Below w.heap.size w w' := by
  have HC := hide hc
  clear hc
  go_enter Tryz.func8, Tryz.ntmps8
  go_wp2_with fail
  refine (fresh_ok v m _ h1 h2 h3 h4).mono ?_
  rintro e w1 ⟨x0, g0, rfl, hx0, hg0, ha0, hb0, hb1⟩
  have hz1 := hb1.size
  go_wp2_with fail
  refine (fresh_ok v m _ h1 h2 h3 h4).mono ?_
  rintro e w2 ⟨x1, g1, rfl, hx1, hg1, ha1, hb1', hb2⟩
  have hz2 := hb2.size
  rw [World.size_alloc] at hz2 hx1 hg1
  have hn1 : w1.heap.size < w2.heap.size := by omega
  have i9 := made_later hb2 (by rw [World.size_alloc]; omega)
  obtain ⟨m0, m1, _⟩ := two_cells i9
  have hB : Below w.heap.size w w2 := (hb1.alloc hz1 _).trans (hb2.mono (by rw [World.size_alloc]; omega))
  have HB := hide (And.intro hB (And.intro hz2 (And.intro ha0 (And.intro hb0 (And.intro ha1 (And.intro hb1' hb2))))))
  clear hB hb1 hb2 ha0 hb0 ha1 hb1' i9
  go_wp2_with fail
  obtain ⟨hB, _, ha0, hb0, ha1, hb1', hb2⟩ := unhide HB
  have hP : PW w.heap.size w w1.heap.size w2.heap.size (w2.heap.size + 1) x0 g0 x1 g1 (st0 v m) #[.pointer none, .pointer none, .pointer none, .pointer none, .slice none 0 0, .slice none 0 0] ((w2.alloc (sdo x1 g1)).alloc (.cells #[.pointer none, .pointer none, .pointer none, .pointer none, .slice none 0 0, .slice none 0 0] 33)) := by
    have hbb := boxes_below w2 (sdo x1 g1) (.cells #[.pointer none, .pointer none, .pointer none, .pointer none, .slice none 0 0, .slice none 0 0] 33)
    have h12 : Below w1.heap.size w1 w2 := ((Below.refl _ _).alloc (Nat.le_refl _) _).trans (hb2.mono (by rw [World.size_alloc]; omega))
    refine ⟨hB.trans (hbb.mono (by omega)), xg_later (xg_later ha0 h12 (Nat.le_refl _)) hbb (Nat.le_refl _), yg_later (yg_later hb0 h12 (Nat.le_refl _)) hbb (Nat.le_refl _), xg_later ha1 hbb (Nat.le_refl _), yg_later hb1' hbb (Nat.le_refl _), ?_, ?_, ?_⟩
    · rw [hbb.block _ (by omega)]; exact made_later hb2 (by rw [World.size_alloc]; omega)
    · rw [Below.heap_alloc _ _ _ (by rw [World.size_alloc]; omega)]; exact heap_alloc_new _ _
    · have := heap_alloc_new (w2.alloc (sdo x1 g1)) (.cells #[.pointer none, .pointer none, .pointer none, .pointer none, .slice none 0 0, .slice none 0 0] 33)
      rw [World.size_alloc] at this; exact this
  have hx01 : x0 ≠ x1 := by have := (PF.row ha0).lt; omega
  have hg01 : g0 ≠ g1 := by have := yg_lt hb0; omega
  clear hB ha0 hb0 ha1 hb1' hb2 HB m0 m1
  generalize (w2.alloc (sdo x1 g1)).alloc (.cells #[.pointer none, .pointer none, .pointer none, .pointer none, .slice none 0 0, .slice none 0 0] 33) = V at hP ⊢
  obtain ⟨q0, q1, _⟩ := two_cells hP.e0
  obtain ⟨d0, d1, d2, d3, d4, d5, df⟩ := six_cells hP.eW
  have df0 := df 0
  have df1 := df 1
  have hW1 : w.heap.size ≤ w2.heap.size + 1 := by omega
  have HP := hide (hP.store hW1 0 1 (P0 x0) (P0 g0))
  clear df hP
  go_region
  generalize ((V.setCell ⟨w2.heap.size + 1, 0, none⟩ (P0 x0)).setCell ⟨w2.heap.size + 1, 1, none⟩ (P0 g0)).drew = V2 at HP ⊢
  clear q0 q1 d0 d1 d2 d3 d4 d5 df0 df1
  go_wp2_with fail
  have hP2 := unhide HP
  obtain ⟨q0, q1, _⟩ := two_cells hP2.e1
  obtain ⟨d0, d1, d2, d3, d4, d5, df⟩ := six_cells hP2.eW
  have df2 := df 2
  have df3 := df 3
  have HP2 := hide (hP2.store hW1 2 3 (P0 x1) (P0 g1))
  clear df hP2 HP
  go_region
  generalize ((V2.setCell ⟨w2.heap.size + 1, 2, none⟩ (P0 x1)).setCell ⟨w2.heap.size + 1, 3, none⟩ (P0 g1)).drew = V4 at HP2 ⊢
  clear q0 q1 d0 d1 d2 d3 d4 d5 df2 df3
  have hP4 := unhide HP2
  have hT : TW w.heap.size V4 (w2.heap.size + 1) x0 g0 x1 g1 (.slice none 0 0) (.slice none 0 0) [] [] (st0 v m) (st0 v m) none none :=
    ⟨⟨hP4.eW, World.ownsRow_nil _ _ _ _, World.ownsRow_nil _ _ _ _, (fun k e => by cases e), rfl, Nat.zero_le _, (fun i v h => by cases h), (fun i v h => by cases h)⟩, st0_ok v m h1 h2 h4, st0_ok v m h1 h2 h4, hP4.a0, hP4.b0, hP4.a1, hP4.b1, hx01, hg01, (fun k e => by cases e), ⟨hW1, hx0, hg0, by omega, by omega⟩, (fun k e => by rcases e with e | e <;> cases e), (fun k e => by rcases e with e | e <;> cases e), hP4.hB.size⟩
  have A0 : Aside (TW w.heap.size V4 (w2.heap.size + 1) x0 g0 x1 g1 (.slice none 0 0) (.slice none 0 0) [] [] (st0 v m) (st0 v m) none none ∧ Below w.heap.size w V4) := ⟨hT, hP4.hB⟩
  generalize w2.heap.size + 1 = W at *
  clear hT hP4 HP2 hx01 hg01 hx0 hg0 hx1 hg1 hz1 hz2 hn1 hW1 h1 h2 h3 h4
  go_wp2
  go_loopg [14] len (fun gk i wr => ∃ k : Nat, k ≤ len ∧ i = .int .i64 k ∧ (∃ vl vm ls ms s0 s1 p0 p1, TW w.heap.size wr W x0 g0 x1 g1 vl vm ls ms s0 s1 p0 p1 ∧ ls.length ≤ k) ∧ Below w.heap.size w wr ∧ len - k ≤ gk)
  case atStart => exact ⟨0, Nat.zero_le _, rfl, ⟨_, _, _, _, _, _, _, _, A0.out.1, Nat.le_refl _⟩, A0.out.2, by omega⟩
  case round =>
    obtain ⟨k, hk, rfl, ⟨vl, vm, ls, ms, s0, s1, p0, p1, hT, hls⟩, hB, hgk⟩ := hrel
    by_cases hlt : k < len
    · obtain rfl := hxa (by omega)
      have hO := (unhide HC k hlt).later hB (hxb (by omega))
      have hk1 : (0 : Int) ≤ k := by omega
      have hk2 : (k : Int) < len := by omega
      obtain ⟨t, ht⟩ : ∃ t, t = I k := ⟨_, rfl⟩
      rw [← ht] at hO
      clear ht
      obtain ⟨tk, tq, ta, tb, tc, td, ts⟩ := t
      obtain ⟨c0, c1, c2, c3, c4, c5, c6, r0, r1⟩ := hO
      simp only at c0 c1 c2 c3 c4 c5 c6 r0 r1
      by_cases h8 : T < tk
      · have HT := hide (And.intro hT hB)
        clear hT hB c1 c2 c3 c4 c5 c6
        go_wp2
        obtain ⟨hT, hB⟩ := unhide HT
        go_roundg (gk - 1)
        case measure => omega
        case rel => exact ⟨k + 1, by omega, by go_num, ⟨_, _, _, _, _, _, _, _, hT, by omega⟩, hB, by omega⟩
      · have hst := step_any w.heap.size W x0 g0 x1 g1 vl vm ls ms s0 s1 p0 p1 tk (by omega) tq ta tb tc td r0 r1 ts wr hT (by omega)
        have HS := hide hst
        have HB := hide hB
        clear hT hst hB r0 r1
        go_wp2_with fail
        refine Calls.mono (by exact unhide HS) ?_
        rintro e w3 ⟨rfl, ⟨vl', vm', ls', ms', s0', s1', p0', p1', hT3, hls3⟩, hb3⟩
        have hB3 := (unhide HB).trans hb3
        have hlk := looks_any W (P0 x0) (P0 g0) (P0 x1) (P0 g1) vl' vm' ls' ms' w3 hT3.li
        have HT := hide (And.intro hT3 hB3)
        clear hT3 hB3 HS HB c0 c1 c2 c3 c4 c5 c6 hb3
        go_wp2_with fail
        refine Calls.mono (by exact hlk) ?_
        rintro e w4 ⟨rfl, rfl⟩
        clear hlk
        go_wp2
        obtain ⟨hT, hB⟩ := unhide HT
        go_roundg (gk - 1)
        case measure => omega
        case rel => exact ⟨k + 1, by omega, by go_num, ⟨_, _, _, _, _, _, _, _, hT, by omega⟩, hB, by omega⟩
    · clear hT
      go_wp2
      go_ret
      exact ⟨rfl, hB⟩

set_option maxRecDepth 100000 in
set_option maxHeartbeats 8000000 in
theorem comes_any (v m : Int) (xa : Option Addr) (xb xo len cap : Nat) (I : Nat → OpT) (w : World) (hxa : 0 < len → xa = some ⟨xb, xo, none⟩) (hxb : 0 < len → xb < w.heap.size) (hlen : len ≤ 1048576)
    (hc : ∀ j, j < len → OpAt w xb (xo + j * 7) (I j)) :
    Calls Tryz.prog 3 #[.int .i64 v, .int .i64 m, .slice xa len cap] w fun e w' => e = .returned (.bool true) ∧ Below w.heap.size w w' := by
  have hp : Calls Tryz.prog 8 #[.int .i64 v, .int .i64 m, .slice xa len cap, .int .i64 8] w fun e w' => e = .returned (.bool true) ∧ Below w.heap.size w w' := by
    by_cases h : 1 ≤ v ∧ v ≤ 30 ∧ 1 ≤ m ∧ m ≤ 60
    · obtain ⟨h1, h2, h3, h4⟩ := h
      obtain ⟨v', rfl⟩ := Int.eq_ofNat_of_zero_le (show 0 ≤ v by omega)
      obtain ⟨m', rfl⟩ := Int.eq_ofNat_of_zero_le (show 0 ≤ m by omega)
      exact plays_ok 8 (by decide) v' m' (by omega) (by omega) (by omega) (by omega) xa xb xo len cap I w hxa hxb hlen hc
    · exact plays_no 8 v m _ w h
  clear hc
  go_enter Tryz.func3, Tryz.ntmps3
  go_wp2_with fail
  refine hp.mono ?_
  rintro e w1 ⟨rfl, hb⟩
  clear hp
  go_wp2
  go_ret
  exact ⟨rfl, hb⟩
set_option maxRecDepth 100000 in
set_option maxHeartbeats 8000000 in
theorem goes_any (v m : Int) (xa : Option Addr) (xb xo len cap : Nat) (I : Nat → OpT) (w : World) (hxa : 0 < len → xa = some ⟨xb, xo, none⟩) (hxb : 0 < len → xb < w.heap.size) (hlen : len ≤ 1048576)
    (hc : ∀ j, j < len → OpAt w xb (xo + j * 7) (I j)) :
    Calls Tryz.prog 4 #[.int .i64 v, .int .i64 m, .slice xa len cap] w fun e w' => e = .returned (.bool true) ∧ Below w.heap.size w w' := by
  have hp : Calls Tryz.prog 8 #[.int .i64 v, .int .i64 m, .slice xa len cap, .int .i64 10] w fun e w' => e = .returned (.bool true) ∧ Below w.heap.size w w' := by
    by_cases h : 1 ≤ v ∧ v ≤ 30 ∧ 1 ≤ m ∧ m ≤ 60
    · obtain ⟨h1, h2, h3, h4⟩ := h
      obtain ⟨v', rfl⟩ := Int.eq_ofNat_of_zero_le (show 0 ≤ v by omega)
      obtain ⟨m', rfl⟩ := Int.eq_ofNat_of_zero_le (show 0 ≤ m by omega)
      exact plays_ok 10 (by decide) v' m' (by omega) (by omega) (by omega) (by omega) xa xb xo len cap I w hxa hxb hlen hc
    · exact plays_no 10 v m _ w h
  clear hc
  go_enter Tryz.func4, Tryz.ntmps4
  go_wp2_with fail
  refine hp.mono ?_
  rintro e w1 ⟨rfl, hb⟩
  clear hp
  go_wp2
  go_ret
  exact ⟨rfl, hb⟩
set_option maxRecDepth 100000 in
set_option maxHeartbeats 8000000 in
theorem hangs_any (v m : Int) (xa : Option Addr) (xb xo len cap : Nat) (I : Nat → OpT) (w : World) (hxa : 0 < len → xa = some ⟨xb, xo, none⟩) (hxb : 0 < len → xb < w.heap.size) (hlen : len ≤ 1048576)
    (hc : ∀ j, j < len → OpAt w xb (xo + j * 7) (I j)) :
    Calls Tryz.prog 5 #[.int .i64 v, .int .i64 m, .slice xa len cap] w fun e w' => e = .returned (.bool true) ∧ Below w.heap.size w w' := by
  have hp : Calls Tryz.prog 8 #[.int .i64 v, .int .i64 m, .slice xa len cap, .int .i64 14] w fun e w' => e = .returned (.bool true) ∧ Below w.heap.size w w' := by
    by_cases h : 1 ≤ v ∧ v ≤ 30 ∧ 1 ≤ m ∧ m ≤ 60
    · obtain ⟨h1, h2, h3, h4⟩ := h
      obtain ⟨v', rfl⟩ := Int.eq_ofNat_of_zero_le (show 0 ≤ v by omega)
      obtain ⟨m', rfl⟩ := Int.eq_ofNat_of_zero_le (show 0 ≤ m by omega)
      exact plays_ok 14 (by decide) v' m' (by omega) (by omega) (by omega) (by omega) xa xb xo len cap I w hxa hxb hlen hc
    · exact plays_no 14 v m _ w h
  clear hc
  go_enter Tryz.func5, Tryz.ntmps5
  go_wp2_with fail
  refine hp.mono ?_
  rintro e w1 ⟨rfl, hb⟩
  clear hp
  go_wp2
  go_ret
  exact ⟨rfl, hb⟩
end Go.Proofs.YtnnnleckoinjoaaGreatDoor
