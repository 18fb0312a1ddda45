import Derived.Test.YtnnnleckoinjoaaDoorK12
namespace Go.Proofs.YtnnnleckoinjoaaDoor
open Go.RowKit
open Pl (It)

theorem opened_ok (n : Nat) (h1 : 1 ≤ n) (h2 : n ≤ 30) : BOk (st0 n 60) := ⟨ok0 n 60 h1 h2 (by omega), rfl, (fun e h => by cases h), (fun l h => by cases h)⟩

set_option maxRecDepth 100000 in
set_option maxHeartbeats 2000000 in
theorem opened_any (v0 : Int) (hv : R64 v0) (w : World) :
    Calls Tryd.prog 24 #[.int .i64 v0] w fun e w' => ∃ bb xb, e = .returned (P0 bb) ∧ w.heap.size ≤ bb ∧ w.heap.size ≤ xb ∧ BK w' bb xb (st0 (pk v0 30 + 1) 60) ∧ Below w.heap.size w w' := by
  obtain ⟨a, ha⟩ : ∃ a, a = pk v0 30 := ⟨_, rfl⟩
  have ha30 : a < 30 := by rw [ha]; exact pk_lt v0 30 (by omega)
  have HA : Hid (∀ w, Calls Tryd.prog 12 #[.int .i64 v0, .int .i64 30] w fun e w' => e = .returned (.int .i64 a) ∧ w = w') := fun w => by rw [ha]; exact pick_any v0 30 (by omega) (by omega) hv.1 hv.2 w
  rw [← ha]
  clear ha
  have HN : Hid (∀ w, Calls Tryd.prog 25 #[.int .i64 (1 + (a : Int)), .int .i64 60] w fun e w' => e = .returned (.tuple #[P0 w.heap.size, .int .i64 0]) ∧ XG w' w.heap.size (st0 (a + 1) 60) ∧ Below w.heap.size w w' ∧ w'.heap.size = w.heap.size + 1) := fun w => by
    rw [show (1 : Int) + a = ((a + 1 : Nat) : Int) by omega]; exact newX_ok (a + 1) 60 w (by omega) (by omega) (by omega) (by omega)
  go_enter Tryd.func24, Tryd.ntmps24
  go_wp2_with fail
  refine ((unhide HA) _).mono ?_
  rintro e w1 ⟨rfl, rfl⟩
  go_wp2_with fail
  refine ((unhide HN) _).mono ?_
  rintro e w1 ⟨rfl, hX1, hB1, hs1⟩
  have H1 := hide (And.intro hX1 (And.intro hB1 hs1))
  clear hX1 hB1 hs1
  go_wp2
  go_ret
  obtain ⟨hX1, hB1, hs1⟩ := unhide H1
  refine ⟨w1.heap.size, w.heap.size, rfl, by omega, Nat.le_refl _, ⟨⟨.slice none 0 0, .slice none 0 0, .slice none 0 0, ?_, World.ownsRow_nil _ _ _ _, Or.inl ⟨rfl, rfl⟩, World.ownsRow_nil _ _ _ _⟩, PF.alloc hX1 _⟩, hB1.alloc hB1.size _⟩
  have := heap_alloc_new w1 (.cells #[P0 w.heap.size, .int .i64 (1 + (a : Int)), .slice none 0 0, .slice none 0 0, .slice none 0 0, .bool false] 30)
  rw [this]
  simp only [bko, st0]
  rw [show (1 : Int) + a = ((a + 1 : Nat) : Int) by omega]

/-- a step of the script -/
structure StT where
  k : Int
  a : Int
  b : Int
  c : Int
  d : Int
structure StAt (w : World) (xb p : Nat) (t : StT) : Prop where
  c0 : w.cell? ⟨xb, p, none⟩ = some (.int .i64 t.k)
  c1 : w.cell? ⟨xb, p + 1, none⟩ = some (.int .i64 t.a)
  c2 : w.cell? ⟨xb, p + 2, none⟩ = some (.int .i64 t.b)
  c3 : w.cell? ⟨xb, p + 3, none⟩ = some (.int .i64 t.c)
  c4 : w.cell? ⟨xb, p + 4, none⟩ = some (.int .i64 t.d)
  r1 : R64 t.a
  r2 : R64 t.b
  r3 : R64 t.c
  r4 : R64 t.d
theorem StAt.later {w w' : World} {xb p B : Nat} {t : StT} (h : StAt w xb p t) (hb : Below B w w') (hx : xb < B) : StAt w' xb p t :=
  ⟨(hb.cell (p := ⟨xb, p, none⟩) hx).trans h.c0, (hb.cell (p := ⟨xb, p + 1, none⟩) hx).trans h.c1, (hb.cell (p := ⟨xb, p + 2, none⟩) hx).trans h.c2, (hb.cell (p := ⟨xb, p + 3, none⟩) hx).trans h.c3, (hb.cell (p := ⟨xb, p + 4, none⟩) hx).trans h.c4, h.r1, h.r2, h.r3, h.r4⟩
theorem below_frs {a c d : World} {bb xb : Nat} (h : Below a.heap.size a c) (hf : Fr (fun q => q = bb ∨ q = xb) c d) (hb : a.heap.size ≤ bb) (hx : a.heap.size ≤ xb) : Below a.heap.size a d :=
  ⟨hf.os.trans h.os, hf.tape.trans h.tape, hf.output.trans h.output, Nat.le_trans h.size hf.size, fun q hq => (hf.block q (by have := h.size; omega) (by omega)).trans (h.block q hq)⟩

set_option maxRecDepth 100000 in
set_option maxHeartbeats 4000000 in
theorem played_any (v0 : Int) (hv : R64 v0) (sa : Option Addr) (sb so len cap : Nat) (I : Nat → StT) (w : World) (hsa : 0 < len → sa = some ⟨sb, so, none⟩) (hsb : 0 < len → sb < w.heap.size) (hlen : len ≤ 9223372036854775807) (hc : ∀ j, j < len → StAt w sb (so + j * 5) (I j)) :
    Calls Tryd.prog 8 #[.int .i64 v0, .slice sa len cap] w fun e w' => ∃ bb xb s, e = .returned (P0 bb) ∧ w.heap.size ≤ bb ∧ w.heap.size ≤ xb ∧ BOk s ∧ BK w' bb xb s ∧ Below w.heap.size w w' := by
  have hn1 : pk v0 30 < 30 := pk_lt v0 30 (by omega)
  have hok := opened_ok (pk v0 30 + 1) (by omega) (by omega)
  have HC := hide hc
  clear hc
  go_enter Tryd.func8, Tryd.ntmps8
  go_wp2_with fail
  refine (opened_any v0 hv _).mono ?_
  rintro e w1 ⟨bb, xb, rfl, hbb, hxb, hBK1, hB1⟩
  have H1 := hide (And.intro hBK1 hB1)
  clear hBK1 hB1
  go_wp2_with fail
  go_loopg [6] len (fun gk i wr => ∃ (k : Nat) (s : St), k ≤ len ∧ i = .int .i64 k ∧ BOk s ∧ BK wr bb xb s ∧ Below w.heap.size w wr ∧ len - k ≤ gk)
  case atStart => exact ⟨0, _, Nat.zero_le _, rfl, hok, (unhide H1).1, (unhide H1).2, by omega⟩
  case round =>
    obtain ⟨k, s, hk, rfl, hs, hK, hB, hgk⟩ := hrel
    by_cases hlt : k < len
    · obtain rfl := hsa (by omega)
      have hO := ((unhide HC) k hlt).later hB (hsb (by omega))
      have hk1 : (0 : Int) ≤ k := by omega
      have hk2 : (k : Int) < len := by omega
      obtain ⟨t, ht⟩ : ∃ t, t = I k := ⟨_, rfl⟩
      rw [← ht] at hO
      clear ht
      obtain ⟨tk, ta, tb, tc, td⟩ := t
      obtain ⟨c0, c1, c2, c3, c4, r1, r2, r3, r4⟩ := hO
      simp only at c0 c1 c2 c3 c4 r1 r2 r3 r4
      have HS := hide (kstep_any bb xb s hs tk ta tb tc td r1 r2 r3 r4 wr hK)
      have HB := hide hB
      clear hK hB r1 r2 r3 r4 H1 HC
      go_wp2_with fail
      refine Calls.mono (by exact unhide HS) ?_
      rintro e w3 ⟨rfl, ⟨s', hs', _, hK'⟩, hF⟩
      have H3 := hide (And.intro hs' (And.intro hK' (below_frs (unhide HB) hF hbb hxb)))
      clear hs' hK' hF HS HB c0 c1 c2 c3 c4
      go_wp2
      go_roundg (gk - 1)
      case measure => omega
      case rel => exact ⟨k + 1, s', by omega, by go_num, (unhide H3).1, (unhide H3).2.1, (unhide H3).2.2, by omega⟩
    · have k2 : ¬ (k : Int) < len := by omega
      have H3 := hide (And.intro hs (And.intro hK hB))
      clear hs hK hB H1 HC
      go_wp2
      go_ret
      exact ⟨bb, rfl, hbb, xb, hxb, s, (unhide H3).1, (unhide H3).2.1, (unhide H3).2.2⟩

end Go.Proofs.YtnnnleckoinjoaaDoor
