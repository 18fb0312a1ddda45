/- The script of a statement, opened. -/
import Derived.Test.YtnnnleckoinjoaaDoorK13
import Derived.Test.YtnnnleckoinjoaaDoorRows
import Derived.ProofKit
import Derived.OpenShut
import Derived.Deep.Slices
import Derived.Deep.DeepHandedRow
namespace Go.Proofs.YtnnnleckoinjoaaDoor
open Go.ChangeShapes Go.WideShapes Go.ChangeAt Go.RowKit Go.Deep

namespace keepC
theorem own : ownKnob Tryd.prog.godebug = none := by kernel_rfl
theorem laidOut : laidOutB Tryd.prog = true := by kernel_rfl
theorem cellsStep : Tryd.prog.cellsOf 39 = 5 := by kernel_rfl
theorem cellsInt : Tryd.prog.cellsOf 3 = 1 := by kernel_rfl
theorem r64 {x : Int} (h : (Lit.int .i64 x).wf = true) : R64 x := by
  have h' : (IntKind.i64.min ≤ x) ∧ x ≤ IntKind.i64.max := by simpa [Lit.wf] using h
  exact ⟨h'.1, h'.2⟩
theorem add_plain {a : Addr} (h : a.spot = none) (n : Nat) : a.add n = ⟨a.block, a.off + n, none⟩ := by
  obtain ⟨b, o, s⟩ := a
  simp only at h
  subst h
  unfold Addr.add
  split
  · subst_vars; rfl
  · rfl
theorem cell_lt {w : World} {a : Addr} {v : Value} (h : w.cell? a = some v) : a.block < w.heap.size := by
  unfold World.cell? at h
  split at h
  · rename_i hh; exact (Array.getElem?_eq_some_iff.1 hh).1
  · cases h

set_option maxRecDepth 100000 in
/-- The script, opened: nil, or a row of five cells a step. -/
theorem open_script {H : Type} {enc : TypeId × Value → H} {W : World} {fuel : Nat} {v : Value} {x : DataW H × List MemPlace} (h : DataW.trod enc Tryd.prog W 0 (fun _ => true) true fuel 22 [v] = some x) :
    ∃ (xa : Option Addr) (xb xo len cap : Nat) (I : Nat → StT), v = .slice xa len cap ∧ (0 < len → xa = some ⟨xb, xo, none⟩) ∧ (0 < len → xb < W.heap.size) ∧ len ≤ 9223372036854775807 ∧ ∀ j, j < len → StAt W xb (xo + j * 5) (I j) := by
  haveI : Inhabited StT := ⟨⟨0, 0, 0, 0, 0⟩⟩
  rcases open_slice Tryd.underlying22 h with ⟨h0, hx⟩ | ⟨a, len, cap, m, n, D, Pl, hv, hb, hl, hm, hmm, rfl, hx⟩
  · obtain rfl : v = .slice none 0 0 := by simpa using h0
    exact ⟨none, 0, 0, 0, 0, fun _ => default, rfl, fun h => by omega, fun h => by omega, Nat.zero_le _, fun j hj => by omega⟩
  · obtain rfl : v = .slice (some a) len cap := by simpa using hv
    have hlm : len ≤ m := by rw [hmm]; split <;> omega
    have first : 0 < m → a.spot = none ∧ a.block < W.heap.size := by
      intro hi
      obtain ⟨cs', h1, _⟩ := hx 0 hi
      rw [cellsStep] at h1
      obtain ⟨_, hlen, hcell⟩ := World.cells?_some h1
      have c0 := hcell 0 (by omega)
      rw [List.getElem?_eq_getElem (by omega)] at c0
      have e : (a.add (0 * 5)).add 0 = a := by simp [Addr.add]
      rw [e] at c0
      exact ⟨World.cell?_spot c0, cell_lt c0⟩
    have each : ∀ i, i < m → ∃ q : StT, StAt W a.block (a.off + i * 5) q := by
      intro i hi
      obtain ⟨cs', h1, h2⟩ := hx i hi
      rw [cellsStep] at h1
      obtain ⟨_, hlen, hcell⟩ := World.cells?_some h1
      obtain ⟨xs, k, _, _, _, hxl, hf⟩ := DataW.trod_struct Tryd.underlying39 h2
      match cs', hlen, xs, hxl with
      | [v0, v1, v2, v3, v4], _, [y0, y1, y2, y3, y4], _ =>
        have u0 : DataW.trod enc Tryd.prog W 0 (fun _ => true) true k 3 (([v0, v1, v2, v3, v4].drop 0).take (Tryd.prog.cellsOf 3)) = some y0 := hf 0 _ rfl
        have u1 : DataW.trod enc Tryd.prog W 0 (fun _ => true) true k 3 (([v0, v1, v2, v3, v4].drop 1).take (Tryd.prog.cellsOf 3)) = some y1 := hf 1 _ rfl
        have u2 : DataW.trod enc Tryd.prog W 0 (fun _ => true) true k 3 (([v0, v1, v2, v3, v4].drop 2).take (Tryd.prog.cellsOf 3)) = some y2 := hf 2 _ rfl
        have u3 : DataW.trod enc Tryd.prog W 0 (fun _ => true) true k 3 (([v0, v1, v2, v3, v4].drop 3).take (Tryd.prog.cellsOf 3)) = some y3 := hf 3 _ rfl
        have u4 : DataW.trod enc Tryd.prog W 0 (fun _ => true) true k 3 (([v0, v1, v2, v3, v4].drop 4).take (Tryd.prog.cellsOf 3)) = some y4 := hf 4 _ rfl
        rw [cellsInt] at u0 u1 u2 u3 u4
        simp only [List.drop, List.take] at u0 u1 u2 u3 u4
        obtain ⟨q0, e0, _, _⟩ := DataW.trod_int Tryd.underlying3 u0
        obtain ⟨q1, e1, _, w1⟩ := DataW.trod_int Tryd.underlying3 u1
        obtain ⟨q2, e2, _, w2⟩ := DataW.trod_int Tryd.underlying3 u2
        obtain ⟨q3, e3, _, w3⟩ := DataW.trod_int Tryd.underlying3 u3
        obtain ⟨q4, e4, _, w4⟩ := DataW.trod_int Tryd.underlying3 u4
        simp only [List.cons.injEq, and_true] at e0 e1 e2 e3 e4
        subst e0; subst e1; subst e2; subst e3; subst e4
        have c0 := hcell 0 (by omega)
        have c1 := hcell 1 (by omega)
        have c2 := hcell 2 (by omega)
        have c3 := hcell 3 (by omega)
        have c4 := hcell 4 (by omega)
        have hs := (first (by omega)).1
        rw [add_plain hs, add_plain rfl] at c0 c1 c2 c3 c4
        exact ⟨⟨q0, q1, q2, q3, q4⟩, ⟨by simpa using c0, by simpa using c1, by simpa using c2, by simpa using c3, by simpa using c4, r64 w1, r64 w2, r64 w3, r64 w4⟩⟩
    obtain ⟨q, hq⟩ := choose_lt each
    refine ⟨some a, a.block, a.off, len, cap, q, rfl, fun h => ?_, fun h => (first (by omega)).2, ?_, fun j hj => hq j (by omega)⟩
    · have hs := (first (by omega)).1
      obtain ⟨b, o, s⟩ := a
      simp only at hs
      rw [hs]
    · unfold maxLen at hm; omega
end keepC

end Go.Proofs.YtnnnleckoinjoaaDoor
