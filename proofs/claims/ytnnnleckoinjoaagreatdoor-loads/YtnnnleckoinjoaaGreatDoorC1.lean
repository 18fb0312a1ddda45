/- The statement over Comes: its arguments opened, its walk, its row, its card. -/
import Derived.Test.YtnnnleckoinjoaaGreatDoorL9
import Derived.Test.YtnnnleckoinjoaaGreatDoorCards
import Derived.Test.YtnnnleckoinjoaaGreatDoorTie
import Derived.ProofKit
import Derived.OpenShut
import Derived.Deep.Slices
import Derived.Deep.DeepHandedRow
import Derived.Lib.LaidTab
namespace Go.Proofs.YtnnnleckoinjoaaGreatDoor
open Go.ChangeShapes Go.WideShapes Go.ChangeAt Go.RowKit Go.Deep

namespace comesC
theorem own : ownKnob Tryz.prog.godebug = none := by kernel_rfl
theorem laidOut : laidOutB Tryz.prog = true := by kernel_rfl
theorem cellsOp : Tryz.prog.cellsOf 38 = 7 := by kernel_rfl
theorem cellsInt : Tryz.prog.cellsOf 3 = 1 := by kernel_rfl
theorem cellsBool : Tryz.prog.cellsOf 4 = 1 := by kernel_rfl
theorem cellsStr : Tryz.prog.cellsOf 9 = 1 := by kernel_rfl

theorem one_le {H : Type} (d : DataW H) : 1 ≤ Rows.uptoBulk d := by
  cases d with
  | lit l => cases l <;> simp [Rows.uptoBulk]
  | _ => simp [Rows.uptoBulk]
theorem len_le {H : Type} (l : List (DataW H)) : l.length ≤ Rows.uptoBulkAll l := by
  induction l with
  | nil => simp [Rows.uptoBulkAll]
  | cons x r ih => have := one_le x; simp only [Rows.uptoBulkAll, List.length_cons]; omega

theorem add_plain {a : Addr} (h : a.spot = none) (n : Nat) : a.add n = ⟨a.block, a.off + n, none⟩ := by
  obtain ⟨b, o, s⟩ := a
  simp only at h
  subst h
  unfold Addr.add
  split
  · subst_vars; rfl
  · rfl

theorem cell_lt {w : World} {a : Addr} {v : Value} (h : w.cell? a = some v) : a.block < w.heap.size := by
  unfold World.cell? at h
  split at h
  · rename_i hh; exact (Array.getElem?_eq_some_iff.1 hh).1
  · cases h

set_option maxRecDepth 100000 in
/-- The script, opened: nil, or a row of seven cells a step. -/
theorem open_script {H : Type} {enc : TypeId × Value → H} {W : World} {fuel : Nat} {v : Value} {x : DataW H × List MemPlace} (h : DataW.trod enc Tryz.prog W 0 (fun _ => true) true fuel 22 [v] = some x) :
    ∃ (xa : Option Addr) (xb xo len cap : Nat) (I : Nat → OpT), v = .slice xa len cap ∧ (0 < len → xa = some ⟨xb, xo, none⟩) ∧ (0 < len → xb < W.heap.size) ∧ len ≤ Rows.uptoBulk x.1 ∧ ∀ j, j < len → OpAt W xb (xo + j * 7) (I j) := by
  haveI : Inhabited OpT := ⟨⟨0, false, 0, 0, 0, 0, ByteArray.empty⟩⟩
  rcases open_slice Tryz.underlying22 h with ⟨h0, hx⟩ | ⟨a, len, cap, m, n, D, Pl, hv, hb, hl, hm, hmm, rfl, hx⟩
  · obtain rfl : v = .slice none 0 0 := by simpa using h0
    exact ⟨none, 0, 0, 0, 0, fun _ => default, rfl, fun h => by omega, fun h => by omega, Nat.zero_le _, fun j hj => by omega⟩
  · obtain rfl : v = .slice (some a) len cap := by simpa using hv
    have hlm : len ≤ m := by rw [hmm]; split <;> omega
    have first : 0 < m → a.spot = none ∧ a.block < W.heap.size := by
      intro hi
      obtain ⟨cs', h1, _⟩ := hx 0 hi
      rw [cellsOp] at h1
      obtain ⟨_, hlen, hcell⟩ := World.cells?_some h1
      have c0 := hcell 0 (by omega)
      rw [List.getElem?_eq_getElem (by omega)] at c0
      have e : (a.add (0 * 7)).add 0 = a := by simp [Addr.add]
      rw [e] at c0
      exact ⟨World.cell?_spot c0, cell_lt c0⟩
    have each : ∀ i, i < m → ∃ q : OpT, OpAt W a.block (a.off + i * 7) q := by
      intro i hi
      obtain ⟨cs', h1, h2⟩ := hx i hi
      rw [cellsOp] at h1
      obtain ⟨_, hlen, hcell⟩ := World.cells?_some h1
      obtain ⟨xs, k, _, _, _, hxl, hf⟩ := DataW.trod_struct Tryz.underlying38 h2
      match cs', hlen, xs, hxl with
      | [v0, v1, v2, v3, v4, v5, v6], _, [y0, y1, y2, y3, y4, y5, y6], _ =>
        have u0 : DataW.trod enc Tryz.prog W 0 (fun _ => true) true k 3 (([v0, v1, v2, v3, v4, v5, v6].drop 0).take (Tryz.prog.cellsOf 3)) = some y0 := hf 0 _ rfl
        rw [cellsInt] at u0
        have u1 : DataW.trod enc Tryz.prog W 0 (fun _ => true) true k 4 (([v0, v1, v2, v3, v4, v5, v6].drop 1).take (Tryz.prog.cellsOf 4)) = some y1 := hf 1 _ rfl
        rw [cellsBool] at u1
        have u2 : DataW.trod enc Tryz.prog W 0 (fun _ => true) true k 3 (([v0, v1, v2, v3, v4, v5, v6].drop 2).take (Tryz.prog.cellsOf 3)) = some y2 := hf 2 _ rfl
        rw [cellsInt] at u2
        have u3 : DataW.trod enc Tryz.prog W 0 (fun _ => true) true k 3 (([v0, v1, v2, v3, v4, v5, v6].drop 3).take (Tryz.prog.cellsOf 3)) = some y3 := hf 3 _ rfl
        rw [cellsInt] at u3
        have u4 : DataW.trod enc Tryz.prog W 0 (fun _ => true) true k 3 (([v0, v1, v2, v3, v4, v5, v6].drop 4).take (Tryz.prog.cellsOf 3)) = some y4 := hf 4 _ rfl
        rw [cellsInt] at u4
        have u5 : DataW.trod enc Tryz.prog W 0 (fun _ => true) true k 3 (([v0, v1, v2, v3, v4, v5, v6].drop 5).take (Tryz.prog.cellsOf 3)) = some y5 := hf 5 _ rfl
        rw [cellsInt] at u5
        have u6 : DataW.trod enc Tryz.prog W 0 (fun _ => true) true k 9 (([v0, v1, v2, v3, v4, v5, v6].drop 6).take (Tryz.prog.cellsOf 9)) = some y6 := hf 6 _ rfl
        rw [cellsStr] at u6
        simp only [List.drop, List.take] at u0 u1 u2 u3 u4 u5 u6
        obtain ⟨q0, e0, _, _⟩ := DataW.trod_int Tryz.underlying3 u0
        obtain ⟨q1, e1, _⟩ := DataW.trod_bool Tryz.underlying4 u1
        obtain ⟨q2, e2, _, _⟩ := DataW.trod_int Tryz.underlying3 u2
        obtain ⟨q3, e3, _, _⟩ := DataW.trod_int Tryz.underlying3 u3
        obtain ⟨q4, e4, _, _⟩ := DataW.trod_int Tryz.underlying3 u4
        obtain ⟨q5, e5, _, w5⟩ := DataW.trod_int Tryz.underlying3 u5
        obtain ⟨q6, e6, _, _⟩ := DataW.trod_string Tryz.underlying9 u6
        simp only [List.cons.injEq, and_true] at e0 e1 e2 e3 e4 e5 e6
        subst e0; subst e1; subst e2; subst e3; subst e4; subst e5; subst e6
        have c0 := hcell 0 (by omega)
        have c1 := hcell 1 (by omega)
        have c2 := hcell 2 (by omega)
        have c3 := hcell 3 (by omega)
        have c4 := hcell 4 (by omega)
        have c5 := hcell 5 (by omega)
        have c6 := hcell 6 (by omega)
        have hs := (first (by omega)).1
        rw [add_plain hs, add_plain rfl] at c0 c1 c2 c3 c4 c5 c6
        have w5' : (IntKind.i64.min ≤ q5) ∧ q5 ≤ IntKind.i64.max := by simpa [Lit.wf] using w5
        have r0 : -9223372036854775808 ≤ q5 := w5'.1
        have r1 : q5 ≤ 9223372036854775807 := w5'.2
        exact ⟨⟨q0, q1, q2, q3, q4, q5, q6⟩, ⟨by simpa using c0, by simpa using c1, by simpa using c2, by simpa using c3, by simpa using c4, by simpa using c5, by simpa using c6, r0, r1⟩⟩
    obtain ⟨q, hq⟩ := choose_lt each
    refine ⟨some a, a.block, a.off, len, cap, q, rfl, fun h => ?_, fun h => (first (by omega)).2, ?_, fun j hj => hq j (by omega)⟩
    · have hs := (first (by omega)).1
      obtain ⟨b, o, s⟩ := a
      simp only at hs
      rw [hs]
    · have := len_le ((List.range len).map D)
      simp only [Rows.uptoBulk]
      simp at this
      omega

/-- The cells of a table of numbers, as the row lists it. (The witness: the settled world, the three tables holding what their initialisers lay; typed out at each use.) -/
def cellsIn (d : DataW Nat) : Array Value := match d with
  | .agg l => (l.map fun
    | .lit (.int k n) => Value.int k n
    | _ => undef).toArray
  | _ => #[]
def putIn (d : DataW Nat) : Obj → Obj
  | .cells _ t frozen => .cells (cellsIn d) t frozen
  | o => o
abbrev wargs : Array Value := #[.int .i64 0, .int .i64 0, .slice none 0 0]
set_option maxRecDepth 100000 in
theorem laid_met (os : Os) : laidMet Tryz.prog Rows.comesUptoRow.laid ((({ World.holding Tryz.prog os ⟨#[], #[], []⟩ with heap := (((World.holding Tryz.prog os ⟨#[], #[], []⟩).heap.modify 0 (putIn Rows.laid_internal_strconv_uint64pow10)).modify 1 (putIn Rows.laid_math_bits_deBruijn32tab)).modify 2 (putIn Rows.laid_math_bits_deBruijn64tab) } : World)).forCall (fun _ _ => 0) ⟨#[], wargs, []⟩).memory :=
  laidMet_of_run' 8 (by kernel_rfl) (by kernel_rfl)
set_option maxRecDepth 100000 in
theorem reads (os : Os) {H : Type} (enc : TypeId × Value → H) : ∃ places, DataW.whole enc Tryz.prog ((({ World.holding Tryz.prog os ⟨#[], #[], []⟩ with heap := (((World.holding Tryz.prog os ⟨#[], #[], []⟩).heap.modify 0 (putIn Rows.laid_internal_strconv_uint64pow10)).modify 1 (putIn Rows.laid_math_bits_deBruijn32tab)).modify 2 (putIn Rows.laid_math_bits_deBruijn64tab) } : World)).forCall (fun _ _ => 0) ⟨#[], wargs, []⟩).memory Tryz.f3.params.toList Rows.comesSpec.vars false wargs.toList 8 = some ([.lit (.int .i64 0), .lit (.int .i64 0), .nil], [], places) :=
  ⟨[], by kernel_rfl⟩

set_option maxRecDepth 100000 in
set_option maxHeartbeats 2000000 in
theorem lifted (os : Os) (started : os.Started) (H : Type) (enc : TypeId × Value → H) (F : Stop.Interp) :
    ReturnsInHanded {} Tryz.checked os 3 .any ((Rows.OpenSpec.upto Rows.comesSpec).preRow enc Tryz.prog Tryz.f3 Rows.comesUptoRow.domain false Rows.comesUptoRow.laid) (((Rows.OpenSpec.upto Rows.comesSpec).at F).post enc Tryz.prog Tryz.f3 false true false false) := by
  obtain ⟨places, hx⟩ := reads os enc
  refine returnsInHanded_of_row (C := Tryz.checked) (s := Rows.OpenSpec.upto Rows.comesSpec) own started (by kernel_rfl) Tryz.func3
    (witness_row_at (enc := enc) (C := Tryz.checked) false (({ World.holding Tryz.prog os ⟨#[], #[], []⟩ with heap := (((World.holding Tryz.prog os ⟨#[], #[], []⟩).heap.modify 0 (putIn Rows.laid_internal_strconv_uint64pow10)).modify 1 (putIn Rows.laid_math_bits_deBruijn32tab)).modify 2 (putIn Rows.laid_math_bits_deBruijn64tab) } : World)) wargs rfl (by kernel_rfl) (by kernel_rfl) (by kernel_rfl)
      (OpenSpec.preRow_of_cond 8 hx (by kernel_rfl) (fun k hk => by cases hk; kernel_rfl) (by kernel_rfl) (laid_met os))) ?_
  intro W base args ds gs before hval0 hW _ hcond0 _ _ _ _
  have hcond : Rows.uptoSmall H (ds ++ gs) = true := hcond0 _ rfl
  have hval : ∀ (j : Nat) t v, Tryz.f3.params[j]? = some t → args[j]? = some v → Value.okWide Tryz.prog W .any base t v := hval0
  have hW' := hW
  obtain ⟨p, q, hA0, hV0, rfl, _, _⟩ := hW
  have hA : DataW.TrodAll enc Tryz.prog W 0 (fun _ => true) true Tryz.f3.params.toList args.toList ds p := hA0
  rw [Tryz.params3] at hA hval
  obtain ⟨v0, v1, v2, d0, d1, d2, p0, p1, p2, rfl, rfl, rfl, h0, h1, h2⟩ := trodAll_three hA
  obtain ⟨rfl, rfl⟩ := trodVars_none hV0
  have h0k := h0
  have h1k := h1
  have h2k := h2
  obtain ⟨n0, rfl, rfl, rfl, _⟩ := open_int Tryz.underlying3 (hval 0 3 v0 rfl rfl) h0
  obtain ⟨n1, rfl, rfl, rfl, _⟩ := open_int Tryz.underlying3 (hval 1 3 v1 rfl rfl) h1
  obtain ⟨a2, l2, c2, rfl⟩ := okWide_slice Tryz.underlying22 (hval 2 22 v2 rfl rfl)
  obtain ⟨fuel2, hf2⟩ := h2
  clear hA0 hV0 hval0 hcond0
  simp only [List.append_nil] at hW' hcond
  have hbulk : Rows.uptoBulkAll [DataW.lit (.int .i64 n0), .lit (.int .i64 n1), d2] ≤ 1048576 := of_decide_eq_true hcond
  simp only [Rows.uptoBulkAll, Rows.uptoBulk] at hbulk
  obtain ⟨xa, xb, xo, len, cap, I, hv, hxa, hxb, hlen, hc⟩ := open_script (v := .slice a2 l2 c2) hf2
  cases hv
  simp only at hlen
  have hlt : ∀ x ∈ p2, x.block < W.heap.size := fun x hx => by simpa using hW'.lt x (by simpa using hx)
  refine (comes_any n0 n1 a2 xb xo l2 c2 I W hxa hxb (by omega) hc).mono ?_
  rintro e W' ⟨rfl, bel⟩
  have e1 : ((Rows.OpenSpec.upto Rows.comesSpec).at F).fn H ([DataW.lit (.int .i64 n0), .lit (.int .i64 n1), d2] ++ []) = { results := [.lit (.bool true)], args := [.lit (.int .i64 n0), .lit (.int .i64 n1), d2] } := rfl
  refine ⟨_, rfl, _, _, _, [], [] ++ ([] ++ p2), [], hW', ?_, ?_, ?_, bel.frame _, fun h => by cases h⟩
  · rw [e1]; exact trodAll_mk1 (shut_bool Tryz.underlying4 _)
  · rw [e1]
    exact trodAll_mk3 (Below.trod laidOut (by kernel_rfl) (of_decide_eq_true (by kernel_rfl)) h0k bel (fun x hx => by cases hx)) (Below.trod laidOut (by kernel_rfl) (of_decide_eq_true (by kernel_rfl)) h1k bel (fun x hx => by cases hx))
      (Below.trod laidOut (by kernel_rfl) (of_decide_eq_true (by kernel_rfl)) h2k bel hlt)
  · rw [e1]; rfl

theorem said : Rows.ComesUptoSaid :=
  OpenClaim.holds_of_cond 3 Tryz.f3 rfl rfl rfl rfl rfl rfl rfl ⟨rfl, rfl, rfl, rfl, rfl⟩ rfl rfl rfl rfl rfl (by kernel_rfl) Tryz.func3 (by kernel_rfl)
    (of_decide_eq_true (by kernel_rfl)) (by unfold Func.isWrapper; first | (rw [if_pos (by decide +kernel)]; kernel_rfl) | (rw [if_neg (by decide +kernel)]; exact ⟨rfl, rfl⟩))
    (fun os started H enc _ F => by rw [OpenClaim.pre_eq_preRow]; exact lifted os started H enc F)

/-- No parameter wants a stand-in; the program's own looks are off: what the card asks. -/
theorem plain (f : FuncId) (fn : Func) (hf : Tryz.pinned.checked.prog.funcNamed Rows.comesUptoRow.func = some f) (hfn : Tryz.pinned.checked.prog.funcs[f]? = some fn) :
    false = Tryz.pinned.checked.prog.looks [] ∧ ∀ (j : Nat) t, fn.params[j]? = some t → Tryz.pinned.checked.prog.wantsStandIn t = false := by
  obtain rfl : f = 3 := Option.some.inj ((show Tryz.prog.funcNamed Rows.comesUptoRow.func = some 3 by kernel_rfl).symm.trans hf) |>.symm
  obtain rfl : fn = Tryz.f3 := (Option.some.inj (Tryz.func3.symm.trans hfn)).symm
  refine ⟨by kernel_rfl, fun j t ht => ?_⟩
  rw [Tryz.params3] at ht
  have ht' : t = 3 ∨ t = 22 := by simpa using Array.mem_of_getElem? ht
  rcases ht' with rfl | rfl
  · exact (show Tryz.prog.wantsStandIn 3 = false by kernel_rfl)
  · exact (show Tryz.prog.wantsStandIn 22 = false by kernel_rfl)
end comesC

theorem comesUpto_holds : Rows.ComesUptoCardSaid :=
  Claim7.holds_tied_plain_at .later [] _ _ _ _ comesC.said (fun _ h => by cases h) (by kernel_rfl) (fun _ h => by cases h) comesUpto_row_tie rfl ⟨rfl, rfl⟩ (by kernel_rfl) rfl comesC.plain (by kernel_rfl)
end Go.Proofs.YtnnnleckoinjoaaGreatDoor
