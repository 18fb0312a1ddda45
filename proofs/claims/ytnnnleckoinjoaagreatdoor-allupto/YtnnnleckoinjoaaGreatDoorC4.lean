/- The statement over All: its row, its card. -/
import Derived.Test.YtnnnleckoinjoaaGreatDoorC1
import Derived.Test.YtnnnleckoinjoaaGreatDoorL16
import Derived.Test.YtnnnleckoinjoaaGreatDoorW1
namespace Go.Proofs.YtnnnleckoinjoaaGreatDoor
open Go.ChangeShapes Go.WideShapes Go.ChangeAt Go.RowKit Go.Deep

namespace allC
open comesC (own laidOut open_script putIn)
theorem bulk_mem {H : Type} (l : List (DataW H)) : ∀ d, d ∈ l → Rows.uptoBulk d ≤ Rows.uptoBulkAll l := by
  induction l with
  | nil => intro d h; cases h
  | cons x r ih =>
    intro d h
    simp only [Rows.uptoBulkAll]
    rcases List.mem_cons.1 h with rfl | h
    · omega
    · have := ih d h; omega
set_option maxRecDepth 100000 in
/-- the texts of a script are no greater than what is read -/
theorem script_str {H : Type} {enc : TypeId × Value → H} {W : World} {fuel xb xo len cap : Nat} {x : DataW H × List MemPlace} (h : DataW.trod enc Tryz.prog W 0 (fun _ => true) true fuel 22 [.slice (some ⟨xb, xo, none⟩) len cap] = some x) (j : Nat) (hj : j < len) (q : OpT) (hq : OpAt W xb (xo + j * 7) q) : q.s.size ≤ Rows.uptoBulk x.1 := by
  rcases open_slice Tryz.underlying22 h with ⟨h0, hx⟩ | ⟨a, len', cap', m, n, D, Pl, hv, hb, hl, hm, hmm, rfl, hx⟩
  · simp at h0
  · simp only [List.cons.injEq, Value.slice.injEq, Option.some.injEq, and_true] at hv
    obtain ⟨rfl, rfl, rfl⟩ := hv
    have hlm : len ≤ m := by rw [hmm]; split <;> omega
    obtain ⟨cs', h1, h2⟩ := hx j (by omega)
    rw [comesC.cellsOp] at h1
    obtain ⟨_, hlen, hcell⟩ := World.cells?_some h1
    obtain ⟨xs, k, _, hagg, _, hxl, hf⟩ := DataW.trod_struct Tryz.underlying38 h2
    match cs', hlen, xs, hxl with
    | [v0, v1, v2, v3, v4, v5, v6], _, [y0, y1, y2, y3, y4, y5, y6], _ =>
      have u6 : DataW.trod enc Tryz.prog W 0 (fun _ => true) true k 9 (([v0, v1, v2, v3, v4, v5, v6].drop 6).take (Tryz.prog.cellsOf 9)) = some y6 := hf 6 _ rfl
      rw [comesC.cellsStr] at u6
      simp only [List.drop, List.take] at u6
      obtain ⟨q6, e6, ey, _⟩ := DataW.trod_string Tryz.underlying9 u6
      simp only [List.cons.injEq, and_true] at e6
      subst e6
      have c6 := hcell 6 (by omega)
      rw [comesC.add_plain (a := ⟨xb, xo, none⟩) rfl (j * 7), comesC.add_plain rfl] at c6
      have hs := hq.c6
      have e : q.s = q6 := by
        have c6' : W.cell? ⟨xb, xo + j * 7 + 6, none⟩ = some (.string q6) := by simpa using c6
        rw [c6'] at hs
        simpa using hs.symm
      have hD : D j = .agg [y0.1, y1.1, y2.1, y3.1, y4.1, y5.1, y6.1] := congrArg Prod.fst hagg
      have hmem : D j ∈ (List.range len).map D := List.mem_map.2 ⟨j, List.mem_range.2 hj, rfl⟩
      have hbd := bulk_mem _ _ hmem
      rw [hD] at hbd
      simp only [Rows.uptoBulk, Rows.uptoBulkAll, ey] at hbd
      have hz : q6.size = q6.data.toList.length := by rw [Array.length_toList]; rfl
      rw [e, hz]
      simp only [Rows.uptoBulk]
      omega
abbrev wargs : Array Value := #[.int .i64 0, .int .i64 0, .slice none 0 0]
set_option maxRecDepth 100000 in
theorem laid_met (os : Os) : laidMet Tryz.prog Rows.allUptoRow.laid ((({ World.holding Tryz.prog os ⟨#[], #[], []⟩ with heap := (((World.holding Tryz.prog os ⟨#[], #[], []⟩).heap.modify 0 (putIn Rows.laid_internal_strconv_uint64pow10)).modify 1 (putIn Rows.laid_math_bits_deBruijn32tab)).modify 2 (putIn Rows.laid_math_bits_deBruijn64tab) } : World)).forCall (fun _ _ => 0) ⟨#[], wargs, []⟩).memory :=
  laidMet_of_run' 8 (by kernel_rfl) (by kernel_rfl)
set_option maxRecDepth 100000 in
theorem reads (os : Os) {H : Type} (enc : TypeId × Value → H) : ∃ places, DataW.whole enc Tryz.prog ((({ World.holding Tryz.prog os ⟨#[], #[], []⟩ with heap := (((World.holding Tryz.prog os ⟨#[], #[], []⟩).heap.modify 0 (putIn Rows.laid_internal_strconv_uint64pow10)).modify 1 (putIn Rows.laid_math_bits_deBruijn32tab)).modify 2 (putIn Rows.laid_math_bits_deBruijn64tab) } : World)).forCall (fun _ _ => 0) ⟨#[], wargs, []⟩).memory Tryz.f6.params.toList Rows.allSpec.vars false wargs.toList 8 = some ([.lit (.int .i64 0), .lit (.int .i64 0), .nil], [], places) :=
  ⟨[], by kernel_rfl⟩

set_option maxRecDepth 100000 in
set_option maxHeartbeats 2000000 in
theorem lifted (os : Os) (started : os.Started) (H : Type) (enc : TypeId × Value → H) (F : Stop.Interp) :
    ReturnsInHanded {} Tryz.checked os 6 .any ((Rows.OpenSpec.upto Rows.allSpec).preRow enc Tryz.prog Tryz.f6 Rows.allUptoRow.domain false Rows.allUptoRow.laid) (((Rows.OpenSpec.upto Rows.allSpec).at F).post enc Tryz.prog Tryz.f6 false true false false) := by
  obtain ⟨places, hx⟩ := reads os enc
  refine returnsInHanded_of_row (C := Tryz.checked) (s := Rows.OpenSpec.upto Rows.allSpec) own started (by kernel_rfl) Tryz.func6
    (witness_row_at (enc := enc) (C := Tryz.checked) false (({ World.holding Tryz.prog os ⟨#[], #[], []⟩ with heap := (((World.holding Tryz.prog os ⟨#[], #[], []⟩).heap.modify 0 (putIn Rows.laid_internal_strconv_uint64pow10)).modify 1 (putIn Rows.laid_math_bits_deBruijn32tab)).modify 2 (putIn Rows.laid_math_bits_deBruijn64tab) } : World)) wargs rfl (by kernel_rfl) (by kernel_rfl) (by kernel_rfl)
      (OpenSpec.preRow_of_cond 8 hx (by kernel_rfl) (fun k hk => by cases hk; kernel_rfl) (by kernel_rfl) (laid_met os))) ?_
  intro W base args ds gs before hval0 hW _ hcond0 _ hlaid _ _
  have htab : Tab W := tab_of_laid hlaid
  have hcond : Rows.uptoSmall H (ds ++ gs) = true := hcond0 _ rfl
  have hval : ∀ (j : Nat) t v, Tryz.f6.params[j]? = some t → args[j]? = some v → Value.okWide Tryz.prog W .any base t v := hval0
  have hW' := hW
  obtain ⟨p, q, hA0, hV0, rfl, _, _⟩ := hW
  have hA : DataW.TrodAll enc Tryz.prog W 0 (fun _ => true) true Tryz.f6.params.toList args.toList ds p := hA0
  rw [Tryz.params6] at hA hval
  obtain ⟨v0, v1, v2, d0, d1, d2, p0, p1, p2, rfl, rfl, rfl, h0, h1, h2⟩ := trodAll_three hA
  obtain ⟨rfl, rfl⟩ := trodVars_none hV0
  have h0k := h0
  have h1k := h1
  have h2k := h2
  obtain ⟨n0, rfl, rfl, rfl, _⟩ := open_int Tryz.underlying3 (hval 0 3 v0 rfl rfl) h0
  obtain ⟨n1, rfl, rfl, rfl, _⟩ := open_int Tryz.underlying3 (hval 1 3 v1 rfl rfl) h1
  obtain ⟨a2, l2, c2, rfl⟩ := okWide_slice Tryz.underlying22 (hval 2 22 v2 rfl rfl)
  obtain ⟨fuel2, hf2⟩ := h2
  clear hA0 hV0 hval0 hcond0
  simp only [List.append_nil] at hW' hcond
  have hbulk : Rows.uptoBulkAll [DataW.lit (.int .i64 n0), .lit (.int .i64 n1), d2] ≤ 1048576 := of_decide_eq_true hcond
  simp only [Rows.uptoBulkAll, Rows.uptoBulk] at hbulk
  obtain ⟨xa, xb, xo, len, cap, I, hv, hxa, hxb, hlen, hc⟩ := open_script (v := .slice a2 l2 c2) hf2
  cases hv
  simp only at hlen
  have hlt : ∀ x ∈ p2, x.block < W.heap.size := fun x hx => by simpa using hW'.lt x (by simpa using hx)
  have hsm : ∀ j, j < l2 → (I j).s.size ≤ 4611686018427387904 := fun j hj => by
    have e := hxa (by omega)
    subst e
    have := script_str hf2 j hj (I j) (hc j hj)
    simp only at this
    omega
  refine (all_any n0 n1 a2 xb xo l2 c2 I W hxa hxb (by omega) hc hsm htab).mono ?_
  rintro e W' ⟨rfl, bel⟩
  have e1 : ((Rows.OpenSpec.upto Rows.allSpec).at F).fn H ([DataW.lit (.int .i64 n0), .lit (.int .i64 n1), d2] ++ []) = { results := [.lit (.bool true)], args := [.lit (.int .i64 n0), .lit (.int .i64 n1), d2] } := rfl
  refine ⟨_, rfl, _, _, _, [], [] ++ ([] ++ p2), [], hW', ?_, ?_, ?_, bel.frame _, fun h => by cases h⟩
  · rw [e1]; exact trodAll_mk1 (shut_bool Tryz.underlying4 _)
  · rw [e1]
    exact trodAll_mk3 (Below.trod laidOut (by kernel_rfl) (of_decide_eq_true (by kernel_rfl)) h0k bel (fun x hx => by cases hx)) (Below.trod laidOut (by kernel_rfl) (of_decide_eq_true (by kernel_rfl)) h1k bel (fun x hx => by cases hx))
      (Below.trod laidOut (by kernel_rfl) (of_decide_eq_true (by kernel_rfl)) h2k bel hlt)
  · rw [e1]; rfl

theorem said : Rows.AllUptoSaid :=
  OpenClaim.holds_of_cond 6 Tryz.f6 rfl rfl rfl rfl rfl rfl rfl ⟨rfl, rfl, rfl, rfl, rfl⟩ rfl rfl rfl rfl rfl (by kernel_rfl) Tryz.func6 (by kernel_rfl)
    (of_decide_eq_true (by kernel_rfl)) (by unfold Func.isWrapper; first | (rw [if_pos (by decide +kernel)]; kernel_rfl) | (rw [if_neg (by decide +kernel)]; exact ⟨rfl, rfl⟩))
    (fun os started H enc _ F => by rw [OpenClaim.pre_eq_preRow]; exact lifted os started H enc F)

/-- No parameter wants a stand-in; the program's own looks are off: what the card asks. -/
theorem plain (f : FuncId) (fn : Func) (hf : Tryz.pinned.checked.prog.funcNamed Rows.allUptoRow.func = some f) (hfn : Tryz.pinned.checked.prog.funcs[f]? = some fn) :
    false = Tryz.pinned.checked.prog.looks [] ∧ ∀ (j : Nat) t, fn.params[j]? = some t → Tryz.pinned.checked.prog.wantsStandIn t = false := by
  obtain rfl : f = 6 := Option.some.inj ((show Tryz.prog.funcNamed Rows.allUptoRow.func = some 6 by kernel_rfl).symm.trans hf) |>.symm
  obtain rfl : fn = Tryz.f6 := (Option.some.inj (Tryz.func6.symm.trans hfn)).symm
  refine ⟨by kernel_rfl, fun j t ht => ?_⟩
  rw [Tryz.params6] at ht
  have ht' : t = 3 ∨ t = 22 := by simpa using Array.mem_of_getElem? ht
  rcases ht' with rfl | rfl
  · exact (show Tryz.prog.wantsStandIn 3 = false by kernel_rfl)
  · exact (show Tryz.prog.wantsStandIn 22 = false by kernel_rfl)
end allC

theorem allUpto_holds : Rows.AllUptoCardSaid :=
  Claim7.holds_tied_plain_at .later [] _ _ _ _ allC.said (fun _ h => by cases h) (by kernel_rfl) (fun _ h => by cases h) allUpto_row_tie rfl ⟨rfl, rfl⟩ (by kernel_rfl) rfl allC.plain (by kernel_rfl)
end Go.Proofs.YtnnnleckoinjoaaGreatDoor
