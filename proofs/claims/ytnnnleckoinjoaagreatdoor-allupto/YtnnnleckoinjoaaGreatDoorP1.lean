import Derived.Test.YtnnnleckoinjoaaGreatDoorRow
import Derived.Deep.LoopGhost
import Derived.Deep.RegionHeld3
namespace Go.Proofs.YtnnnleckoinjoaaGreatDoor
open Go.RowKit
open Pl (It)

set_option maxHeartbeats 400000 in
theorem isId_any (id : Int) (w : World) :
    Calls Tryz.prog 65 #[.int .i64 id] w fun e w' => e = .returned (.bool (Pl.numB id)) ∧ w = w' := by
  go_enter Tryz.func65, Tryz.ntmps65
  go_wp2
  all_goals go_ret
  all_goals exact ⟨ret_bool (by rw [Bool.eq_iff_iff, Pl.numB_true]; simp; try omega), rfl⟩

set_option maxHeartbeats 400000 in
theorem isVertex_any (b n : Nat) (u : Int) (w : World) (h0 : w.cell? ⟨b, 0, none⟩ = some (.int .i64 n)) :
    Calls Tryz.prog 66 #[.pointer (some ⟨b, 0, none⟩), .int .i64 u] w fun e w' => e = .returned (.bool (Pl.verB n u)) ∧ w = w' := by
  go_enter Tryz.func66, Tryz.ntmps66
  go_wp2
  all_goals go_ret
  all_goals exact ⟨ret_bool (by rw [Bool.eq_iff_iff, Pl.verB_true]; simp; try omega), rfl⟩

set_option maxRecDepth 100000 in
set_option maxHeartbeats 1000000 in
theorem marked_any (l : List Bool) (hl : l.length = 100) (w : World) :
    Calls Tryz.prog 35 #[.agg (l.map Value.bool).toArray] w fun e w' => ∃ v, e = .returned v ∧ Nums w' w.heap.size v (Pl.marks l 100) ∧ Below w.heap.size w w' := by
  go_enter Tryz.func35, Tryz.ntmps35
  go_wp2
  go_loopg [3, 4] 100 (fun gk v i wr => ∃ k : Nat, k ≤ 100 ∧ i = .int .i64 k ∧ Nums wr (w.heap.size + 1) v (Pl.marks l k) ∧ Below (w.heap.size + 1) (w.alloc (.cells (l.map Value.bool).toArray 49)) wr ∧ 100 - k ≤ gk)
  case atStart => exact ⟨0, Nat.zero_le _, rfl, World.ownsRow_nil _ _ _ _, Below.refl _ _, by omega⟩
  case round =>
    obtain ⟨k, hk, rfl, hown, hb, hgk⟩ := hrel
    have hz1' : w.heap.size + 1 ≤ wr.heap.size := by have := hb.size; rw [World.size_alloc] at this; exact this
    by_cases hlt : k < 100
    · have hk2 : (k : Int) < 100 := by omega
      have hlk : k < l.length := by omega
      have d0 : wr.cell? ⟨w.heap.size, k, none⟩ = some (.bool l[k]) := by
        have hh := made_later hb (by omega)
        simp only [World.cell?, hh]
        simp [hlk]
      have hlen := Pl.marks_len l k
      have HS := hide (Pl.marks_snoc l k)
      have hgd : l.getD k false = l[k] := by simp [List.getD, hlk]
      rw [hgd] at HS
      generalize l[k] = q at *
      clear hgd hl hlk
      cases q
      · go_wp2
        go_roundg (gk - 1)
        case measure => omega
        case rel => exact ⟨k + 1, by omega, by go_num, by rw [unhide HS]; simpa using hown, hb, by omega⟩
      · go_wp2_with (at_builtin; refine wpList_append_num wr rfl (.tmp 12) (.tmp 14) rfl (w.heap.size + 1) u3 (Pl.marks l k) rfl hown k (by rfl) (by omega) (by omega) ?_; intro v' w2 hown2 hgrow)
        go_roundg (gk - 1)
        case measure => omega
        case rel => exact ⟨k + 1, by omega, by go_num, by rw [unhide HS]; exact hown2, hb.trans hgrow, by omega⟩
    · have hk' : k = 100 := by omega
      subst hk'
      go_wp2
      go_ret
      exact ⟨_, rfl, row_mono hown (by omega), ((Below.refl _ _).alloc (Nat.le_refl _) _).trans (hb.mono (by omega))⟩

/-- the parts' numbers as a row -/
def ofc (of : List Int) : List Value := of.map (Value.int .i64)
theorem ofc_length (of : List Int) : (ofc of).length = of.length := by simp [ofc]
theorem ofc_set (of : List Int) (k : Nat) (x : Int) : (ofc of).set k (.int .i64 x) = ofc (of.set k x) := by simp [ofc]
theorem ofc_get (of : List Int) (k : Nat) (h : k < of.length) : (ofc of)[k]'(by simpa [ofc] using h) = .int .i64 of[k] := by simp [ofc]
theorem ofc_one (of : List Int) : ∀ v ∈ ofc of, v.oneCell' = true := by
  intro v hv; simp [ofc] at hv; obtain ⟨x, _, rfl⟩ := hv; rfl
def upTo (k : Nat) : List Int := (List.range 30).map fun (i : Nat) => if i < k then (i : Int) else 0
def idrow : List Int := (List.range 30).map fun (i : Nat) => (i : Int)
theorem upTo_len (k : Nat) : (upTo k).length = 30 := by simp [upTo]
theorem upTo_succ (k : Nat) : (upTo k).set k (k : Int) = upTo (k + 1) := by
  apply List.ext_getElem (by simp [upTo])
  intro i h1 h2
  simp only [upTo, List.length_map, List.length_range] at h2
  rw [List.getElem_set]
  by_cases e : k = i
  · subst e; simp [upTo]
  · rw [if_neg e]
    simp only [upTo, List.getElem_map, List.getElem_range]
    by_cases hik : i < k
    · rw [if_pos hik, if_pos (by omega)]
    · rw [if_neg hik, if_neg (by omega)]
theorem upTo_all : upTo 30 = idrow := by
  apply List.ext_getElem (by simp [upTo, idrow])
  intro i h1 h2
  simp only [upTo, List.length_map, List.length_range] at h1
  simp [upTo, idrow, h1]
theorem infoParts : (Tryz.prog.info? 116).map (·.size) = some 30 := by kernel_rfl
theorem infoArrB : (Tryz.prog.info? 49).map (·.size) = some 100 := by kernel_rfl

set_option maxRecDepth 100000 in
set_option maxHeartbeats 1000000 in
theorem apart_any (w : World) :
    Calls Tryz.prog 104 #[] w fun e w' => e = .returned (.agg (ofc idrow).toArray) ∧ Below w.heap.size w w' := by
  go_enter Tryz.func104, Tryz.ntmps104
  go_wp2
  go_loopg [2] 30 (fun gk i wr => ∃ k : Nat, k ≤ 30 ∧ i = .int .i64 k ∧ RowAt wr w.heap.size 116 (ofc (upTo 0)) ∧ RowAt wr (w.heap.size + 1) 116 (ofc (upTo k)) ∧ Below w.heap.size w wr ∧ 30 - k ≤ gk)
  case atStart =>
    refine ⟨0, Nat.zero_le _, rfl, ?_, ?_, ?_, by omega⟩
    · exact RowAt.alloc (row_new w 116 (ofc (upTo 0))) _
    · have := row_new (w.alloc (.cells (ofc (upTo 0)).toArray 116)) 116 (ofc (upTo 0))
      rw [World.size_alloc] at this
      exact this
    · exact ((Below.refl _ _).alloc (Nat.le_refl _) _).alloc (by rw [World.size_alloc]; omega) _
  case round =>
    obtain ⟨k, hk, rfl, hr, hp, hb, hgk⟩ := hrel
    have hfp := hp.free k
    have hne : ¬ w.heap.size = w.heap.size + 1 := by omega
    by_cases hlt : k < 30
    · have hk2 : (k : Int) < 30 := by omega
      have hc := hp.cell k (by rw [ofc_length, upTo_len]; exact hlt)
      have H1 := hide hr
      have H2 := hide hp
      clear hr hp
      go_wp2
      go_roundg (gk - 1)
      case measure => omega
      case rel => exact ⟨k + 1, by omega, by go_num, (unhide H1).other _ _ hne, by rw [← upTo_succ, ← ofc_set]; exact (unhide H2).set k _, hb.setCell (by simp) _, by omega⟩
    · have hk' : k = 30 := by omega
      subst hk'
      rw [upTo_all] at hp
      go_wp2_with (first
        | (refine wpList_load_row rfl 116 (.tmp 1) rfl (w.heap.size + 1) rfl 116 _ (0, 0) _ hp Tryz.underlying116 rfl (by kernel_rfl) ?_)
        | (refine wpList_store_mid rfl 116 (.tmp 0) (.tmp 11) rfl w.heap.size 0 (ofc idrow).toArray rfl rfl (hr.there 0 30 (by decide)) infoParts (all_oneCell_toArray (ofc_one _)) ?_))
      exact bodyPost_ret (results_cell_row (by exact Tryz.results104) _ _ w.heap.size 116 (ofc idrow).toArray (0, 0) _ rfl (by exact RowAt.whole hr rfl) Tryz.underlying116 rfl infoParts) rfl ⟨rfl, below_setCells (Nat.le_refl _) _ _ _ hb⟩
end Go.Proofs.YtnnnleckoinjoaaGreatDoor
