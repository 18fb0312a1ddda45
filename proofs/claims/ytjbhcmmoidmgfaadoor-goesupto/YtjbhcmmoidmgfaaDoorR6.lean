import Derived.Test.YtjbhcmmoidmgfaaDoorR5
namespace Go.Proofs.YtjbhcmmoidmgfaaDoor
open Go.RowKit
open Pl (It)

set_option maxRecDepth 100000 in
set_option maxHeartbeats 2000000 in
theorem with_any (l : List It) (x : It) (a : Option Addr) (cap : Nat) (w : World) (h : Its w 0 (.slice a l.length cap) l) (hl : l.length ≤ 100) :
    Calls Tryd.prog 61 #[.slice a l.length cap, itv x] w fun e w' => ∃ v, e = .returned v ∧ Its w' w.heap.size v (Pl.withI l x) ∧ Below w.heap.size w w' := by
  unfold itv
  have hfl := Pl.filter_split l x.id
  go_enter Tryd.func61, Tryd.ntmps61
  go_wp2
  go_loopg [5, 6] l.length (fun gk v i wr => ∃ k : Nat, k ≤ l.length ∧ i = .int .i64 k ∧ Its wr (w.heap.size + 1) v ((l.take k).filter (fun e => decide (e.id < x.id))) ∧
      Below (w.heap.size + 1) (w.alloc (.cells #[.int .i64 x.id, .int .i64 x.u, .int .i64 x.v, .int .i64 x.w] 88)) wr ∧ l.length - k ≤ gk)
  case atStart => exact ⟨0, Nat.zero_le _, rfl, World.ownsRow_nil _ _ _ _, Below.refl _ _, by omega⟩
  case round =>
    obtain ⟨k, hk, rfl, hown, hb, hgk⟩ := hrel
    have hz1' : w.heap.size + 1 ≤ wr.heap.size := by have := hb.size; simp at this; omega
    have d0 : wr.cell? ⟨w.heap.size, 0, none⟩ = some (.int .i64 x.id) := (hb.cell (by simp)).trans (by simp)
    have d1 : wr.cell? ⟨w.heap.size, 1, none⟩ = some (.int .i64 x.u) := (hb.cell (by simp)).trans (by simp)
    have d2 : wr.cell? ⟨w.heap.size, 2, none⟩ = some (.int .i64 x.v) := (hb.cell (by simp)).trans (by simp)
    have d3 : wr.cell? ⟨w.heap.size, 3, none⟩ = some (.int .i64 x.w) := (hb.cell (by simp)).trans (by simp)
    by_cases hlt : k < l.length
    · obtain ⟨g, rfl⟩ := row_some h (by omega)
      have hI : Its wr 0 (.slice (some ⟨g, 0, none⟩) l.length cap) l := row_below (h.alloc _) hb (by simp)
      obtain ⟨c0, c1, c2, c3⟩ := its_cells hI k hlt
      have hk1 : (0 : Int) ≤ k := by omega
      have hk2 : (k : Int) < l.length := by omega
      have hlen : ((l.take k).filter (fun e => decide (e.id < x.id))).length ≤ k := Nat.le_trans (List.length_filter_le _ _) (by simp; omega)
      have HS := hide (Pl.filter_snoc (fun e => decide (e.id < x.id)) l k hlt)
      by_cases hq : l[k].id < x.id
      · go_wp2_with fail
        go_quiet (fail)
        go_wp2_with (at_builtin; refine wpList_append_item (wr.drewN nq) rfl (.tmp 22) (.tmp 27) rfl (w.heap.size + 1) u5 _ rfl (by exact hown) l[k] (by rfl) (by omega) (by exact hz1') ?_; intro v' w2 hown2 hgrow)
        go_roundg (gk - 1)
        case measure => omega
        case rel => exact ⟨k + 1, by omega, by go_num, by rw [unhide HS]; simp only [hq, decide_true, if_true]; exact hown2, (below_drewN hb _).trans hgrow, by omega⟩
      · go_wp2_with fail
        go_quiet (fail)
        go_wp2
        go_roundg (gk - 1)
        case measure => omega
        case rel => exact ⟨k + 1, by omega, by go_num, by rw [unhide HS, if_neg (by simp; omega), List.append_nil]; exact hown, below_drewN hb _, by omega⟩
    · have hk' : l.take k = l := List.take_of_length_le (by omega)
      rw [hk'] at hown
      have hlen : (l.filter (fun e => decide (e.id < x.id))).length ≤ l.length := List.length_filter_le _ _
      go_wp2_with (at_builtin; refine wpList_append_item wr rfl (.tmp 29) (.tmp 31) rfl (w.heap.size + 1) u5 _ rfl hown x (by rfl) (by omega) (by omega) ?_; intro v' w2 hown2 hgrow; have hb2 := hb.trans hgrow; clear hown hb hgrow d0 d1 d2 d3)
      go_loopg [5, 7] l.length (fun gk v i wr => ∃ k : Nat, k ≤ l.length ∧ i = .int .i64 k ∧ Its wr (w.heap.size + 1) v ((l.filter (fun e => decide (e.id < x.id)) ++ [x]) ++ (l.take k).filter (fun e => decide (x.id < e.id))) ∧
          Below (w.heap.size + 1) (w.alloc (.cells #[.int .i64 x.id, .int .i64 x.u, .int .i64 x.v, .int .i64 x.w] 88)) wr ∧ l.length - k ≤ gk)
      case atStart => exact ⟨0, Nat.zero_le _, rfl, by simpa using hown2, hb2, by omega⟩
      case round =>
        clear hown2 hb2 hk hlt hgk
        obtain ⟨k, hk, rfl, hown, hb, hgk⟩ := hrel
        have hz1' : w.heap.size + 1 ≤ wr.heap.size := by have := hb.size; simp at this; omega
        have d0 : wr.cell? ⟨w.heap.size, 0, none⟩ = some (.int .i64 x.id) := (hb.cell (by simp)).trans (by simp)
        by_cases hlt : k < l.length
        · obtain ⟨g, rfl⟩ := row_some h (by omega)
          have hI : Its wr 0 (.slice (some ⟨g, 0, none⟩) l.length cap) l := row_below (h.alloc _) hb (by simp)
          obtain ⟨c0, c1, c2, c3⟩ := its_cells hI k hlt
          have hk1 : (0 : Int) ≤ k := by omega
          have hk2 : (k : Int) < l.length := by omega
          have hlen2 : ((l.filter (fun e => decide (e.id < x.id)) ++ [x]) ++ (l.take k).filter (fun e => decide (x.id < e.id))).length ≤ 300 := by
            have := Nat.le_trans (List.length_filter_le (fun e => decide (x.id < e.id)) (l.take k)) (List.length_take_le _ _)
            simp only [List.length_append, List.length_cons, List.length_nil]; omega
          have HS := hide (Pl.filter_snoc (fun e => decide (x.id < e.id)) l k hlt)
          by_cases hq : x.id < l[k].id
          · go_wp2_with fail
            go_quiet (fail)
            go_wp2_with (at_builtin; refine wpList_append_item (wr.drewN nq) rfl (.tmp 47) (.tmp 52) rfl (w.heap.size + 1) u5 _ rfl (by exact hown) l[k] (by rfl) (by omega) (by exact hz1') ?_; intro v' w2 hown2 hgrow)
            go_roundg (gk - 1)
            case measure => omega
            case rel => exact ⟨k + 1, by omega, by go_num, by rw [unhide HS]; simp only [hq, decide_true, if_true]; rw [← List.append_assoc]; exact hown2, (below_drewN hb _).trans hgrow, by omega⟩
          · go_wp2_with fail
            go_quiet (fail)
            go_wp2
            go_roundg (gk - 1)
            case measure => omega
            case rel => exact ⟨k + 1, by omega, by go_num, by rw [unhide HS, if_neg (by simp; omega), List.append_nil]; exact hown, below_drewN hb _, by omega⟩
        · have hk'' : l.take k = l := List.take_of_length_le (by omega)
          rw [hk''] at hown
          go_wp2
          go_ret
          refine ⟨_, rfl, ?_, ((Below.refl _ _).alloc (Nat.le_refl _) _).trans (hb.mono (by omega))⟩
          have := row_mono hown (show w.heap.size ≤ w.heap.size + 1 by omega)
          unfold Pl.withI
          simpa [Its] using this

end Go.Proofs.YtjbhcmmoidmgfaaDoor
