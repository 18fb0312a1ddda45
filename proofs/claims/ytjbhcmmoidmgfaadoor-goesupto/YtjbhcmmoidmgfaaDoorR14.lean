import Derived.Test.YtjbhcmmoidmgfaaDoorR13
namespace Go.Proofs.YtjbhcmmoidmgfaaDoor
open Go.RowKit
open Pl (It)

def Pl.outI (l : List It) (id : Int) : List It := l.filter (fun e => decide (e.id ≠ id))
def Pl.lightI (l : List It) (x : Int) : List It := l.filter (fun e => decide (e.w ≤ x))

set_option maxRecDepth 100000 in
set_option maxHeartbeats 2000000 in
theorem without_any (l : List It) (id : Int) (a : Option Addr) (cap : Nat) (w : World) (h : Its w 0 (.slice a l.length cap) l) (hl : l.length ≤ 100) :
    Calls Tryd.prog 65 #[.slice a l.length cap, .int .i64 id] w fun e w' => ∃ v, e = .returned v ∧ Its w' w.heap.size v (Pl.outI l id) ∧ Below w.heap.size w w' := by
  go_enter Tryd.func65, Tryd.ntmps65
  go_wp2
  go_loopg [5, 6] l.length (fun gk v i wr => ∃ k : Nat, k ≤ l.length ∧ i = .int .i64 k ∧ Its wr w.heap.size v ((l.take k).filter (fun e => decide (e.id ≠ id))) ∧ Below w.heap.size w wr ∧ l.length - k ≤ gk)
  case atStart => exact ⟨0, Nat.zero_le _, rfl, World.ownsRow_nil _ _ _ _, Below.refl _ _, by omega⟩
  case round =>
    obtain ⟨k, hk, rfl, hown, hb, hgk⟩ := hrel
    have hz1' : w.heap.size ≤ wr.heap.size := hb.size
    by_cases hlt : k < l.length
    · obtain ⟨g, rfl⟩ := row_some h (by omega)
      have hI : Its wr 0 (.slice (some ⟨g, 0, none⟩) l.length cap) l := row_below h hb (Nat.le_refl _)
      obtain ⟨c0, c1, c2, c3⟩ := its_cells hI k hlt
      have hk1 : (0 : Int) ≤ k := by omega
      have hk2 : (k : Int) < l.length := by omega
      have hlen : ((l.take k).filter (fun e => decide (e.id ≠ id))).length ≤ k := Nat.le_trans (List.length_filter_le _ _) (by simp; omega)
      have HS := hide (Pl.filter_snoc (fun e => decide (e.id ≠ id)) l k hlt)
      by_cases hq : l[k].id = id
      · have hq' : (l[k].id != id) = false := by simp [hq]
        go_wp2
        go_roundg (gk - 1)
        case measure => omega
        case rel => exact ⟨k + 1, by omega, by go_num, by rw [unhide HS, if_neg (by simp [hq]), List.append_nil]; exact hown, hb, by omega⟩
      · have hq' : (l[k].id != id) = true := by simp [hq]
        go_wp2_with (at_builtin; refine wpList_append_item wr rfl (.tmp 20) (.tmp 25) rfl w.heap.size u5 _ rfl (by exact hown) l[k] (by rfl) (by omega) (by exact hz1') ?_; intro v' w2 hown2 hgrow)
        go_roundg (gk - 1)
        case measure => omega
        case rel => exact ⟨k + 1, by omega, by go_num, by rw [unhide HS, if_pos (by simp [hq])]; exact hown2, hb.trans hgrow, by omega⟩
    · have hk' : l.take k = l := List.take_of_length_le (by omega)
      rw [hk'] at hown
      go_wp2
      go_ret
      exact ⟨_, rfl, hown, hb⟩

set_option maxRecDepth 100000 in
set_option maxHeartbeats 2000000 in
theorem light_any (l : List It) (x : Int) (a : Option Addr) (cap : Nat) (w : World) (h : Its w 0 (.slice a l.length cap) l) (hl : l.length ≤ 100) :
    Calls Tryd.prog 77 #[.slice a l.length cap, .int .i64 x] w fun e w' => ∃ v, e = .returned v ∧ Its w' w.heap.size v (Pl.lightI l x) ∧ Below w.heap.size w w' := by
  go_enter Tryd.func77, Tryd.ntmps77
  go_wp2
  go_loopg [5, 6] l.length (fun gk v i wr => ∃ k : Nat, k ≤ l.length ∧ i = .int .i64 k ∧ Its wr w.heap.size v ((l.take k).filter (fun e => decide (e.w ≤ x))) ∧ Below w.heap.size w wr ∧ l.length - k ≤ gk)
  case atStart => exact ⟨0, Nat.zero_le _, rfl, World.ownsRow_nil _ _ _ _, Below.refl _ _, by omega⟩
  case round =>
    obtain ⟨k, hk, rfl, hown, hb, hgk⟩ := hrel
    have hz1' : w.heap.size ≤ wr.heap.size := hb.size
    by_cases hlt : k < l.length
    · obtain ⟨g, rfl⟩ := row_some h (by omega)
      have hI : Its wr 0 (.slice (some ⟨g, 0, none⟩) l.length cap) l := row_below h hb (Nat.le_refl _)
      obtain ⟨c0, c1, c2, c3⟩ := its_cells hI k hlt
      have hk1 : (0 : Int) ≤ k := by omega
      have hk2 : (k : Int) < l.length := by omega
      have hlen : ((l.take k).filter (fun e => decide (e.w ≤ x))).length ≤ k := Nat.le_trans (List.length_filter_le _ _) (by simp; omega)
      have HS := hide (Pl.filter_snoc (fun e => decide (e.w ≤ x)) l k hlt)
      by_cases hq : l[k].w ≤ x
      · go_wp2_with (at_builtin; refine wpList_append_item wr rfl (.tmp 20) (.tmp 25) rfl w.heap.size u5 _ rfl (by exact hown) l[k] (by rfl) (by omega) (by exact hz1') ?_; intro v' w2 hown2 hgrow)
        go_roundg (gk - 1)
        case measure => omega
        case rel => exact ⟨k + 1, by omega, by go_num, by rw [unhide HS, if_pos (by simp [hq])]; exact hown2, hb.trans hgrow, by omega⟩
      · go_wp2
        go_roundg (gk - 1)
        case measure => omega
        case rel => exact ⟨k + 1, by omega, by go_num, by rw [unhide HS, if_neg (by simp; omega), List.append_nil]; exact hown, hb, by omega⟩
    · have hk' : l.take k = l := List.take_of_length_le (by omega)
      rw [hk'] at hown
      go_wp2
      go_ret
      exact ⟨_, rfl, hown, hb⟩

end Go.Proofs.YtjbhcmmoidmgfaaDoor
