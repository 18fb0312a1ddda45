import Derived.Test.YtjbhcmmoidmgfaaDoorR3
namespace Go.Proofs.YtjbhcmmoidmgfaaDoor
open Go.RowKit
open Pl (It)

set_option maxRecDepth 100000 in
set_option maxHeartbeats 1000000 in
theorem find_any (l : List It) (id : Int) (a : Option Addr) (cap : Nat) (w : World) (h : Its w 0 (.slice a l.length cap) l) (hl : l.length ≤ 100) :
    Calls Tryd.prog 60 #[.slice a l.length cap, .int .i64 id] w fun e w' => ∃ r, e = .returned (.int .i64 r) ∧ Pl.FindIs l id r ∧ w = w' := by
  go_enter Tryd.func60, Tryd.ntmps60
  go_wp2
  go_loopg [5] l.length (fun gk i wr => ∃ k : Nat, k ≤ l.length ∧ i = .int .i64 k ∧ w = wr ∧ (∀ e, e ∈ l.take k → e.id ≠ id) ∧ l.length - k ≤ gk)
  case atStart => exact ⟨0, Nat.zero_le _, rfl, rfl, fun e h => by simp at h, by omega⟩
  case round =>
    obtain ⟨k, hk, rfl, rfl, hno, hgk⟩ := hrel
    have HN := hide hno
    clear hno
    by_cases hlt : k < l.length
    · obtain ⟨g, rfl⟩ := row_some h (by omega)
      obtain ⟨c0, _, _, _⟩ := its_cells h k hlt
      have hk1 : (0 : Int) ≤ k := by omega
      have hk2 : (k : Int) < l.length := by omega
      by_cases hq : l[k].id = id
      · have hq' : (l[k].id == id) = true := by simpa using hq
        have HQ := hide hq
        clear hq
        go_wp2
        go_ret
        exact ⟨_, rfl, Or.inr ⟨k, hlt, rfl, unhide HQ⟩, rfl⟩
      · have hq' : (l[k].id == id) = false := by simpa using hq
        have HQ := hide hq
        clear hq
        go_wp2
        go_roundg (gk - 1)
        case measure => omega
        case rel => exact ⟨k + 1, by omega, by go_num, rfl, Pl.none_snoc hlt (unhide HN) (unhide HQ), by omega⟩
    · go_wp2
      go_ret
      exact ⟨_, rfl, Or.inl ⟨rfl, by have := unhide HN; rw [List.take_of_length_le (by omega)] at this; exact this⟩, rfl⟩

set_option maxRecDepth 100000 in
set_option maxHeartbeats 1000000 in
theorem only_any (l m : List It) (a a2 : Option Addr) (cap cap2 : Nat) (w : World) (h : Its w 0 (.slice a l.length cap) l) (hl : l.length ≤ 100) (h2 : Its w 0 (.slice a2 m.length cap2) m) (hm : m.length ≤ 100) :
    Calls Tryd.prog 84 #[.slice a l.length cap, .slice a2 m.length cap2] w fun e w' => e = .returned (.int .i64 (Pl.only l m)) ∧ w = w' := by
  go_enter Tryd.func84, Tryd.ntmps84
  go_wp2
  go_loopg [5] l.length (fun gk i wr => ∃ k : Nat, k ≤ l.length ∧ i = .int .i64 k ∧ w = wr ∧ (∀ e, e ∈ l.take k → Pl.has m e.id = true) ∧ l.length - k ≤ gk)
  case atStart => exact ⟨0, Nat.zero_le _, rfl, rfl, fun e h => by simp at h, by omega⟩
  case round =>
    obtain ⟨k, hk, rfl, rfl, hno, hgk⟩ := hrel
    have HN := hide hno
    clear hno
    by_cases hlt : k < l.length
    · obtain ⟨g, rfl⟩ := row_some h (by omega)
      obtain ⟨c0, _, _, _⟩ := its_cells h k hlt
      have hk1 : (0 : Int) ≤ k := by omega
      have hk2 : (k : Int) < l.length := by omega
      go_wp2_with (go_at_call 60; go_must (refine (find_any m l[k].id a2 cap2 _ (by exact h2) hm).mono ?_); go_must (rintro e w1 ⟨r, rfl, hr, rfl⟩); have HR := hide hr; clear hr; go_must (by_cases hr0 : r < 0))
      · go_ret
        refine ⟨ret_int ?_, rfl⟩
        exact (Pl.only_hit hlt (unhide HN) ((Pl.findIs_has (unhide HR)).2.2 hr0)).symm
      · go_roundg (gk - 1)
        case measure => omega
        case rel => exact ⟨k + 1, by omega, by go_num, rfl, Pl.all_snoc hlt (unhide HN) ((Pl.findIs_has (unhide HR)).1.2 hr0), by omega⟩
    · go_wp2
      go_ret
      refine ⟨ret_int ?_, rfl⟩
      have := unhide HN; rw [List.take_of_length_le (by omega)] at this
      exact (Pl.only_miss this).symm

set_option maxRecDepth 100000 in
set_option maxHeartbeats 1000000 in
theorem ids_any (l : List It) (a : Option Addr) (cap : Nat) (w : World) (h : Its w 0 (.slice a l.length cap) l) (hl : l.length ≤ 100) :
    Calls Tryd.prog 74 #[.slice a l.length cap] w fun e w' => ∃ v, e = .returned v ∧ Nums w' w.heap.size v (l.map It.id) ∧ Below w.heap.size w w' := by
  go_enter Tryd.func74, Tryd.ntmps74
  go_wp2
  go_loopg [3, 4] l.length (fun gk v i wr => ∃ k : Nat, k ≤ l.length ∧ i = .int .i64 k ∧ Nums wr w.heap.size v ((l.take k).map It.id) ∧ Below w.heap.size w wr ∧ l.length - k ≤ gk)
  case atStart => exact ⟨0, Nat.zero_le _, rfl, World.ownsRow_nil _ _ _ _, Below.refl _ _, by omega⟩
  case round =>
    obtain ⟨k, hk, rfl, hown, hb, hgk⟩ := hrel
    by_cases hlt : k < l.length
    · obtain ⟨g, rfl⟩ := row_some h (by omega)
      obtain ⟨c0, _, _, _⟩ := its_cells (h.later hb (Nat.le_refl _)) k hlt
      have hk1 : (0 : Int) ≤ k := by omega
      have hk2 : (k : Int) < l.length := by omega
      have hlen : ((l.take k).map It.id).length ≤ k := by simp; omega
      have hsz := hb.size
      have HS := hide (Pl.ids_snoc l k hlt)
      go_wp2_with (at_builtin; refine wpList_append_num wr rfl (.tmp 11) (.tmp 17) rfl w.heap.size u3 ((l.take k).map It.id) rfl hown l[k].id (by rfl) (by omega) (by omega) ?_; intro v' w2 hown2 hgrow)
      go_roundg (gk - 1)
      case measure => omega
      case rel => exact ⟨k + 1, by omega, by go_num, by rw [unhide HS]; exact hown2, hb.trans hgrow, by omega⟩
    · have hk' : l.take k = l := List.take_of_length_le (by omega)
      rw [hk'] at hown
      go_wp2
      go_ret
      exact ⟨_, rfl, hown, hb⟩

end Go.Proofs.YtjbhcmmoidmgfaaDoor
