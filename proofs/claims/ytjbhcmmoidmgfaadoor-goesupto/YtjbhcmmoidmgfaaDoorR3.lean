import Derived.Test.YtjbhcmmoidmgfaaDoorR2
namespace Go.Proofs.YtjbhcmmoidmgfaaDoor
open Go.RowKit
open Pl (It)

theorem spread_int (n : Nat) (l : List It) (u : Int) (a : Option Addr) (cap : Nat) (w : World) (h : Its w 0 (.slice a l.length cap) l) (hl : l.length ≤ 100) (hn : n ≤ 30) (h0 : 0 ≤ u) (hu : u < n) (he : Pl.Ends n l) :
    Calls Tryd.prog 72 #[.int .i64 n, .slice a l.length cap, .int .i64 u] w fun e w' => e = .returned (.slice (some ⟨w.heap.size, 0, none⟩) n n) ∧ Bools w' w.heap.size (.slice (some ⟨w.heap.size, 0, none⟩) n n) (Pl.conns n l u) ∧ Below w.heap.size w w' := by
  obtain ⟨k, rfl⟩ := Int.eq_ofNat_of_zero_le h0
  exact spread_any n l k a cap w h hl hn (by omega) he

theorem below_ends {n : Nat} {l : List It} {x : It} (he : Pl.Ends n l) : Pl.Ends n (Pl.below l x) := fun e h => he e (Pl.mem_below.1 h).1
theorem below_len (l : List It) (x : It) : (Pl.below l x).length ≤ l.length := List.length_filter_le _ _
/-- the bit of a vertex, in what spread hands back -/
theorem conns_cell {w : World} {base g n : Nat} {l : List It} {u v : Int} (h : Bools w base (.slice (some ⟨g, 0, none⟩) n n) (Pl.conns n l u)) (h0 : 0 ≤ v) (hv : v < n) :
    w.cell? ⟨g, v.toNat, none⟩ = some (.bool (Pl.conn l u v)) := by
  obtain ⟨k, rfl⟩ := Int.eq_ofNat_of_zero_le h0
  have hk : k < n := by omega
  have h' : Bools w base (.slice (some ⟨g, 0, none⟩) (Pl.conns n l u).length n) (Pl.conns n l u) := by rw [Pl.conns_length]; exact h
  rw [Int.toNat_natCast, bools_cell h' k (by rw [Pl.conns_length]; exact hk), Pl.conns_get n l u k hk]

set_option maxRecDepth 100000 in
set_option maxHeartbeats 1000000 in
theorem keeps_any (n : Nat) (l : List It) (x : It) (a : Option Addr) (cap : Nat) (w : World) (h : Its w 0 (.slice a l.length cap) l) (hl : l.length ≤ 100) (hn : n ≤ 30) (he : Pl.Ends n l)
    (u0 : 0 ≤ x.u) (u1 : x.u < n) (v0 : 0 ≤ x.v) (v1 : x.v < n) :
    Calls Tryd.prog 69 #[.int .i64 n, .slice a l.length cap, itv x] w fun e w' => e = .returned (.bool (Pl.keeps l x)) ∧ Below w.heap.size w w' := by
  have hbl := below_len l x
  go_enter Tryd.func69, Tryd.ntmps69
  go_wp2_with fail
  go_region_held3 (fun w' => w'.cell? ⟨w.heap.size, 0, none⟩ = some (.int .i64 x.id) ∧ w'.cell? ⟨w.heap.size, 1, none⟩ = some (.int .i64 x.u) ∧ w'.cell? ⟨w.heap.size, 2, none⟩ = some (.int .i64 x.v) ∧ w'.cell? ⟨w.heap.size, 3, none⟩ = some (.int .i64 x.w))
    (first | go_keep | (go_split_ands; refine ⟨?_, ?_, ?_, ?_⟩ <;> (refine cell_later hb1 ?_; first | assumption | simp [*])) | (go_split_ands; refine ⟨?_, ?_, ?_, ?_⟩ <;> (refine cell_later hb2 ?_; first | assumption | simp [*])))
    (first
      | (go_at_call 88; refine (below_any l x a cap _ (by exact (World.ownsRow.alloc h _)) hl).mono ?_; rintro e w1 ⟨vb, rfl, hob, hb1⟩; obtain ⟨a1, cap1, rfl⟩ := row_form hob)
      | (go_at_call 72; refine (spread_int n (Pl.below l x) x.u a1 cap1 _ (by exact row_mono hob (Nat.zero_le _)) (by omega) hn u0 u1 (below_ends he)).mono ?_; rintro e w2 ⟨rfl, hob2, hb2⟩))
  rename_i hHeld
  obtain ⟨_, _, d2, _⟩ := hHeld
  have cc := conns_cell hob2 v0 v1
  have hB : Below w.heap.size w w2 := (((Below.refl _ _).alloc (Nat.le_refl _) _).drew.trans (hb1.mono (by simp))).trans (hb2.mono (by have := hb1.size; simp at this; omega))
  clear hob hob2 hb1 hb2
  go_wp2
  go_ret
  exact ⟨rfl, hB⟩

set_option maxRecDepth 100000 in
set_option maxHeartbeats 1000000 in
theorem forest_any (n : Nat) (l : List It) (a : Option Addr) (cap : Nat) (w : World) (h : Its w 0 (.slice a l.length cap) l) (hl : l.length ≤ 100) (hn : n ≤ 30) (he : Pl.Ends n l) :
    Calls Tryd.prog 75 #[.int .i64 n, .slice a l.length cap] w fun e w' => ∃ v, e = .returned v ∧ Its w' w.heap.size v (Pl.forest l) ∧ Below w.heap.size w w' := by
  go_enter Tryd.func75, Tryd.ntmps75
  go_wp2
  go_loopg [5, 6] l.length (fun gk v i wr => ∃ k : Nat, k ≤ l.length ∧ i = .int .i64 k ∧ Its wr w.heap.size v ((l.take k).filter (Pl.keeps l)) ∧ Below w.heap.size w wr ∧ l.length - k ≤ gk)
  case atStart => exact ⟨0, Nat.zero_le _, rfl, World.ownsRow_nil _ _ _ _, Below.refl _ _, by omega⟩
  case round =>
    obtain ⟨k, hk, rfl, hown, hb, hgk⟩ := hrel
    by_cases hlt : k < l.length
    · obtain ⟨g, rfl⟩ := row_some h (by omega)
      have hI : Its wr 0 (.slice (some ⟨g, 0, none⟩) l.length cap) l := row_below h hb (Nat.le_refl _)
      obtain ⟨c0, c1, c2, c3⟩ := its_cells hI k hlt
      have hk1 : (0 : Int) ≤ k := by omega
      have hk2 : (k : Int) < l.length := by omega
      obtain ⟨u0, u1, v0, v1⟩ := he l[k] (List.getElem_mem hlt)
      have hlen : ((l.take k).filter (Pl.keeps l)).length ≤ k := Nat.le_trans (List.length_filter_le _ _) (by simp; omega)
      have hsz := hb.size
      have HS := hide (Pl.filter_snoc (Pl.keeps l) l k hlt)
      go_wp2_with (first | (go_at_call 69; refine (keeps_any n l l[k] (some ⟨g, 0, none⟩) cap _ (by exact hI) hl hn he u0 u1 v0 v1).mono ?_; rintro e w1 ⟨rfl, hb1⟩; have d0 := cell_later hb1 c0; have d1 := cell_later hb1 c1; have d2 := cell_later hb1 c2; have d3 := cell_later hb1 c3; clear c0 c1 c2 c3; generalize hq : Pl.keeps l l[k] = q at HS ⊢; have HQ := hide hq; clear hq; have hown1 := Its.later hown hb1 (Nat.le_refl _); have hsz1 := hb1.size; have hB := hb.trans (hb1.mono (by omega)); clear hown hb1 hI hb; cases q) | (at_builtin; refine wpList_append_item w1 rfl (.tmp 22) (.tmp 27) rfl w.heap.size u5 ((l.take k).filter (Pl.keeps l)) rfl hown1 l[k] (by rfl) (by omega) (by omega) ?_; intro v' w2 hown2 hgrow))
      · go_roundg (gk - 1)
        case measure => omega
        case rel => exact ⟨k + 1, by omega, by go_num, by rw [unhide HS]; simpa using hown1, hB, by omega⟩
      · go_roundg (gk - 1)
        case measure => omega
        case rel => exact ⟨k + 1, by omega, by go_num, by rw [unhide HS]; exact hown2, hB.trans hgrow, by omega⟩
    · have hk' : l.take k = l := List.take_of_length_le (by omega)
      rw [hk'] at hown
      go_wp2
      go_ret
      exact ⟨_, rfl, hown, hb⟩

end Go.Proofs.YtjbhcmmoidmgfaaDoor
