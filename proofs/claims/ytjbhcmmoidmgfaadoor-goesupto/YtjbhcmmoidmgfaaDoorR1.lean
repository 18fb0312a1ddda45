import Derived.Test.YtjbhcmmoidmgfaaDoorRep
import Derived.Deep.RegionHeld3
namespace Go.Proofs.YtjbhcmmoidmgfaaDoor
open Go.RowKit
open Pl (It)

set_option maxHeartbeats 400000 in
theorem lighter_any (a b : It) (w : World) :
    Calls Tryd.prog 89 #[itv a, itv b] w fun e w' => e = .returned (.bool (Pl.lighter a b)) ∧ Below w.heap.size w w' := by
  unfold itv
  go_enter Tryd.func89, Tryd.ntmps89
  go_wp2
  all_goals go_ret
  all_goals refine ⟨ret_bool ?_, ((Below.refl _ _).alloc (Nat.le_refl _) _).alloc (by simp) _⟩
  all_goals (rw [Bool.eq_iff_iff, Pl.lighter_iff]; simp; try omega)


theorem below_snoc (l : List It) (x : It) (k : Nat) (hk : k < l.length) :
    Pl.below (l.take (k + 1)) x = Pl.below (l.take k) x ++ (if Pl.lighter l[k] x then [l[k]] else []) := by
  unfold Pl.below
  rw [List.take_succ_eq_append_getElem hk, List.filter_append, List.filter_cons, List.filter_nil]

/-- four cells of a world that kept what lies below B -/
theorem its_later {w wr : World} {B base g cap : Nat} {l : List It} (h : Its w base (.slice (some ⟨g, 0, none⟩) l.length cap) l) (hb : Below B w wr) (hB : w.heap.size ≤ B) : Its wr base (.slice (some ⟨g, 0, none⟩) l.length cap) l :=
  row_below h hb hB

set_option maxRecDepth 100000 in
set_option maxHeartbeats 1000000 in
theorem below_any (l : List It) (x : It) (a : Option Addr) (cap : Nat) (w : World) (h : Its w 0 (.slice a l.length cap) l) (hl : l.length ≤ 100) :
    Calls Tryd.prog 88 #[.slice a l.length cap, itv x] w fun e w' => ∃ v, e = .returned v ∧ Its w' w.heap.size v (Pl.below l x) ∧ Below w.heap.size w w' := by
  unfold itv
  obtain ⟨i0, hi, hz0, hz1, hz2⟩ := info_parts infoItem
  go_enter Tryd.func88, Tryd.ntmps88
  go_wp2
  go_loopw [5, 6] (fun v i wr => ∃ k : Nat, k ≤ l.length ∧ i = .int .i64 k ∧ Its wr (w.heap.size + 1) v (Pl.below (l.take k) x) ∧
      Below (w.heap.size + 1) (w.alloc (.cells #[.int .i64 x.id, .int .i64 x.u, .int .i64 x.v, .int .i64 x.w] 88)) wr) (fun _ i _ => l.length - (intOf i).toNat)
  case atStart => exact ⟨0, Nat.zero_le _, rfl, World.ownsRow_nil _ _ _ _, Below.refl _ _⟩
  case round =>
    obtain ⟨k, hk, rfl, hown, hb⟩ := hrel
    by_cases hlt : k < l.length
    · obtain ⟨g, rfl⟩ := row_some h (by omega)
      have hI : Its wr 0 (.slice (some ⟨g, 0, none⟩) l.length cap) l := row_below (h.alloc _) hb (by simp)
      obtain ⟨c0, c1, c2, c3⟩ := its_cells hI k hlt
      have d0 : wr.cell? ⟨w.heap.size, 0, none⟩ = some (.int .i64 x.id) := (hb.cell (by simp)).trans (by simp)
      have d1 : wr.cell? ⟨w.heap.size, 1, none⟩ = some (.int .i64 x.u) := (hb.cell (by simp)).trans (by simp)
      have d2 : wr.cell? ⟨w.heap.size, 2, none⟩ = some (.int .i64 x.v) := (hb.cell (by simp)).trans (by simp)
      have d3 : wr.cell? ⟨w.heap.size, 3, none⟩ = some (.int .i64 x.w) := (hb.cell (by simp)).trans (by simp)
      have hk1 : (0 : Int) ≤ k := by omega
      have hk2 : (k : Int) < l.length := by omega
      go_wp2_with fail
      go_region_held3 (fun w' => w'.cell? ⟨g, k * 4, none⟩ = some (.int .i64 l[k].id) ∧ w'.cell? ⟨g, k * 4 + 1, none⟩ = some (.int .i64 l[k].u) ∧ w'.cell? ⟨g, k * 4 + 2, none⟩ = some (.int .i64 l[k].v) ∧ w'.cell? ⟨g, k * 4 + 3, none⟩ = some (.int .i64 l[k].w) ∧ w'.cell? ⟨w.heap.size, 0, none⟩ = some (.int .i64 x.id) ∧ w'.cell? ⟨w.heap.size, 1, none⟩ = some (.int .i64 x.u) ∧ w'.cell? ⟨w.heap.size, 2, none⟩ = some (.int .i64 x.v) ∧ w'.cell? ⟨w.heap.size, 3, none⟩ = some (.int .i64 x.w)) (first | go_keep | (go_split_ands; refine ⟨?_, ?_, ?_, ?_, ?_, ?_, ?_, ?_⟩ <;> (refine cell_later hb1 ?_; first | assumption | simp [*])))
        (first | (go_at_call 89; refine (lighter_any l[k] x _).mono ?_; rintro e w1 ⟨rfl, hb1⟩))
      rename_i hHeld
      have hown1 : Its w1 (w.heap.size + 1) u5 (Pl.below (l.take k) x) := row_below (w := wr.drew) hown hb1 (Nat.le_refl _)
      have hz1' : w.heap.size + 1 ≤ wr.heap.size := by have := hb.size; simp at this; omega
      have hz2' : w.heap.size + 1 ≤ w1.heap.size := by have := hb1.size; simp at this; omega
      have hB : Below (w.heap.size + 1) (w.alloc (.cells #[.int .i64 x.id, .int .i64 x.u, .int .i64 x.v, .int .i64 x.w] 88)) w1 := hb.drew.trans (hb1.mono (by simp; omega))
      have hlen : (Pl.below (l.take k) x).length ≤ k := Nat.le_trans (List.length_filter_le _ _) (by simp; omega)
      obtain ⟨e0, e1, e2, e3, f0⟩ := hHeld
      clear c0 c1 c2 c3 d0 d1 d2 d3 hI hown hb hb1 f0
      have HS : Hid (Pl.below (l.take (k + 1)) x = Pl.below (l.take k) x ++ (if Pl.lighter l[k] x then [l[k]] else [])) := below_snoc l x k hlt
      generalize hq : Pl.lighter l[k] x = q at HS ⊢
      clear hq
      cases q
      rotate_left
      · go_wp2_with (at_builtin; refine wpList_append_item w1 rfl (.tmp 21) (.tmp 26) rfl (w.heap.size + 1) u5 (Pl.below (l.take k) x) rfl hown1 l[k] (by rfl) (by omega) (by omega) ?_; intro v' w2 hown2 hgrow)
        go_roundw
        case rel => exact ⟨k + 1, by omega, by go_num, by rw [HS.out]; exact hown2, hB.trans hgrow⟩
        case measure => simp [intOf]; omega
      · go_wp2
        go_roundw
        case rel => exact ⟨k + 1, by omega, by go_num, by rw [HS.out]; simpa using hown1, hB⟩
        case measure => simp [intOf]; omega
    · have hz1' : w.heap.size + 1 ≤ wr.heap.size := by have := hb.size; simp at this; omega
      have hk' : l.take k = l := List.take_of_length_le (by omega)
      rw [hk'] at hown
      go_wp2
      go_ret
      exact ⟨_, rfl, row_mono hown (by omega), ((Below.refl _ _).alloc (Nat.le_refl _) _).trans (hb.mono (by omega))⟩

end Go.Proofs.YtjbhcmmoidmgfaaDoor
