/- The statement's own lists of edges. -/
import Derived.Test.YtnnnleckoinjoaaK1
import Derived.Deep.RegionHeld3
namespace Go.Proofs.Ytnnnleckoinjoaa
open Go.RowKit
open Pl (It)

set_option maxRecDepth 100000 in
set_option maxHeartbeats 1000000 in
theorem at_any (l : List It) (id : Int) (a : Option Addr) (cap : Nat) (w : World) (h : Its w 0 (.slice a l.length cap) l) (hl : l.length ≤ 100) :
    Calls Try.prog 32 #[.slice a l.length cap, .int .i64 id] w fun e w' => ∃ r, e = .returned (.int .i64 r) ∧ Pl.FindIs l id r ∧ w = w' := by
  go_enter Try.func32, Try.ntmps32
  go_wp2
  go_loopg [5] l.length (fun gk i wr => ∃ k : Nat, k ≤ l.length ∧ i = .int .i64 k ∧ w = wr ∧ (∀ e, e ∈ l.take k → e.id ≠ id) ∧ l.length - k ≤ gk)
  case atStart => exact ⟨0, Nat.zero_le _, rfl, rfl, fun e h => by simp at h, by omega⟩
  case round =>
    obtain ⟨k, hk, rfl, rfl, hno, hgk⟩ := hrel
    have HN := hide hno
    clear hno
    by_cases hlt : k < l.length
    · obtain ⟨g, rfl⟩ := row_some h (by omega)
      obtain ⟨c0, _, _, _⟩ := its_cells h k hlt
      have hk1 : (0 : Int) ≤ k := by omega
      have hk2 : (k : Int) < l.length := by omega
      by_cases hq : l[k].id = id
      · have hq' : (l[k].id == id) = true := by simpa using hq
        have HQ := hide hq
        clear hq
        go_wp2
        go_ret
        exact ⟨_, rfl, Or.inr ⟨k, hlt, rfl, unhide HQ⟩, rfl⟩
      · have hq' : (l[k].id == id) = false := by simpa using hq
        have HQ := hide hq
        clear hq
        go_wp2
        go_roundg (gk - 1)
        case measure => omega
        case rel => exact ⟨k + 1, by omega, by go_num, rfl, Pl.none_snoc hlt (unhide HN) (unhide HQ), by omega⟩
    · go_wp2
      go_ret
      exact ⟨_, rfl, Or.inl ⟨rfl, by have := unhide HN; rw [List.take_of_length_le (by omega)] at this; exact this⟩, rfl⟩

def Pl.outI (l : List It) (id : Int) : List It := l.filter (fun e => decide (e.id ≠ id))

set_option maxRecDepth 100000 in
set_option maxHeartbeats 2000000 in
theorem kwithout_any (l : List It) (id : Int) (a : Option Addr) (cap : Nat) (w : World) (h : Its w 0 (.slice a l.length cap) l) (hl : l.length ≤ 100) :
    Calls Try.prog 53 #[.slice a l.length cap, .int .i64 id] w fun e w' => ∃ v, e = .returned v ∧ Its w' w.heap.size v (Pl.outI l id) ∧ Below w.heap.size w w' := by
  go_enter Try.func53, Try.ntmps53
  go_wp2
  go_loopg [5, 6] l.length (fun gk v i wr => ∃ k : Nat, k ≤ l.length ∧ i = .int .i64 k ∧ Its wr w.heap.size v ((l.take k).filter (fun e => decide (e.id ≠ id))) ∧ Below w.heap.size w wr ∧ l.length - k ≤ gk)
  case atStart => exact ⟨0, Nat.zero_le _, rfl, World.ownsRow_nil _ _ _ _, Below.refl _ _, by omega⟩
  case round =>
    obtain ⟨k, hk, rfl, hown, hb, hgk⟩ := hrel
    have hz1' : w.heap.size ≤ wr.heap.size := hb.size
    by_cases hlt : k < l.length
    · obtain ⟨g, rfl⟩ := row_some h (by omega)
      have hI : Its wr 0 (.slice (some ⟨g, 0, none⟩) l.length cap) l := row_below h hb (Nat.le_refl _)
      obtain ⟨c0, c1, c2, c3⟩ := its_cells hI k hlt
      have hk1 : (0 : Int) ≤ k := by omega
      have hk2 : (k : Int) < l.length := by omega
      have hlen : ((l.take k).filter (fun e => decide (e.id ≠ id))).length ≤ k := Nat.le_trans (List.length_filter_le _ _) (by simp; omega)
      have HS := hide (Pl.filter_snoc (fun e => decide (e.id ≠ id)) l k hlt)
      by_cases hq : l[k].id = id
      · have hq' : (l[k].id != id) = false := by simp [hq]
        go_wp2
        go_roundg (gk - 1)
        case measure => omega
        case rel => exact ⟨k + 1, by omega, by go_num, by rw [unhide HS, if_neg (by simp [hq]), List.append_nil]; exact hown, hb, by omega⟩
      · have hq' : (l[k].id != id) = true := by simp [hq]
        go_wp2_with (at_builtin; refine wpList_append_item wr rfl (.tmp 20) (.tmp 25) rfl w.heap.size u5 _ rfl (by exact hown) l[k] (by rfl) (by omega) (by exact hz1') ?_; intro v' w2 hown2 hgrow)
        go_roundg (gk - 1)
        case measure => omega
        case rel => exact ⟨k + 1, by omega, by go_num, by rw [unhide HS, if_pos (by simp [hq])]; exact hown2, hb.trans hgrow, by omega⟩
    · have hk' : l.take k = l := List.take_of_length_le (by omega)
      rw [hk'] at hown
      go_wp2
      go_ret
      exact ⟨_, rfl, hown, hb⟩

set_option maxHeartbeats 400000 in
theorem klighter_any (a b : It) (w : World) :
    Calls Try.prog 47 #[itv a, itv b] w fun e w' => e = .returned (.bool (Pl.lighter a b)) ∧ Below w.heap.size w w' := by
  unfold itv
  go_enter Try.func47, Try.ntmps47
  go_wp2
  all_goals go_ret
  all_goals refine ⟨ret_bool ?_, ((Below.refl _ _).alloc (Nat.le_refl _) _).alloc (by simp) _⟩
  all_goals (rw [Bool.eq_iff_iff, Pl.lighter_iff]; simp; try omega)


theorem below_snoc (l : List It) (x : It) (k : Nat) (hk : k < l.length) :
    Pl.below (l.take (k + 1)) x = Pl.below (l.take k) x ++ (if Pl.lighter l[k] x then [l[k]] else []) := by
  unfold Pl.below
  rw [List.take_succ_eq_append_getElem hk, List.filter_append, List.filter_cons, List.filter_nil]

/-- four cells of a world that kept what lies below B -/
theorem its_later {w wr : World} {B base g cap : Nat} {l : List It} (h : Its w base (.slice (some ⟨g, 0, none⟩) l.length cap) l) (hb : Below B w wr) (hB : w.heap.size ≤ B) : Its wr base (.slice (some ⟨g, 0, none⟩) l.length cap) l :=
  row_below h hb hB


theorem Pl.with_snoc (l : List It) (x e : It) (h : x.id < e.id) : Pl.withI (l ++ [e]) x = Pl.withI l x ++ [e] := by
  unfold Pl.withI
  rw [List.filter_append, List.filter_append]
  have e1 : ([e].filter fun e => decide (e.id < x.id)) = [] := by simp; omega
  have e2 : ([e].filter fun e => decide (x.id < e.id)) = [e] := by simp; omega
  rw [e1, e2]; simp
theorem Pl.with_end (l : List It) (x : It) (h : ∀ e, e ∈ l → e.id < x.id) : Pl.withI l x = l ++ [x] := by
  unfold Pl.withI
  have e1 : (l.filter fun e => decide (e.id < x.id)) = l := List.filter_eq_self.2 fun e he => by simpa using h e he
  have e2 : (l.filter fun e => decide (x.id < e.id)) = [] := List.filter_eq_nil_iff.2 fun e he => by have := h e he; simp; omega
  rw [e1, e2]

/-- so far: the first k edges, and x among them if it has been put -/
def WSo (l : List It) (x : It) (k : Nat) (put : Bool) (out : List It) : Prop :=
  (put = false ∧ out = l.take k ∧ ∀ e, e ∈ l.take k → e.id < x.id) ∨ (put = true ∧ out = Pl.withI (l.take k) x ∧ ∃ e, e ∈ l.take k ∧ x.id < e.id)

set_option maxRecDepth 100000 in
set_option maxHeartbeats 4000000 in
theorem kwith_any (l : List It) (x : It) (hi : Pl.Ids l) (hx : Pl.has l x.id = false) (a : Option Addr) (cap : Nat) (w : World) (h : Its w 0 (.slice a l.length cap) l) (hl : l.length ≤ 100) :
    Calls Try.prog 56 #[.slice a l.length cap, itv x] w fun e w' => ∃ v, e = .returned v ∧ Its w' w.heap.size v (Pl.withI l x) ∧ Below w.heap.size w w' := by
  go_enter Try.func56, Try.ntmps56
  go_wp2
  go_loopg [5, 6, 7] l.length (fun gk v p i wr => ∃ (k : Nat) (put : Bool) (out : List It), k ≤ l.length ∧ i = .int .i64 k ∧ p = .bool put ∧ WSo l x k put out ∧ out.length ≤ k + 1 ∧ Its wr (w.heap.size + 1) v out ∧ Below (w.heap.size + 1) (w.alloc (.cells #[.int .i64 x.id, .int .i64 x.u, .int .i64 x.v, .int .i64 x.w] 40)) wr ∧ l.length - k ≤ gk)
  case atStart => exact ⟨0, false, [], Nat.zero_le _, rfl, rfl, Or.inl ⟨rfl, rfl, fun e h => by simp at h⟩, by simp, World.ownsRow_nil _ _ _ _, Below.refl _ _, by omega⟩
  case round =>
    obtain ⟨k, put, out, hk, rfl, rfl, hW, hol, hown, hb, hgk⟩ := hrel
    obtain ⟨ao, co, rfl⟩ := row_form hown
    have hz1' : w.heap.size + 1 ≤ wr.heap.size := by have := hb.size; rw [World.size_alloc] at this; exact this
    have hbox := made_later hb (by omega)
    obtain ⟨x0, x1, x2, x3, _⟩ := four_cells hbox
    have hBw : Below w.heap.size w wr := ((Below.refl _ _).alloc (Nat.le_refl _) _).trans (hb.mono (by omega))
    by_cases hlt : k < l.length
    · obtain ⟨g, rfl⟩ := row_some h (by omega)
      have hI : Its wr 0 (.slice (some ⟨g, 0, none⟩) l.length cap) l := row_below h hBw (Nat.le_refl _)
      obtain ⟨c0, c1, c2, c3⟩ := its_cells hI k hlt
      have hk1 : (0 : Int) ≤ k := by omega
      have hk2 : (k : Int) < l.length := by omega
      have htk : l.take (k + 1) = l.take k ++ [l[k]] := List.take_succ_eq_append_getElem hlt
      have hin : l[k] ∈ l.take (k + 1) := by rw [htk]; exact List.mem_append_right _ (List.mem_singleton.2 rfl)
      have hmem : l[k] ∈ l := List.getElem_mem hlt
      have hne : l[k].id ≠ x.id := Pl.has_false.1 hx _ hmem
      have HC : Hid (∀ n w2, Below (w.heap.size + 1) (wr.drewN n) w2 → w2.cell? ⟨g, k * 4, none⟩ = some (.int .i64 l[k].id) ∧ w2.cell? ⟨g, k * 4 + 1, none⟩ = some (.int .i64 l[k].u) ∧ w2.cell? ⟨g, k * 4 + 2, none⟩ = some (.int .i64 l[k].v) ∧ w2.cell? ⟨g, k * 4 + 3, none⟩ = some (.int .i64 l[k].w)) := fun n w2 h2 =>
        its_cells (row_below h ((below_drewN hBw n).trans (h2.mono (by omega))) (Nat.le_refl _)) k hlt
      rcases hW with ⟨rfl, ho, hall⟩ | ⟨rfl, ho, hex⟩
      · by_cases hq : x.id < l[k].id
        · have HN : Hid (WSo l x (k + 1) true ((out ++ [x]) ++ [l[k]])) := by
            refine Or.inr ⟨rfl, ?_, l[k], hin, hq⟩
            rw [htk, Pl.with_snoc _ _ _ hq, Pl.with_end _ _ hall, ho]
          have hol2 : out.length ≤ k := by rw [ho, List.length_take]; omega
          clear htk ho hall hI hbox hBw hmem hne hin
          go_wp2_with (first
            | go_quiet (fail)
            | (at_builtin; refine wpList_append_item (wr.drewN nq) rfl (.tmp 26) (.tmp 28) rfl (w.heap.size + 1) (.slice ao out.length co) out rfl (by exact hown) x (by rfl) (by omega) (by exact hz1') ?_; intro v2 w2 hown2 hgrow; have q := (unhide HC) nq w2 hgrow; obtain ⟨d0, d1, d2, d3⟩ := q; have hz2 := hgrow.size; have HO2 := hide hown2; clear hown2)
            | (at_builtin; refine wpList_append_item w2 rfl (.tmp 30) (.tmp 35) rfl (w.heap.size + 1) v2 (out ++ [x]) rfl (by exact unhide HO2) l[k] (by rfl) (by simp; omega) (by exact Nat.le_trans hz1' hz2) ?_; intro v3 w3 hown3 hgrow3))
          go_roundg (gk - 1)
          case measure => omega
          case rel => exact ⟨k + 1, true, _, by omega, by go_num, rfl, unhide HN, by simp; omega, hown3, ((below_drewN hb nq).trans hgrow).trans hgrow3, by omega⟩
        · have HN : Hid (WSo l x (k + 1) false (out ++ [l[k]])) := by
            refine Or.inl ⟨rfl, by rw [htk, ho], ?_⟩
            rw [htk]
            intro e he
            rcases List.mem_append.1 he with he | he
            · exact hall e he
            · rw [List.mem_singleton.1 he]; omega
          have hol2 : out.length ≤ k := by rw [ho, List.length_take]; omega
          clear htk ho hall hI hbox hBw hmem hne hin
          go_wp2_with (first
            | go_quiet (fail)
            | (at_builtin; refine wpList_append_item (wr.drewN nq) rfl (.tmp 30) (.tmp 35) rfl (w.heap.size + 1) (.slice ao out.length co) out rfl (by exact hown) l[k] (by rfl) (by omega) (by exact hz1') ?_; intro v2 w2 hown2 hgrow))
          go_roundg (gk - 1)
          case measure => omega
          case rel => exact ⟨k + 1, false, _, by omega, by go_num, rfl, unhide HN, by simp; omega, hown2, (below_drewN hb nq).trans hgrow, by omega⟩
      · have hq : x.id < l[k].id := by
          obtain ⟨e, he, h2⟩ := hex
          obtain ⟨j, hj, rfl⟩ := List.getElem_of_mem he
          have hjk : j < k := by simp at hj; omega
          rw [List.getElem_take] at h2
          have := List.pairwise_iff_getElem.1 hi j k (by omega) hlt hjk
          omega
        have HN : Hid (WSo l x (k + 1) true (out ++ [l[k]])) := by
          refine Or.inr ⟨rfl, by rw [htk, Pl.with_snoc _ _ _ hq, ho], l[k], hin, hq⟩
        clear htk ho hex hI hbox hBw hmem hne hin
        go_wp2_with (first
          | go_quiet (fail)
          | (at_builtin; refine wpList_append_item (wr.drewN nq) rfl (.tmp 30) (.tmp 35) rfl (w.heap.size + 1) (.slice ao out.length co) out rfl (by exact hown) l[k] (by rfl) (by omega) (by exact hz1') ?_; intro v2 w2 hown2 hgrow))
        go_roundg (gk - 1)
        case measure => omega
        case rel => exact ⟨k + 1, true, _, by omega, by go_num, rfl, unhide HN, by simp; omega, hown2, (below_drewN hb nq).trans hgrow, by omega⟩
    · have hkl : l.take k = l := List.take_of_length_le (by omega)
      rcases hW with ⟨rfl, ho, hall⟩ | ⟨rfl, ho, hex⟩
      · rw [hkl] at ho hall
        have HE := hide (Pl.with_end l x hall)
        subst ho
        clear hkl hall hbox
        go_wp2_with (at_builtin; refine wpList_append_item wr rfl (.tmp 39) (.tmp 41) rfl (w.heap.size + 1) (.slice ao out.length co) out rfl (by exact hown) x (by rfl) (by omega) (by exact hz1') ?_; intro v2 w2 hown2 hgrow)
        go_ret
        exact ⟨_, rfl, by rw [unhide HE]; exact row_mono hown2 (by omega), hBw.trans (hgrow.mono (by omega))⟩
      · rw [hkl] at ho
        subst ho
        clear hkl hex hbox
        go_wp2
        go_ret
        exact ⟨_, rfl, row_mono hown (by omega), hBw⟩

end Go.Proofs.Ytnnnleckoinjoaa
