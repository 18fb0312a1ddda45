import Derived.Deep.RegionHeld3
import Derived.Test.YtnnnleckoinjoaaDoorK1
/- The statement's own lists of edges. -/
namespace Go.Proofs.YtnnnleckoinjoaaDoor
open Go.RowKit
open Pl (It)

set_option maxRecDepth 100000 in
set_option maxHeartbeats 1000000 in
theorem at_any (l : List It) (id : Int) (a : Option Addr) (cap : Nat) (w : World) (h : Its w 0 (.slice a l.length cap) l) (hl : l.length ≤ 100) :
    Calls Tryd.prog 13 #[.slice a l.length cap, .int .i64 id] w fun e w' => ∃ r, e = .returned (.int .i64 r) ∧ Pl.FindIs l id r ∧ w = w' := by
  go_enter Tryd.func13, Tryd.ntmps13
  go_wp2
  go_loopg [5] l.length (fun gk i wr => ∃ k : Nat, k ≤ l.length ∧ i = .int .i64 k ∧ w = wr ∧ (∀ e, e ∈ l.take k → e.id ≠ id) ∧ l.length - k ≤ gk)
  case atStart => exact ⟨0, Nat.zero_le _, rfl, rfl, fun e h => by simp at h, by omega⟩
  case round =>
    obtain ⟨k, hk, rfl, rfl, hno, hgk⟩ := hrel
    have HN := hide hno
    clear hno
    by_cases hlt : k < l.length
    · obtain ⟨g, rfl⟩ := row_some h (by omega)
      obtain ⟨c0, _, _, _⟩ := its_cells h k hlt
      have hk1 : (0 : Int) ≤ k := by omega
      have hk2 : (k : Int) < l.length := by omega
      by_cases hq : l[k].id = id
      · have hq' : (l[k].id == id) = true := by simpa using hq
        have HQ := hide hq
        clear hq
        go_wp2
        go_ret
        exact ⟨_, rfl, Or.inr ⟨k, hlt, rfl, unhide HQ⟩, rfl⟩
      · have hq' : (l[k].id == id) = false := by simpa using hq
        have HQ := hide hq
        clear hq
        go_wp2
        go_roundg (gk - 1)
        case measure => omega
        case rel => exact ⟨k + 1, by omega, by go_num, rfl, Pl.none_snoc hlt (unhide HN) (unhide HQ), by omega⟩
    · go_wp2
      go_ret
      exact ⟨_, rfl, Or.inl ⟨rfl, by have := unhide HN; rw [List.take_of_length_le (by omega)] at this; exact this⟩, rfl⟩

def Pl.outI (l : List It) (id : Int) : List It := l.filter (fun e => decide (e.id ≠ id))

set_option maxRecDepth 100000 in
set_option maxHeartbeats 2000000 in
theorem kwithout_any (l : List It) (id : Int) (a : Option Addr) (cap : Nat) (w : World) (h : Its w 0 (.slice a l.length cap) l) (hl : l.length ≤ 100) :
    Calls Tryd.prog 59 #[.slice a l.length cap, .int .i64 id] w fun e w' => ∃ v, e = .returned v ∧ Its w' w.heap.size v (Pl.outI l id) ∧ Below w.heap.size w w' := by
  go_enter Tryd.func59, Tryd.ntmps59
  go_wp2
  go_loopg [5, 6] l.length (fun gk v i wr => ∃ k : Nat, k ≤ l.length ∧ i = .int .i64 k ∧ Its wr w.heap.size v ((l.take k).filter (fun e => decide (e.id ≠ id))) ∧ Below w.heap.size w wr ∧ l.length - k ≤ gk)
  case atStart => exact ⟨0, Nat.zero_le _, rfl, World.ownsRow_nil _ _ _ _, Below.refl _ _, by omega⟩
  case round =>
    obtain ⟨k, hk, rfl, hown, hb, hgk⟩ := hrel
    have hz1' : w.heap.size ≤ wr.heap.size := hb.size
    by_cases hlt : k < l.length
    · obtain ⟨g, rfl⟩ := row_some h (by omega)
      have hI : Its wr 0 (.slice (some ⟨g, 0, none⟩) l.length cap) l := row_below h hb (Nat.le_refl _)
      obtain ⟨c0, c1, c2, c3⟩ := its_cells hI k hlt
      have hk1 : (0 : Int) ≤ k := by omega
      have hk2 : (k : Int) < l.length := by omega
      have hlen : ((l.take k).filter (fun e => decide (e.id ≠ id))).length ≤ k := Nat.le_trans (List.length_filter_le _ _) (by simp; omega)
      have HS := hide (Pl.filter_snoc (fun e => decide (e.id ≠ id)) l k hlt)
      by_cases hq : l[k].id = id
      · have hq' : (l[k].id != id) = false := by simp [hq]
        go_wp2
        go_roundg (gk - 1)
        case measure => omega
        case rel => exact ⟨k + 1, by omega, by go_num, by rw [unhide HS, if_neg (by simp [hq]), List.append_nil]; exact hown, hb, by omega⟩
      · have hq' : (l[k].id != id) = true := by simp [hq]
        go_wp2_with (at_builtin; refine wpList_append_item wr rfl (.tmp 20) (.tmp 25) rfl w.heap.size u5 _ rfl (by exact hown) l[k] (by rfl) (by omega) (by exact hz1') ?_; intro v' w2 hown2 hgrow)
        go_roundg (gk - 1)
        case measure => omega
        case rel => exact ⟨k + 1, by omega, by go_num, by rw [unhide HS, if_pos (by simp [hq])]; exact hown2, hb.trans hgrow, by omega⟩
    · have hk' : l.take k = l := List.take_of_length_le (by omega)
      rw [hk'] at hown
      go_wp2
      go_ret
      exact ⟨_, rfl, hown, hb⟩

set_option maxHeartbeats 400000 in
theorem klighter_any (a b : It) (w : World) :
    Calls Tryd.prog 62 #[itv a, itv b] w fun e w' => e = .returned (.bool (Pl.lighter a b)) ∧ Below w.heap.size w w' := by
  unfold itv
  go_enter Tryd.func62, Tryd.ntmps62
  go_wp2
  all_goals go_ret
  all_goals refine ⟨ret_bool ?_, ((Below.refl _ _).alloc (Nat.le_refl _) _).alloc (by simp) _⟩
  all_goals (rw [Bool.eq_iff_iff, Pl.lighter_iff]; simp; try omega)


theorem below_snoc (l : List It) (x : It) (k : Nat) (hk : k < l.length) :
    Pl.below (l.take (k + 1)) x = Pl.below (l.take k) x ++ (if Pl.lighter l[k] x then [l[k]] else []) := by
  unfold Pl.below
  rw [List.take_succ_eq_append_getElem hk, List.filter_append, List.filter_cons, List.filter_nil]

/-- four cells of a world that kept what lies below B -/
theorem its_later {w wr : World} {B base g cap : Nat} {l : List It} (h : Its w base (.slice (some ⟨g, 0, none⟩) l.length cap) l) (hb : Below B w wr) (hB : w.heap.size ≤ B) : Its wr base (.slice (some ⟨g, 0, none⟩) l.length cap) l :=
  row_below h hb hB


theorem Pl.with_snoc (l : List It) (x e : It) (h : x.id < e.id) : Pl.withI (l ++ [e]) x = Pl.withI l x ++ [e] := by
  unfold Pl.withI
  rw [List.filter_append, List.filter_append]
  have e1 : ([e].filter fun e => decide (e.id < x.id)) = [] := by simp; omega
  have e2 : ([e].filter fun e => decide (x.id < e.id)) = [e] := by simp; omega
  rw [e1, e2]; simp
theorem Pl.with_end (l : List It) (x : It) (h : ∀ e, e ∈ l → e.id < x.id) : Pl.withI l x = l ++ [x] := by
  unfold Pl.withI
  have e1 : (l.filter fun e => decide (e.id < x.id)) = l := List.filter_eq_self.2 fun e he => by simpa using h e he
  have e2 : (l.filter fun e => decide (x.id < e.id)) = [] := List.filter_eq_nil_iff.2 fun e he => by have := h e he; simp; omega
  rw [e1, e2]

/-- so far: the first k edges, and x among them if it has been put -/
def WSo (l : List It) (x : It) (k : Nat) (put : Bool) (out : List It) : Prop :=
  (put = false ∧ out = l.take k ∧ ∀ e, e ∈ l.take k → e.id < x.id) ∨ (put = true ∧ out = Pl.withI (l.take k) x ∧ ∃ e, e ∈ l.take k ∧ x.id < e.id)

set_option maxRecDepth 100000 in
set_option maxHeartbeats 4000000 in
theorem kwith_any (l : List It) (x : It) (hi : Pl.Ids l) (hx : Pl.has l x.id = false) (a : Option Addr) (cap : Nat) (w : World) (h : Its w 0 (.slice a l.length cap) l) (hl : l.length ≤ 100) :
    Calls Tryd.prog 61 #[.slice a l.length cap, itv x] w fun e w' => ∃ v, e = .returned v ∧ Its w' w.heap.size v (Pl.withI l x) ∧ Below w.heap.size w w' := by
  go_enter Tryd.func61, Tryd.ntmps61
  go_wp2
  go_loopg [5, 6, 7] l.length (fun gk v p i wr => ∃ (k : Nat) (put : Bool) (out : List It), k ≤ l.length ∧ i = .int .i64 k ∧ p = .bool put ∧ WSo l x k put out ∧ out.length ≤ k + 1 ∧ Its wr (w.heap.size + 1) v out ∧ Below (w.heap.size + 1) (w.alloc (.cells #[.int .i64 x.id, .int .i64 x.u, .int .i64 x.v, .int .i64 x.w] 32)) wr ∧ l.length - k ≤ gk)
  case atStart => exact ⟨0, false, [], Nat.zero_le _, rfl, rfl, Or.inl ⟨rfl, rfl, fun e h => by simp at h⟩, by simp, World.ownsRow_nil _ _ _ _, Below.refl _ _, by omega⟩
  case round =>
    obtain ⟨k, put, out, hk, rfl, rfl, hW, hol, hown, hb, hgk⟩ := hrel
    obtain ⟨ao, co, rfl⟩ := row_form hown
    have hz1' : w.heap.size + 1 ≤ wr.heap.size := by have := hb.size; rw [World.size_alloc] at this; exact this
    have hbox := made_later hb (by omega)
    obtain ⟨x0, x1, x2, x3, _⟩ := four_cells hbox
    have hBw : Below w.heap.size w wr := ((Below.refl _ _).alloc (Nat.le_refl _) _).trans (hb.mono (by omega))
    by_cases hlt : k < l.length
    · obtain ⟨g, rfl⟩ := row_some h (by omega)
      have hI : Its wr 0 (.slice (some ⟨g, 0, none⟩) l.length cap) l := row_below h hBw (Nat.le_refl _)
      obtain ⟨c0, c1, c2, c3⟩ := its_cells hI k hlt
      have hk1 : (0 : Int) ≤ k := by omega
      have hk2 : (k : Int) < l.length := by omega
      have htk : l.take (k + 1) = l.take k ++ [l[k]] := List.take_succ_eq_append_getElem hlt
      have hin : l[k] ∈ l.take (k + 1) := by rw [htk]; exact List.mem_append_right _ (List.mem_singleton.2 rfl)
      have hmem : l[k] ∈ l := List.getElem_mem hlt
      have hne : l[k].id ≠ x.id := Pl.has_false.1 hx _ hmem
      have HC : Hid (∀ n w2, Below (w.heap.size + 1) (wr.drewN n) w2 → w2.cell? ⟨g, k * 4, none⟩ = some (.int .i64 l[k].id) ∧ w2.cell? ⟨g, k * 4 + 1, none⟩ = some (.int .i64 l[k].u) ∧ w2.cell? ⟨g, k * 4 + 2, none⟩ = some (.int .i64 l[k].v) ∧ w2.cell? ⟨g, k * 4 + 3, none⟩ = some (.int .i64 l[k].w)) := fun n w2 h2 =>
        its_cells (row_below h ((below_drewN hBw n).trans (h2.mono (by omega))) (Nat.le_refl _)) k hlt
      rcases hW with ⟨rfl, ho, hall⟩ | ⟨rfl, ho, hex⟩
      · by_cases hq : x.id < l[k].id
        · have HN : Hid (WSo l x (k + 1) true ((out ++ [x]) ++ [l[k]])) := by
            refine Or.inr ⟨rfl, ?_, l[k], hin, hq⟩
            rw [htk, Pl.with_snoc _ _ _ hq, Pl.with_end _ _ hall, ho]
          have hol2 : out.length ≤ k := by rw [ho, List.length_take]; omega
          clear htk ho hall hI hbox hBw hmem hne hin
          go_wp2_with (first
            | go_quiet (fail)
            | (at_builtin; refine wpList_append_item (wr.drewN nq) rfl (.tmp 26) (.tmp 28) rfl (w.heap.size + 1) (.slice ao out.length co) out rfl (by exact hown) x (by rfl) (by omega) (by exact hz1') ?_; intro v2 w2 hown2 hgrow; have q := (unhide HC) nq w2 hgrow; obtain ⟨d0, d1, d2, d3⟩ := q; have hz2 := hgrow.size; have HO2 := hide hown2; clear hown2)
            | (at_builtin; refine wpList_append_item w2 rfl (.tmp 30) (.tmp 35) rfl (w.heap.size + 1) v2 (out ++ [x]) rfl (by exact unhide HO2) l[k] (by rfl) (by simp; omega) (by exact Nat.le_trans hz1' hz2) ?_; intro v3 w3 hown3 hgrow3))
          go_roundg (gk - 1)
          case measure => omega
          case rel => exact ⟨k + 1, true, _, by omega, by go_num, rfl, unhide HN, by simp; omega, hown3, ((below_drewN hb nq).trans hgrow).trans hgrow3, by omega⟩
        · have HN : Hid (WSo l x (k + 1) false (out ++ [l[k]])) := by
            refine Or.inl ⟨rfl, by rw [htk, ho], ?_⟩
            rw [htk]
            intro e he
            rcases List.mem_append.1 he with he | he
            · exact hall e he
            · rw [List.mem_singleton.1 he]; omega
          have hol2 : out.length ≤ k := by rw [ho, List.length_take]; omega
          clear htk ho hall hI hbox hBw hmem hne hin
          go_wp2_with (first
            | go_quiet (fail)
            | (at_builtin; refine wpList_append_item (wr.drewN nq) rfl (.tmp 30) (.tmp 35) rfl (w.heap.size + 1) (.slice ao out.length co) out rfl (by exact hown) l[k] (by rfl) (by omega) (by exact hz1') ?_; intro v2 w2 hown2 hgrow))
          go_roundg (gk - 1)
          case measure => omega
          case rel => exact ⟨k + 1, false, _, by omega, by go_num, rfl, unhide HN, by simp; omega, hown2, (below_drewN hb nq).trans hgrow, by omega⟩
      · have hq : x.id < l[k].id := by
          obtain ⟨e, he, h2⟩ := hex
          obtain ⟨j, hj, rfl⟩ := List.getElem_of_mem he
          have hjk : j < k := by simp at hj; omega
          rw [List.getElem_take] at h2
          have := List.pairwise_iff_getElem.1 hi j k (by omega) hlt hjk
          omega
        have HN : Hid (WSo l x (k + 1) true (out ++ [l[k]])) := by
          refine Or.inr ⟨rfl, by rw [htk, Pl.with_snoc _ _ _ hq, ho], l[k], hin, hq⟩
        clear htk ho hex hI hbox hBw hmem hne hin
        go_wp2_with (first
          | go_quiet (fail)
          | (at_builtin; refine wpList_append_item (wr.drewN nq) rfl (.tmp 30) (.tmp 35) rfl (w.heap.size + 1) (.slice ao out.length co) out rfl (by exact hown) l[k] (by rfl) (by omega) (by exact hz1') ?_; intro v2 w2 hown2 hgrow))
        go_roundg (gk - 1)
        case measure => omega
        case rel => exact ⟨k + 1, true, _, by omega, by go_num, rfl, unhide HN, by simp; omega, hown2, (below_drewN hb nq).trans hgrow, by omega⟩
    · have hkl : l.take k = l := List.take_of_length_le (by omega)
      rcases hW with ⟨rfl, ho, hall⟩ | ⟨rfl, ho, hex⟩
      · rw [hkl] at ho hall
        have HE := hide (Pl.with_end l x hall)
        subst ho
        clear hkl hall hbox
        go_wp2_with (at_builtin; refine wpList_append_item wr rfl (.tmp 39) (.tmp 41) rfl (w.heap.size + 1) (.slice ao out.length co) out rfl (by exact hown) x (by rfl) (by omega) (by exact hz1') ?_; intro v2 w2 hown2 hgrow)
        go_ret
        exact ⟨_, rfl, by rw [unhide HE]; exact row_mono hown2 (by omega), hBw.trans (hgrow.mono (by omega))⟩
      · rw [hkl] at ho
        subst ho
        clear hkl hex hbox
        go_wp2
        go_ret
        exact ⟨_, rfl, row_mono hown (by omega), hBw⟩

end Go.Proofs.YtnnnleckoinjoaaDoor

/- What can be taken back, in the statement's book. -/
namespace Go.Proofs.YtnnnleckoinjoaaDoor
open Go.RowKit
open Pl (It)

/-- what can be taken back, opened: the value, its cells -/
theorem past_open {w : World} {v : Value} {past : List (List It)} (h : PastAt w v past) :
    ∃ ao cap, v = .slice ao past.length cap ∧ (ao = none → past.length = 0 ∧ cap = 0) ∧ (∀ ad, ao = some ad → ∃ g off cur, ad = ⟨g, off, none⟩ ∧ w.heap[g]? = some (.cells cur 25 (0, 0)) ∧ past.length ≤ cap ∧ off + cap ≤ cur.size ∧ cap ≤ maxLen ∧
      ∀ j (h : j < past.length), ∃ vj, cur[off + j]? = some vj ∧ Its w 0 vj past[j]) := by
  rcases h with ⟨rfl, rfl⟩ | ⟨g, off, cap, cur, rfl, h1, h2, h3, h4, h5⟩
  · exact ⟨none, 0, rfl, fun _ => ⟨rfl, rfl⟩, fun ad e => by cases e⟩
  · refine ⟨_, cap, rfl, (fun e => by cases e), fun ad e => ?_⟩
    cases e
    exact ⟨g, off, cur, rfl, h1, h2, h3, h4, h5⟩

theorem past_grown {w' : World} {base : Nat} {v' : Value} {past : List (List It)} {L : List It} {olds : List Value} {vL : Value} (h : w'.ownsRow base 25 1 v' (past.length + 1) (olds ++ [vL])) (ho : olds.length = past.length)
    (h3 : ∀ j (h : j < past.length), ∃ vj, olds[j]? = some vj ∧ Its w' 0 vj past[j]) (hL : Its w' 0 vL L) : ∃ g cap, v' = .slice (some ⟨g, 0, none⟩) (past.length + 1) cap ∧ base ≤ g ∧ PastAt w' v' (past ++ [L]) := by
  rcases h.2 with ⟨_, h2⟩ | ⟨g, cap, cur, hv, hb, hh, h4, h5, h6, h7⟩
  · omega
  · refine ⟨g, cap, hv, hb, Or.inr ⟨g, 0, cap, cur, by simpa using hv, hh, by simpa using h4, by omega, h5, fun j hj => ?_⟩⟩
    have hc : cur[0 + j]? = (olds ++ [vL])[j]? := by
      rw [← h7, Nat.zero_add]
      simp at hj
      rw [List.getElem?_take_of_lt (by omega), Array.getElem?_toList]
    by_cases hjp : j < past.length
    · obtain ⟨vj, e1, e2⟩ := h3 j hjp
      refine ⟨vj, ?_, ?_⟩
      · rw [hc, List.getElem?_append_left (by omega)]; exact e1
      · rw [List.getElem_append_left hjp]; exact e2
    · have hj' : j = past.length := by simp at hj; omega
      subst hj'
      refine ⟨vL, ?_, ?_⟩
      · rw [hc, List.getElem?_append_right (by omega)]; simp [ho]
      · rw [List.getElem_append_right (Nat.le_refl _)]; simpa using hL

/-- what is left to be taken back -/
theorem past_init {w : World} {g off cap : Nat} {q : List (List It)} {l : List It} (h : PastAt w (.slice (some ⟨g, off, none⟩) (q.length + 1) cap) (q ++ [l])) : PastAt w (.slice (some ⟨g, off, none⟩) q.length cap) q := by
  rcases h with ⟨h, _⟩ | ⟨g', off', cap', cur, hv, h1, h2, h3, h4, h5⟩
  · cases h
  · simp only [Value.slice.injEq, Option.some.injEq, Addr.mk.injEq, and_true, List.length_append, List.length_cons, List.length_nil] at hv
    obtain ⟨⟨rfl, rfl⟩, _, rfl⟩ := hv
    refine Or.inr ⟨g, off, cap, cur, rfl, h1, by simp at h2; omega, h3, h4, fun j hj => ?_⟩
    obtain ⟨vj, e1, e2⟩ := h5 j (by simp; omega)
    rw [List.getElem_append_left hj] at e2
    exact ⟨vj, e1, e2⟩
/-- the last list, its place and its cell -/
theorem past_last {w : World} {v : Value} {q : List (List It)} {l : List It} (h : PastAt w v (q ++ [l])) :
    ∃ g off cap a c, v = .slice (some ⟨g, off, none⟩) (q.length + 1) cap ∧ w.cell? ⟨g, off + q.length, none⟩ = some (.slice a l.length c) ∧ Its w 0 (.slice a l.length c) l ∧ g < w.heap.size ∧ q.length + 1 ≤ cap ∧ ∃ cur, w.heap[g]? = some (.cells cur 25 (0, 0)) := by
  rcases h with ⟨_, h⟩ | ⟨g, off, cap, cur, hv, h1, h2, h3, h4, h5⟩
  · simp at h
  · obtain ⟨vj, e1, e2⟩ := h5 q.length (by simp)
    rw [List.getElem_append_right (Nat.le_refl _)] at e2
    simp at e2
    obtain ⟨a, c, rfl⟩ := row_form e2
    exact ⟨g, off, cap, a, c, by simpa using hv, by simp [World.cell?, h1, e1], e2, lt_of_block h1, by simpa using h2, cur, h1⟩


theorem its_one {w : World} {base : Nat} {v : Value} {l : List It} (h : Its w base v l) : v.oneCell' = true := by
  obtain ⟨a, c, rfl⟩ := row_form h; rfl
theorem wpList_append_list {ops : Array Oper} {rest : List Oper} {o : Oper} {a : Act} {Q : Exit → Act → World → Prop} (w : World) (hgd : o.guard = none) (s x : Operand)
    (ho : o.op = .call { callee := .builtin .append, args := #[s, x], argTypes := #[27, 27] }) (base : Nat) (v : Value) (vs : List Value) (hs : a.eval s = v) (hown : w.ownsRow base 25 1 v vs.length vs) (e : Value) (he : e.oneCell' = true)
    (hx : a.eval x = .slice (some ⟨w.heap.size, 0, none⟩) 1 1) (hl : vs.length ≤ 1000) (hbase : base ≤ w.heap.size)
    (h : ∀ v' w', w'.ownsRow base 25 1 v' (vs ++ [e]).length (vs ++ [e]) → Below base w w' → wpList Tryd.prog ops Q rest (a.put o.dst v') w') :
    wpList Tryd.prog ops Q (o :: rest) a (w.alloc (.cells #[e] 25)) := by
  obtain ⟨i0, hi, hz0, hz1, hz2⟩ := info_parts infoItems
  refine wpList_append_own _ hgd s x 27 ho base 25 i0 _ 1 24 Tryd.underlying27 hi hz0 hz1 hz2 rfl (by decide) v vs.length vs hs (World.ownsRow.alloc hown _) ⟨w.heap.size, 0, none⟩ 1 1 [e] hx rfl ?_ ?_ ?_ ?_ ?_ ?_
  · intro j u hj
    match j, hj with
    | 0, hj => simp at hj; subst hj; simp [Addr.add]
    | n + 1, hj => simp at hj
  · intro u hu; simp at hu; subst hu; exact he
  · unfold maxLen; omega
  · omega
  · simp; omega
  · intro v' w' h1 h2 _
    refine h v' w' (by rw [List.length_append]; exact h1) (((Below.refl _ _).alloc hbase _).grown h2 (by simp; omega) fun k hk => (World.ownsRow.lt hown k hk).1)

/-- the values of the lists that can be taken back -/
theorem past_vals {w : World} {v : Value} {past : List (List It)} (h : PastAt w v past) : ∃ vals : List Value, ∃ hl : vals.length = past.length, (∀ j (h : j < past.length), Its w 0 (vals[j]'(by omega)) past[j]) ∧
    ((v = .slice none 0 0 ∧ past = []) ∨ ∃ g off cap, v = .slice (some ⟨g, off, none⟩) past.length cap ∧ g < w.heap.size ∧ ∀ j (h : j < past.length), w.cell? ⟨g, off + j, none⟩ = some (vals[j]'(by omega))) := by
  rcases h with ⟨rfl, rfl⟩ | ⟨g, off, cap, cur, rfl, h1, h2, h3, h4, h5⟩
  · exact ⟨[], rfl, fun j h => by simp at h, Or.inl ⟨rfl, rfl⟩⟩
  · refine ⟨(List.range past.length).map fun j => cur.getD (off + j) undef, by simp, fun j hj => ?_, Or.inr ⟨g, off, cap, rfl, lt_of_block h1, fun j hj => ?_⟩⟩
    · obtain ⟨vj, e1, e2⟩ := h5 j hj
      have : cur.getD (off + j) undef = vj := by
        rw [Array.getD_eq_getD_getElem?, e1]; rfl
      simp only [List.getElem_map, List.getElem_range, this]; exact e2
    · obtain ⟨vj, e1, e2⟩ := h5 j hj
      have e3 : cur.getD (off + j) undef = vj := by
        rw [Array.getD_eq_getD_getElem?, e1]; rfl
      simp only [List.getElem_map, List.getElem_range, e3]
      simp [World.cell?, h1, e1]

theorem six_cells6 {w : World} {b t : Nat} {v0 v1 v2 v3 v4 v5 : Value} (h : w.heap[b]? = some (.cells #[v0, v1, v2, v3, v4, v5] t (0, 0))) :
    w.cell? ⟨b, 0, none⟩ = some v0 ∧ w.cell? ⟨b, 1, none⟩ = some v1 ∧ w.cell? ⟨b, 2, none⟩ = some v2 ∧ w.cell? ⟨b, 3, none⟩ = some v3 ∧ w.cell? ⟨b, 4, none⟩ = some v4 ∧ w.cell? ⟨b, 5, none⟩ = some v5 ∧ ∀ k, w.frozen? ⟨b, k, none⟩ = false := by
  refine ⟨?_, ?_, ?_, ?_, ?_, ?_, fun k => ?_⟩ <;> simp [World.cell?, World.frozen?, h]

theorem push_drop (past : List (List It)) (L : List It) (hp : past.length ≤ 20) : push past L = past.drop (if 20 ≤ past.length then 1 else 0) ++ [L] := by
  unfold push
  by_cases h : 20 ≤ past.length
  · rw [if_pos (by simp; omega), if_pos h]
    cases past with
    | nil => simp at h
    | cons a t => rfl
  · rw [if_neg (by simp; omega), if_neg h]; rfl

set_option maxRecDepth 100000 in
set_option maxHeartbeats 4000000 in
theorem noted_any (bb : Nat) (gp nv : Value) (L L2 : List It) (past : List (List It)) (vl vp vm bv v2 : Value) (w : World) (hb : w.heap[bb]? = some (.cells #[gp, nv, vl, vp, vm, bv] 30 (0, 0))) (hvl : Its w 0 vl L) (hvp : PastAt w vp past) (hp : past.length ≤ 20) (hv2 : Its w 0 v2 L2) :
    Calls Tryd.prog 60 #[P0 bb, v2] w fun e w' => e = .returned (.tuple #[]) ∧ ∃ vp', w'.heap[bb]? = some (.cells #[gp, nv, v2, vp', vm, bv] 30 (0, 0)) ∧ PastAt w' vp' (push past L) ∧ Fr (fun k => k = bb) w w' := by
  obtain ⟨c0, c1, c2, c3, c4, c5, cf⟩ := six_cells6 hb
  obtain ⟨vals, hvn, hvi, hvc0⟩ := past_vals hvp
  obtain ⟨aL, cL, rfl⟩ := row_form hvl
  obtain ⟨a2, c2', rfl⟩ := row_form hv2
  obtain ⟨ap, cp, rfl, hvc⟩ : ∃ ap cp, vp = .slice ap past.length cp ∧ (past.length = 0 ∨ ∃ g off, ap = some ⟨g, off, none⟩ ∧ g < w.heap.size ∧ ∀ j (h : j < past.length), w.cell? ⟨g, off + j, none⟩ = some (vals[j]'(by omega))) := by
    rcases hvc0 with ⟨rfl, rfl⟩ | ⟨g, off, cap, rfl, hg, hcell⟩
    · exact ⟨_, _, rfl, Or.inl rfl⟩
    · exact ⟨_, _, rfl, Or.inr ⟨g, off, rfl, hg, hcell⟩⟩
  clear hvc0
  have hbl := lt_of_block hb
  have fin : ∀ (fr : Nat), fr = (if 20 ≤ past.length then 1 else 0) → ∀ (w2 : World) (v' : Value), w2.ownsRow w.heap.size 25 1 v' ((vals.drop fr) ++ [Value.slice aL L.length cL]).length ((vals.drop fr) ++ [.slice aL L.length cL]) → Below w.heap.size w w2 →
      ((w2.setCell ⟨bb, 3, none⟩ v').setCell ⟨bb, 2, none⟩ (.slice a2 L2.length c2')).heap[bb]? = some (.cells #[gp, nv, .slice a2 L2.length c2', v', vm, bv] 30 (0, 0)) ∧ PastAt ((w2.setCell ⟨bb, 3, none⟩ v').setCell ⟨bb, 2, none⟩ (.slice a2 L2.length c2')) v' (push past L) ∧ Fr (fun k => k = bb) w ((w2.setCell ⟨bb, 3, none⟩ v').setCell ⟨bb, 2, none⟩ (.slice a2 L2.length c2')) := by
    intro fr hfr w2 v' hrow hB
    have hfrl : fr ≤ past.length := by rw [hfr]; split <;> omega
    have hb2 : w2.heap[bb]? = some (.cells #[gp, nv, .slice aL L.length cL, .slice ap past.length cp, vm, bv] 30 (0, 0)) := by rw [hB.block bb hbl]; exact hb
    have hF : Fr (fun k => k = bb) w2 ((w2.setCell ⟨bb, 3, none⟩ v').setCell ⟨bb, 2, none⟩ (.slice a2 L2.length c2')) := Fr.setCell (S := fun k => k = bb) (Fr.setCell (S := fun k => k = bb) (Fr.refl _ _) (p := ⟨bb, 3, none⟩) (Or.inl rfl) _) (p := ⟨bb, 2, none⟩) (Or.inl rfl) _
    have hpl : (vals.drop fr).length = (past.drop fr).length := by simp; omega
    have hrow' : w2.ownsRow w.heap.size 25 1 v' ((past.drop fr).length + 1) (vals.drop fr ++ [.slice aL L.length cL]) := by rw [← hpl]; simpa using hrow
    obtain ⟨g, cap, hv', hg, hP⟩ := past_grown hrow' hpl (fun j hj => by
      have hj' : fr + j < past.length := by simp at hj; omega
      refine ⟨vals[fr + j]'(by omega), by rw [List.getElem?_drop, List.getElem?_eq_getElem (by omega)], ?_⟩
      rw [List.getElem_drop]
      exact row_below (hvi (fr + j) hj') hB (Nat.le_refl _)) (row_below hvl hB (Nat.le_refl _))
    refine ⟨?_, ?_, (Fr.of_below hB).trans hF⟩
    · have h3 := heap_setCell_same w2 bb 3 _ _ v' hb2
      have h4 := heap_setCell_same _ bb 2 _ _ (.slice a2 L2.length c2') h3
      rw [h4]; rfl
    · rw [push_drop past L hp, ← hfr]
      refine past_fr hP hF ?_ ?_
      · rintro k c f hk rfl; rw [hb2] at hk; simp at hk
      · rintro k hk rfl
        rw [hv'] at hk
        have : g = k := by simpa [Value.ownBlock] using hk
        omega
  have HF := hide fin
  have HD : Hid (∀ (fr m : Nat) (h : fr + m < past.length), (vals.drop fr).take (m + 1) = (vals.drop fr).take m ++ [vals[fr + m]'(by omega)]) := fun fr m h => by
    rw [List.take_succ_eq_append_getElem (by simp; omega), List.getElem_drop]
  have H1 : Hid (∀ j (h : j < past.length), ∃ a l c, vals[j]'(by omega) = .slice a l c) := fun j h => by
    obtain ⟨a, c, e⟩ := row_form (hvi j h)
    exact ⟨_, _, _, e⟩
  have HB := hide hb
  clear fin hvi hvl hv2 hvp hb
  by_cases h20 : 20 ≤ past.length
  · have hi20 : (20 : Int) ≤ past.length := by omega
    go_enter Tryd.func60, Tryd.ntmps60
    go_wp2_with fail
    go_loopg [4, 6] (past.length + 1) (fun gk v i wr => ∃ (j : Nat) (ov : List Value), 1 ≤ j ∧ j ≤ past.length ∧ i = .int .i64 j ∧ ov = (vals.drop 1).take (j - 1) ∧ wr.ownsRow w.heap.size 25 1 v ov.length ov ∧ Below w.heap.size w wr ∧ past.length - j ≤ gk)
    case atStart => exact ⟨1, [], Nat.le_refl _, by omega, rfl, by simp, World.ownsRow_nil _ _ _ _, Below.refl _ _, by omega⟩
    case round =>
      obtain ⟨j, ov, hj0, hj, rfl, hov, hrow, hB, hgk⟩ := hrel
      have hz := hB.size
      have hb2 : wr.heap[bb]? = some (.cells #[gp, nv, .slice aL L.length cL, .slice ap past.length cp, vm, bv] 30 (0, 0)) := by rw [hB.block bb hbl]; exact unhide HB
      obtain ⟨ao, co, rfl⟩ := row_form hrow
      have hlen : ov.length ≤ 20 := by rw [hov, List.length_take, List.length_drop]; omega
      by_cases hlt : j < past.length
      · rcases hvc with hv0 | ⟨g, off, rfl, hg, hcell⟩
        · omega
        · obtain ⟨d0, d1, d2, d3, d4, d5, df⟩ := six_cells6 hb2
          have hc := (hB.cell (p := ⟨g, off + j, none⟩) hg).trans (hcell j hlt)
          obtain ⟨aq, lq, cq, hq⟩ := (unhide H1) j hlt
          rw [hq] at hc
          have HS : Hid (ov ++ [.slice aq lq cq] = (vals.drop 1).take (j + 1 - 1)) := by
            show _ = _
            rw [← hq, hov]
            have := (unhide HD) 1 (j - 1) (by omega)
            rw [show j - 1 + 1 = j + 1 - 1 by omega] at this
            rw [this]
            congr 2
            congr 1
            omega
          have k1 : (0 : Int) ≤ (j : Int) := by omega
          have k2 : (j : Int) < past.length := by omega
          have HBb := hide hB
          clear hcell hb2 hB c0 c1 c2 c3 c4 c5 cf df d0 d1 d2 d4 d5 HB HF HD H1 hov hq
          go_wp2_with (at_builtin; refine wpList_append_list wr rfl (.tmp 23) (.tmp 31) rfl w.heap.size (.slice ao ov.length co) ov rfl (by exact hrow) (.slice aq lq cq) rfl (by rfl) (by omega) (by exact hz) ?_; intro v2 w2 hrow2 hgrow)
          go_roundg (gk - 1)
          case measure => omega
          case rel => exact ⟨j + 1, _, by omega, by omega, by go_num, unhide HS, hrow2, (unhide HBb).trans hgrow, by omega⟩
      · have hall : ov = vals.drop 1 := by rw [hov]; exact List.take_of_length_le (by simp; omega)
        have k2 : ¬ (j : Int) < past.length := by omega
        obtain ⟨d0, d1, d2, d3, d4, d5, df⟩ := six_cells6 hb2
        have df2 := df 2
        have df3 := df 3
        have hbl2 : bb < wr.heap.size := by omega
        have HBb := hide hB
        have HG : Hid (∀ w2, Below w.heap.size wr w2 → w2.heap[bb]? = some (.cells #[gp, nv, .slice aL L.length cL, .slice ap past.length cp, vm, bv] 30 (0, 0))) := fun w2 h2 => by rw [h2.block bb hbl]; exact hb2
        have HE := hide hall
        clear hvc hall hb2 hB c0 c1 c2 c3 c4 c5 cf df HB HD H1 hov
        go_wp2_with (at_builtin; refine wpList_append_list wr rfl (.tmp 33) (.tmp 38) rfl w.heap.size (.slice ao ov.length co) ov rfl (by exact hrow) (.slice aL L.length cL) rfl (by rfl) (by omega) (by exact hz) ?_; intro v2 w2 hrow2 hgrow; have q0 := row_form hrow2; obtain ⟨a3, c3', rfl⟩ := q0; have q := (unhide HG) w2 hgrow; have q2 := six_cells6 q; obtain ⟨g0, g1, g2, g3, g4, g5, gf⟩ := q2; have gf2 := gf 2; have gf3 := gf 3; have HR := hide hrow2; have HW := hide hgrow; clear q gf hrow2 hgrow)
        go_end0
        have hR := unhide HR
        have hE := unhide HE
        subst hE
        obtain ⟨e1, e2, e3⟩ := (unhide HF) 1 (by rw [if_pos h20]) w2 _ hR ((unhide HBb).trans (unhide HW))
        rw [List.length_append, List.length_singleton] at e1 e2 e3
        exact ⟨rfl, _, e1, e2, e3⟩
  · have hi20 : ¬ (20 : Int) ≤ past.length := by omega
    have hi20' : (past.length : Int) < 20 := by omega
    go_enter Tryd.func60, Tryd.ntmps60
    go_wp2_with fail
    go_loopg [4, 6] (past.length + 1) (fun gk v i wr => ∃ (j : Nat) (ov : List Value), 0 ≤ j ∧ j ≤ past.length ∧ i = .int .i64 j ∧ ov = (vals.drop 0).take (j - 0) ∧ wr.ownsRow w.heap.size 25 1 v ov.length ov ∧ Below w.heap.size w wr ∧ past.length - j ≤ gk)
    case atStart => exact ⟨0, [], Nat.le_refl _, by omega, rfl, by simp, World.ownsRow_nil _ _ _ _, Below.refl _ _, by omega⟩
    case round =>
      obtain ⟨j, ov, hj0, hj, rfl, hov, hrow, hB, hgk⟩ := hrel
      have hz := hB.size
      have hb2 : wr.heap[bb]? = some (.cells #[gp, nv, .slice aL L.length cL, .slice ap past.length cp, vm, bv] 30 (0, 0)) := by rw [hB.block bb hbl]; exact unhide HB
      obtain ⟨ao, co, rfl⟩ := row_form hrow
      have hlen : ov.length ≤ 20 := by rw [hov, List.length_take, List.length_drop]; omega
      by_cases hlt : j < past.length
      · rcases hvc with hv0 | ⟨g, off, rfl, hg, hcell⟩
        · omega
        · obtain ⟨d0, d1, d2, d3, d4, d5, df⟩ := six_cells6 hb2
          have hc := (hB.cell (p := ⟨g, off + j, none⟩) hg).trans (hcell j hlt)
          obtain ⟨aq, lq, cq, hq⟩ := (unhide H1) j hlt
          rw [hq] at hc
          have HS : Hid (ov ++ [.slice aq lq cq] = (vals.drop 0).take (j + 1 - 0)) := by
            show _ = _
            rw [← hq, hov]
            have := (unhide HD) 0 (j - 0) (by omega)
            rw [show j - 0 + 1 = j + 1 - 0 by omega] at this
            rw [this]
            congr 2
            congr 1
            omega
          have k1 : (0 : Int) ≤ (j : Int) := by omega
          have k2 : (j : Int) < past.length := by omega
          have HBb := hide hB
          clear hcell hb2 hB c0 c1 c2 c3 c4 c5 cf df d0 d1 d2 d4 d5 HB HF HD H1 hov hq
          go_wp2_with (at_builtin; refine wpList_append_list wr rfl (.tmp 23) (.tmp 31) rfl w.heap.size (.slice ao ov.length co) ov rfl (by exact hrow) (.slice aq lq cq) rfl (by rfl) (by omega) (by exact hz) ?_; intro v2 w2 hrow2 hgrow)
          go_roundg (gk - 1)
          case measure => omega
          case rel => exact ⟨j + 1, _, by omega, by omega, by go_num, unhide HS, hrow2, (unhide HBb).trans hgrow, by omega⟩
      · have hall : ov = vals.drop 0 := by rw [hov]; exact List.take_of_length_le (by simp; omega)
        have k2 : ¬ (j : Int) < past.length := by omega
        obtain ⟨d0, d1, d2, d3, d4, d5, df⟩ := six_cells6 hb2
        have df2 := df 2
        have df3 := df 3
        have hbl2 : bb < wr.heap.size := by omega
        have HBb := hide hB
        have HG : Hid (∀ w2, Below w.heap.size wr w2 → w2.heap[bb]? = some (.cells #[gp, nv, .slice aL L.length cL, .slice ap past.length cp, vm, bv] 30 (0, 0))) := fun w2 h2 => by rw [h2.block bb hbl]; exact hb2
        have HE := hide hall
        clear hvc hall hb2 hB c0 c1 c2 c3 c4 c5 cf df HB HD H1 hov
        go_wp2_with (at_builtin; refine wpList_append_list wr rfl (.tmp 33) (.tmp 38) rfl w.heap.size (.slice ao ov.length co) ov rfl (by exact hrow) (.slice aL L.length cL) rfl (by rfl) (by omega) (by exact hz) ?_; intro v2 w2 hrow2 hgrow; have q0 := row_form hrow2; obtain ⟨a3, c3', rfl⟩ := q0; have q := (unhide HG) w2 hgrow; have q2 := six_cells6 q; obtain ⟨g0, g1, g2, g3, g4, g5, gf⟩ := q2; have gf2 := gf 2; have gf3 := gf 3; have HR := hide hrow2; have HW := hide hgrow; clear q gf hrow2 hgrow)
        go_end0
        have hR := unhide HR
        have hE := unhide HE
        subst hE
        obtain ⟨e1, e2, e3⟩ := (unhide HF) 0 (by rw [if_neg h20]) w2 _ hR ((unhide HBb).trans (unhide HW))
        rw [List.length_append, List.length_singleton] at e1 e2 e3
        exact ⟨rfl, _, e1, e2, e3⟩

end Go.Proofs.YtnnnleckoinjoaaDoor

/- The forest as it was told, change by change. -/
namespace Go.Proofs.YtnnnleckoinjoaaDoor
open Go.RowKit
open Pl (It)

structure CSt where
  out : List Int
  put : Bool
  gone : Bool
def stepC (a r : Int) (s : CSt) (x : Int) : CSt :=
  if s.put = false ∧ a < x then (if x = r then ⟨s.out ++ [a], true, true⟩ else ⟨(s.out ++ [a]) ++ [x], true, s.gone⟩)
  else (if x = r then ⟨s.out, s.put, true⟩ else ⟨s.out ++ [x], s.put, s.gone⟩)
def CS (M : List Int) (a r : Int) (k : Nat) : CSt := (M.take k).foldl (stepC a r) ⟨[], a == -1, r == -1⟩
theorem CS_succ (M : List Int) (a r : Int) (k : Nat) (h : k < M.length) : CS M a r (k + 1) = stepC a r (CS M a r k) M[k] := by
  unfold CS
  rw [List.take_succ_eq_append_getElem h, List.foldl_append]; rfl
theorem CS_len (M : List Int) (a r : Int) : ∀ k, k ≤ M.length → (CS M a r k).out.length ≤ 2 * k := by
  intro k
  induction k with
  | zero => intro _; simp [CS]
  | succ k ih =>
    intro hk
    have := ih (by omega)
    rw [CS_succ M a r k (by omega)]
    unfold stepC
    split <;> split <;> simp <;> omega

theorem CS_inv {M : List Int} {a r : Int} (hM : M.Pairwise (· < ·)) (ha : a ∉ M) : ∀ k, k ≤ M.length →
    (CS M a r k).out.Pairwise (· < ·) ∧ (∀ y, y ∈ (CS M a r k).out ↔ (y ∈ M.take k ∧ y ≠ r) ∨ (y = a ∧ a ≠ -1 ∧ (CS M a r k).put = true)) ∧
    ((CS M a r k).put = true ↔ a = -1 ∨ ∃ x, x ∈ M.take k ∧ a < x) ∧ ((CS M a r k).gone = true ↔ r = -1 ∨ r ∈ M.take k) := by
  intro k
  induction k with
  | zero => intro _; simp [CS]
  | succ k ih =>
    intro hk
    have hk' : k < M.length := by omega
    obtain ⟨i1, i2, i3, i4⟩ := ih (by omega)
    have hmem : ∀ y, y ∈ M.take (k + 1) ↔ y ∈ M.take k ∨ y = M[k] := fun y => by rw [List.take_succ_eq_append_getElem hk', List.mem_append, List.mem_singleton]
    have hlt : ∀ y, y ∈ M.take k → y < M[k] := fun y hy => by
      obtain ⟨j, hj, rfl⟩ := List.getElem_of_mem hy
      have hjk : j < k := by simp at hj; omega
      rw [List.getElem_take]
      exact List.pairwise_iff_getElem.1 hM j k (by omega) hk' hjk
    have hxa : M[k] ≠ a := fun e => ha (e ▸ List.getElem_mem hk')
    rw [CS_succ M a r k hk']
    generalize CS M a r k = s at *
    generalize M[k] = x at *
    obtain ⟨o, p, g⟩ := s
    simp only at i1 i2 i3 i4
    have hox : ∀ y, y ∈ o → y < x ∨ y = a := fun y hy => by
      rcases (i2 y).1 hy with ⟨h1, _⟩ | ⟨h1, _⟩
      · exact Or.inl (hlt y h1)
      · exact Or.inr h1
    unfold stepC
    by_cases hc : p = false ∧ a < x
    · obtain ⟨rfl, hax⟩ := hc
      have ha1 : a ≠ -1 := fun e => by have := i3.2 (Or.inl e); cases this
      have hoa : ∀ y, y ∈ o → y < a := fun y hy => by
        rcases (i2 y).1 hy with ⟨h1, _⟩ | ⟨_, _, h1⟩
        · have h2 : ¬ a < y := fun h => by have := i3.2 (Or.inr ⟨y, h1, h⟩); cases this
          have h3 : y ≠ a := fun e => ha (e ▸ List.mem_of_mem_take h1)
          omega
        · cases h1
      have hs1 : (o ++ [a]).Pairwise (· < ·) := List.pairwise_append.2 ⟨i1, List.pairwise_singleton _ _, fun y hy z hz => by rw [List.mem_singleton.1 hz]; exact hoa y hy⟩
      rw [if_pos ⟨rfl, hax⟩]
      by_cases hr : x = r
      · subst hr
        rw [if_pos rfl]
        refine ⟨hs1, fun y => ?_, ?_, ?_⟩
        · rw [List.mem_append, i2, hmem, List.mem_singleton]
          constructor
          · rintro ((⟨h1, h2⟩ | ⟨_, _, h1⟩) | h1)
            · exact Or.inl ⟨Or.inl h1, h2⟩
            · cases h1
            · exact Or.inr ⟨h1, ha1, rfl⟩
          · rintro (⟨h1 | h1, h2⟩ | ⟨h1, _, _⟩)
            · exact Or.inl (Or.inl ⟨h1, h2⟩)
            · exact absurd h1 h2
            · exact Or.inr h1
        · exact ⟨fun _ => Or.inr ⟨x, (hmem x).2 (Or.inr rfl), hax⟩, fun _ => rfl⟩
        · exact ⟨fun _ => Or.inr ((hmem x).2 (Or.inr rfl)), fun _ => rfl⟩
      · rw [if_neg hr]
        refine ⟨List.pairwise_append.2 ⟨hs1, List.pairwise_singleton _ _, fun y hy z hz => ?_⟩, fun y => ?_, ?_, ?_⟩
        · rw [List.mem_singleton.1 hz]
          rcases List.mem_append.1 hy with h1 | h1
          · have := hoa y h1; omega
          · rw [List.mem_singleton.1 h1]; exact hax
        · rw [List.mem_append, List.mem_append, i2, hmem, List.mem_singleton, List.mem_singleton]
          constructor
          · rintro (((⟨h1, h2⟩ | ⟨_, _, h1⟩) | h1) | h1)
            · exact Or.inl ⟨Or.inl h1, h2⟩
            · cases h1
            · exact Or.inr ⟨h1, ha1, rfl⟩
            · exact Or.inl ⟨Or.inr h1, by rw [h1]; exact hr⟩
          · rintro (⟨h1 | h1, h2⟩ | ⟨h1, _, _⟩)
            · exact Or.inl (Or.inl (Or.inl ⟨h1, h2⟩))
            · exact Or.inr h1
            · exact Or.inl (Or.inr h1)
        · exact ⟨fun _ => Or.inr ⟨x, (hmem x).2 (Or.inr rfl), hax⟩, fun _ => rfl⟩
        · show g = true ↔ _
          rw [i4, hmem]
          constructor
          · rintro (h | h)
            · exact Or.inl h
            · exact Or.inr (Or.inl h)
          · rintro (h | h | h)
            · exact Or.inl h
            · exact Or.inr h
            · exact absurd h.symm hr
    · rw [if_neg hc]
      have hput : p = true ↔ a = -1 ∨ ∃ y, y ∈ M.take (k + 1) ∧ a < y := by
        constructor
        · intro h
          rcases i3.1 h with h | ⟨y, h1, h2⟩
          · exact Or.inl h
          · exact Or.inr ⟨y, (hmem y).2 (Or.inl h1), h2⟩
        · rintro (h | ⟨y, h1, h2⟩)
          · exact i3.2 (Or.inl h)
          · rcases (hmem y).1 h1 with h3 | h3
            · exact i3.2 (Or.inr ⟨y, h3, h2⟩)
            · cases hp : p with
              | true => rfl
              | false => exact absurd ⟨hp, by omega⟩ hc
      have hox2 : ∀ y, y ∈ o → y < x := fun y hy => by
        rcases (i2 y).1 hy with ⟨h1, _⟩ | ⟨h1, h2, h3⟩
        · exact hlt y h1
        · rcases i3.1 h3 with h | ⟨z, h4, h5⟩
          · exact absurd h h2
          · have := hlt z h4; omega
      by_cases hr : x = r
      · subst hr
        rw [if_pos rfl]
        refine ⟨i1, fun y => ?_, hput, ⟨fun _ => Or.inr ((hmem x).2 (Or.inr rfl)), fun _ => rfl⟩⟩
        show y ∈ o ↔ _
        rw [i2, hmem]
        constructor
        · rintro (⟨h1, h2⟩ | h)
          · exact Or.inl ⟨Or.inl h1, h2⟩
          · exact Or.inr h
        · rintro (⟨h1 | h1, h2⟩ | h)
          · exact Or.inl ⟨h1, h2⟩
          · exact absurd h1 h2
          · exact Or.inr h
      · rw [if_neg hr]
        refine ⟨List.pairwise_append.2 ⟨i1, List.pairwise_singleton _ _, fun y hy z hz => by rw [List.mem_singleton.1 hz]; exact hox2 y hy⟩, fun y => ?_, hput, ?_⟩
        · rw [List.mem_append, i2, hmem, List.mem_singleton]
          constructor
          · rintro ((⟨h1, h2⟩ | h) | h)
            · exact Or.inl ⟨Or.inl h1, h2⟩
            · exact Or.inr h
            · exact Or.inl ⟨Or.inr h, by rw [h]; exact hr⟩
          · rintro (⟨h1 | h1, h2⟩ | h)
            · exact Or.inl (Or.inl ⟨h1, h2⟩)
            · exact Or.inr h1
            · exact Or.inl (Or.inr h)
        · show g = true ↔ _
          rw [i4, hmem]
          constructor
          · rintro (h | h)
            · exact Or.inl h
            · exact Or.inr (Or.inl h)
          · rintro (h | h | h)
            · exact Or.inl h
            · exact Or.inr h
            · exact absurd h.symm hr

/-- the whole: what is told to go is gone, what is told to come has come -/
theorem CS_end {M : List Int} {a r : Int} (hM : M.Pairwise (· < ·)) (ha : a ∉ M) (hr : r = -1 ∨ r ∈ M) :
    (CS M a r M.length).gone = true ∧ ((CS M a r M.length).put = true → (CS M a r M.length).out.Pairwise (· < ·) ∧ ∀ y, y ∈ (CS M a r M.length).out ↔ (y ∈ M ∧ y ≠ r) ∨ (y = a ∧ a ≠ -1)) ∧
    ((CS M a r M.length).put = false → ((CS M a r M.length).out ++ [a]).Pairwise (· < ·) ∧ ∀ y, y ∈ (CS M a r M.length).out ++ [a] ↔ (y ∈ M ∧ y ≠ r) ∨ (y = a ∧ a ≠ -1)) := by
  obtain ⟨i1, i2, i3, i4⟩ := CS_inv (r := r) hM ha M.length (Nat.le_refl _)
  rw [List.take_length] at i2 i3 i4
  refine ⟨i4.2 hr, fun hp => ⟨i1, fun y => ?_⟩, fun hp => ⟨?_, fun y => ?_⟩⟩
  · rw [i2, hp]; simp
  · refine List.pairwise_append.2 ⟨i1, List.pairwise_singleton _ _, fun y hy z hz => ?_⟩
    rw [List.mem_singleton.1 hz]
    rcases (i2 y).1 hy with ⟨h1, _⟩ | ⟨_, _, h1⟩
    · have h2 : ¬ a < y := fun h => by have := i3.2 (Or.inr ⟨y, h1, h⟩); rw [hp] at this; cases this
      have h3 : y ≠ a := fun e => ha (e ▸ h1)
      omega
    · rw [hp] at h1; cases h1
  · have ha1 : a ≠ -1 := fun e => by have := i3.2 (Or.inl e); rw [hp] at this; cases this
    rw [List.mem_append, i2, hp, List.mem_singleton]
    simp [ha1]

end Go.Proofs.YtnnnleckoinjoaaDoor

namespace Go.Proofs.YtnnnleckoinjoaaDoor
open Go.RowKit
open Pl (It)

set_option maxRecDepth 100000 in
set_option maxHeartbeats 4000000 in
theorem changed_any (bb : Nat) (gp nv vl vp vm bv : Value) (M : List Int) (a r : Int) (w : World) (hb : w.heap[bb]? = some (.cells #[gp, nv, vl, vp, vm, bv] 30 (0, 0))) (hvm : Nums w 0 vm M) (hM : M.Pairwise (· < ·)) (hlen : M.length ≤ 100) (ha : a ∉ M) (hr : r = -1 ∨ r ∈ M) :
    Calls Tryd.prog 38 #[P0 bb, .agg #[.int .i64 a, .int .i64 r]] w fun e w' => e = .returned (.bool true) ∧ ∃ vm' M', w'.heap[bb]? = some (.cells #[gp, nv, vl, vp, vm', bv] 30 (0, 0)) ∧ Nums w' 0 vm' M' ∧ M'.Pairwise (· < ·) ∧ (∀ y, y ∈ M' ↔ (y ∈ M ∧ y ≠ r) ∨ (y = a ∧ a ≠ -1)) ∧ Fr (fun k => k = bb) w w' := by
  obtain ⟨am, cm, rfl⟩ := row_form hvm
  have hbl := lt_of_block hb
  have hbne : ¬ bb = w.heap.size := by omega
  have hbne2 : ¬ w.heap.size = bb := by omega
  obtain ⟨E1, E2, E3⟩ := CS_end hM ha hr
  have HE := hide (And.intro E1 (And.intro E2 E3))
  have HXA : Hid (∀ k (h : k < M.length), M[k] ≠ a) := fun k h e => ha (e ▸ List.getElem_mem h)
  have fin : ∀ (w2 : World) (v' : Value) (M' : List Int), Nums w2 (w.heap.size + 1) v' M' → Below w.heap.size w w2 →
      (w2.setCell ⟨bb, 4, none⟩ v').heap[bb]? = some (.cells #[gp, nv, vl, vp, v', bv] 30 (0, 0)) ∧ Nums (w2.setCell ⟨bb, 4, none⟩ v') 0 v' M' ∧ Fr (fun k => k = bb) w (w2.setCell ⟨bb, 4, none⟩ v') := by
    intro w2 v' M' hN hB
    have hb2 : w2.heap[bb]? = some (.cells #[gp, nv, vl, vp, .slice am M.length cm, bv] 30 (0, 0)) := by rw [hB.block bb hbl]; exact hb
    have hF : Fr (fun k => k = bb) w2 (w2.setCell ⟨bb, 4, none⟩ v') := Fr.setCell (S := fun k => k = bb) (Fr.refl _ _) (p := ⟨bb, 4, none⟩) (Or.inl rfl) _
    refine ⟨?_, ?_, (Fr.of_below hB).trans hF⟩
    · have h3 := heap_setCell_same w2 bb 4 _ _ v' hb2
      rw [h3]; rfl
    · refine row_fr (row_mono hN (Nat.zero_le _)) hF ?_
      rintro k c f hk _ rfl
      rw [hb2] at hk; simp at hk
  have HF := hide fin
  have HL := hide (CS_len M a r)
  have HSC := hide (CS_succ M a r)
  have HB := hide hb
  clear fin E1 E2 E3 hM ha hr hb
  go_enter Tryd.func38, Tryd.ntmps38
  go_wp2_with fail
  go_loopg [5, 6, 7, 8] (M.length + 1) (fun gk v gv pv i wr => ∃ (k : Nat) (s : CSt), k ≤ M.length ∧ s = CS M a r k ∧ i = .int .i64 k ∧ gv = .bool s.gone ∧ pv = .bool s.put ∧ Nums wr (w.heap.size + 1) v s.out ∧ Below (w.heap.size + 1) (w.alloc (.cells #[.int .i64 a, .int .i64 r] 47)) wr ∧ M.length - k ≤ gk)
  case atStart => exact ⟨0, _, Nat.zero_le _, rfl, rfl, rfl, rfl, World.ownsRow_nil _ _ _ _, Below.refl _ _, by omega⟩
  case round =>
    obtain ⟨k, s, hk, hs, rfl, rfl, rfl, hown, hb, hgk⟩ := hrel
    obtain ⟨out, put, gone⟩ := s
    simp only at hown ⊢
    have hz1' : w.heap.size + 1 ≤ wr.heap.size := by have := hb.size; rw [World.size_alloc] at this; exact this
    have hbox := made_later hb (by omega)
    obtain ⟨x0, x1, _⟩ := two_cells hbox
    have hBw : Below w.heap.size w wr := ((Below.refl _ _).alloc (Nat.le_refl _) _).trans (hb.mono (by omega))
    have hb2 : wr.heap[bb]? = some (.cells #[gp, nv, vl, vp, .slice am M.length cm, bv] 30 (0, 0)) := by rw [hBw.block bb hbl]; exact unhide HB
    obtain ⟨d0, d1, d2, d3, d4, d5, df⟩ := six_cells6 hb2
    have hol : out.length ≤ 200 := by have := (unhide HL) k hk; rw [← hs] at this; simp only at this; omega
    obtain ⟨ao, co, rfl⟩ := row_form hown
    by_cases hlt : k < M.length
    · obtain ⟨g, rfl⟩ := row_some hvm (by omega)
      have hI : Nums wr 0 (.slice (some ⟨g, 0, none⟩) M.length cm) M := row_below hvm hBw (Nat.le_refl _)
      have hc := nums_cell hI k hlt
      have hk1 : (0 : Int) ≤ k := by omega
      have hk2 : (k : Int) < M.length := by omega
      have hxa := (unhide HXA) k hlt
      have hS := (unhide HSC) k hlt
      rw [← hs] at hS
      have HN := hide hS
      have HK := hide hb
      clear hI hbox hb2 d0 d1 d2 d3 d5 df hs hS HE HF HL HSC HB HXA
      generalize M[k] = x at *
      have hxa' : (x == a) = false := by simpa using hxa
      by_cases hr : x = r
      · have hr' : (x == r) = true := by simpa using hr
        have HR := hide hr
        clear hr
        cases put
        · by_cases hax : a < x
          · go_wp2_with (first | (at_builtin; refine wpList_append_num wr rfl (.tmp 44) (.tmp 47) rfl (w.heap.size + 1) (.slice ao out.length co) out rfl (by exact hown) a (by rfl) (by omega) (by exact hz1') ?_; intro v2 w2 hown2 hgrow; have y1 := (hgrow.cell (p := ⟨w.heap.size, 1, none⟩) (by show w.heap.size < w.heap.size + 1; omega)).trans x1; have hz2 := hgrow.size; have HO2 := hide hown2; clear hown2))
            go_roundg (gk - 1)
            case measure => omega
            case rel => exact ⟨k + 1, ⟨out ++ [a], true, true⟩, by omega, (by rw [unhide HN]; unfold stepC; rw [if_pos ⟨rfl, hax⟩, if_pos (unhide HR)]), by go_num, rfl, rfl, unhide HO2, (unhide HK).trans hgrow, by omega⟩
          · go_wp2
            go_roundg (gk - 1)
            case measure => omega
            case rel => exact ⟨k + 1, ⟨out, false, true⟩, by omega, (by rw [unhide HN]; unfold stepC; rw [if_neg (fun h => by omega), if_pos (unhide HR)]), by go_num, rfl, rfl, hown, unhide HK, by omega⟩
        · go_wp2
          go_roundg (gk - 1)
          case measure => omega
          case rel => exact ⟨k + 1, ⟨out, true, true⟩, by omega, (by rw [unhide HN]; unfold stepC; rw [if_neg (fun h => by cases h.1), if_pos (unhide HR)]), by go_num, rfl, rfl, hown, unhide HK, by omega⟩
      · have hr' : (x == r) = false := by simpa using hr
        have HR := hide hr
        clear hr
        cases put
        · by_cases hax : a < x
          · go_wp2_with (first | (at_builtin; refine wpList_append_num wr rfl (.tmp 44) (.tmp 47) rfl (w.heap.size + 1) (.slice ao out.length co) out rfl (by exact hown) a (by rfl) (by omega) (by exact hz1') ?_; intro v2 w2 hown2 hgrow; have y1 := (hgrow.cell (p := ⟨w.heap.size, 1, none⟩) (by show w.heap.size < w.heap.size + 1; omega)).trans x1; have hz2 := hgrow.size; have HO2 := hide hown2; clear hown2) | (at_builtin; refine wpList_append_num w2 rfl (.tmp 53) (.tmp 55) rfl (w.heap.size + 1) v2 (out ++ [a]) rfl (by exact unhide HO2) x (by rfl) (by simp; omega) (by exact Nat.le_trans hz1' hz2) ?_; intro v3 w3 hown3 hgrow3))
            go_roundg (gk - 1)
            case measure => omega
            case rel => exact ⟨k + 1, ⟨(out ++ [a]) ++ [x], true, gone⟩, by omega, (by rw [unhide HN]; unfold stepC; rw [if_pos ⟨rfl, hax⟩, if_neg (unhide HR)]), by go_num, rfl, rfl, hown3, ((unhide HK).trans hgrow).trans hgrow3, by omega⟩
          · go_wp2_with (first | (at_builtin; refine wpList_append_num wr rfl (.tmp 53) (.tmp 55) rfl (w.heap.size + 1) (.slice ao out.length co) out rfl (by exact hown) x (by rfl) (by omega) (by exact hz1') ?_; intro v2 w2 hown2 hgrow))
            go_roundg (gk - 1)
            case measure => omega
            case rel => exact ⟨k + 1, ⟨out ++ [x], false, gone⟩, by omega, (by rw [unhide HN]; unfold stepC; rw [if_neg (fun h => by omega), if_neg (unhide HR)]), by go_num, rfl, rfl, hown2, (unhide HK).trans hgrow, by omega⟩
        · go_wp2_with (first | (at_builtin; refine wpList_append_num wr rfl (.tmp 53) (.tmp 55) rfl (w.heap.size + 1) (.slice ao out.length co) out rfl (by exact hown) x (by rfl) (by omega) (by exact hz1') ?_; intro v2 w2 hown2 hgrow))
          go_roundg (gk - 1)
          case measure => omega
          case rel => exact ⟨k + 1, ⟨out ++ [x], true, gone⟩, by omega, (by rw [unhide HN]; unfold stepC; rw [if_neg (fun h => by cases h.1), if_neg (unhide HR)]), by go_num, rfl, rfl, hown2, (unhide HK).trans hgrow, by omega⟩
    · have hkl : k = M.length := by omega
      subst hkl
      obtain ⟨E1, E2, E3⟩ := unhide HE
      rw [← hs] at E1 E2 E3
      simp only at E1 E2 E3
      subst E1
      have df4 := df 4
      clear hbox hb2 d0 d1 d2 d3 d5 df hs HE HL HSC HB HXA hvm
      cases put
      · obtain ⟨m1, m2⟩ := E3 rfl
        have HG : Hid (∀ w2, Below (w.heap.size + 1) wr w2 → w2.cell? ⟨bb, 4, none⟩ = some (.slice am M.length cm) ∧ w2.frozen? ⟨bb, 4, none⟩ = false) := fun w2 h2 => ⟨(h2.cell (p := ⟨bb, 4, none⟩) (by show bb < w.heap.size + 1; omega)).trans d4, by
          have := h2.block bb (by omega)
          unfold World.frozen? at df4 ⊢
          simp only at df4 ⊢
          rw [this]; exact df4⟩
        have HM := hide (And.intro m1 m2)
        clear E2 E3 m1 m2
        go_wp2_with (first | (at_builtin; refine wpList_append_num wr rfl (.tmp 59) (.tmp 62) rfl (w.heap.size + 1) (.slice ao out.length co) out rfl (by exact hown) a (by rfl) (by omega) (by exact hz1') ?_; intro v2 w2 hown2 hgrow; have q0 := row_form hown2; obtain ⟨a3, c3, rfl⟩ := q0; have q := (unhide HG) w2 hgrow; obtain ⟨q1, q2⟩ := q; have HO2 := hide hown2; have HW := hide hgrow; clear hown2 hgrow))
        go_ret
        obtain ⟨e1, e2, e3⟩ := (unhide HF) w2 _ _ (unhide HO2) (hBw.trans ((unhide HW).mono (by omega)))
        rw [List.length_append, List.length_singleton] at e1 e2 e3
        exact ⟨rfl, _, _, e1, e2, (unhide HM).1, (unhide HM).2, e3⟩
      · obtain ⟨m1, m2⟩ := E2 rfl
        have HM := hide (And.intro m1 m2)
        clear E2 E3 m1 m2
        go_wp2
        go_ret
        obtain ⟨e1, e2, e3⟩ := (unhide HF) wr _ _ hown hBw
        exact ⟨rfl, _, _, e1, e2, (unhide HM).1, (unhide HM).2, e3⟩

end Go.Proofs.YtnnnleckoinjoaaDoor
