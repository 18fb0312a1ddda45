/- What can be taken back, in the statement's book. -/
import Derived.Test.YtnnnleckoinjoaaK4
namespace Go.Proofs.Ytnnnleckoinjoaa
open Go.RowKit
open Pl (It)

/-- what can be taken back, opened: the value, its cells -/
theorem past_open {w : World} {v : Value} {past : List (List It)} (h : PastAt w v past) :
    ∃ ao cap, v = .slice ao past.length cap ∧ (ao = none → past.length = 0 ∧ cap = 0) ∧ (∀ ad, ao = some ad → ∃ g off cur, ad = ⟨g, off, none⟩ ∧ w.heap[g]? = some (.cells cur 33 (0, 0)) ∧ past.length ≤ cap ∧ off + cap ≤ cur.size ∧ cap ≤ maxLen ∧
      ∀ j (h : j < past.length), ∃ vj, cur[off + j]? = some vj ∧ Its w 0 vj past[j]) := by
  rcases h with ⟨rfl, rfl⟩ | ⟨g, off, cap, cur, rfl, h1, h2, h3, h4, h5⟩
  · exact ⟨none, 0, rfl, fun _ => ⟨rfl, rfl⟩, fun ad e => by cases e⟩
  · refine ⟨_, cap, rfl, (fun e => by cases e), fun ad e => ?_⟩
    cases e
    exact ⟨g, off, cur, rfl, h1, h2, h3, h4, h5⟩

theorem past_grown {w' : World} {base : Nat} {v' : Value} {past : List (List It)} {L : List It} {olds : List Value} {vL : Value} (h : w'.ownsRow base 33 1 v' (past.length + 1) (olds ++ [vL])) (ho : olds.length = past.length)
    (h3 : ∀ j (h : j < past.length), ∃ vj, olds[j]? = some vj ∧ Its w' 0 vj past[j]) (hL : Its w' 0 vL L) : ∃ g cap, v' = .slice (some ⟨g, 0, none⟩) (past.length + 1) cap ∧ base ≤ g ∧ PastAt w' v' (past ++ [L]) := by
  rcases h.2 with ⟨_, h2⟩ | ⟨g, cap, cur, hv, hb, hh, h4, h5, h6, h7⟩
  · omega
  · refine ⟨g, cap, hv, hb, Or.inr ⟨g, 0, cap, cur, by simpa using hv, hh, by simpa using h4, by omega, h5, fun j hj => ?_⟩⟩
    have hc : cur[0 + j]? = (olds ++ [vL])[j]? := by
      rw [← h7, Nat.zero_add]
      simp at hj
      rw [List.getElem?_take_of_lt (by omega), Array.getElem?_toList]
    by_cases hjp : j < past.length
    · obtain ⟨vj, e1, e2⟩ := h3 j hjp
      refine ⟨vj, ?_, ?_⟩
      · rw [hc, List.getElem?_append_left (by omega)]; exact e1
      · rw [List.getElem_append_left hjp]; exact e2
    · have hj' : j = past.length := by simp at hj; omega
      subst hj'
      refine ⟨vL, ?_, ?_⟩
      · rw [hc, List.getElem?_append_right (by omega)]; simp [ho]
      · rw [List.getElem_append_right (Nat.le_refl _)]; simpa using hL

/-- what is left to be taken back -/
theorem past_init {w : World} {g off cap : Nat} {q : List (List It)} {l : List It} (h : PastAt w (.slice (some ⟨g, off, none⟩) (q.length + 1) cap) (q ++ [l])) : PastAt w (.slice (some ⟨g, off, none⟩) q.length cap) q := by
  rcases h with ⟨h, _⟩ | ⟨g', off', cap', cur, hv, h1, h2, h3, h4, h5⟩
  · cases h
  · simp only [Value.slice.injEq, Option.some.injEq, Addr.mk.injEq, and_true, List.length_append, List.length_cons, List.length_nil] at hv
    obtain ⟨⟨rfl, rfl⟩, _, rfl⟩ := hv
    refine Or.inr ⟨g, off, cap, cur, rfl, h1, by simp at h2; omega, h3, h4, fun j hj => ?_⟩
    obtain ⟨vj, e1, e2⟩ := h5 j (by simp; omega)
    rw [List.getElem_append_left hj] at e2
    exact ⟨vj, e1, e2⟩
/-- the last list, its place and its cell -/
theorem past_last {w : World} {v : Value} {q : List (List It)} {l : List It} (h : PastAt w v (q ++ [l])) :
    ∃ g off cap a c, v = .slice (some ⟨g, off, none⟩) (q.length + 1) cap ∧ w.cell? ⟨g, off + q.length, none⟩ = some (.slice a l.length c) ∧ Its w 0 (.slice a l.length c) l ∧ g < w.heap.size ∧ q.length + 1 ≤ cap ∧ ∃ cur, w.heap[g]? = some (.cells cur 33 (0, 0)) := by
  rcases h with ⟨_, h⟩ | ⟨g, off, cap, cur, hv, h1, h2, h3, h4, h5⟩
  · simp at h
  · obtain ⟨vj, e1, e2⟩ := h5 q.length (by simp)
    rw [List.getElem_append_right (Nat.le_refl _)] at e2
    simp at e2
    obtain ⟨a, c, rfl⟩ := row_form e2
    exact ⟨g, off, cap, a, c, by simpa using hv, by simp [World.cell?, h1, e1], e2, lt_of_block h1, by simpa using h2, cur, h1⟩


theorem its_one {w : World} {base : Nat} {v : Value} {l : List It} (h : Its w base v l) : v.oneCell' = true := by
  obtain ⟨a, c, rfl⟩ := row_form h; rfl
theorem wpList_append_list {ops : Array Oper} {rest : List Oper} {o : Oper} {a : Act} {Q : Exit → Act → World → Prop} (w : World) (hgd : o.guard = none) (s x : Operand)
    (ho : o.op = .call { callee := .builtin .append, args := #[s, x], argTypes := #[34, 34] }) (base : Nat) (v : Value) (vs : List Value) (hs : a.eval s = v) (hown : w.ownsRow base 33 1 v vs.length vs) (e : Value) (he : e.oneCell' = true)
    (hx : a.eval x = .slice (some ⟨w.heap.size, 0, none⟩) 1 1) (hl : vs.length ≤ 1000) (hbase : base ≤ w.heap.size)
    (h : ∀ v' w', w'.ownsRow base 33 1 v' (vs ++ [e]).length (vs ++ [e]) → Below base w w' → wpList Try.prog ops Q rest (a.put o.dst v') w') :
    wpList Try.prog ops Q (o :: rest) a (w.alloc (.cells #[e] 33)) := by
  obtain ⟨i0, hi, hz0, hz1, hz2⟩ := info_parts infoItems
  refine wpList_append_own _ hgd s x 34 ho base 33 i0 _ 1 24 Try.underlying34 hi hz0 hz1 hz2 rfl (by decide) v vs.length vs hs (World.ownsRow.alloc hown _) ⟨w.heap.size, 0, none⟩ 1 1 [e] hx rfl ?_ ?_ ?_ ?_ ?_ ?_
  · intro j u hj
    match j, hj with
    | 0, hj => simp at hj; subst hj; simp [Addr.add]
    | n + 1, hj => simp at hj
  · intro u hu; simp at hu; subst hu; exact he
  · unfold maxLen; omega
  · omega
  · simp; omega
  · intro v' w' h1 h2 _
    refine h v' w' (by rw [List.length_append]; exact h1) (((Below.refl _ _).alloc hbase _).grown h2 (by simp; omega) fun k hk => (World.ownsRow.lt hown k hk).1)

/-- the values of the lists that can be taken back -/
theorem past_vals {w : World} {v : Value} {past : List (List It)} (h : PastAt w v past) : ∃ vals : List Value, ∃ hl : vals.length = past.length, (∀ j (h : j < past.length), Its w 0 (vals[j]'(by omega)) past[j]) ∧
    ((v = .slice none 0 0 ∧ past = []) ∨ ∃ g off cap, v = .slice (some ⟨g, off, none⟩) past.length cap ∧ g < w.heap.size ∧ ∀ j (h : j < past.length), w.cell? ⟨g, off + j, none⟩ = some (vals[j]'(by omega))) := by
  rcases h with ⟨rfl, rfl⟩ | ⟨g, off, cap, cur, rfl, h1, h2, h3, h4, h5⟩
  · exact ⟨[], rfl, fun j h => by simp at h, Or.inl ⟨rfl, rfl⟩⟩
  · refine ⟨(List.range past.length).map fun j => cur.getD (off + j) undef, by simp, fun j hj => ?_, Or.inr ⟨g, off, cap, rfl, lt_of_block h1, fun j hj => ?_⟩⟩
    · obtain ⟨vj, e1, e2⟩ := h5 j hj
      have : cur.getD (off + j) undef = vj := by
        rw [Array.getD_eq_getD_getElem?, e1]; rfl
      simp only [List.getElem_map, List.getElem_range, this]; exact e2
    · obtain ⟨vj, e1, e2⟩ := h5 j hj
      have e3 : cur.getD (off + j) undef = vj := by
        rw [Array.getD_eq_getD_getElem?, e1]; rfl
      simp only [List.getElem_map, List.getElem_range, e3]
      simp [World.cell?, h1, e1]

theorem six_cells6 {w : World} {b t : Nat} {v0 v1 v2 v3 v4 v5 : Value} (h : w.heap[b]? = some (.cells #[v0, v1, v2, v3, v4, v5] t (0, 0))) :
    w.cell? ⟨b, 0, none⟩ = some v0 ∧ w.cell? ⟨b, 1, none⟩ = some v1 ∧ w.cell? ⟨b, 2, none⟩ = some v2 ∧ w.cell? ⟨b, 3, none⟩ = some v3 ∧ w.cell? ⟨b, 4, none⟩ = some v4 ∧ w.cell? ⟨b, 5, none⟩ = some v5 ∧ ∀ k, w.frozen? ⟨b, k, none⟩ = false := by
  refine ⟨?_, ?_, ?_, ?_, ?_, ?_, fun k => ?_⟩ <;> simp [World.cell?, World.frozen?, h]

theorem push_drop (past : List (List It)) (L : List It) (hp : past.length ≤ 20) : push past L = past.drop (if 20 ≤ past.length then 1 else 0) ++ [L] := by
  unfold push
  by_cases h : 20 ≤ past.length
  · rw [if_pos (by simp; omega), if_pos h]
    cases past with
    | nil => simp at h
    | cons a t => rfl
  · rw [if_neg (by simp; omega), if_neg h]; rfl

set_option maxRecDepth 100000 in
set_option maxHeartbeats 4000000 in
theorem noted_any (bb : Nat) (gp nv : Value) (L L2 : List It) (past : List (List It)) (vl vp vm bv v2 : Value) (w : World) (hb : w.heap[bb]? = some (.cells #[gp, nv, vl, vp, vm, bv] 36 (0, 0))) (hvl : Its w 0 vl L) (hvp : PastAt w vp past) (hp : past.length ≤ 20) (hv2 : Its w 0 v2 L2) :
    Calls Try.prog 54 #[P0 bb, v2] w fun e w' => e = .returned (.tuple #[]) ∧ ∃ vp', w'.heap[bb]? = some (.cells #[gp, nv, v2, vp', vm, bv] 36 (0, 0)) ∧ PastAt w' vp' (push past L) ∧ Fr (fun k => k = bb) w w' := by
  obtain ⟨c0, c1, c2, c3, c4, c5, cf⟩ := six_cells6 hb
  obtain ⟨vals, hvn, hvi, hvc0⟩ := past_vals hvp
  obtain ⟨aL, cL, rfl⟩ := row_form hvl
  obtain ⟨a2, c2', rfl⟩ := row_form hv2
  obtain ⟨ap, cp, rfl, hvc⟩ : ∃ ap cp, vp = .slice ap past.length cp ∧ (past.length = 0 ∨ ∃ g off, ap = some ⟨g, off, none⟩ ∧ g < w.heap.size ∧ ∀ j (h : j < past.length), w.cell? ⟨g, off + j, none⟩ = some (vals[j]'(by omega))) := by
    rcases hvc0 with ⟨rfl, rfl⟩ | ⟨g, off, cap, rfl, hg, hcell⟩
    · exact ⟨_, _, rfl, Or.inl rfl⟩
    · exact ⟨_, _, rfl, Or.inr ⟨g, off, rfl, hg, hcell⟩⟩
  clear hvc0
  have hbl := lt_of_block hb
  have fin : ∀ (fr : Nat), fr = (if 20 ≤ past.length then 1 else 0) → ∀ (w2 : World) (v' : Value), w2.ownsRow w.heap.size 33 1 v' ((vals.drop fr) ++ [Value.slice aL L.length cL]).length ((vals.drop fr) ++ [.slice aL L.length cL]) → Below w.heap.size w w2 →
      ((w2.setCell ⟨bb, 3, none⟩ v').setCell ⟨bb, 2, none⟩ (.slice a2 L2.length c2')).heap[bb]? = some (.cells #[gp, nv, .slice a2 L2.length c2', v', vm, bv] 36 (0, 0)) ∧ PastAt ((w2.setCell ⟨bb, 3, none⟩ v').setCell ⟨bb, 2, none⟩ (.slice a2 L2.length c2')) v' (push past L) ∧ Fr (fun k => k = bb) w ((w2.setCell ⟨bb, 3, none⟩ v').setCell ⟨bb, 2, none⟩ (.slice a2 L2.length c2')) := by
    intro fr hfr w2 v' hrow hB
    have hfrl : fr ≤ past.length := by rw [hfr]; split <;> omega
    have hb2 : w2.heap[bb]? = some (.cells #[gp, nv, .slice aL L.length cL, .slice ap past.length cp, vm, bv] 36 (0, 0)) := by rw [hB.block bb hbl]; exact hb
    have hF : Fr (fun k => k = bb) w2 ((w2.setCell ⟨bb, 3, none⟩ v').setCell ⟨bb, 2, none⟩ (.slice a2 L2.length c2')) := Fr.setCell (S := fun k => k = bb) (Fr.setCell (S := fun k => k = bb) (Fr.refl _ _) (p := ⟨bb, 3, none⟩) (Or.inl rfl) _) (p := ⟨bb, 2, none⟩) (Or.inl rfl) _
    have hpl : (vals.drop fr).length = (past.drop fr).length := by simp; omega
    have hrow' : w2.ownsRow w.heap.size 33 1 v' ((past.drop fr).length + 1) (vals.drop fr ++ [.slice aL L.length cL]) := by rw [← hpl]; simpa using hrow
    obtain ⟨g, cap, hv', hg, hP⟩ := past_grown hrow' hpl (fun j hj => by
      have hj' : fr + j < past.length := by simp at hj; omega
      refine ⟨vals[fr + j]'(by omega), by rw [List.getElem?_drop, List.getElem?_eq_getElem (by omega)], ?_⟩
      rw [List.getElem_drop]
      exact row_below (hvi (fr + j) hj') hB (Nat.le_refl _)) (row_below hvl hB (Nat.le_refl _))
    refine ⟨?_, ?_, (Fr.of_below hB).trans hF⟩
    · have h3 := heap_setCell_same w2 bb 3 _ _ v' hb2
      have h4 := heap_setCell_same _ bb 2 _ _ (.slice a2 L2.length c2') h3
      rw [h4]; rfl
    · rw [push_drop past L hp, ← hfr]
      refine past_fr hP hF ?_ ?_
      · rintro k c f hk rfl; rw [hb2] at hk; simp at hk
      · rintro k hk rfl
        rw [hv'] at hk
        have : g = k := by simpa [Value.ownBlock] using hk
        omega
  have HF := hide fin
  have HD : Hid (∀ (fr m : Nat) (h : fr + m < past.length), (vals.drop fr).take (m + 1) = (vals.drop fr).take m ++ [vals[fr + m]'(by omega)]) := fun fr m h => by
    rw [List.take_succ_eq_append_getElem (by simp; omega), List.getElem_drop]
  have H1 : Hid (∀ j (h : j < past.length), ∃ a l c, vals[j]'(by omega) = .slice a l c) := fun j h => by
    obtain ⟨a, c, e⟩ := row_form (hvi j h)
    exact ⟨_, _, _, e⟩
  have HB := hide hb
  clear fin hvi hvl hv2 hvp hb
  by_cases h20 : 20 ≤ past.length
  · have hi20 : (20 : Int) ≤ past.length := by omega
    go_enter Try.func54, Try.ntmps54
    go_wp2_with fail
    go_loopg [4, 6] (past.length + 1) (fun gk v i wr => ∃ (j : Nat) (ov : List Value), 1 ≤ j ∧ j ≤ past.length ∧ i = .int .i64 j ∧ ov = (vals.drop 1).take (j - 1) ∧ wr.ownsRow w.heap.size 33 1 v ov.length ov ∧ Below w.heap.size w wr ∧ past.length - j ≤ gk)
    case atStart => exact ⟨1, [], Nat.le_refl _, by omega, rfl, by simp, World.ownsRow_nil _ _ _ _, Below.refl _ _, by omega⟩
    case round =>
      obtain ⟨j, ov, hj0, hj, rfl, hov, hrow, hB, hgk⟩ := hrel
      have hz := hB.size
      have hb2 : wr.heap[bb]? = some (.cells #[gp, nv, .slice aL L.length cL, .slice ap past.length cp, vm, bv] 36 (0, 0)) := by rw [hB.block bb hbl]; exact unhide HB
      obtain ⟨ao, co, rfl⟩ := row_form hrow
      have hlen : ov.length ≤ 20 := by rw [hov, List.length_take, List.length_drop]; omega
      by_cases hlt : j < past.length
      · rcases hvc with hv0 | ⟨g, off, rfl, hg, hcell⟩
        · omega
        · obtain ⟨d0, d1, d2, d3, d4, d5, df⟩ := six_cells6 hb2
          have hc := (hB.cell (p := ⟨g, off + j, none⟩) hg).trans (hcell j hlt)
          obtain ⟨aq, lq, cq, hq⟩ := (unhide H1) j hlt
          rw [hq] at hc
          have HS : Hid (ov ++ [.slice aq lq cq] = (vals.drop 1).take (j + 1 - 1)) := by
            show _ = _
            rw [← hq, hov]
            have := (unhide HD) 1 (j - 1) (by omega)
            rw [show j - 1 + 1 = j + 1 - 1 by omega] at this
            rw [this]
            congr 2
            congr 1
            omega
          have k1 : (0 : Int) ≤ (j : Int) := by omega
          have k2 : (j : Int) < past.length := by omega
          have HBb := hide hB
          clear hcell hb2 hB c0 c1 c2 c3 c4 c5 cf df d0 d1 d2 d4 d5 HB HF HD H1 hov hq
          go_wp2_with (at_builtin; refine wpList_append_list wr rfl (.tmp 23) (.tmp 31) rfl w.heap.size (.slice ao ov.length co) ov rfl (by exact hrow) (.slice aq lq cq) rfl (by rfl) (by omega) (by exact hz) ?_; intro v2 w2 hrow2 hgrow)
          go_roundg (gk - 1)
          case measure => omega
          case rel => exact ⟨j + 1, _, by omega, by omega, by go_num, unhide HS, hrow2, (unhide HBb).trans hgrow, by omega⟩
      · have hall : ov = vals.drop 1 := by rw [hov]; exact List.take_of_length_le (by simp; omega)
        have k2 : ¬ (j : Int) < past.length := by omega
        obtain ⟨d0, d1, d2, d3, d4, d5, df⟩ := six_cells6 hb2
        have df2 := df 2
        have df3 := df 3
        have hbl2 : bb < wr.heap.size := by omega
        have HBb := hide hB
        have HG : Hid (∀ w2, Below w.heap.size wr w2 → w2.heap[bb]? = some (.cells #[gp, nv, .slice aL L.length cL, .slice ap past.length cp, vm, bv] 36 (0, 0))) := fun w2 h2 => by rw [h2.block bb hbl]; exact hb2
        have HE := hide hall
        clear hvc hall hb2 hB c0 c1 c2 c3 c4 c5 cf df HB HD H1 hov
        go_wp2_with (at_builtin; refine wpList_append_list wr rfl (.tmp 33) (.tmp 38) rfl w.heap.size (.slice ao ov.length co) ov rfl (by exact hrow) (.slice aL L.length cL) rfl (by rfl) (by omega) (by exact hz) ?_; intro v2 w2 hrow2 hgrow; have q0 := row_form hrow2; obtain ⟨a3, c3', rfl⟩ := q0; have q := (unhide HG) w2 hgrow; have q2 := six_cells6 q; obtain ⟨g0, g1, g2, g3, g4, g5, gf⟩ := q2; have gf2 := gf 2; have gf3 := gf 3; have HR := hide hrow2; have HW := hide hgrow; clear q gf hrow2 hgrow)
        go_end0
        have hR := unhide HR
        have hE := unhide HE
        subst hE
        obtain ⟨e1, e2, e3⟩ := (unhide HF) 1 (by rw [if_pos h20]) w2 _ hR ((unhide HBb).trans (unhide HW))
        rw [List.length_append, List.length_singleton] at e1 e2 e3
        exact ⟨rfl, _, e1, e2, e3⟩
  · have hi20 : ¬ (20 : Int) ≤ past.length := by omega
    have hi20' : (past.length : Int) < 20 := by omega
    go_enter Try.func54, Try.ntmps54
    go_wp2_with fail
    go_loopg [4, 6] (past.length + 1) (fun gk v i wr => ∃ (j : Nat) (ov : List Value), 0 ≤ j ∧ j ≤ past.length ∧ i = .int .i64 j ∧ ov = (vals.drop 0).take (j - 0) ∧ wr.ownsRow w.heap.size 33 1 v ov.length ov ∧ Below w.heap.size w wr ∧ past.length - j ≤ gk)
    case atStart => exact ⟨0, [], Nat.le_refl _, by omega, rfl, by simp, World.ownsRow_nil _ _ _ _, Below.refl _ _, by omega⟩
    case round =>
      obtain ⟨j, ov, hj0, hj, rfl, hov, hrow, hB, hgk⟩ := hrel
      have hz := hB.size
      have hb2 : wr.heap[bb]? = some (.cells #[gp, nv, .slice aL L.length cL, .slice ap past.length cp, vm, bv] 36 (0, 0)) := by rw [hB.block bb hbl]; exact unhide HB
      obtain ⟨ao, co, rfl⟩ := row_form hrow
      have hlen : ov.length ≤ 20 := by rw [hov, List.length_take, List.length_drop]; omega
      by_cases hlt : j < past.length
      · rcases hvc with hv0 | ⟨g, off, rfl, hg, hcell⟩
        · omega
        · obtain ⟨d0, d1, d2, d3, d4, d5, df⟩ := six_cells6 hb2
          have hc := (hB.cell (p := ⟨g, off + j, none⟩) hg).trans (hcell j hlt)
          obtain ⟨aq, lq, cq, hq⟩ := (unhide H1) j hlt
          rw [hq] at hc
          have HS : Hid (ov ++ [.slice aq lq cq] = (vals.drop 0).take (j + 1 - 0)) := by
            show _ = _
            rw [← hq, hov]
            have := (unhide HD) 0 (j - 0) (by omega)
            rw [show j - 0 + 1 = j + 1 - 0 by omega] at this
            rw [this]
            congr 2
            congr 1
            omega
          have k1 : (0 : Int) ≤ (j : Int) := by omega
          have k2 : (j : Int) < past.length := by omega
          have HBb := hide hB
          clear hcell hb2 hB c0 c1 c2 c3 c4 c5 cf df d0 d1 d2 d4 d5 HB HF HD H1 hov hq
          go_wp2_with (at_builtin; refine wpList_append_list wr rfl (.tmp 23) (.tmp 31) rfl w.heap.size (.slice ao ov.length co) ov rfl (by exact hrow) (.slice aq lq cq) rfl (by rfl) (by omega) (by exact hz) ?_; intro v2 w2 hrow2 hgrow)
          go_roundg (gk - 1)
          case measure => omega
          case rel => exact ⟨j + 1, _, by omega, by omega, by go_num, unhide HS, hrow2, (unhide HBb).trans hgrow, by omega⟩
      · have hall : ov = vals.drop 0 := by rw [hov]; exact List.take_of_length_le (by simp; omega)
        have k2 : ¬ (j : Int) < past.length := by omega
        obtain ⟨d0, d1, d2, d3, d4, d5, df⟩ := six_cells6 hb2
        have df2 := df 2
        have df3 := df 3
        have hbl2 : bb < wr.heap.size := by omega
        have HBb := hide hB
        have HG : Hid (∀ w2, Below w.heap.size wr w2 → w2.heap[bb]? = some (.cells #[gp, nv, .slice aL L.length cL, .slice ap past.length cp, vm, bv] 36 (0, 0))) := fun w2 h2 => by rw [h2.block bb hbl]; exact hb2
        have HE := hide hall
        clear hvc hall hb2 hB c0 c1 c2 c3 c4 c5 cf df HB HD H1 hov
        go_wp2_with (at_builtin; refine wpList_append_list wr rfl (.tmp 33) (.tmp 38) rfl w.heap.size (.slice ao ov.length co) ov rfl (by exact hrow) (.slice aL L.length cL) rfl (by rfl) (by omega) (by exact hz) ?_; intro v2 w2 hrow2 hgrow; have q0 := row_form hrow2; obtain ⟨a3, c3', rfl⟩ := q0; have q := (unhide HG) w2 hgrow; have q2 := six_cells6 q; obtain ⟨g0, g1, g2, g3, g4, g5, gf⟩ := q2; have gf2 := gf 2; have gf3 := gf 3; have HR := hide hrow2; have HW := hide hgrow; clear q gf hrow2 hgrow)
        go_end0
        have hR := unhide HR
        have hE := unhide HE
        subst hE
        obtain ⟨e1, e2, e3⟩ := (unhide HF) 0 (by rw [if_neg h20]) w2 _ hR ((unhide HBb).trans (unhide HW))
        rw [List.length_append, List.length_singleton] at e1 e2 e3
        exact ⟨rfl, _, e1, e2, e3⟩

end Go.Proofs.Ytnnnleckoinjoaa
