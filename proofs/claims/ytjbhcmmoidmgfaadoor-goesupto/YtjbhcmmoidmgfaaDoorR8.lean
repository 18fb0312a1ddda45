import Derived.Test.YtjbhcmmoidmgfaaDoorR7
import Derived.Deep.RegionLawGrows
import Derived.Deep.DeepCutAuto
namespace Go.Proofs.YtjbhcmmoidmgfaaDoor
open Go.RowKit
open Pl (It)


/-- what can be taken back, opened: the value, its cells -/
theorem past_open {w : World} {v : Value} {past : List (List It)} (h : PastAt w v past) :
    ∃ ao cap, v = .slice ao past.length cap ∧ (ao = none → past.length = 0 ∧ cap = 0) ∧ (∀ ad, ao = some ad → ∃ g off cur, ad = ⟨g, off, none⟩ ∧ w.heap[g]? = some (.cells cur 59 (0, 0)) ∧ past.length ≤ cap ∧ off + cap ≤ cur.size ∧ cap ≤ maxLen ∧
      ∀ j (h : j < past.length), ∃ vj, cur[off + j]? = some vj ∧ Its w 0 vj past[j]) := by
  rcases h with ⟨rfl, rfl⟩ | ⟨g, off, cap, cur, rfl, h1, h2, h3, h4, h5⟩
  · exact ⟨none, 0, rfl, fun _ => ⟨rfl, rfl⟩, fun ad e => by cases e⟩
  · refine ⟨_, cap, rfl, (fun e => by cases e), fun ad e => ?_⟩
    cases e
    exact ⟨g, off, cur, rfl, h1, h2, h3, h4, h5⟩

/-- room: the new list is laid behind the others -/
theorem past_room {w : World} {g off cap : Nat} {cur : Array Value} {past : List (List It)} (hh : w.heap[g]? = some (.cells cur 59 (0, 0))) (h1 : past.length + 1 ≤ cap) (h2 : off + cap ≤ cur.size) (h4 : cap ≤ maxLen)
    (h3 : ∀ j (h : j < past.length), ∃ vj, cur[off + j]? = some vj ∧ Its w 0 vj past[j]) (L : List It) (vL : Value) (hL : Its w 0 vL L) :
    PastAt (w.setCell ⟨g, off + past.length, none⟩ vL) (.slice (some ⟨g, off, none⟩) (past.length + 1) cap) (past ++ [L]) := by
  have hf : Fr (fun k => k = g) w (w.setCell ⟨g, off + past.length, none⟩ vL) := Fr.setCell (S := fun k => k = g) (Fr.refl _ _) (p := ⟨g, off + past.length, none⟩) (Or.inl rfl) _
  have hn : NoIt (fun k => k = g) w := by rintro k c f hk rfl; rw [hh] at hk; simp at hk
  refine Or.inr ⟨g, off, cap, cur.setIfInBounds (off + past.length) vL, by simp, heap_setCell_same w g _ cur _ vL hh, by simpa using h1, by simpa using h2, h4, fun j hj => ?_⟩
  by_cases hjp : j < past.length
  · obtain ⟨vj, e1, e2⟩ := h3 j hjp
    refine ⟨vj, ?_, ?_⟩
    · rw [Array.getElem?_setIfInBounds_ne (by omega)]; exact e1
    · rw [List.getElem_append_left hjp]; exact its_fr e2 hf hn
  · have hj' : j = past.length := by simp at hj; omega
    subst hj'
    refine ⟨vL, ?_, ?_⟩
    · rw [Array.getElem?_setIfInBounds_self, if_pos (by omega)]
    · rw [List.getElem_append_right (Nat.le_refl _)]; simpa using its_fr hL hf hn

/-- the oldest of more than twenty can't be taken back any more -/
theorem past_tail {w : World} {g off n cap : Nat} {q : List (List It)} (h : PastAt w (.slice (some ⟨g, off, none⟩) n cap) q) (hq : 0 < q.length) : PastAt w (.slice (some ⟨g, off + 1, none⟩) (n - 1) (cap - 1)) q.tail := by
  rcases h with ⟨h, _⟩ | ⟨g', off', cap', cur, hv, h1, h2, h3, h4, h5⟩
  · cases h
  · simp only [Value.slice.injEq, Option.some.injEq, Addr.mk.injEq, and_true] at hv
    obtain ⟨⟨rfl, rfl⟩, rfl, rfl⟩ := hv
    refine Or.inr ⟨g, off + 1, cap - 1, cur, by simp, h1, by simp; omega, by omega, by omega, fun j hj => ?_⟩
    simp at hj
    obtain ⟨vj, e1, e2⟩ := h5 (j + 1) (by omega)
    exact ⟨vj, by rw [← e1]; congr 1; omega, by simpa using e2⟩

theorem past_grown {w' : World} {base : Nat} {v' : Value} {past : List (List It)} {L : List It} {olds : List Value} {vL : Value} (h : w'.ownsRow base 59 1 v' (past.length + 1) (olds ++ [vL])) (ho : olds.length = past.length)
    (h3 : ∀ j (h : j < past.length), ∃ vj, olds[j]? = some vj ∧ Its w' 0 vj past[j]) (hL : Its w' 0 vL L) : ∃ g cap, v' = .slice (some ⟨g, 0, none⟩) (past.length + 1) cap ∧ base ≤ g ∧ PastAt w' v' (past ++ [L]) := by
  rcases h.2 with ⟨_, h2⟩ | ⟨g, cap, cur, hv, hb, hh, h4, h5, h6, h7⟩
  · omega
  · refine ⟨g, cap, hv, hb, Or.inr ⟨g, 0, cap, cur, by simpa using hv, hh, by simpa using h4, by omega, h5, fun j hj => ?_⟩⟩
    have hc : cur[0 + j]? = (olds ++ [vL])[j]? := by
      rw [← h7, Nat.zero_add]
      simp at hj
      rw [List.getElem?_take_of_lt (by omega), Array.getElem?_toList]
    by_cases hjp : j < past.length
    · obtain ⟨vj, e1, e2⟩ := h3 j hjp
      refine ⟨vj, ?_, ?_⟩
      · rw [hc, List.getElem?_append_left (by omega)]; exact e1
      · rw [List.getElem_append_left hjp]; exact e2
    · have hj' : j = past.length := by simp at hj; omega
      subst hj'
      refine ⟨vL, ?_, ?_⟩
      · rw [hc, List.getElem?_append_right (by omega)]; simp [ho]
      · rw [List.getElem_append_right (Nat.le_refl _)]; simpa using hL

/-- the values of what can be taken back -/
theorem olds_of {w : World} {off : Nat} {cur : Array Value} {past : List (List It)} (h2 : off + past.length ≤ cur.size) (h5 : ∀ j (h : j < past.length), ∃ vj, cur[off + j]? = some vj ∧ Its w 0 vj past[j]) :
    ∃ olds : List Value, olds.length = past.length ∧ (∀ j u, olds[j]? = some u → cur[off + j]? = some u) ∧ ∀ j (h : j < past.length), ∃ vj, olds[j]? = some vj ∧ Its w 0 vj past[j] := by
  refine ⟨(cur.extract off (off + past.length)).toList, by simp; omega, fun j u hu => ?_, fun j hj => ?_⟩
  · rw [Array.getElem?_toList, Array.getElem?_extract] at hu
    split at hu
    · exact hu
    · cases hu
  · obtain ⟨vj, e1, e2⟩ := h5 j hj
    refine ⟨vj, ?_, e2⟩
    rw [Array.getElem?_toList, Array.getElem?_extract, if_pos (by omega)]; exact e1

theorem ne_later {W w1 : World} {B : Nat} (hb : Below B W w1) {b : Nat} (h : b < W.heap.size) : ¬ b = w1.heap.size := by have := hb.size; omega
theorem lt_alloc {b : Nat} {w : World} {o : Obj} (h : b < w.heap.size) : b < (w.alloc o).drew.heap.size := by
  show b < (w.alloc o).heap.size
  rw [World.size_alloc]; omega
theorem var_facts {W w1 : World} {v0 v1 : Value} {t : Nat} (hb : Below (W.alloc (.cells #[v0, v1] t)).drew.heap.size (W.alloc (.cells #[v0, v1] t)).drew w1) :
    w1.cell? ⟨W.heap.size, 0, none⟩ = some v0 ∧ w1.cell? ⟨W.heap.size, 1, none⟩ = some v1 ∧ w1.frozen? ⟨W.heap.size, 0, none⟩ = false ∧ w1.frozen? ⟨W.heap.size, 1, none⟩ = false :=
  ⟨(hb.cell (by simp)).trans (by simp), (hb.cell (by simp)).trans (by simp), (hb.frozen (by simp)).trans (by simp), (hb.frozen (by simp)).trans (by simp)⟩

theorem undrew {B : Nat} {w w1 : World} (h : Below B w.drew w1) : Below B w w1 := ⟨h.os, h.tape, h.output, h.size, h.block⟩
theorem one_new (w : World) (v : Value) (t : Nat) : ∀ j u, [v][j]? = some u → ((w.alloc (.cells #[v] t)).drew).cell? ((⟨w.heap.size, 0, none⟩ : Addr).add j) = some u := by
  intro j u hj
  match j, hj with
  | 0, hj => simp at hj; subst hj; simp [Addr.add]
  | n + 1, hj => simp at hj
theorem cut1 {w w1 : World} {r c : Obj} (hb : Below (w.alloc r).drew.heap.size (w.alloc r).drew w1) :
    w.heap.size < w1.heap.size ∧ (w1.alloc c).heap[w1.heap.size]? = some c ∧ (w1.alloc c).heap[w.heap.size]? = some r ∧ Below w.heap.size w (w1.alloc c) := by
  have hb' : Below (w.heap.size + 1) (w.alloc r) w1 := by
    have e : (w.alloc r).drew.heap.size = w.heap.size + 1 := World.size_alloc _ _
    rw [e] at hb; exact undrew hb
  have hs : w.heap.size + 1 ≤ w1.heap.size := by have := hb'.size; rw [World.size_alloc] at this; exact this
  refine ⟨by omega, heap_alloc_new _ _, ?_, ?_⟩
  · rw [Below.heap_alloc _ _ _ (by omega)]; exact made_later hb' (by omega)
  · exact (((Below.refl _ _).alloc (Nat.le_refl _) _).trans (hb'.mono (by omega))).alloc (by omega) _
theorem cut2 {w w1 : World} {r : Obj} {t : Nat} {x0 y0 x y : Value} (hb : Below ((w.alloc r).alloc (.cells #[x0, y0] t)).drew.heap.size ((w.alloc r).alloc (.cells #[x0, y0] t)).drew w1) :
    w.heap.size < w.heap.size + 1 ∧ ((w1.setCell ⟨w.heap.size + 1, 0, none⟩ x).setCell ⟨w.heap.size + 1, 1, none⟩ y).heap[w.heap.size + 1]? = some (.cells #[x, y] t (0, 0)) ∧
    ((w1.setCell ⟨w.heap.size + 1, 0, none⟩ x).setCell ⟨w.heap.size + 1, 1, none⟩ y).heap[w.heap.size]? = some r ∧ Below w.heap.size w ((w1.setCell ⟨w.heap.size + 1, 0, none⟩ x).setCell ⟨w.heap.size + 1, 1, none⟩ y) := by
  have hb' : Below (w.heap.size + 2) ((w.alloc r).alloc (.cells #[x0, y0] t)) w1 := by
    have e : ((w.alloc r).alloc (.cells #[x0, y0] t)).drew.heap.size = w.heap.size + 2 := by
      show ((w.alloc r).alloc (.cells #[x0, y0] t)).heap.size = _
      rw [World.size_alloc, World.size_alloc]
    rw [e] at hb; exact undrew hb
  have h0 : w1.heap[w.heap.size]? = some r := by
    rw [hb'.block _ (by omega), Below.heap_alloc _ _ _ (by rw [World.size_alloc]; omega)]; exact heap_alloc_new _ _
  have h1 : w1.heap[w.heap.size + 1]? = some (.cells #[x0, y0] t (0, 0)) := by
    rw [hb'.block _ (by omega)]
    have := heap_alloc_new (w.alloc r) (.cells #[x0, y0] t)
    rw [World.size_alloc] at this; exact this
  refine ⟨by omega, set_two h1, ?_, ?_⟩
  · rw [Below.heap_setCell _ _ _ _ (by simp), Below.heap_setCell _ _ _ _ (by simp)]; exact h0
  · exact (((((Below.refl _ _).alloc (Nat.le_refl _) _).alloc (by rw [World.size_alloc]; omega) _).trans (hb'.mono (by omega))).setCell (by simp) _).setCell (by simp) _

theorem turns_end {S : Nat → Prop} {w wc : World} {b n most : Nat} {l : List It} {q : List (List It)} {vL vP vl vP' x y : Value} (hr : wc.heap[w.heap.size]? = some (.cells #[.int .i64 0, .int .i64 0] 64 (0, 0)))
    (m1 : wc.heap[b]? = some (.cells #[.int .i64 n, .int .i64 most, vL, vP] 62 (0, 0))) (hpa : PastAt wc vP' q) (hl : Its wc 0 vl l) (hF : Fr S w wc) (hS : S b) :
    RG ((((wc.setCell ⟨b, 3, none⟩ vP').setCell ⟨b, 2, none⟩ vl).setCell ⟨w.heap.size, 0, none⟩ x).setCell ⟨w.heap.size, 1, none⟩ y) b n most l q vP'.ownBlock ∧
    Fr S w ((((wc.setCell ⟨b, 3, none⟩ vP').setCell ⟨b, 2, none⟩ vl).setCell ⟨w.heap.size, 0, none⟩ x).setCell ⟨w.heap.size, 1, none⟩ y) := by
  have hbr : b ≠ w.heap.size := by rintro rfl; rw [hr] at m1; simp at m1
  have hF2 : Fr (fun k => k = b ∨ k = w.heap.size) wc ((((wc.setCell ⟨b, 3, none⟩ vP').setCell ⟨b, 2, none⟩ vl).setCell ⟨w.heap.size, 0, none⟩ x).setCell ⟨w.heap.size, 1, none⟩ y) := by
    refine Fr.setCell (Fr.setCell (Fr.setCell (Fr.setCell (Fr.refl _ _) ?_ _) ?_ _) ?_ _) ?_ _
    · exact Or.inl (Or.inl rfl)
    · exact Or.inl (Or.inl rfl)
    · exact Or.inl (Or.inr rfl)
    · exact Or.inl (Or.inr rfl)
  have hno : NoIt (fun k => k = b ∨ k = w.heap.size) wc := by
    rintro k c f hk (rfl | rfl)
    · rw [m1] at hk; simp at hk
    · rw [hr] at hk; simp at hk
  refine ⟨⟨vl, vP', ?_, its_fr hl hF2 hno, past_fr hpa hF2 hno ?_, rfl⟩, ?_⟩
  · rw [Below.heap_setCell _ _ _ _ hbr, Below.heap_setCell _ _ _ _ hbr]
    have h1 := heap_setCell_same wc b 3 _ _ vP' m1
    have h2 := heap_setCell_same _ b 2 _ _ vl h1
    rw [h2]; rfl
  · intro k hk
    rcases hpa with ⟨rfl, _⟩ | ⟨g, off, cap, cur, rfl, hh, _⟩
    · cases hk
    · simp [Value.ownBlock] at hk
      subst hk
      rintro (rfl | rfl)
      · rw [m1] at hh; simp at hh
      · rw [hr] at hh; simp at hh
  · refine Fr.setCell (Fr.setCell (Fr.setCell (Fr.setCell hF ?_ _) ?_ _) ?_ _) ?_ _
    · exact Or.inl hS
    · exact Or.inl hS
    · exact Or.inr (Nat.le_refl _)
    · exact Or.inr (Nat.le_refl _)

set_option maxRecDepth 100000 in
set_option maxHeartbeats 2000000 in
theorem turns_any (b n most : Nat) (L l : List It) (past : List (List It)) (p : Option Nat) (a : Option Addr) (cap : Nat) (w : World) (hG : RG w b n most L past p) (h : Its w 0 (.slice a l.length cap) l)
    (hl : l.length ≤ 100) (hL : L.length ≤ 100) (hn : n ≤ 30) (he : Pl.Ends n L) (he2 : Pl.Ends n l) (hp : past.length ≤ 20) :
    Calls Tryd.prog 62 #[.pointer (some ⟨b, 0, none⟩), .slice a l.length cap] w fun e w' =>
      e = .returned (.agg #[.int .i64 (Pl.only (Pl.forest l) (Pl.forest L)), .int .i64 (Pl.only (Pl.forest L) (Pl.forest l))]) ∧ ∃ p', RG w' b n most l (push past L) p' ∧ (p' = p ∨ ∃ k, p' = some k ∧ w.heap.size ≤ k) ∧ Fr (fun k => k = b ∨ p = some k) w w' := by
  obtain ⟨vL, vP, hb, hIL, hP, hpo⟩ := hG
  obtain ⟨aL, capL, rfl⟩ := row_form hIL
  obtain ⟨ao, capP, rfl, hao, hsome⟩ := past_open hP
  obtain ⟨c0, c1, c2, c3, cf⟩ := four_cells hb
  have hbl := lt_of_block hb
  have hbl2 : b < (w.alloc (.cells #[.int .i64 0, .int .i64 0] 64)).heap.size := by rw [World.size_alloc]; omega
  have hbne : ¬ b = w.heap.size := by omega
  have hbne1 : ¬ b = w.heap.size + 1 := by omega
  have hbne2 : ¬ w.heap.size = b := by omega
  have hbne3 : ¬ w.heap.size + 1 = b := by omega
  have Hao := hide hao
  have Hsome := hide hsome
  have Hb := hide hb
  have Hpo := hide hpo
  have Hcf := hide cf
  clear hao hsome hb hpo cf
  have K1 : Aside (Its w 0 (.slice aL L.length capL) L ∧ Its w 0 (.slice a l.length cap) l ∧ PastAt w (.slice ao past.length capP) past) := ⟨hIL, h, hP⟩
  go_enter Tryd.func62, Tryd.ntmps62
  go_upto_region 1 with fail
  go_cut [5] (fun s wx => ∃ gc, s = .pointer (some ⟨gc, 0, none⟩) ∧ w.heap.size < gc ∧ wx.heap[gc]? = some (.cells #[.int .i64 (Pl.only (Pl.forest l) (Pl.forest L)), .int .i64 (Pl.only (Pl.forest L) (Pl.forest l))] 64 (0, 0)) ∧
    wx.heap[w.heap.size]? = some (.cells #[.int .i64 0, .int .i64 0] 64 (0, 0)) ∧ Below w.heap.size w wx)
  case first =>
    go_region_held3 (fun w' => w'.cell? ⟨b, 0, none⟩ = some (.int .i64 n) ∧ w'.cell? ⟨b, 2, none⟩ = some (.slice aL L.length capL))
      ((go_split_ands; refine ⟨?_, ?_⟩ <;> (first | go_keep | (refine cell_later hb1 ?_; first | assumption | simp [*]))))
      (first
        | (go_at_call 67; refine (change_any n L l aL a capL cap _ (by first | exact World.ownsRow.alloc hIL _ | exact World.ownsRow.alloc (World.ownsRow.alloc hIL _) _) hL (by first | exact World.ownsRow.alloc h _ | exact World.ownsRow.alloc (World.ownsRow.alloc h _) _) hl hn he he2).mono ?_; rintro e w1 ⟨rfl, hb1⟩; have q := var_facts hb1; (try simp only [World.size_alloc] at q); obtain ⟨q0, q1, q2, q3⟩ := q; have hbl1 := ne_later hb1 (b := b) (by first | exact lt_alloc hbl | exact lt_alloc hbl2); have z0 : w1.cell? ⟨b, 0, none⟩ = some (.int .i64 n) := cell_later hb1 (by simp [c0, World.cell?_alloc_some]); have z2 : w1.cell? ⟨b, 2, none⟩ = some (.slice aL L.length capL) := cell_later hb1 (by simp [c2, World.cell?_alloc_some])))
    · go_wp2_with fail
      go_meet
      exact ⟨_, rfl, cut1 hb1⟩
    · go_wp2_with fail
      go_meet
      exact ⟨_, rfl, cut2 hb1⟩
  case rest =>
    rename World => wa
    obtain ⟨gc, rfl, hgc, hvc, hvr, hB⟩ := hcut
    obtain ⟨hIL, hI, hP⟩ := K1.out
    have hb := unhide Hb
    have hao := unhide Hao
    have hsome := unhide Hsome
    have hpo := unhide Hpo
    have hbw : wa.heap[b]? = some (.cells #[.int .i64 n, .int .i64 most, .slice aL L.length capL, .slice ao past.length capP] 62 (0, 0)) := by rw [hB.block b hbl]; exact hb
    have hILw := hIL.later hB (Nat.le_refl _)
    have hPw : PastAt wa (.slice ao past.length capP) past := past_fr hP (Fr.of_below (S := fun _ => False) hB) (fun _ _ _ _ f => f) (fun _ _ f => f)
    obtain ⟨d0, d1, d2, d3, df⟩ := four_cells hbw
    obtain ⟨i0, hi, hz0, hz1, hz2⟩ := info_parts infoItems
    have K2 : Aside (wa.heap[b]? = some (.cells #[.int .i64 n, .int .i64 most, .slice aL L.length capL, .slice ao past.length capP] 62 (0, 0)) ∧ Its wa 0 (.slice aL L.length capL) L ∧ PastAt wa (.slice ao past.length capP) past ∧ Its w 0 (.slice a l.length cap) l ∧ Below w.heap.size w wa ∧ (Value.slice ao past.length capP).ownBlock = p ∧ wa.heap[gc]? = some (.cells #[.int .i64 (Pl.only (Pl.forest l) (Pl.forest L)), .int .i64 (Pl.only (Pl.forest L) (Pl.forest l))] 64 (0, 0)) ∧ wa.heap[w.heap.size]? = some (.cells #[.int .i64 0, .int .i64 0] 64 (0, 0))) := ⟨hbw, hILw, hPw, hI, hB, hpo, hvc, hvr⟩
    obtain ⟨ao', capP', hval, hao', hsome'⟩ := past_open hPw
    simp only [Value.slice.injEq, true_and] at hval
    obtain ⟨rfl, rfl⟩ := hval
    clear hb hao hsome hpo hbw hILw hPw hIL hI hP h Hb Hao Hsome Hpo Hcf c0 c1 c2 c3 hvc hvr hB K1
    go_upto_region 2 with fail
    go_cut [6] (fun s wy => ∃ g off cp, s = .slice (some ⟨g, off, none⟩) (past.length + 1) cp ∧ PastAt wy s (past ++ [L]) ∧ (some g = p ∨ w.heap.size ≤ g) ∧ Fr (fun k => p = some k) wa wy)
    case first =>
      by_cases hroom : past.length + 1 ≤ capP
      · obtain ⟨ad, rfl⟩ : ∃ ad, ao = some ad := by
          cases ao with
          | some ad => exact ⟨ad, rfl⟩
          | none => have := (hao' rfl).2; omega
        obtain ⟨g, off, cur, rfl, hh, h1, h2, h4, h5⟩ := hsome' _ rfl
        have A3 : Aside (wa.heap[g]? = some (.cells cur 59 (0, 0)) ∧ off + capP ≤ cur.size ∧ capP ≤ maxLen ∧ ∀ j (h : j < past.length), ∃ vj, cur[off + j]? = some vj ∧ Its wa 0 vj past[j]) := ⟨hh, h2, h4, h5⟩
        have hgb : ¬ g = b := by rintro rfl; rw [K2.out.1] at hh; simp at hh
        have hbg : ¬ b = g := fun e => hgb e.symm
        have hgl := lt_of_block hh
        have hgw : ¬ g = wa.heap.size := by omega
        have hsp : ∀ j, j < 1 → ((wa.alloc (.cells #[.slice aL L.length capL] 59)).cell? ⟨g, off + past.length * 1 + j, none⟩).isSome = true ∧ (wa.alloc (.cells #[.slice aL L.length capL] 59)).frozen? ⟨g, off + past.length * 1 + j, none⟩ = false := by
          intro j hj
          have hc : (wa.alloc (.cells #[.slice aL L.length capL] 59)).heap[g]? = some (.cells cur 59 (0, 0)) := by rw [Below.heap_alloc _ _ _ hgl]; exact hh
          refine ⟨?_, by simp [World.frozen?, hc]⟩
          simp only [World.cell?, hc]
          simp; omega
        have HSP := hide hsp
        clear hsome' hao' hh h2 h4 h5 hsp
        go_region_held3 (fun w' => w'.cell? ⟨b, 3, none⟩ = some (.slice (some ⟨g, off, none⟩) past.length capP) ∧ w'.cell? ⟨b, 2, none⟩ = some (.slice aL L.length capL)) (simp [*, World.setCells, World.cell?_alloc_some, World.cell?_setCell_far])
          ((refine step_append_room rfl (.tmp 20) (.tmp 25) 60 (by rfl) 59 i0 1 Tryd.underlying60 hi hz1 g off past.length capP (by rfl) ⟨wa.heap.size, 0, none⟩ 1 1 [.slice aL L.length capL] (by rfl) rfl (by exact one_new _ _ _) (by intro u hu; simp at hu; subst hu; rfl) hroom (by exact unhide HSP) ?_))
        go_wp2_with fail
        go_meet
        obtain ⟨hh, h2, h4, h5⟩ := A3.out
        obtain ⟨k1, k2, k3, k4, k5, k6, k7, k8⟩ := K2.out
        have hfa : Fr (fun _ => False) wa (wa.alloc (.cells #[.slice aL L.length capL] 59)) := (Fr.refl _ _).alloc _
        have hfr : Fr (fun k => p = some k) wa (((wa.alloc (.cells #[.slice aL L.length capL] 59)).drew).setCell ⟨g, off + past.length, none⟩ (.slice aL L.length capL)) :=
          Fr.setCell (((Fr.refl _ _).alloc _).drew) (p := ⟨g, off + past.length, none⟩) (Or.inl (by rw [← k6]; rfl)) _
        have hpr : PastAt ((wa.alloc (.cells #[.slice aL L.length capL] 59)).setCell ⟨g, off + past.length, none⟩ (.slice aL L.length capL)) (.slice (some ⟨g, off, none⟩) (past.length + 1) capP) (past ++ [L]) :=
          past_room (by rw [Below.heap_alloc _ _ _ hgl]; exact hh) hroom h2 h4 (fun j hj => by
            obtain ⟨vj, e1, e2⟩ := h5 j hj
            exact ⟨vj, e1, its_fr e2 hfa (fun _ _ _ _ f => f)⟩) L _ (its_fr k2 hfa (fun _ _ _ _ f => f))
        refine ⟨g, off, capP, rfl, ?_, Or.inl (by rw [← k6]; rfl), ?_⟩
        · simp only [World.setCells, Nat.mul_one]
          exact hpr
        · simpa [World.setCells] using hfr
      · have hcap : capP < past.length + 1 := by omega
        obtain ⟨olds, ho1, ho2, ho3⟩ : ∃ olds : List Value, olds.length = past.length ∧ (∀ bb, ao = some bb → ∀ j u, olds[j]? = some u → wa.cell? (bb.add j) = some u) ∧ ∀ j (h : j < past.length), ∃ vj, olds[j]? = some vj ∧ Its wa 0 vj past[j] := by
          cases ao with
          | none =>
            have h0 := (hao' rfl).1
            exact ⟨[], h0.symm, (fun bb e => by cases e), fun j hj => by omega⟩
          | some ad =>
            obtain ⟨g, off, cur, rfl, hh, h1, h2, h4, h5⟩ := hsome' _ rfl
            obtain ⟨olds, e1, e2, e3⟩ := olds_of (by omega) h5
            refine ⟨olds, e1, fun bb e j u hu => ?_, e3⟩
            cases e
            rw [Addr.add_mid]
            simp only [World.cell?, hh]
            simpa using e2 j u hu
        have A3 : Aside (olds.length = past.length ∧ ∀ j (h : j < past.length), ∃ vj, olds[j]? = some vj ∧ Its wa 0 vj past[j]) := ⟨ho1, ho3⟩
        have H2 : Hid (∀ bb, ao = some bb → ∀ j u, olds[j]? = some u → ((wa.alloc (.cells #[.slice aL L.length capL] 59)).drew).cell? (bb.add j) = some u) := fun bb e j u hu => by
          have := ho2 bb e j u hu
          exact (World.cell?_alloc_lt _ _ _ (World.block_lt_of_cell? wa _ this)).trans this
        have HD3 : Hid (((wa.alloc (.cells #[.slice aL L.length capL] 59)).drew).cell? ⟨b, 3, none⟩ = some (.slice ao past.length capP)) := (World.cell?_alloc_lt _ _ _ (World.block_lt_of_cell? wa _ d3)).trans d3
        have HD2 : Hid (((wa.alloc (.cells #[.slice aL L.length capL] 59)).drew).cell? ⟨b, 2, none⟩ = some (.slice aL L.length capL)) := (World.cell?_alloc_lt _ _ _ (World.block_lt_of_cell? wa _ d2)).trans d2
        have HA : Hid (ao = none → past.length = 0 ∧ capP = 0) := hao'
        have hol : Hid (olds.length = past.length * 1) := by rw [Nat.mul_one]; exact ho1
        clear hsome' hao' ho1 ho2 ho3
        go_region_held3 (fun w' => w'.cell? ⟨b, 3, none⟩ = some (.slice ao past.length capP) ∧ w'.cell? ⟨b, 2, none⟩ = some (.slice aL L.length capL)) (first | go_keep | exact ⟨z3, z2⟩)
          ((refine step_append_grows rfl (.tmp 20) (.tmp 25) 60 (by rfl) 59 i0 _ 1 24 Tryd.underlying60 hi hz0 hz1 hz2 rfl (by decide) ao past.length capP olds (by rfl) (by exact unhide HA) (by exact unhide hol) (by exact unhide H2) ⟨wa.heap.size, 0, none⟩ 1 1 [.slice aL L.length capL] (by rfl) rfl (by exact one_new _ _ _) (by intro u hu; simp at hu; subst hu; rfl) hcap (by unfold maxLen; omega) (by omega) ?_; intro v' w2 hown2 hgrow; have z3 := World.grownBy.cell hgrow (unhide HD3) (by simp); have z2 := World.grownBy.cell hgrow (unhide HD2) (by simp)))
        obtain ⟨ho1, ho3⟩ := A3.out
        obtain ⟨k1, k2, k3, k4, k5, k6, k7, k8⟩ := K2.out
        have hfr : Fr (fun _ => False) wa w2 := (((Fr.refl _ _).alloc _).drew).grown hgrow (fun k e => by cases e)
        obtain ⟨g, cp, rfl, hg0, hpg⟩ := past_grown hown2 ho1 (fun j hj => by
          obtain ⟨vj, e1, e2⟩ := ho3 j hj
          exact ⟨vj, e1, its_fr e2 hfr (fun _ _ _ _ f => f)⟩) (its_fr k2 hfr (fun _ _ _ _ f => f))
        go_wp2_with fail
        go_meet
        refine ⟨g, 0, cp, rfl, hpg, Or.inr ?_, hfr.mono fun _ _ f => f.elim⟩
        have e1 : (wa.alloc (.cells #[.slice aL L.length capL] 59)).drew.heap.size = wa.heap.size + 1 := World.size_alloc _ _
        rw [e1] at hg0
        have := k5.size
        omega
    case rest =>
      obtain ⟨g, off, cp, rfl, hpa, hgp, hfr⟩ := hcut
      obtain ⟨k1, k2, k3, k4, k5, k6, k7, k8⟩ := K2.out
      have hpty : ∀ k, p = some k → ∃ cur, wa.heap[k]? = some (.cells cur 59 (0, 0)) := by
        intro k hk
        rw [← k6] at hk
        rcases k3 with ⟨e, _⟩ | ⟨g', off', cap', cur, e, hh, _⟩
        · rw [e] at hk; cases hk
        · rw [e] at hk; simp [Value.ownBlock] at hk; subst hk; exact ⟨cur, hh⟩
      have hpne : ∀ k c t, wa.heap[k]? = some (.cells c t (0, 0)) → t ≠ 59 → ¬ p = some k := by
        intro k c t hk ht e
        obtain ⟨cur, hh⟩ := hpty k e
        rw [hk] at hh; simp at hh; exact ht hh.2
      have m1 : wc.heap[b]? = some (.cells #[.int .i64 n, .int .i64 most, .slice aL L.length capL, .slice ao past.length capP] 62 (0, 0)) := (hfr.block b (lt_of_block k1) (hpne b _ _ k1 (by decide))).trans k1
      have m2 := (hfr.block gc (lt_of_block k7) (hpne gc _ _ k7 (by decide))).trans k7
      have m3 := (hfr.block w.heap.size (lt_of_block k8) (hpne w.heap.size _ _ k8 (by decide))).trans k8
      obtain ⟨d0, d1, d2, d3, df⟩ := four_cells m1
      obtain ⟨x0, x1, xf⟩ := two_cells m2
      obtain ⟨y0, y1, yf⟩ := two_cells m3
      have df2 := df 2
      have df3 := df 3
      have yf0 := yf 0
      have yf1 := yf 1
      have hF : Fr (fun k => k = b ∨ p = some k) w wc := (Fr.of_below k5).trans (hfr.mono fun _ _ e => Or.inr e)
      have hIl : Its wc 0 (.slice a l.length cap) l := its_fr (k4.later k5 (Nat.le_refl _)) hfr (fun k c f hk e => by obtain ⟨cur, hh⟩ := hpty k e; rw [hk] at hh; simp at hh)
      have hgt : ∃ cur, wc.heap[g]? = some (.cells cur 59 (0, 0)) := by
        rcases hpa with ⟨e, _⟩ | ⟨g', off', cap', cur, e, hh, _⟩
        · cases e
        · simp only [Value.slice.injEq, Option.some.injEq, Addr.mk.injEq] at e
          rw [← e.1.1] at hh; exact ⟨cur, hh⟩
      have hgb : ¬ g = b := by rintro rfl; obtain ⟨cur, hh⟩ := hgt; rw [m1] at hh; simp at hh
      have hcl : past.length + 1 ≤ cp ∧ cp ≤ maxLen := by
        rcases hpa with ⟨e, _⟩ | ⟨g', off', cap', cur, e, hh, h1, h2, h3, _⟩
        · cases e
        · simp only [Value.slice.injEq] at e
          rw [e.2.2]; simp at h1; omega
      have hbc : ¬ b = gc := by omega
      have hbc2 : ¬ gc = b := by omega
      have hgw : ¬ w.heap.size = gc := by omega
      have hgw2 : ¬ gc = w.heap.size := by omega
      have K3 := hide (And.intro hpa (And.intro hgp (And.intro hF (And.intro hIl (And.intro hgt (And.intro m1 (And.intro k6 m3)))))))
      clear hpa hgp hF hIl hgt m1 m2 m3 k1 k2 k3 k4 k5 k6 k7 k8 hfr hpty hpne df xf yf K2
      obtain ⟨hc1, hc2⟩ := hcl
      clear hao' hsome' d0 d1
      by_cases hlong : 20 < past.length + 1
      · have hl1 : (20 : Int) < past.length + 1 := by omega
        have hc3 : ¬ cp = 1 := by omega
        go_wp2
        obtain ⟨hpa, hgp, hF, hIl, hgt, m1, k6, m3⟩ := unhide K3
        have hpt := past_tail hpa (by simp)
        have e : push past L = (past ++ [L]).tail := by unfold push; rw [if_pos (by simp; omega)]
        have hpt2 : PastAt wc (.slice (some ⟨g, off + 1, none⟩) past.length (cp - 1)) (push past L) := by rw [e]; simpa using hpt
        obtain ⟨t1, t2⟩ := turns_end (S := fun k => k = b ∨ p = some k) (x := .int .i64 (Pl.only (Pl.forest l) (Pl.forest L))) (y := .int .i64 (Pl.only (Pl.forest L) (Pl.forest l))) m3 m1 hpt2 hIl hF (Or.inl rfl)
        refine bodyPost_ret (v := .agg #[.int .i64 (Pl.only (Pl.forest l) (Pl.forest L)), .int .i64 (Pl.only (Pl.forest L) (Pl.forest l))]) (by simp [results, Tryd.results62, go_sem, y0, y1]) rfl ⟨rfl, some g, t1, ?_, t2⟩
        rcases hgp with h | h
        · exact Or.inl h
        · exact Or.inr ⟨g, rfl, h⟩
      · have hl1 : ¬ (20 : Int) < past.length + 1 := by omega
        go_wp2
        obtain ⟨hpa, hgp, hF, hIl, hgt, m1, k6, m3⟩ := unhide K3
        have e : push past L = past ++ [L] := by unfold push; rw [if_neg (by simp; omega)]
        rw [← e] at hpa
        obtain ⟨t1, t2⟩ := turns_end (S := fun k => k = b ∨ p = some k) (x := .int .i64 (Pl.only (Pl.forest l) (Pl.forest L))) (y := .int .i64 (Pl.only (Pl.forest L) (Pl.forest l))) m3 m1 hpa hIl hF (Or.inl rfl)
        refine bodyPost_ret (v := .agg #[.int .i64 (Pl.only (Pl.forest l) (Pl.forest L)), .int .i64 (Pl.only (Pl.forest L) (Pl.forest l))]) (by simp [results, Tryd.results62, go_sem, y0, y1]) rfl ⟨rfl, some g, t1, ?_, t2⟩
        rcases hgp with h | h
        · exact Or.inl h
        · exact Or.inr ⟨g, rfl, h⟩

end Go.Proofs.YtjbhcmmoidmgfaaDoor
