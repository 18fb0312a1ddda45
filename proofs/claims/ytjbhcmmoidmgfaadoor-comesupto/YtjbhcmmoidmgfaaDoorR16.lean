import Derived.Test.YtjbhcmmoidmgfaaDoorR15
namespace Go.Proofs.YtjbhcmmoidmgfaaDoor
open Go.RowKit
open Pl (It)

set_option maxRecDepth 100000 in
set_option maxHeartbeats 2000000 in
theorem undor_no (b n most : Nat) (L : List It) (p : Option Nat) (w : World) (hG : RG w b n most L [] p) :
    Calls Tryd.prog 24 #[.pointer (some ⟨b, 0, none⟩)] w fun e w' => e = .returned (.tuple #[.agg #[.int .i64 0, .int .i64 0], .int .i64 8]) ∧ Below w.heap.size w w' := by
  obtain ⟨vL, vP, hb, hIL, hP, hpo⟩ := hG
  obtain ⟨ao, capP, rfl, _, _⟩ := past_open hP
  obtain ⟨c0, c1, c2, c3, cf⟩ := four_cells hb
  have hbl := lt_of_block hb
  have hbne : ¬ b = w.heap.size := by omega
  have hbne2 : ¬ w.heap.size = b := by omega
  clear hP hpo hb hIL
  go_enter Tryd.func24, Tryd.ntmps24
  go_wp2
  exact bodyPost_ret (v := .tuple #[.agg #[.int .i64 0, .int .i64 0], .int .i64 8]) (by simp [results, Tryd.results24, go_sem]) rfl ⟨rfl, by repeat (first | exact (Below.refl _ _).alloc (Nat.le_refl _) _ | refine Below.setCell ?_ (Nat.le_refl _) _)⟩

/-- what is left to be taken back -/
theorem past_init {w : World} {g off cap : Nat} {q : List (List It)} {l : List It} (h : PastAt w (.slice (some ⟨g, off, none⟩) (q.length + 1) cap) (q ++ [l])) : PastAt w (.slice (some ⟨g, off, none⟩) q.length cap) q := by
  rcases h with ⟨h, _⟩ | ⟨g', off', cap', cur, hv, h1, h2, h3, h4, h5⟩
  · cases h
  · simp only [Value.slice.injEq, Option.some.injEq, Addr.mk.injEq, and_true, List.length_append, List.length_cons, List.length_nil] at hv
    obtain ⟨⟨rfl, rfl⟩, _, rfl⟩ := hv
    refine Or.inr ⟨g, off, cap, cur, rfl, h1, by simp at h2; omega, h3, h4, fun j hj => ?_⟩
    obtain ⟨vj, e1, e2⟩ := h5 j (by simp; omega)
    rw [List.getElem_append_left hj] at e2
    exact ⟨vj, e1, e2⟩
/-- the last list, its place and its cell -/
theorem past_last {w : World} {v : Value} {q : List (List It)} {l : List It} (h : PastAt w v (q ++ [l])) :
    ∃ g off cap a c, v = .slice (some ⟨g, off, none⟩) (q.length + 1) cap ∧ w.cell? ⟨g, off + q.length, none⟩ = some (.slice a l.length c) ∧ Its w 0 (.slice a l.length c) l ∧ g < w.heap.size ∧ q.length + 1 ≤ cap ∧ ∃ cur, w.heap[g]? = some (.cells cur 59 (0, 0)) := by
  rcases h with ⟨_, h⟩ | ⟨g, off, cap, cur, hv, h1, h2, h3, h4, h5⟩
  · simp at h
  · obtain ⟨vj, e1, e2⟩ := h5 q.length (by simp)
    rw [List.getElem_append_right (Nat.le_refl _)] at e2
    simp at e2
    obtain ⟨a, c, rfl⟩ := row_form e2
    exact ⟨g, off, cap, a, c, by simpa using hv, by simp [World.cell?, h1, e1], e2, lt_of_block h1, by simpa using h2, cur, h1⟩

set_option maxRecDepth 100000 in
set_option maxHeartbeats 4000000 in
theorem undor_ok (b n most : Nat) (L l : List It) (q : List (List It)) (p : Option Nat) (w : World) (hG : RG w b n most L (q ++ [l]) p)
    (hl : l.length ≤ 100) (hL : L.length ≤ 100) (hn : n ≤ 30) (he : Pl.Ends n L) (he2 : Pl.Ends n l) (hp : q.length ≤ 20) :
    Calls Tryd.prog 24 #[.pointer (some ⟨b, 0, none⟩)] w fun e w' =>
      e = .returned (.tuple #[.agg #[.int .i64 (Pl.only (Pl.forest l) (Pl.forest L)), .int .i64 (Pl.only (Pl.forest L) (Pl.forest l))], .int .i64 0]) ∧ RG w' b n most l q p ∧ Fr (fun k => k = b) w w' := by
  obtain ⟨vL, vP, hb, hIL, hP, hpo⟩ := hG
  obtain ⟨aL, capL, rfl⟩ := row_form hIL
  obtain ⟨g, off, capP, a, cap, rfl, cg, h, hgl, hqc, cur, hg⟩ := past_last hP
  obtain ⟨c0, c1, c2, c3, cf⟩ := four_cells hb
  have hbl := lt_of_block hb
  have hbl2 : b < (w.alloc (.cells #[.int .i64 0, .int .i64 0] 64)).heap.size := by rw [World.size_alloc]; omega
  have hbne : ¬ b = w.heap.size := by omega
  have hbne1 : ¬ b = w.heap.size + 1 := by omega
  have hbne2 : ¬ w.heap.size = b := by omega
  have hbne3 : ¬ w.heap.size + 1 = b := by omega
  have hgne : ¬ g = w.heap.size := by omega
  have hi1 : ((q.length + 1 : Nat) : Int) - 1 = q.length := by omega
  have hi2 : (0 : Int) ≤ q.length := by omega
  have hi3 : (q.length : Int) < ((q.length + 1 : Nat) : Int) := by omega
  have K1 : Aside (w.heap[b]? = some (.cells #[.int .i64 n, .int .i64 most, .slice aL L.length capL, .slice (some ⟨g, off, none⟩) (q.length + 1) capP] 62 (0, 0)) ∧ Its w 0 (.slice aL L.length capL) L ∧ Its w 0 (.slice a l.length cap) l ∧ PastAt w (.slice (some ⟨g, off, none⟩) (q.length + 1) capP) (q ++ [l]) ∧ (some g = p) ∧ w.heap[g]? = some (.cells cur 59 (0, 0))) := ⟨hb, hIL, h, hP, hpo, hg⟩
  clear hb hP hpo hg cf
  go_enter Tryd.func24, Tryd.ntmps24
  go_upto_region 5 with fail
  go_cut [6] (fun s wx => ∃ gc, s = .pointer (some ⟨gc, 0, none⟩) ∧ w.heap.size < gc ∧ wx.heap[gc]? = some (.cells #[.int .i64 (Pl.only (Pl.forest l) (Pl.forest L)), .int .i64 (Pl.only (Pl.forest L) (Pl.forest l))] 64 (0, 0)) ∧
    wx.heap[w.heap.size]? = some (.cells #[.int .i64 0, .int .i64 0] 64 (0, 0)) ∧ Below w.heap.size w wx)
  case first =>
    clear hi1 hi2 hi3 cg hgne
    go_region_held3 (fun w' => w'.cell? ⟨b, 0, none⟩ = some (.int .i64 n) ∧ w'.cell? ⟨b, 2, none⟩ = some (.slice aL L.length capL))
      ((go_split_ands; refine ⟨?_, ?_⟩ <;> (first | go_keep | (refine cell_later hb1 ?_; first | assumption | simp [*]))))
      (first
        | (go_at_call 67; refine (change_any n L l aL a capL cap _ (by first | exact World.ownsRow.alloc hIL _ | exact World.ownsRow.alloc (World.ownsRow.alloc hIL _) _) hL (by first | exact World.ownsRow.alloc h _ | exact World.ownsRow.alloc (World.ownsRow.alloc h _) _) hl hn he he2).mono ?_; rintro e w1 ⟨rfl, hb1⟩; have q := var_facts hb1; (try simp only [World.size_alloc] at q); obtain ⟨q0, q1, q2, q3⟩ := q; have hbl1 := ne_later hb1 (b := b) (by first | exact lt_alloc hbl | exact lt_alloc hbl2); have z0 : w1.cell? ⟨b, 0, none⟩ = some (.int .i64 n) := cell_later hb1 (by simp [c0, World.cell?_alloc_some]); have z2 : w1.cell? ⟨b, 2, none⟩ = some (.slice aL L.length capL) := cell_later hb1 (by simp [c2, World.cell?_alloc_some])))
    · go_wp2_with fail
      go_meet
      exact ⟨_, rfl, cut1 hb1⟩
    · go_wp2_with fail
      go_meet
      exact ⟨_, rfl, cut2 hb1⟩
  case rest =>
    rename World => wa
    obtain ⟨gc, rfl, hgc, hvc, hvr, hB⟩ := hcut
    obtain ⟨hb, hIL, hI, hP, hpo, hg⟩ := K1.out
    have hbw : wa.heap[b]? = some (.cells #[.int .i64 n, .int .i64 most, .slice aL L.length capL, .slice (some ⟨g, off, none⟩) (q.length + 1) capP] 62 (0, 0)) := by rw [hB.block b hbl]; exact hb
    have hIw := hI.later hB (Nat.le_refl _)
    have hPw : PastAt wa (.slice (some ⟨g, off, none⟩) q.length capP) q := past_fr (past_init hP) (Fr.of_below (S := fun _ => False) hB) (fun _ _ _ _ f => f) (fun _ _ f => f)
    obtain ⟨d0, d1, d2, d3, df⟩ := four_cells hbw
    have df2 := df 2
    have df3 := df 3
    obtain ⟨e0, e1, _⟩ := two_cells hvc
    obtain ⟨y0, y1, yf⟩ := two_cells hvr
    have yf0 := yf 0
    have yf1 := yf 1
    have hgcb : ¬ gc = b := by omega
    have hbgc : ¬ b = gc := by omega
    have hgr : ¬ gc = w.heap.size := by omega
    have hrg : ¬ w.heap.size = gc := by omega
    have hF : Fr (fun k => k = b) w wa := Fr.of_below hB
    have KE := hide (turns_end (S := fun k => k = b) (x := .int .i64 (Pl.only (Pl.forest l) (Pl.forest L))) (y := .int .i64 (Pl.only (Pl.forest L) (Pl.forest l))) hvr hbw hPw hIw hF rfl)
    have KR := hide hvr
    have hpo' := hide hpo
    clear hF hbw hIw hPw hvc hvr hB hb hIL hI hP hpo hg K1 df yf c0 c1 c2 c3 cg h
    go_wp2
    obtain ⟨r1, r2⟩ := unhide KE
    have hr2 : ((wa.setCell ⟨b, 3, none⟩ (.slice (some ⟨g, off, none⟩) q.length capP)).setCell ⟨b, 2, none⟩ (.slice a l.length cap)).heap[w.heap.size]? = some (.cells #[.int .i64 0, .int .i64 0] 64 (0, 0)) := by
      rw [Below.heap_setCell _ _ _ _ hbne2, Below.heap_setCell _ _ _ _ hbne2]; exact unhide KR
    obtain ⟨z0, z1, _⟩ := two_cells (set_two (x := .int .i64 (Pl.only (Pl.forest l) (Pl.forest L))) (y := .int .i64 (Pl.only (Pl.forest L) (Pl.forest l))) hr2)
    rw [show (Value.slice (some ⟨g, off, none⟩) q.length capP).ownBlock = p from unhide hpo'] at r1
    exact bodyPost_ret (v := .tuple #[.agg #[.int .i64 (Pl.only (Pl.forest l) (Pl.forest L)), .int .i64 (Pl.only (Pl.forest L) (Pl.forest l))], .int .i64 0]) (by simp [results, Tryd.results24, go_sem, z0, z1]) rfl ⟨rfl, r1, r2⟩

end Go.Proofs.YtjbhcmmoidmgfaaDoor
