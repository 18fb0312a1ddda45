import Derived.Test.YtjbhcmmoidmgfaaDoorR8
namespace Go.Proofs.YtjbhcmmoidmgfaaDoor
open Go.RowKit
open Pl (It)

set_option maxHeartbeats 1000000 in
theorem newr_ok (v m : Nat) (w : World) (h1 : 1 ≤ v) (h2 : v ≤ 30) (h3 : 1 ≤ m) (h4 : m ≤ 60) :
    Calls Tryd.prog 10 #[.int .i64 v, .int .i64 m] w fun e w' => e = .returned (.tuple #[.pointer (some ⟨w.heap.size, 0, none⟩), .int .i64 0]) ∧ w' = w.alloc (.cells #[.int .i64 v, .int .i64 m, .slice none 0 0, .slice none 0 0] 62) := by
  go_enter Tryd.func10, Tryd.ntmps10
  go_wp2
  go_ret2
  exact ⟨rfl, rfl⟩

set_option maxHeartbeats 1000000 in
theorem newr_no (v m : Int) (w : World) (h : ¬ (1 ≤ v ∧ v ≤ 30 ∧ 1 ≤ m ∧ m ≤ 60)) :
    Calls Tryd.prog 10 #[.int .i64 v, .int .i64 m] w fun e w' => e = .returned (.tuple #[.pointer none, .int .i64 1]) ∧ w = w' := by
  rcases (show v < 1 ∨ (1 ≤ v ∧ 30 < v) ∨ (1 ≤ v ∧ v ≤ 30 ∧ m < 1) ∨ (1 ≤ v ∧ v ≤ 30 ∧ 1 ≤ m ∧ 60 < m) from by omega) with h | ⟨h, h'⟩ | ⟨h1, h2, h3⟩ | ⟨h1, h2, h3, h4⟩
  all_goals
    go_enter Tryd.func10, Tryd.ntmps10
    go_wp2
    go_ret2
    exact ⟨rfl, rfl⟩

theorem undrewN {B : Nat} {w w1 : World} {n : Nat} (h : Below B (w.drewN n) w1) : Below B w w1 := ⟨h.os, h.tape, h.output, h.size, h.block⟩
theorem rg_past {w : World} {b n most : Nat} {L : List It} {past : List (List It)} {p : Option Nat} (h : RG w b n most L past p) : ∀ k, p = some k → k < w.heap.size ∧ ∃ cur, w.heap[k]? = some (.cells cur 59 (0, 0)) := by
  intro k hk
  obtain ⟨vL, vP, _, _, h3, h4⟩ := h
  rw [← h4] at hk
  rcases h3 with ⟨e, _⟩ | ⟨g', off', cap', cur, e, hh, _⟩
  · rw [e] at hk; cases hk
  · rw [e] at hk; simp [Value.ownBlock] at hk; subst hk; exact ⟨lt_of_block hh, cur, hh⟩
theorem res_cells {w2 : World} {r t : Nat} {v0 v1 : Value} (x y : Value) (hr : w2.heap[r]? = some (.cells #[v0, v1] t (0, 0))) (o : Obj) :
    (((w2.setCell ⟨r, 0, none⟩ x).setCell ⟨r, 1, none⟩ y).alloc o).cell? ⟨r, 0, none⟩ = some x ∧ (((w2.setCell ⟨r, 0, none⟩ x).setCell ⟨r, 1, none⟩ y).alloc o).cell? ⟨r, 1, none⟩ = some y := by
  have h := set_two (x := x) (y := y) hr
  have h2 : (((w2.setCell ⟨r, 0, none⟩ x).setCell ⟨r, 1, none⟩ y).alloc o).heap[r]? = some (.cells #[x, y] t (0, 0)) := by
    rw [Below.heap_alloc _ _ _ (lt_of_block h)]; exact h
  obtain ⟨c0, c1, _⟩ := two_cells h2
  exact ⟨c0, c1⟩
theorem res_end {S : Nat → Prop} {w w2 : World} {b n most : Nat} {L : List It} {past : List (List It)} {p : Option Nat} {x y v0 v1 : Value} {o : Obj} (hr : w2.heap[w.heap.size]? = some (.cells #[v0, v1] 64 (0, 0))) (h : RG w2 b n most L past p) (hF : Fr S w w2) :
    RG (((w2.setCell ⟨w.heap.size, 0, none⟩ x).setCell ⟨w.heap.size, 1, none⟩ y).alloc o) b n most L past p ∧ Fr S w (((w2.setCell ⟨w.heap.size, 0, none⟩ x).setCell ⟨w.heap.size, 1, none⟩ y).alloc o) := by
  have hF2 : Fr (fun k => k = w.heap.size) w2 (((w2.setCell ⟨w.heap.size, 0, none⟩ x).setCell ⟨w.heap.size, 1, none⟩ y).alloc o) := by
    refine Fr.alloc (Fr.setCell (Fr.setCell (Fr.refl _ _) ?_ _) ?_ _) _
    · exact Or.inl rfl
    · exact Or.inl rfl
  refine ⟨h.fr hF2 ?_ ?_ ?_, ?_⟩
  · rintro k c f hk rfl; rw [hr] at hk; simp at hk
  · rintro rfl
    obtain ⟨vL, vP, hb, _⟩ := h
    rw [hr] at hb; simp at hb
  · rintro k hk rfl
    obtain ⟨_, cur, hh⟩ := rg_past h _ hk
    rw [hr] at hh; simp at hh
  · refine Fr.alloc (Fr.setCell (Fr.setCell hF ?_ _) ?_ _) _
    · exact Or.inr (Nat.le_refl _)
    · exact Or.inr (Nat.le_refl _)
theorem rg_open {w : World} {b n most : Nat} {L : List It} {past : List (List It)} {p : Option Nat} (h : RG w b n most L past p) :
    ∃ a cap vP, w.cell? ⟨b, 0, none⟩ = some (.int .i64 n) ∧ w.cell? ⟨b, 1, none⟩ = some (.int .i64 most) ∧ w.cell? ⟨b, 2, none⟩ = some (.slice a L.length cap) ∧ w.cell? ⟨b, 3, none⟩ = some vP ∧ Its w 0 (.slice a L.length cap) L ∧ b < w.heap.size := by
  obtain ⟨vL, vP, hb, hI, _, _⟩ := h
  obtain ⟨a, cap, rfl⟩ := row_form hI
  obtain ⟨c0, c1, c2, c3, _⟩ := four_cells hb
  exact ⟨a, cap, vP, c0, c1, c2, c3, hI, lt_of_block hb⟩

set_option maxRecDepth 100000 in
set_option maxHeartbeats 2000000 in
theorem insr_no (b n most : Nat) (L : List It) (past : List (List It)) (p : Option Nat) (id u v wt : Int) (w : World) (hG : RG w b n most L past p) (hL : L.length ≤ 100) (code : Int)
    (hc : (Pl.numB id = false ∧ code = 2) ∨ (Pl.numB id = true ∧ Pl.verB n u = false ∧ code = 3) ∨ (Pl.numB id = true ∧ Pl.verB n u = true ∧ Pl.verB n v = false ∧ code = 3) ∨ (Pl.numB id = true ∧ Pl.verB n u = true ∧ Pl.verB n v = true ∧ Pl.has L id = true ∧ code = 4) ∨
      (Pl.numB id = true ∧ Pl.verB n u = true ∧ Pl.verB n v = true ∧ Pl.has L id = false ∧ most ≤ L.length ∧ code = 5)) :
    Calls Tryd.prog 20 #[.pointer (some ⟨b, 0, none⟩), .int .i64 id, .int .i64 u, .int .i64 v, .int .i64 wt] w fun e w' => e = .returned (.tuple #[.agg #[.int .i64 0, .int .i64 0], .int .i64 code]) ∧ Below w.heap.size w w' := by
  obtain ⟨a, cap, vP, c0, c1, c2, c3, hI, hbl⟩ := rg_open hG
  have hbne : ¬ b = w.heap.size := by omega
  have hbne2 : ¬ w.heap.size = b := by omega
  have hIa : Its (w.alloc (.cells #[.int .i64 0, .int .i64 0] 64)) 0 (.slice a L.length cap) L := World.ownsRow.alloc hI _
  clear hG
  rcases hc with ⟨h1, rfl⟩ | ⟨h1, h2, rfl⟩ | ⟨h1, h2, h3, rfl⟩ | ⟨h1, h2, h3, h4, rfl⟩ | ⟨h1, h2, h3, h4, h5, rfl⟩
  · go_enter Tryd.func20, Tryd.ntmps20
    go_wp2_with (first
      | (go_at_call 58; refine (number_any _ _).mono ?_; rintro e w1 ⟨rfl, rfl⟩; rw [h1])
      | (go_at_call 59; refine (vertex_any b n _ _ (by simp [c0, World.cell?_alloc_some])).mono ?_; rintro e w1 ⟨rfl, rfl⟩)
      | (go_at_call 60; refine (find_any L id a cap _ hIa hL).mono ?_; rintro e w1 ⟨r, rfl, hr, rfl⟩; have HR := hide hr; clear hr))
    exact bodyPost_ret (v := .tuple #[.agg #[.int .i64 0, .int .i64 0], .int .i64 2]) (by simp [results, Tryd.results20, go_sem]) rfl ⟨rfl, (Below.refl _ _).alloc (Nat.le_refl _) _⟩
  · go_enter Tryd.func20, Tryd.ntmps20
    go_wp2_with (first
      | (go_at_call 58; refine (number_any _ _).mono ?_; rintro e w1 ⟨rfl, rfl⟩; rw [h1])
      | (go_at_call 59; refine (vertex_any b n _ _ (by simp [c0, World.cell?_alloc_some])).mono ?_; rintro e w1 ⟨rfl, rfl⟩; (try rw [h2]))
      | (go_at_call 60; refine (find_any L id a cap _ hIa hL).mono ?_; rintro e w1 ⟨r, rfl, hr, rfl⟩; have HR := hide hr; clear hr))
    exact bodyPost_ret (v := .tuple #[.agg #[.int .i64 0, .int .i64 0], .int .i64 3]) (by simp [results, Tryd.results20, go_sem]) rfl ⟨rfl, (Below.refl _ _).alloc (Nat.le_refl _) _⟩
  · go_enter Tryd.func20, Tryd.ntmps20
    go_wp2_with (first
      | (go_at_call 58; refine (number_any _ _).mono ?_; rintro e w1 ⟨rfl, rfl⟩; rw [h1])
      | (go_at_call 59; refine (vertex_any b n _ _ (by simp [c0, World.cell?_alloc_some])).mono ?_; rintro e w1 ⟨rfl, rfl⟩; (first | rw [h2] | rw [h3]))
      | (go_at_call 60; refine (find_any L id a cap _ hIa hL).mono ?_; rintro e w1 ⟨r, rfl, hr, rfl⟩; have HR := hide hr; clear hr))
    exact bodyPost_ret (v := .tuple #[.agg #[.int .i64 0, .int .i64 0], .int .i64 3]) (by simp [results, Tryd.results20, go_sem]) rfl ⟨rfl, (Below.refl _ _).alloc (Nat.le_refl _) _⟩
  · go_enter Tryd.func20, Tryd.ntmps20
    go_wp2_with (first
      | (go_at_call 58; refine (number_any _ _).mono ?_; rintro e w1 ⟨rfl, rfl⟩; rw [h1])
      | (go_at_call 59; refine (vertex_any b n _ _ (by simp [c0, World.cell?_alloc_some])).mono ?_; rintro e w1 ⟨rfl, rfl⟩; (first | rw [h2] | rw [h3]))
      | (go_at_call 60; refine (find_any L id a cap _ hIa hL).mono ?_; rintro e w1 ⟨r, rfl, hr, rfl⟩; have hr0 := (Pl.findIs_has hr).1.1 h4; have HR := hide hr; clear hr))
    exact bodyPost_ret (v := .tuple #[.agg #[.int .i64 0, .int .i64 0], .int .i64 4]) (by simp [results, Tryd.results20, go_sem]) rfl ⟨rfl, (Below.refl _ _).alloc (Nat.le_refl _) _⟩
  · go_enter Tryd.func20, Tryd.ntmps20
    go_wp2_with (first
      | (go_at_call 58; refine (number_any _ _).mono ?_; rintro e w1 ⟨rfl, rfl⟩; rw [h1])
      | (go_at_call 59; refine (vertex_any b n _ _ (by simp [c0, World.cell?_alloc_some])).mono ?_; rintro e w1 ⟨rfl, rfl⟩; (first | rw [h2] | rw [h3]))
      | (go_at_call 60; refine (find_any L id a cap _ hIa hL).mono ?_; rintro e w1 ⟨r, rfl, hr, rfl⟩; have hr0 := (Pl.findIs_has hr).2.1 h4; have HR := hide hr; clear hr))
    go_quiet (fail)
    go_wp2
    exact bodyPost_ret (v := .tuple #[.agg #[.int .i64 0, .int .i64 0], .int .i64 5]) (by simp [results, Tryd.results20, go_sem]) rfl ⟨rfl, ((below_drewN ((Below.refl _ _).alloc (Nat.le_refl _) _) _).setCell (Nat.le_refl _) _).setCell (Nat.le_refl _) _⟩

set_option maxRecDepth 100000 in
set_option maxHeartbeats 2000000 in
theorem insr_ok (b n most : Nat) (L : List It) (past : List (List It)) (p : Option Nat) (id u v wt : Int) (w : World) (hG : RG w b n most L past p) (hL : L.length ≤ 90) (hn : n ≤ 30) (he : Pl.Ends n L) (hp : past.length ≤ 20)
    (h1 : Pl.numB id = true) (h2 : Pl.verB n u = true) (h3 : Pl.verB n v = true) (h4 : Pl.has L id = false) (h5 : L.length < most) :
    Calls Tryd.prog 20 #[.pointer (some ⟨b, 0, none⟩), .int .i64 id, .int .i64 u, .int .i64 v, .int .i64 wt] w fun e w' =>
      e = .returned (.tuple #[.agg #[.int .i64 (Pl.only (Pl.forest (Pl.withI L ⟨id, u, v, wt⟩)) (Pl.forest L)), .int .i64 (Pl.only (Pl.forest L) (Pl.forest (Pl.withI L ⟨id, u, v, wt⟩)))], .int .i64 0]) ∧
      ∃ p', RG w' b n most (Pl.withI L ⟨id, u, v, wt⟩) (push past L) p' ∧ (p' = p ∨ ∃ k, p' = some k ∧ w.heap.size ≤ k) ∧ Fr (fun k => k = b ∨ p = some k) w w' := by
  obtain ⟨a, cap, vP, c0, c1, c2, c3, hI, hbl⟩ := rg_open hG
  have hbne : ¬ b = w.heap.size := by omega
  have hbne2 : ¬ w.heap.size = b := by omega
  have hIa : Its (w.alloc (.cells #[.int .i64 0, .int .i64 0] 64)) 0 (.slice a L.length cap) L := World.ownsRow.alloc hI _
  have hx := Pl.with_len L ⟨id, u, v, wt⟩
  have hends : Pl.Ends n (Pl.withI L ⟨id, u, v, wt⟩) := Pl.with_ends he ⟨(Pl.verB_true.1 h2).1, (Pl.verB_true.1 h2).2, (Pl.verB_true.1 h3).1, (Pl.verB_true.1 h3).2⟩
  have HG := hide hG
  have h5' : ¬ (most : Int) ≤ L.length := by omega
  have hLen : L.length ≤ 100 := by omega
  clear hG
  go_enter Tryd.func20, Tryd.ntmps20
  go_wp2_with (first
      | (go_at_call 58; refine (number_any _ _).mono ?_; rintro e w1 ⟨rfl, rfl⟩; rw [h1])
      | (go_at_call 59; refine (vertex_any b n _ _ (by simp [c0, World.cell?_alloc_some])).mono ?_; rintro e w1 ⟨rfl, rfl⟩; (first | rw [h2] | rw [h3]))
      | (go_at_call 60; refine (find_any L id a cap _ hIa hLen).mono ?_; rintro e w1 ⟨r, rfl, hr, rfl⟩; have hr0 := (Pl.findIs_has hr).2.1 h4; have HR := hide hr; clear hr))
  go_quiet (fail)
  go_wp2_with fail
  refine (with_any L ⟨id, u, v, wt⟩ a cap _ (by exact hIa) hLen).mono ?_
  rintro e w1 ⟨vw, rfl, ow, bw⟩
  obtain ⟨aw, cw, rfl⟩ := row_form ow
  have hb0 : Below (w.heap.size + 1) (w.alloc (.cells #[.int .i64 0, .int .i64 0] 64)) w1 := undrewN (by
    have e1 : ((w.alloc (.cells #[.int .i64 0, .int .i64 0] 64)).drewN nq).heap.size = w.heap.size + 1 := World.size_alloc _ _
    rw [e1] at bw; exact bw)
  have hb1 : Below w.heap.size w w1 := ((Below.refl _ _).alloc (Nat.le_refl _) _).trans (hb0.mono (by omega))
  have hG1 := (unhide HG).later hb1
  have hres := made_later hb0 (by omega)
  have hpl := rg_past (unhide HG)
  go_wp2_with fail
  refine (turns_any b n most L (Pl.withI L ⟨id, u, v, wt⟩) past p aw cw _ (by exact hG1) (by exact row_mono ow (Nat.zero_le _)) (by omega) hLen hn he hends hp).mono ?_
  rintro e w2 ⟨rfl, p', hG2, hp', hF2⟩
  have hres2 := (hF2.block _ (lt_of_block hres) (by
    rintro (e | e)
    · omega
    · obtain ⟨h6, _⟩ := hpl _ e; omega)).trans hres
  obtain ⟨y0, y1, yf⟩ := two_cells hres2
  have yf0 := yf 0
  have yf1 := yf 1
  have hs2 := lt_of_block hres2
  have hne1 : ¬ w.heap.size = w2.heap.size := by omega
  have hne2 : ¬ w2.heap.size = w.heap.size := by omega
  have hFr : Fr (fun k => k = b ∨ p = some k) w w2 := (Fr.of_below hb1).trans hF2
  have K := hide (And.intro hG2 (And.intro hp' (And.intro hFr (And.intro hb1.size hres2))))
  clear hG2 hp' hFr hF2 hG1 hres hres2 hb0 hb1 bw ow hpl yf hI hIa HR HG c0 c1 c2 c3
  go_wp2
  obtain ⟨hG2, hp', hFr, hsz, hres2⟩ := unhide K
  have z := @res_cells w2 w.heap.size 64 _ _ (.int .i64 (Pl.only (Pl.forest (Pl.withI L ⟨id, u, v, wt⟩)) (Pl.forest L))) (.int .i64 (Pl.only (Pl.forest L) (Pl.forest (Pl.withI L ⟨id, u, v, wt⟩)))) hres2
  refine bodyPost_ret (v := .tuple #[.agg #[.int .i64 (Pl.only (Pl.forest (Pl.withI L ⟨id, u, v, wt⟩)) (Pl.forest L)), .int .i64 (Pl.only (Pl.forest L) (Pl.forest (Pl.withI L ⟨id, u, v, wt⟩)))], .int .i64 0]) (by simp [results, Tryd.results20, go_sem, (z _).1, (z _).2]) rfl ⟨rfl, p', (res_end hres2 hG2 hFr).1, ?_, (res_end hres2 hG2 hFr).2⟩
  rcases hp' with h | ⟨k, h, h'⟩
  · exact Or.inl h
  · exact Or.inr ⟨k, h, by omega⟩

end Go.Proofs.YtjbhcmmoidmgfaaDoor
