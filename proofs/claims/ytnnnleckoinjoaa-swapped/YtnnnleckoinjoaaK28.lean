import Derived.Test.YtnnnleckoinjoaaK22
/- What comes for an edge, or goes for it: one edge of a book. -/
namespace Go.Proofs.Ytnnnleckoinjoaa
open Go.RowKit
open Pl (It)

/-- while the graph alone changes: the book, its list, the graph, the box of what was handed in, what was told -/
structure Sw (w wx : World) (bb xb : Nat) (s s2 : St) (vl vp vm : Value) (B : Obj) (ks : List (Nat × Obj)) : Prop where
  bl : bb < w.heap.size
  xl : xb < w.heap.size
  ne : bb ≠ xb
  book : wx.heap[bb]? = some (bko xb s.n vl vp vm)
  box : wx.heap[w.heap.size]? = some B
  its : Its wx 0 vl s.L
  xg : XG wx xb s2
  fr : Fr (fun k => k = xb) w wx
  old : ∀ k o, (k, o) ∈ ks → wx.heap[k]? = some o ∧ w.heap.size < k

section
variable {w wx wy : World} {bb xb : Nat} {s s2 s3 : St} {vl vp vm : Value} {B : Obj} {ks : List (Nat × Obj)}
theorem Sw.later (h : Sw w wx bb xb s s2 vl vp vm B ks) (hB : Below wx.heap.size wx wy) : Sw w wy bb xb s s2 vl vp vm B ks :=
  ⟨h.bl, h.xl, h.ne, (hB.block bb (lt_of_block h.book)).trans h.book, (hB.block _ (lt_of_block h.box)).trans h.box, row_below h.its hB (Nat.le_refl _), PF.later h.xg hB (Nat.le_refl _), h.fr.later hB,
    fun k o hk => ⟨(hB.block k (lt_of_block (h.old k o hk).1)).trans (h.old k o hk).1, (h.old k o hk).2⟩⟩
theorem Sw.call (h : Sw w wx bb xb s s2 vl vp vm B ks) (hx : XG wy xb s3) (hf : Fr (fun k => k = xb) wx wy) : Sw w wy bb xb s s3 vl vp vm B ks :=
  ⟨h.bl, h.xl, h.ne, (hf.block bb (lt_of_block h.book) h.ne).trans h.book, (hf.block _ (lt_of_block h.box) (by have := h.xl; omega)).trans h.box, (sp_x h.xg).its hf h.its, hx, h.fr.trans hf,
    fun k o hk => ⟨(hf.block k (lt_of_block (h.old k o hk).1) (by have := (h.old k o hk).2; have := h.xl; omega)).trans (h.old k o hk).1, (h.old k o hk).2⟩⟩
theorem Sw.new (h : Sw w wx bb xb s s2 vl vp vm B ks) (o : Obj) : Sw w (wx.alloc o) bb xb s s2 vl vp vm B ((wx.heap.size, o) :: ks) := by
  have h1 := h.later ((Below.refl _ wx).alloc (Nat.le_refl _) o)
  refine ⟨h1.bl, h1.xl, h1.ne, h1.book, h1.box, h1.its, h1.xg, h1.fr, fun k p hk => ?_⟩
  rcases List.mem_cons.1 hk with e | e
  · injection e with e1 e2
    subst e1; subst e2
    exact ⟨heap_alloc_new _ _, lt_of_block h.box⟩
  · exact h1.old k p e
theorem Sw.first (h : Sw w wx bb xb s s2 vl vp vm B ks) (hx : XG wy xb s3) (hf : Fr (fun k => k = xb) wx.drew wy) : Sw w wy bb xb s s3 vl vp vm B ks := h.call hx hf.undrew
theorem Sw.second (h : Sw w wx bb xb s s2 vl vp vm B ks) {o : Obj} (hx : XG wy xb s3) (hf : Fr (fun k => k = xb) (wx.alloc o).drew wy) : Sw w wy bb xb s s3 vl vp vm B ((wx.heap.size, o) :: ks) := (h.new o).call hx hf.undrew
theorem Sw.put {gc : Nat} {a b x y : Value} (h : Sw w wx bb xb s s2 vl vp vm B ((gc, .cells #[a, b] 50 (0, 0)) :: ks)) (hk : ∀ k o, (k, o) ∈ ks → k < gc) :
    Sw w ((wx.setCell ⟨gc, 0, none⟩ x).setCell ⟨gc, 1, none⟩ y) bb xb s s2 vl vp vm B ((gc, .cells #[x, y] 50 (0, 0)) :: ks) := by
  obtain ⟨hc, hg⟩ := h.old gc _ (List.mem_cons_self ..)
  have hf : Fr (fun k => k = gc) wx ((wx.setCell ⟨gc, 0, none⟩ x).setCell ⟨gc, 1, none⟩ y) := Fr.setCell (S := fun k => k = gc) (Fr.setCell (S := fun k => k = gc) (Fr.refl _ _) (p := ⟨gc, 0, none⟩) (Or.inl rfl) _) (p := ⟨gc, 1, none⟩) (Or.inl rfl) _
  have sp : Sp (fun k => k = gc) wx := by rintro k rfl; exact ⟨_, _, hc, by decide, by decide, by decide⟩
  have hbl := h.bl
  have hxl := h.xl
  refine ⟨h.bl, h.xl, h.ne, (hf.block bb (lt_of_block h.book) (by omega)).trans h.book, (hf.block _ (lt_of_block h.box) (by omega)).trans h.box, sp.its hf h.its, PF.fr h.xg hf (by omega), h.fr.trans' hf (fun k hk e => by omega), fun k o hk2 => ?_⟩
  rcases List.mem_cons.1 hk2 with e | e
  · injection e with e1 e2
    subst e1; subst e2
    exact ⟨set_two hc, hg⟩
  · have := hk k o e
    obtain ⟨h1, h2⟩ := h.old k o (List.mem_cons_of_mem _ e)
    exact ⟨(hf.block k (lt_of_block h1) (by omega)).trans h1, h2⟩
theorem Sw.old_lt (h : Sw w wx bb xb s s2 vl vp vm B ks) : ∀ k o, (k, o) ∈ ks → k < wx.heap.size := fun k o hk => lt_of_block (h.old k o hk).1
end

theorem push_snoc (p : List (List It)) (L : List It) : ∃ q, push p L = q ++ [L] := by
  unfold push
  split
  · rename_i h
    cases p with
    | nil => simp at h
    | cons a p => exact ⟨p, rfl⟩
  · exact ⟨p, rfl⟩
theorem push_push (p : List (List It)) (L M : List It) : ∃ q, push (push p L) M = (q ++ [L]) ++ [M] := by
  obtain ⟨q, hq⟩ := push_snoc p L
  rw [hq]
  unfold push
  split
  · rename_i h
    cases q with
    | nil => simp at h
    | cons a q => exact ⟨q, rfl⟩
  · exact ⟨q, rfl⟩

/-- what swapped leaves -/
def SwPost (_ xb : Nat) (s : St) (w : World) : Ending → World → Prop := fun e w' => e = .returned (.bool true) ∧ ∃ s', Ok s' ∧ s'.L = s.L ∧ s'.n = s.n ∧ XG w' xb s' ∧ Fr (fun k => k = xb) w w'

end Go.Proofs.Ytnnnleckoinjoaa

/- What comes for an edge, or goes for it. -/
namespace Go.Proofs.Ytnnnleckoinjoaa
open Go.RowKit
open Pl (It)

/-- behind a call that only asks, in a region that draws its order -/
theorem Sw.ask {w wx wy : World} {bb xb : Nat} {s s2 : St} {vl vp vm : Value} {B : Obj} {ks : List (Nat × Obj)} (h : Sw w wx bb xb s s2 vl vp vm B ks) (hB : Below wx.drew.heap.size wx.drew wy) : Sw w wy bb xb s s2 vl vp vm B ks := h.later (Below.undrew hB)

section
variable (bb xb : Nat) (s : St) (hs : BOk s) (x : It) (hx : x ∈ s.L) (w : World) (vl vp vm : Value) (hb : w.heap[bb]? = some (bko xb s.n vl vp vm)) (hI : Its w 0 vl s.L) (hX : XG w xb s) (hne : bb ≠ xb)

theorem sw_start (hb : w.heap[bb]? = some (bko xb s.n vl vp vm)) (hI : Its w 0 vl s.L) (hX : XG w xb s) (hne : bb ≠ xb) : Sw w (w.alloc (ito x)) bb xb s s vl vp vm (ito x) [] :=
  ⟨lt_of_block hb, (PF.row hX).lt, hne, (Below.heap_alloc _ _ _ (lt_of_block hb)).trans hb, heap_alloc_new _ _, World.ownsRow.alloc hI _, PF.alloc hX _, (Fr.refl _ _).alloc _, fun k o hk => by cases hk⟩

/-- asked ahead of all: Other and InForest -/
theorem sw_asks (hs : BOk s) (hx : x ∈ s.L) (o : Int) (ho : o = if Pl.keeps s.L x then Pl.only (Pl.forest (Pl.withoutI s.L x.id)) (Pl.forest s.L) else Pl.midI s.L x.u x.v) :
    (∀ W, XG W xb s → Calls Try.prog 22 #[P0 xb, .int .i64 x.id] W fun e w' => e = .returned (.tuple #[.int .i64 o, .int .i64 0]) ∧ Below W.heap.size W w') ∧
    (∀ W, XG W xb s → Calls Try.prog 43 #[P0 xb, .int .i64 x.id] W fun e w' => e = .returned (.tuple #[.bool (Pl.keeps s.L x), .int .i64 0]) ∧ Below W.heap.size W w') :=
  ⟨fun W hW => by rw [ho]; exact otherp_ok xb s x hx W hW hs.ok, fun W hW => inp_ok xb _ _ _ _ s.L x hx W hW.pg hs.ok.gl hs.ok.l100 hs.ok.n30 hs.ok.ends⟩

set_option maxRecDepth 100000 in
set_option maxHeartbeats 4000000 in
theorem swapped_in (hs : BOk s) (hx : x ∈ s.L) (hk : Pl.keeps s.L x = true) (hb : w.heap[bb]? = some (bko xb s.n vl vp vm)) (hI : Its w 0 vl s.L) (hX : XG w xb s) (hne : bb ≠ xb) :
    Calls Try.prog 23 #[P0 bb, itv x] w (SwPost bb xb s w) := by
  obtain ⟨o, ho⟩ : ∃ o, o = Pl.only (Pl.forest (Pl.withoutI s.L x.id)) (Pl.forest s.L) := ⟨_, rfl⟩
  obtain ⟨hO, hF⟩ := sw_asks xb s x hs hx o (by rw [hk]; exact ho)
  rw [hk] at hF
  obtain ⟨i0, i1⟩ := hs.ok.gl.rng x hx
  obtain ⟨i, hi⟩ := Int.eq_ofNat_of_zero_le i0
  have hh : Pl.has s.L (i : Int) = true := by rw [← hi]; exact Pl.has_iff.2 ⟨x, hx, rfl⟩
  have hnb : Pl.numB (i : Int) = true := Pl.numB_true.2 (by omega)
  have hsD := hs.ok.del i hnb hh
  obtain ⟨q, hq⟩ := push_snoc s.past s.L
  obtain ⟨s', ok', hL', _, hn', _, hU⟩ := undoX_ok hsD (q := q) (l := s.L) hq
  have hgt := Pl.goes_told hs.ok.gl.ids hx hk
  have hD : ∀ W, XG W xb s → Calls Try.prog 21 #[P0 xb, .int .i64 x.id] W fun e w'' => e = .returned (.tuple #[.agg #[.int .i64 o, .int .i64 x.id], .int .i64 0]) ∧ XG w'' xb (delSt s i) ∧ Fr (fun k => k = xb) W w'' := fun W hW => by
    have := delX_ok hs.ok i hnb hh W xb hW
    rw [← hi, hgt, ← ho] at this
    exact this
  have hU' : ∀ W, XG W xb (delSt s i) → Calls Try.prog 46 #[P0 xb] W fun e w'' => e = .returned (.tuple #[.agg #[.int .i64 x.id, .int .i64 o], .int .i64 0]) ∧ XG w'' xb s' ∧ Fr (fun k => k = xb) W w'' := fun W hW => by
    have := hU W xb hW
    have e1 : (delSt s i).L = Pl.withoutI s.L i := rfl
    rw [e1, ← hi, hgt, ← ho] at this
    exact this
  have HO := hide hO
  have HF := hide hF
  have HD := hide hD
  have HU := hide hU'
  have HE := hide (And.intro ok' (And.intro hL' hn'))
  have hS0 := sw_start bb xb s x w vl vp vm hb hI hX hne
  have H0 := hide hS0
  obtain ⟨c0, _, _, _, _, _, _⟩ := six_cells6 hS0.book
  obtain ⟨x0, x1, x2, x3, _⟩ := four_cells hS0.box
  have hbl := lt_of_block hb
  clear hO hF hD hU hU' ok' hL' hn' hS0 hb hI hX hh hnb hsD hq hgt ho i0 i1 hk hi
  go_enter Try.func23, Try.ntmps23
  go_upto_region 1 with fail
  generalize w.alloc (ito x) = W0 at *
  have A1 : Hid (∀ w2, Below W0.drew.heap.size W0.drew w2 → Sw w w2 bb xb s s vl vp vm (ito x) []) := fun w2 hb => (unhide H0).ask hb
  go_region_held3 (fun w' => w'.cell? ⟨bb, 0, none⟩ = some (P0 xb) ∧ w'.cell? ⟨w.heap.size, 0, none⟩ = some (.int .i64 x.id))
    (first | (refine ⟨?_, ?_⟩ <;> assumption) | (go_keep; done))
    (first
      | (go_at_call 22; refine ((unhide HO) _ (by exact PF.drew (unhide H0).xg)).mono ?_; rintro e w1 ⟨rfl, hb1⟩; have q := (unhide A1) w1 hb1; have r := six_cells6 q.book; obtain ⟨r0, _, _, _, _, _, _⟩ := r; have t := four_cells q.box; obtain ⟨t0, t1, t2, t3, _⟩ := t; have H1 := hide q; clear q hb1))
  clear A1 H0 HO c0 x0 x1 x2 x3
  go_wp2_with fail
  have A1 : Hid (∀ w2, Below w1.drew.heap.size w1.drew w2 → Sw w w2 bb xb s s vl vp vm (ito x) []) := fun w2 hb => (unhide H1).ask hb
  go_region_held3 (fun w' => w'.cell? ⟨bb, 0, none⟩ = some (P0 xb) ∧ w'.cell? ⟨w.heap.size, 0, none⟩ = some (.int .i64 x.id))
    (first | (refine ⟨?_, ?_⟩ <;> assumption) | (go_keep; done))
    (first
      | (go_at_call 43; refine ((unhide HF) _ (by exact PF.drew (unhide H1).xg)).mono ?_; rintro e w2 ⟨rfl, hb2⟩; have q := (unhide A1) w2 hb2; have r := six_cells6 q.book; obtain ⟨s0, _, _, _, _, _, _⟩ := r; have t := four_cells q.box; obtain ⟨y0, y1, y2, y3, _⟩ := t; have H2 := hide q; clear q hb2))
  clear A1 H1 HF r0 t0 t1 t2 t3
  have hbl2 := lt_of_block (unhide H2).book
  have hwl2 := lt_of_block (unhide H2).box
  have n1 : ¬ bb = w2.heap.size := by omega
  have n2 : ¬ w2.heap.size = bb := by omega
  have n3 : ¬ w.heap.size = w2.heap.size := by omega
  have n4 : ¬ w2.heap.size = w.heap.size := by omega
  have A1 : Hid (∀ w3, XG w3 xb (delSt s i) → Fr (fun k => k = xb) w2.drew w3 → Sw w w3 bb xb s (delSt s i) vl vp vm (ito x) []) := fun w3 a b => (unhide H2).first a b
  have A2 : Hid (∀ w3, XG w3 xb (delSt s i) → Fr (fun k => k = xb) (w2.alloc (.cells #[.int .i64 0, .int .i64 0] 50)).drew w3 → Sw w w3 bb xb s (delSt s i) vl vp vm (ito x) [(w2.heap.size, .cells #[.int .i64 0, .int .i64 0] 50 (0, 0))]) := fun w3 a b => (unhide H2).second a b
  go_upto_region 6 with fail
  go_cut [9, 10] (fun p q wx => ∃ gc, p = .pointer (some ⟨gc, 0, none⟩) ∧ q = .int .i64 0 ∧ Sw w wx bb xb s (delSt s i) vl vp vm (ito x) [(gc, .cells #[.int .i64 o, .int .i64 x.id] 50 (0, 0))])
  case first =>
    go_region_held3 (fun w' => w'.cell? ⟨bb, 0, none⟩ = some (P0 xb) ∧ w'.cell? ⟨w.heap.size, 0, none⟩ = some (.int .i64 x.id))
      (first | (refine ⟨?_, ?_⟩ <;> assumption) | (go_keep; done) | (go_split_ands; refine ⟨?_, ?_⟩ <;> (first | assumption | simp [*])))
      (first
        | (go_at_call 21; refine ((unhide HD) _ (by exact PF.drew (unhide H2).xg)).mono ?_; rintro e w3 ⟨rfl, hx3, hf3⟩; have q := (unhide A1) w3 hx3 hf3; have r := six_cells6 q.book; obtain ⟨r0, _, _, _, _, _, _⟩ := r; have t := four_cells q.box; obtain ⟨t0, t1, t2, t3, _⟩ := t; have hbl3 := lt_of_block q.book; have hwl3 := lt_of_block q.box; have m1 : ¬ bb = w3.heap.size := (by omega); have m2 : ¬ w3.heap.size = bb := (by omega); have m3 : ¬ w.heap.size = w3.heap.size := (by omega); have m4 : ¬ w3.heap.size = w.heap.size := (by omega); have H3 := hide q; clear hx3 hf3 q)
        | (go_at_call 21; refine ((unhide HD) _ (by exact PF.drew (PF.alloc (unhide H2).xg _))).mono ?_; rintro e w3 ⟨rfl, hx3, hf3⟩; have q := (unhide A2) w3 hx3 hf3; have r := six_cells6 q.book; obtain ⟨r0, _, _, _, _, _, _⟩ := r; have t := four_cells q.box; obtain ⟨t0, t1, t2, t3, _⟩ := t; have qv := (q.old _ _ (List.mem_cons_self ..)).1; have tv := two_cells qv; obtain ⟨z0, z1, zf⟩ := tv; have zf0 := zf 0; have zf1 := zf 1; have H3 := hide q; clear hx3 hf3 q qv zf))
    · go_wp2_with fail
      go_meet
      exact ⟨_, rfl, rfl, (unhide H3).new _⟩
    · go_wp2_with fail
      go_meet
      exact ⟨_, rfl, rfl, (unhide H3).put (fun k o h => by cases h)⟩
  case rest =>
    rename World => wa
    obtain ⟨gc, rfl, rfl, hS⟩ := hcut
    obtain ⟨d0, _, _, _, _, _, _⟩ := six_cells6 hS.book
    have H3 := hide hS
    clear hS A1 A2 H2 HD s0 y0 y1 y2 y3
    go_wp2_with fail
    refine ((unhide HU) _ (unhide H3).xg).mono ?_
    rintro e w4 ⟨rfl, hx4, hf4⟩
    have hS4 := (unhide H3).call hx4 hf4
    have hS5 := hS4.new (.cells #[.int .i64 x.id, .int .i64 o] 50)
    obtain ⟨a0, a1, _⟩ := two_cells (hS4.old _ _ (List.mem_cons_self ..)).1
    obtain ⟨y0, _, _, _, _⟩ := four_cells hS4.box
    have hgl := hS4.old_lt _ _ (List.mem_cons_self ..)
    have hwl := lt_of_block hS4.box
    have g1 : ¬ gc = w4.heap.size := by omega
    have g2 : ¬ w4.heap.size = gc := by omega
    have g3 : ¬ w.heap.size = w4.heap.size := by omega
    have g4 : ¬ w4.heap.size = w.heap.size := by omega
    have H5 := hide (And.intro hS5.xg hS5.fr)
    clear hx4 hf4 hS4 hS5 H3 HU d0
    go_wp2
    go_ret
    exact ⟨rfl, s', (unhide HE).1, (unhide HE).2.1, (unhide HE).2.2, (unhide H5).1, (unhide H5).2⟩
set_option maxRecDepth 100000 in
set_option maxHeartbeats 4000000 in
theorem swapped_loop (hs : BOk s) (hx : x ∈ s.L) (hk : Pl.keeps s.L x = false) (huv : x.u = x.v) (hb : w.heap[bb]? = some (bko xb s.n vl vp vm)) (hI : Its w 0 vl s.L) (hX : XG w xb s) (hne : bb ≠ xb) :
    Calls Try.prog 23 #[P0 bb, itv x] w (SwPost bb xb s w) := by
  obtain ⟨hO, hF⟩ := sw_asks xb s x hs hx (-1) (by rw [hk, huv, Pl.mid_same]; rfl)
  rw [hk] at hF
  have HO := hide hO
  have HF := hide hF
  have HOK := hide hs.ok
  have hS0 := sw_start bb xb s x w vl vp vm hb hI hX hne
  have H0 := hide hS0
  obtain ⟨c0, _, _, _, _, _, _⟩ := six_cells6 hS0.book
  obtain ⟨x0, x1, x2, x3, _⟩ := four_cells hS0.box
  have hbl := lt_of_block hb
  have HUV := hide huv
  clear hO hF hS0 hb hI hX hk huv
  go_enter Try.func23, Try.ntmps23
  go_upto_region 1 with fail
  generalize w.alloc (ito x) = W0 at *
  have A1 : Hid (∀ w2, Below W0.drew.heap.size W0.drew w2 → Sw w w2 bb xb s s vl vp vm (ito x) []) := fun w2 hb => (unhide H0).ask hb
  go_region_held3 (fun w' => w'.cell? ⟨bb, 0, none⟩ = some (P0 xb) ∧ w'.cell? ⟨w.heap.size, 0, none⟩ = some (.int .i64 x.id))
    (first | (refine ⟨?_, ?_⟩ <;> assumption) | (go_keep; done))
    (first
      | (go_at_call 22; refine ((unhide HO) _ (by exact PF.drew (unhide H0).xg)).mono ?_; rintro e w1 ⟨rfl, hb1⟩; have q := (unhide A1) w1 hb1; have r := six_cells6 q.book; obtain ⟨r0, _, _, _, _, _, _⟩ := r; have t := four_cells q.box; obtain ⟨t0, t1, t2, t3, _⟩ := t; have H1 := hide q; clear q hb1))
  clear A1 H0 HO c0 x0 x1 x2 x3
  go_wp2_with fail
  have A1 : Hid (∀ w2, Below w1.drew.heap.size w1.drew w2 → Sw w w2 bb xb s s vl vp vm (ito x) []) := fun w2 hb => (unhide H1).ask hb
  go_region_held3 (fun w' => w'.cell? ⟨bb, 0, none⟩ = some (P0 xb) ∧ w'.cell? ⟨w.heap.size, 0, none⟩ = some (.int .i64 x.id))
    (first | (refine ⟨?_, ?_⟩ <;> assumption) | (go_keep; done))
    (first
      | (go_at_call 43; refine ((unhide HF) _ (by exact PF.drew (unhide H1).xg)).mono ?_; rintro e w2 ⟨rfl, hb2⟩; have q := (unhide A1) w2 hb2; have r := six_cells6 q.book; obtain ⟨s0, _, _, _, _, _, _⟩ := r; have t := four_cells q.box; obtain ⟨y0, y1, y2, y3, _⟩ := t; have H2 := hide q; clear q hb2))
  clear A1 H1 HF r0 t0 t1 t2 t3
  have huv := unhide HUV
  have H3 := hide (And.intro (unhide H2).xg (unhide H2).fr)
  rw [huv] at y1
  clear H2 s0 huv
  go_wp2
  go_ret
  exact ⟨rfl, s, unhide HOK, rfl, rfl, (unhide H3).1, (unhide H3).2⟩

end

end Go.Proofs.Ytnnnleckoinjoaa

/- What goes for an edge outside the forest. -/
namespace Go.Proofs.Ytnnnleckoinjoaa
open Go.RowKit
open Pl (It)

section
variable (bb xb : Nat) (s : St) (x : It) (w : World) (vl vp vm : Value)

set_option maxRecDepth 100000 in
set_option maxHeartbeats 8000000 in
theorem swapped_out (hs : BOk s) (hx : x ∈ s.L) (hk : Pl.keeps s.L x = false) (huv : x.u ≠ x.v) (hb : w.heap[bb]? = some (bko xb s.n vl vp vm)) (hI : Its w 0 vl s.L) (hX : XG w xb s) (hne : bb ≠ xb) :
    Calls Try.prog 23 #[P0 bb, itv x] w (SwPost bb xb s w) := by
  have hcx : Pl.conn s.L x.u x.v = true := by
    have : Pl.conn (Pl.below s.L x) x.u x.v = true := by unfold Pl.keeps at hk; simpa using hk
    exact Pl.conn_mono (fun e he => (Pl.mem_below.1 he).1) this
  obtain ⟨y, hy⟩ := Pl.mid_ex hs.ok.gl.ids hcx huv
  obtain ⟨hO, hF⟩ := sw_asks xb s x hs hx y.id (by rw [hk, ← hy.is]; rfl)
  rw [hk] at hF
  have hlt := Pl.Mid.lighter hs.ok.gl.ids hx hk hy
  obtain ⟨i0, i1⟩ := hs.ok.gl.rng x hx
  obtain ⟨i, hi⟩ := Int.eq_ofNat_of_zero_le i0
  have hh : Pl.has s.L (i : Int) = true := by rw [← hi]; exact Pl.has_iff.2 ⟨x, hx, rfl⟩
  have hnb : Pl.numB (i : Int) = true := Pl.numB_true.2 (by omega)
  have hsD := hs.ok.del i hnb hh
  have hout := Pl.outside_told hs.ok.gl.ids hx hk
  obtain ⟨e0, e1, e2, e3⟩ := hs.ok.ends x hx
  have hvu : Pl.verB (delSt s i).n x.u = true := Pl.verB_true.2 ⟨e0, e1⟩
  have hvv : Pl.verB (delSt s i).n x.v = true := Pl.verB_true.2 ⟨e2, e3⟩
  have hno : Pl.has (delSt s i).L (i : Int) = false := Pl.without_has s.L i
  have hroom : (delSt s i).L.length < (delSt s i).most := Nat.lt_of_le_of_lt (Pl.without_len s.L i) hs.room
  obtain ⟨yw0, yw1⟩ := hs.ok.wb y hy.mem
  have hsI := hsD.ins i x.u x.v y.w hnb hvu hvv hno hroom yw0 yw1
  obtain ⟨q, hq⟩ := push_push s.past s.L (Pl.withoutI s.L i)
  obtain ⟨s4, ok4, hL4, hp4, hn4, _, hU1⟩ := undoX_ok hsI (q := q ++ [s.L]) (l := Pl.withoutI s.L i) hq
  obtain ⟨s5, ok5, hL5, _, hn5, _, hU2⟩ := undoX_ok ok4 (q := q) (l := s.L) hp4
  have hD : ∀ W, XG W xb s → Calls Try.prog 21 #[P0 xb, .int .i64 x.id] W fun e w'' => e = .returned (.tuple #[.agg #[.int .i64 (-1), .int .i64 (-1)], .int .i64 0]) ∧ XG w'' xb (delSt s i) ∧ Fr (fun k => k = xb) W w'' := fun W hW => by
    have := delX_ok hs.ok i hnb hh W xb hW
    rw [← hi, hout, Pl.only_self] at this
    exact this
  obtain ⟨oA, oR, hAR, hIn⟩ : ∃ oA oR : Int, ((x.id < y.id ∧ oA = x.id ∧ oR = y.id) ∨ (¬ x.id < y.id ∧ oA = -1 ∧ oR = -1)) ∧ ∀ W, XG W xb (delSt s i) → Calls Try.prog 20 #[P0 xb, .int .i64 x.id, .int .i64 x.u, .int .i64 x.v, .int .i64 y.w] W fun e w'' => e = .returned (.tuple #[.agg #[.int .i64 oA, .int .i64 oR], .int .i64 0]) ∧ XG w'' xb (insSt (delSt s i) i x.u x.v y.w) ∧ Fr (fun k => k = xb) W w'' := by
    have hins := fun W hW => insX_ok hsD i x.u x.v y.w hnb hvu hvv hno hroom W xb hW
    have eL : (delSt s i).L = Pl.withoutI s.L i := rfl
    rw [eL, ← hi] at hins
    by_cases hxy : x.id < y.id
    · obtain ⟨k1, k2⟩ := Pl.swap_comes hs.ok.gl.ids hx hk hy hxy
      rw [k1, k2] at hins
      exact ⟨x.id, y.id, Or.inl ⟨hxy, rfl, rfl⟩, hins⟩
    · have hyx : y.id < x.id := by
        have hne : y.id ≠ x.id := by
          intro e
          have := Pl.ids_inj hs.ok.gl.ids hy.mem hx e
          subst this
          rw [Pl.lighter_irr] at hlt; cases hlt
        omega
      have k1 := Pl.swap_stays hs.ok.gl.ids hx hk hy hyx
      rw [k1, Pl.only_self] at hins
      exact ⟨-1, -1, Or.inr ⟨hxy, rfl, rfl⟩, hins⟩
  obtain ⟨u1A, u1R, hU1'⟩ : ∃ a r : Int, ∀ W, XG W xb (insSt (delSt s i) i x.u x.v y.w) → Calls Try.prog 46 #[P0 xb] W fun e w'' => e = .returned (.tuple #[.agg #[.int .i64 a, .int .i64 r], .int .i64 0]) ∧ XG w'' xb s4 ∧ Fr (fun k => k = xb) W w'' := ⟨_, _, fun W hW => hU1 W xb hW⟩
  obtain ⟨u2A, u2R, hU2'⟩ : ∃ a r : Int, ∀ W, XG W xb s4 → Calls Try.prog 46 #[P0 xb] W fun e w'' => e = .returned (.tuple #[.agg #[.int .i64 a, .int .i64 r], .int .i64 0]) ∧ XG w'' xb s5 ∧ Fr (fun k => k = xb) W w'' := ⟨_, _, fun W hW => hU2 W xb hW⟩
  obtain ⟨al, cl, rfl⟩ := row_form hI
  have hAt : ∀ W, Its W 0 (.slice al s.L.length cl) s.L → Calls Try.prog 32 #[.slice al s.L.length cl, .int .i64 y.id] W fun e w' => ∃ (k : Nat) (hk : k < s.L.length), e = .returned (.int .i64 k) ∧ s.L[k] = y ∧ W = w' := fun W hW => by
    refine (at_any s.L y.id al cl W hW hs.ok.l100).mono ?_
    rintro e w' ⟨r, rfl, hf, rfl⟩
    obtain ⟨k, hk, rfl, he⟩ := find_mem hs.ok.gl.ids hy.mem hf
    exact ⟨k, hk, rfl, he, rfl⟩
  have hLi : ∀ W, Calls Try.prog 47 #[.agg #[.int .i64 y.id, .int .i64 y.u, .int .i64 y.v, .int .i64 y.w], .agg #[.int .i64 x.id, .int .i64 x.u, .int .i64 x.v, .int .i64 x.w]] W fun e w' => e = .returned (.bool true) ∧ Below W.heap.size W w' := fun W => by
    have := klighter_any y x W
    rw [hlt] at this
    exact this
  have HO := hide hO
  have HF := hide hF
  have HD := hide hD
  have HIn := hide hIn
  have HU1 := hide hU1'
  have HU2 := hide hU2'
  have HAT := hide hAt
  have HLI := hide hLi
  have HAR := hide hAR
  have HE := hide (And.intro ok5 (And.intro hL5 (And.intro hn5 hn4)))
  have hS0 := sw_start bb xb s x w _ vp vm hb hI hX hne
  have H0 := hide hS0
  obtain ⟨c0, _, _, _, _, _, _⟩ := six_cells6 hS0.book
  obtain ⟨x0, x1, x2, x3, _⟩ := four_cells hS0.box
  have hbl := lt_of_block hb
  have huv' : (x.u == x.v) = false := by simpa using huv
  clear hO hF hD hIn hU1 hU2 hU1' hU2' hAt hLi hAR ok4 ok5 hL4 hL5 hp4 hn4 hn5 hS0 hb hI hX hh hnb hsD hsI hq hout hk hcx hy hlt i0 i1 hi e0 e1 e2 e3 hvu hvv hno hroom yw0 yw1
  go_enter Try.func23, Try.ntmps23
  go_upto_region 1 with fail
  generalize w.alloc (ito x) = W0 at *
  have A1 : Hid (∀ w2, Below W0.drew.heap.size W0.drew w2 → Sw w w2 bb xb s s (.slice al s.L.length cl) vp vm (ito x) []) := fun w2 hb => (unhide H0).ask hb
  go_region_held3 (fun w' => w'.cell? ⟨bb, 0, none⟩ = some (P0 xb) ∧ w'.cell? ⟨w.heap.size, 0, none⟩ = some (.int .i64 x.id))
    (first | (refine ⟨?_, ?_⟩ <;> assumption) | (go_keep; done))
    (first
      | (go_at_call 22; refine ((unhide HO) _ (by exact PF.drew (unhide H0).xg)).mono ?_; rintro e w1 ⟨rfl, hb1⟩; have q := (unhide A1) w1 hb1; have r := six_cells6 q.book; obtain ⟨r0, _, _, _, _, _, _⟩ := r; have t := four_cells q.box; obtain ⟨t0, t1, t2, t3, _⟩ := t; have H1 := hide q; clear q hb1))
  clear A1 H0 HO c0 x0 x1 x2 x3
  go_wp2_with fail
  have A1 : Hid (∀ w2, Below w1.drew.heap.size w1.drew w2 → Sw w w2 bb xb s s (.slice al s.L.length cl) vp vm (ito x) []) := fun w2 hb => (unhide H1).ask hb
  go_region_held3 (fun w' => w'.cell? ⟨bb, 0, none⟩ = some (P0 xb) ∧ w'.cell? ⟨w.heap.size, 0, none⟩ = some (.int .i64 x.id))
    (first | (refine ⟨?_, ?_⟩ <;> assumption) | (go_keep; done))
    (first
      | (go_at_call 43; refine ((unhide HF) _ (by exact PF.drew (unhide H1).xg)).mono ?_; rintro e w2 ⟨rfl, hb2⟩; have q := (unhide A1) w2 hb2; have r := six_cells6 q.book; obtain ⟨s0, _, s2, _, _, _, _⟩ := r; have t := four_cells q.box; obtain ⟨y0, y1, y2, y3, _⟩ := t; have H2 := hide q; clear q hb2))
  clear A1 H1 HF r0 t0 t1 t2 t3
  have hbl2 := lt_of_block (unhide H2).book
  have hwl2 := lt_of_block (unhide H2).box
  go_wp2_with fail
  refine ((unhide HAT) _ (unhide H2).its).mono ?_
  rintro e w3 ⟨k, hkl, rfl, hky, rfl⟩
  obtain ⟨g, rfl⟩ := row_some (unhide H2).its (by omega)
  have hcells : ∀ W sX ks, Sw w W bb xb s sX (.slice (some ⟨g, 0, none⟩) s.L.length cl) vp vm (ito x) ks → W.cell? ⟨bb, 0, none⟩ = some (P0 xb) ∧ W.cell? ⟨bb, 2, none⟩ = some (.slice (some ⟨g, 0, none⟩) s.L.length cl) ∧ W.cell? ⟨w.heap.size, 0, none⟩ = some (.int .i64 x.id) ∧ W.cell? ⟨w.heap.size, 1, none⟩ = some (.int .i64 x.u) ∧ W.cell? ⟨w.heap.size, 2, none⟩ = some (.int .i64 x.v) ∧ W.cell? ⟨w.heap.size, 3, none⟩ = some (.int .i64 x.w) ∧ W.cell? ⟨g, k * 4, none⟩ = some (.int .i64 y.id) ∧ W.cell? ⟨g, k * 4 + 1, none⟩ = some (.int .i64 y.u) ∧ W.cell? ⟨g, k * 4 + 2, none⟩ = some (.int .i64 y.v) ∧ W.cell? ⟨g, k * 4 + 3, none⟩ = some (.int .i64 y.w) ∧ bb < W.heap.size ∧ w.heap.size < W.heap.size ∧ g < W.heap.size := by
    intro W sX ks h
    obtain ⟨a0, _, a2, _, _, _, _⟩ := six_cells6 h.book
    obtain ⟨b0, b1, b2, b3, _⟩ := four_cells h.box
    obtain ⟨z0, z1, z2, z3⟩ := its_cells h.its k hkl
    rw [hky] at z0 z1 z2 z3
    exact ⟨a0, a2, b0, b1, b2, b3, z0, z1, z2, z3, lt_of_block h.book, lt_of_block h.box, (World.ownsRow.lt h.its g rfl).2⟩
  have HCE := hide hcells
  obtain ⟨_, _, _, _, _, _, z0, z1, z2, z3, _, _, hgl2⟩ := hcells _ _ _ (unhide H2)
  have hk0 : (0 : Int) ≤ k := by omega
  have hk1 : (k : Int) < s.L.length := by omega
  have hk2 : ¬ (k : Int) < 0 := by omega
  clear hcells hkl hky HAT
  have A3 : Hid (∀ w3, Below w2.drew.heap.size w2.drew w3 → Sw w w3 bb xb s s (.slice (some ⟨g, 0, none⟩) s.L.length cl) vp vm (ito x) []) := fun w3 hb => (unhide H2).ask hb
  go_upto_region 14 with fail
  go_region_held3 (fun w' => w'.cell? ⟨bb, 2, none⟩ = some (.slice (some ⟨g, 0, none⟩) s.L.length cl) ∧ w'.cell? ⟨w.heap.size, 0, none⟩ = some (.int .i64 x.id) ∧ w'.cell? ⟨w.heap.size, 1, none⟩ = some (.int .i64 x.u) ∧ w'.cell? ⟨w.heap.size, 2, none⟩ = some (.int .i64 x.v) ∧ w'.cell? ⟨w.heap.size, 3, none⟩ = some (.int .i64 x.w) ∧ w'.cell? ⟨g, k * 4, none⟩ = some (.int .i64 y.id) ∧ w'.cell? ⟨g, k * 4 + 1, none⟩ = some (.int .i64 y.u) ∧ w'.cell? ⟨g, k * 4 + 2, none⟩ = some (.int .i64 y.v) ∧ w'.cell? ⟨g, k * 4 + 3, none⟩ = some (.int .i64 y.w))
    (first | (refine ⟨?_, ?_, ?_, ?_, ?_, ?_, ?_, ?_, ?_⟩ <;> assumption) | (go_keep; done))
    (first
      | (go_at_call 47; refine ((unhide HLI) _).mono ?_; rintro e w3 ⟨rfl, hb3⟩; have q := (unhide A3) w3 hb3; have r := (unhide HCE) _ _ _ q; obtain ⟨a0, a2, b0, b1, b2, b3, d0, d1, d2, d3, hbl3, hwl3, hgl3⟩ := r; have H3 := hide q; clear q hb3))
  clear A3 H2 HLI s0 s2 y0 y1 y2 y3 z0 z1 z2 z3 hgl2 hbl2 hwl2
  have n1 : ¬ bb = w3.heap.size := by omega
  have n2 : ¬ w3.heap.size = bb := by omega
  have n3 : ¬ w.heap.size = w3.heap.size := by omega
  have n4 : ¬ w3.heap.size = w.heap.size := by omega
  have A1 : Hid (∀ w4, XG w4 xb (delSt s i) → Fr (fun k => k = xb) w3.drew w4 → Sw w w4 bb xb s (delSt s i) (.slice (some ⟨g, 0, none⟩) s.L.length cl) vp vm (ito x) []) := fun w4 a b => (unhide H3).first a b
  have A2 : Hid (∀ w4, XG w4 xb (delSt s i) → Fr (fun k => k = xb) (w3.alloc (.cells #[.int .i64 0, .int .i64 0] 50)).drew w4 → Sw w w4 bb xb s (delSt s i) (.slice (some ⟨g, 0, none⟩) s.L.length cl) vp vm (ito x) [(w3.heap.size, .cells #[.int .i64 0, .int .i64 0] 50 (0, 0))]) := fun w4 a b => (unhide H3).second a b
  go_upto_region 15 with fail
  go_cut [15, 16] (fun p q wx => ∃ gc, p = .pointer (some ⟨gc, 0, none⟩) ∧ q = .int .i64 0 ∧ Sw w wx bb xb s (delSt s i) (.slice (some ⟨g, 0, none⟩) s.L.length cl) vp vm (ito x) [(gc, .cells #[.int .i64 (-1), .int .i64 (-1)] 50 (0, 0))])
  case first =>
    go_region_held3 (fun w' => w'.cell? ⟨bb, 0, none⟩ = some (P0 xb) ∧ w'.cell? ⟨w.heap.size, 0, none⟩ = some (.int .i64 x.id))
      (first | (refine ⟨?_, ?_⟩ <;> assumption) | (go_keep; done) | (go_split_ands; refine ⟨?_, ?_⟩ <;> (first | assumption | simp [*])))
      (first
        | (go_at_call 21; refine ((unhide HD) _ (by exact PF.drew (unhide H3).xg)).mono ?_; rintro e w4 ⟨rfl, hx4, hf4⟩; have q := (unhide A1) w4 hx4 hf4; have r := (unhide HCE) _ _ _ q; obtain ⟨r0, _, t0, _, _, _, _, _, _, _, hbl4, hwl4, _⟩ := r; have m1 : ¬ bb = w4.heap.size := (by omega); have m2 : ¬ w4.heap.size = bb := (by omega); have m3 : ¬ w.heap.size = w4.heap.size := (by omega); have m4 : ¬ w4.heap.size = w.heap.size := (by omega); have H4 := hide q; clear hx4 hf4 q)
        | (go_at_call 21; refine ((unhide HD) _ (by exact PF.drew (PF.alloc (unhide H3).xg _))).mono ?_; rintro e w4 ⟨rfl, hx4, hf4⟩; have q := (unhide A2) w4 hx4 hf4; have r := (unhide HCE) _ _ _ q; obtain ⟨r0, _, t0, _, _, _, _, _, _, _, hbl4, hwl4, _⟩ := r; have qv := (q.old _ _ (List.mem_cons_self ..)).1; have tv := two_cells qv; obtain ⟨v0, v1, vf⟩ := tv; have vf0 := vf 0; have vf1 := vf 1; have H4 := hide q; clear hx4 hf4 q qv vf))
    · go_wp2_with fail
      go_meet
      exact ⟨_, rfl, rfl, (unhide H4).new _⟩
    · go_wp2_with fail
      go_meet
      exact ⟨_, rfl, rfl, (unhide H4).put (fun k o h => by cases h)⟩
  case rest =>
    rename World => wa
    obtain ⟨gc, rfl, rfl, hS⟩ := hcut
    have r := (unhide HCE) _ _ _ hS
    clear a0 a2 b0 b1 b2 b3 d0 d1 d2 d3 A1 A2 H3 HD n1 n2 n3 n4 hbl3 hwl3 hgl3
    obtain ⟨a0, a2, b0, b1, b2, b3, _, _, _, d3, hbla, hwla, hgla⟩ := r
    have hgca := hS.old_lt _ _ (List.mem_cons_self ..)
    have n1 : ¬ bb = wa.heap.size := by omega
    have n2 : ¬ wa.heap.size = bb := by omega
    have n3 : ¬ w.heap.size = wa.heap.size := by omega
    have n4 : ¬ wa.heap.size = w.heap.size := by omega
    have n5 : ¬ g = wa.heap.size := by omega
    have n6 : ¬ wa.heap.size = g := by omega
    have H3 := hide hS
    have A1 : Hid (∀ w4, XG w4 xb (insSt (delSt s i) i x.u x.v y.w) → Fr (fun k => k = xb) wa.drew w4 → Sw w w4 bb xb s (insSt (delSt s i) i x.u x.v y.w) (.slice (some ⟨g, 0, none⟩) s.L.length cl) vp vm (ito x) [(gc, .cells #[.int .i64 (-1), .int .i64 (-1)] 50 (0, 0))]) := fun w4 a b => (unhide H3).first a b
    have A2 : Hid (∀ w4, XG w4 xb (insSt (delSt s i) i x.u x.v y.w) → Fr (fun k => k = xb) (wa.alloc (.cells #[.int .i64 0, .int .i64 0] 50)).drew w4 → Sw w w4 bb xb s (insSt (delSt s i) i x.u x.v y.w) (.slice (some ⟨g, 0, none⟩) s.L.length cl) vp vm (ito x) [(wa.heap.size, .cells #[.int .i64 0, .int .i64 0] 50 (0, 0)), (gc, .cells #[.int .i64 (-1), .int .i64 (-1)] 50 (0, 0))]) := fun w4 a b => (unhide H3).second a b
    clear hS
    go_upto_region 16 with fail
    go_cut [17, 18] (fun p q wx => ∃ gd, p = .pointer (some ⟨gd, 0, none⟩) ∧ q = .int .i64 0 ∧ gc < gd ∧ Sw w wx bb xb s (insSt (delSt s i) i x.u x.v y.w) (.slice (some ⟨g, 0, none⟩) s.L.length cl) vp vm (ito x) [(gd, .cells #[.int .i64 oA, .int .i64 oR] 50 (0, 0)), (gc, .cells #[.int .i64 (-1), .int .i64 (-1)] 50 (0, 0))])
    case first =>
      go_region_held3 (fun w' => w'.cell? ⟨bb, 0, none⟩ = some (P0 xb) ∧ w'.cell? ⟨bb, 2, none⟩ = some (.slice (some ⟨g, 0, none⟩) s.L.length cl) ∧ w'.cell? ⟨w.heap.size, 0, none⟩ = some (.int .i64 x.id) ∧ w'.cell? ⟨w.heap.size, 1, none⟩ = some (.int .i64 x.u) ∧ w'.cell? ⟨w.heap.size, 2, none⟩ = some (.int .i64 x.v) ∧ w'.cell? ⟨g, k * 4 + 3, none⟩ = some (.int .i64 y.w))
        (first | (refine ⟨?_, ?_, ?_, ?_, ?_, ?_⟩ <;> assumption) | (go_keep; done) | (go_split_ands; refine ⟨?_, ?_, ?_, ?_, ?_, ?_⟩ <;> (first | assumption | simp [*])))
        (first
          | (go_at_call 20; refine ((unhide HIn) _ (by exact PF.drew (unhide H3).xg)).mono ?_; rintro e w4 ⟨rfl, hx4, hf4⟩; have q := (unhide A1) w4 hx4 hf4; have r := (unhide HCE) _ _ _ q; obtain ⟨r0, r2, t0, t1, t2, t3, _, _, _, v3, hbl4, hwl4, hgl4⟩ := r; have hgc4 := q.old_lt _ _ (List.mem_cons_self ..); have m1 : ¬ bb = w4.heap.size := (by omega); have m2 : ¬ w4.heap.size = bb := (by omega); have m3 : ¬ w.heap.size = w4.heap.size := (by omega); have m4 : ¬ w4.heap.size = w.heap.size := (by omega); have m5 : ¬ g = w4.heap.size := (by omega); have m6 : ¬ w4.heap.size = g := (by omega); have H4 := hide q; clear hx4 hf4 q)
          | (go_at_call 20; refine ((unhide HIn) _ (by exact PF.drew (PF.alloc (unhide H3).xg _))).mono ?_; rintro e w4 ⟨rfl, hx4, hf4⟩; have q := (unhide A2) w4 hx4 hf4; have r := (unhide HCE) _ _ _ q; obtain ⟨r0, r2, t0, t1, t2, t3, _, _, _, v3, hbl4, hwl4, hgl4⟩ := r; have qv := (q.old _ _ (List.mem_cons_self ..)).1; have tv := two_cells qv; obtain ⟨v0, v1, vf⟩ := tv; have vf0 := vf 0; have vf1 := vf 1; have H4 := hide q; clear hx4 hf4 q qv vf))
      · go_wp2_with fail
        go_meet
        exact ⟨_, rfl, rfl, hgc4, (unhide H4).new _⟩
      · go_wp2_with fail
        go_meet
        exact ⟨_, rfl, rfl, hgca, (unhide H4).put (fun k o h => by cases List.mem_singleton.1 h; exact hgca)⟩
    case rest =>
      rename World => wb
      obtain ⟨gd, rfl, rfl, hgd, hS⟩ := hcut
      clear a0 a2 b0 b1 b2 b3 d3 A1 A2 H3 HIn n1 n2 n3 n4 n5 n6 hbla hwla hgla hgca
      have hx0 := (hs.ok.gl.rng x hx).1
      have hxm : (x.id == -1) = false := by rw [beq_eq_false_iff_ne]; omega
      have HAR2 : Hid ((x.id < y.id ∧ oA = x.id ∧ oR = y.id) ∨ (¬ x.id < y.id ∧ oA = -1 ∧ oR = -1)) := by
        rcases unhide HAR with h | ⟨h, h2⟩
        · exact Or.inl h
        · exact Or.inr ⟨by omega, h2⟩
      obtain ⟨a0, _, b0, _, _, _, _, _, _, _, _, _, _⟩ := (unhide HCE) _ _ _ hS
      obtain ⟨p0, p1, _⟩ := two_cells (hS.old _ _ (List.mem_cons_self ..)).1
      have hu1 := (unhide HU1) _ hS.xg
      have A5 : Hid (∀ w5, XG w5 xb s4 → Fr (fun k => k = xb) wb w5 → Sw w (w5.alloc (.cells #[.int .i64 u1A, .int .i64 u1R] 50)) bb xb s s4 (.slice (some ⟨g, 0, none⟩) s.L.length cl) vp vm (ito x) [(w5.heap.size, .cells #[.int .i64 u1A, .int .i64 u1R] 50 (0, 0)), (gd, .cells #[.int .i64 oA, .int .i64 oR] 50 (0, 0)), (gc, .cells #[.int .i64 (-1), .int .i64 (-1)] 50 (0, 0))] ∧ bb < w5.heap.size) := fun w5 a b => ⟨(hS.call a b).new _, lt_of_block (hS.call a b).book⟩
      have A6 : Hid (∀ W w6, Sw w W bb xb s s4 (.slice (some ⟨g, 0, none⟩) s.L.length cl) vp vm (ito x) [(W.heap.size - 1, .cells #[.int .i64 u1A, .int .i64 u1R] 50 (0, 0)), (gd, .cells #[.int .i64 oA, .int .i64 oR] 50 (0, 0)), (gc, .cells #[.int .i64 (-1), .int .i64 (-1)] 50 (0, 0))] → XG w6 xb s5 → Fr (fun k => k = xb) W w6 → w6.cell? ⟨gc, 0, none⟩ = some (.int .i64 (-1)) ∧ w6.cell? ⟨gc, 1, none⟩ = some (.int .i64 (-1)) ∧ gc < w6.heap.size ∧ XG (w6.alloc (.cells #[.int .i64 u2A, .int .i64 u2R] 50)) xb s5 ∧ Fr (fun k => k = xb) w (w6.alloc (.cells #[.int .i64 u2A, .int .i64 u2R] 50))) := fun W w6 h a b => by
        have h6 := h.call a b
        have hm : (gc, Obj.cells #[.int .i64 (-1), .int .i64 (-1)] 50 (0, 0)) ∈ [(W.heap.size - 1, Obj.cells #[.int .i64 u1A, .int .i64 u1R] 50 (0, 0)), (gd, .cells #[.int .i64 oA, .int .i64 oR] 50 (0, 0)), (gc, .cells #[.int .i64 (-1), .int .i64 (-1)] 50 (0, 0))] := List.mem_cons_of_mem _ (List.mem_cons_of_mem _ (List.mem_cons_self ..))
        obtain ⟨k0, k1, _⟩ := two_cells (h6.old _ _ hm).1
        exact ⟨k0, k1, h6.old_lt _ _ hm, PF.alloc h6.xg _, h6.fr.alloc _⟩
      have HU := hide hu1
      clear hS hu1 HU1 HAR
      rcases unhide HAR2 with ⟨hxy, rfl, rfl⟩ | ⟨hxy, rfl, rfl⟩
      all_goals
        clear HAR2
        go_wp2_with fail
        refine (unhide HU).mono ?_
        rintro e w5 ⟨rfl, hx5, hf5⟩
        obtain ⟨hS5, hbl5⟩ := (unhide A5) w5 hx5 hf5
        obtain ⟨j0, _, _, _, _, _, _⟩ := six_cells6 hS5.book
        have hu2 := (unhide HU2) _ hS5.xg
        have A7 := hide (fun w6 => (unhide A6) (w5.alloc (.cells #[.int .i64 u1A, .int .i64 u1R] 50)) w6 (by rw [World.size_alloc, Nat.add_sub_cancel]; exact hS5))
        have HUb := hide hu2
        clear hx5 hf5 hS5 hu2 A5 A6 HU p0 p1 a0 b0
        go_wp2_with fail
        refine Calls.mono (by exact unhide HUb) ?_
        rintro e w6 ⟨rfl, hx6, hf6⟩
        obtain ⟨k0, k1, hgl6, hx7, hf7⟩ := (unhide A7) w6 hx6 hf6
        have m1 : ¬ gc = w6.heap.size := by omega
        have m2 : ¬ w6.heap.size = gc := by omega
        have H7 := hide (And.intro hx7 hf7)
        clear hx6 hf6 hx7 hf7 A7 HUb j0
        go_wp2
        go_ret
        obtain ⟨k5, k6, k7, k8⟩ := unhide HE
        exact ⟨rfl, s5, k5, k6, k7.trans k8, (unhide H7).1, (unhide H7).2⟩
end

end Go.Proofs.Ytnnnleckoinjoaa

/- The statement over Swapped. -/
namespace Go.Proofs.Ytnnnleckoinjoaa
open Go.RowKit
open Pl (It)

theorem swapped_all (bb xb : Nat) (s : St) (x : It) (w : World) (vl vp vm : Value) (hs : BOk s) (hx : x ∈ s.L) (hb : w.heap[bb]? = some (bko xb s.n vl vp vm)) (hI : Its w 0 vl s.L) (hX : XG w xb s) (hne : bb ≠ xb) :
    Calls Try.prog 23 #[P0 bb, itv x] w (SwPost bb xb s w) := by
  cases hk : Pl.keeps s.L x with
  | true => exact swapped_in bb xb s x w vl vp vm hs hx hk hb hI hX hne
  | false =>
    by_cases huv : x.u = x.v
    · exact swapped_loop bb xb s x w vl vp vm hs hx hk huv hb hI hX hne
    · exact swapped_out bb xb s x w vl vp vm hs hx hk huv hb hI hX hne

set_option maxRecDepth 100000 in
set_option maxHeartbeats 8000000 in
theorem swappedl_any (v0 : Int) (hv : R64 v0) (sa : Option Addr) (sb so len cap : Nat) (I : Nat → StT) (w : World) (hsa : 0 < len → sa = some ⟨sb, so, none⟩) (hsb : 0 < len → sb < w.heap.size) (hlen : len ≤ 9223372036854775807) (hc : ∀ j, j < len → StAt w sb (so + j * 5) (I j)) (wh : Int) (hwh : R64 wh) :
    Calls Try.prog 6 #[.int .i64 v0, .slice sa len cap, .int .i64 wh] w fun e w' => e = .returned (.bool true) ∧ Below w.heap.size w w' := by
  have HP := hide (played_any v0 hv sa sb so len cap I w hsa hsb hlen hc)
  clear hsa hsb hlen hc hv
  go_enter Try.func6, Try.ntmps6
  go_wp2_with fail
  refine (unhide HP).mono ?_
  rintro e w1 ⟨bb, xb, s, rfl, hbb, hxb, hs, hK, hB⟩
  clear HP
  obtain ⟨⟨vl, vp, vm, hb1, hI1, _, _⟩, hx1⟩ := id hK
  obtain ⟨al, cl, rfl⟩ := row_form hI1
  obtain ⟨c0, c1, c2, _, _, _, _⟩ := six_cells6 hb1
  have hbl := lt_of_block hb1
  have hl100 := hs.ok.l100
  have hne := hK.ne
  by_cases hl : s.L.length = 0
  · have hnil : s.L = [] := List.eq_nil_of_length_eq_zero hl
    have hp100 := pk_lt wh 100 (by omega)
    have HPk := hide (fun W => pick_any wh 100 (by omega) (by omega) hwh.1 hwh.2 W)
    have HOt : Hid (∀ W, XG W xb s → Calls Try.prog 22 #[P0 xb, .int .i64 (pk wh 100)] W fun e w' => e = .returned (.tuple #[.int .i64 0, .int .i64 6]) ∧ Below W.heap.size W w') := fun W hW =>
      otherp_no xb _ _ _ _ s.L (pk wh 100) W hW.pg hs.ok.gl 6 (Or.inr ⟨Pl.numB_true.2 (by omega), by rw [hnil]; rfl, rfl⟩)
    have H0 := hide (And.intro hx1 hB)
    have HLT : Hid (∀ w2, Below w1.drew.heap.size w1.drew w2 → w2.cell? ⟨bb, 0, none⟩ = some (P0 xb)) := fun w2 hb => ((Below.undrew hb).cell (p := ⟨bb, 0, none⟩) hbl).trans c0
    have hl0 : (s.L.length : Int) = 0 := by omega
    generalize pk wh 100 = pw at *
    clear hK hI1 hx1 hb1 hB hs hnil
    go_upto_region 5 with fail
    go_region_held3 (fun w' => w'.cell? ⟨bb, 0, none⟩ = some (P0 xb))
      (first | assumption | (go_keep; done))
      (first
        | (go_at_call 18; refine ((unhide HPk) _).mono ?_; rintro e w2 ⟨rfl, rfl⟩)
        | (go_at_call 22; refine ((unhide HOt) _ (by exact PF.drew (unhide H0).1)).mono ?_; rintro e w3 ⟨rfl, hb3⟩; have z := (unhide HLT) w3 hb3))
    have HB3 := hide ((unhide H0).2.trans ((Below.undrew hb3).mono (unhide H0).2.size))
    clear hb3 H0 HLT
    go_wp2
    go_ret
    exact ⟨rfl, unhide HB3⟩
  · obtain ⟨k, hk⟩ : ∃ k, k = pk wh s.L.length := ⟨_, rfl⟩
    have hkl : k < s.L.length := by rw [hk]; exact pk_lt wh s.L.length (by omega)
    have HPk : Hid (∀ W, Calls Try.prog 18 #[.int .i64 wh, .int .i64 s.L.length] W fun e w' => e = .returned (.int .i64 k) ∧ W = w') := fun W => by rw [hk]; exact pick_any wh s.L.length (by omega) (by omega) hwh.1 hwh.2 W
    obtain ⟨g, rfl⟩ := row_some hI1 (by omega)
    obtain ⟨y0, y1, y2, y3⟩ := its_cells hI1 k hkl
    have hgl := (World.ownsRow.lt hI1 g rfl).2
    obtain ⟨x, hx⟩ : ∃ x, x = s.L[k] := ⟨_, rfl⟩
    have hxm : x ∈ s.L := by rw [hx]; exact List.getElem_mem hkl
    rw [← hx] at y0 y1 y2 y3
    have hl0 : ¬ (s.L.length : Int) = 0 := by omega
    have hk0 : (0 : Int) ≤ k := by omega
    have hk1 : (k : Int) < s.L.length := by omega
    have n1 : ¬ bb = w1.heap.size := by omega
    have n2 : ¬ w1.heap.size = bb := by omega
    have n3 : ¬ g = w1.heap.size := by omega
    have n4 : ¬ w1.heap.size = g := by omega
    have H0 := hide (And.intro hK (And.intro hb1 (And.intro hI1 (And.intro hx1 (And.intro hB (And.intro hs hxm))))))
    clear hK hI1 hx1 hb1 hB hs hk hx hxm c0 c1
    go_upto_region 7 with fail
    go_cut [10] (fun p wx => p = .pointer (some ⟨w1.heap.size, 0, none⟩) ∧ wx.heap[w1.heap.size]? = some (ito x) ∧ Below w1.heap.size w1 wx)
    case first =>
      go_region_held3 (fun w' => w'.cell? ⟨bb, 2, none⟩ = some (.slice (some ⟨g, 0, none⟩) s.L.length cl) ∧ w'.cell? ⟨g, k * 4, none⟩ = some (.int .i64 x.id) ∧ w'.cell? ⟨g, k * 4 + 1, none⟩ = some (.int .i64 x.u) ∧ w'.cell? ⟨g, k * 4 + 2, none⟩ = some (.int .i64 x.v) ∧ w'.cell? ⟨g, k * 4 + 3, none⟩ = some (.int .i64 x.w))
        (first | (refine ⟨?_, ?_, ?_, ?_, ?_⟩ <;> assumption) | (go_keep; done) | (go_split_ands; refine ⟨?_, ?_, ?_, ?_, ?_⟩ <;> (first | assumption | simp [*])))
        (first
          | (go_at_call 18; refine ((unhide HPk) _).mono ?_; rintro e w2 ⟨rfl, rfl⟩))
      all_goals go_wp2_with fail
      all_goals go_meet
      all_goals exact ⟨rfl, heap_alloc_new _ _, ((Below.refl _ _).alloc (Nat.le_refl _) _).drew⟩
    case rest =>
      rename World => wx
      obtain ⟨rfl, hbx, hBx⟩ := hcut
      obtain ⟨hK, hb1, hI1, hx1, hB, hs, hxm⟩ := unhide H0
      obtain ⟨z0, z1, z2, z3, _⟩ := four_cells hbx
      have hbX := (hBx.block bb hbl).trans hb1
      have hIX := row_below hI1 hBx (Nat.le_refl _)
      have hXX : XG wx xb s := PF.later hx1 hBx (Nat.le_refl _)
      have HSW := hide (swapped_all bb xb s x wx _ vp vm hs hxm hbX hIX hXX hne)
      have HBX := hide (And.intro hbX (And.intro hIX (And.intro hXX (hB.trans (hBx.mono hB.size)))))
      have hbxl : w.heap.size ≤ xb := hxb
      clear hK hb1 hI1 hx1 hB hs hxm hbx hBx hbX hIX hXX H0 y0 y1 y2 y3 c2 HPk
      go_wp2_with fail
      refine Calls.mono (by exact unhide HSW) ?_
      rintro e w3 ⟨rfl, s', ok', hL', hn', hX3, hf3⟩
      obtain ⟨hbX, hIX, hXX, hBw⟩ := unhide HBX
      have hb3 := (hf3.block bb (lt_of_block hbX) hne).trans hbX
      have hI3 := (sp_x hXX).its hf3 hIX
      have hB3 : Below w.heap.size w w3 := hBw.trans ⟨hf3.os, hf3.tape, hf3.output, hf3.size, fun q hq => hf3.block q (by have := hBw.size; omega) (by omega)⟩
      have hl3 : Calls Try.prog 12 #[P0 bb] w3 fun e w' => e = .returned (.bool true) ∧ Below w3.heap.size w3 w' := by
        refine light_gen bb xb s' ok' w3 (.slice (some ⟨g, 0, none⟩) s.L.length cl) vp vm ?_ ?_ hX3
        · rw [hn']; exact hb3
        · rw [hL']; exact hI3
      have HL := hide hl3
      have HB3 := hide hB3
      clear hl3 hB3 hI3 hb3 hbX hIX hXX hBw hf3 hX3 hL' hn' ok' HSW HBX z0 z1 z2 z3
      go_wp2_with fail
      refine (unhide HL).mono ?_
      rintro e w4 ⟨rfl, hb4⟩
      have HB4 := hide ((unhide HB3).trans (hb4.mono (unhide HB3).size))
      clear hb4 HL HB3
      go_wp2
      go_ret
      exact ⟨rfl, unhide HB4⟩

end Go.Proofs.Ytnnnleckoinjoaa
