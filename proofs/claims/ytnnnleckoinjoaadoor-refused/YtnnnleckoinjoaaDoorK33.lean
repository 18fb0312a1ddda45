/- What is refused changes nothing that is told. -/
import Derived.Test.YtnnnleckoinjoaaDoorK31
import Derived.Test.YtnnnleckoinjoaaDoorK37
namespace Go.Proofs.YtnnnleckoinjoaaDoor
open Go.RowKit
open Pl (It)

/-- the book, the list that was told, the graph, while the graph alone changes -/
structure Rf (w W : World) (bb xb n : Nat) (vl vp vm va : Value) (D : List Int) (s2 : St) : Prop where
  ne : bb ≠ xb
  wb : w.heap.size ≤ bb
  wx : w.heap.size ≤ xb
  bk : W.heap[bb]? = some (bko xb n vl vp vm)
  nm : Nums W 0 va D
  xg : XG W xb s2
  be : Below w.heap.size w W
section
variable {w W W' : World} {bb xb n : Nat} {vl vp vm va : Value} {D : List Int} {s2 s3 : St}
theorem Rf.later (h : Rf w W bb xb n vl vp vm va D s2) (hB : Below W.heap.size W W') : Rf w W' bb xb n vl vp vm va D s2 :=
  ⟨h.ne, h.wb, h.wx, (hB.block bb (lt_of_block h.bk)).trans h.bk, row_below h.nm hB (Nat.le_refl _), PF.later h.xg hB (Nat.le_refl _), h.be.trans (hB.mono h.be.size)⟩
theorem Rf.call (h : Rf w W bb xb n vl vp vm va D s2) (hx : XG W' xb s3) (hf : Fr (fun k => k = xb) W W') : Rf w W' bb xb n vl vp vm va D s3 :=
  ⟨h.ne, h.wb, h.wx, (hf.block bb (lt_of_block h.bk) h.ne).trans h.bk, (sp_x h.xg).nums hf h.nm, hx,
    h.be.trans ⟨hf.os, hf.tape, hf.output, hf.size, fun k hk => hf.block k (by have := h.be.size; omega) (by have := h.wx; omega)⟩⟩
theorem Rf.put (h : Rf w W bb xb n vl vp vm va D s2) {gc : Nat} {cs : Array Value} (hc : W.heap[gc]? = some (.cells cs 47 (0, 0))) (hg : w.heap.size ≤ gc) (x y : Value) : Rf w ((W.setCell ⟨gc, 0, none⟩ x).setCell ⟨gc, 1, none⟩ y) bb xb n vl vp vm va D s2 := by
  have hf : Fr (fun k => k = gc) W ((W.setCell ⟨gc, 0, none⟩ x).setCell ⟨gc, 1, none⟩ y) := Fr.setCell (S := fun k => k = gc) (Fr.setCell (S := fun k => k = gc) (Fr.refl _ _) (p := ⟨gc, 0, none⟩) (Or.inl rfl) _) (p := ⟨gc, 1, none⟩) (Or.inl rfl) _
  have sp : Sp (fun k => k = gc) W := by rintro k rfl; exact ⟨_, _, hc, by decide, by decide, by decide⟩
  have n1 : bb ≠ gc := by rintro rfl; have := h.bk; rw [hc] at this; simp at this
  have n2 : xb ≠ gc := by
    rintro rfl
    have hX := PF.row h.xg
    unfold RowAt at hX
    rw [hc] at hX; simp at hX
  exact ⟨h.ne, h.wb, h.wx, (hf.block bb (lt_of_block h.bk) n1).trans h.bk, sp.nums hf h.nm, PF.fr h.xg hf n2,
    h.be.trans ⟨hf.os, hf.tape, hf.output, hf.size, fun k hk => hf.block k (by have := h.be.size; omega) (by omega)⟩⟩
end

/-- Insert with raw numbers -/
theorem ins_raw {s : St} (h : BOk s) (id u v wt : Int) (hw : R64 wt) : ∃ (a b code : Int) (s2 : St), Ok s2 ∧ s2.n = s.n ∧ s2.most = s.most ∧
    ((Pl.numB id = false ∧ a = 0 ∧ b = 0 ∧ code = 2 ∧ s2 = s) ∨ (Pl.numB id = true ∧ (Pl.verB s.n u && Pl.verB s.n v) = false ∧ a = 0 ∧ b = 0 ∧ code = 3 ∧ s2 = s) ∨
     (Pl.numB id = true ∧ (Pl.verB s.n u && Pl.verB s.n v) = true ∧ Pl.has s.L id = true ∧ a = 0 ∧ b = 0 ∧ code = 4 ∧ s2 = s) ∨
     (Pl.numB id = true ∧ (Pl.verB s.n u && Pl.verB s.n v) = true ∧ Pl.has s.L id = false ∧ code = 0 ∧ s2.L = Pl.withI s.L ⟨id, u, v, wt⟩)) ∧
    ∀ (w : World) (xb : Nat), XG w xb s → Calls Tryd.prog 18 #[P0 xb, .int .i64 id, .int .i64 u, .int .i64 v, .int .i64 wt] w fun e w' => e = .returned (.tuple #[.agg #[.int .i64 a, .int .i64 b], .int .i64 code]) ∧ XG w' xb s2 ∧ Fr (fun k => k = xb) w w' := by
  have no : ∀ code, ((Pl.numB id = false ∧ code = 2) ∨ (Pl.numB id = true ∧ Pl.verB s.n u = false ∧ code = 3) ∨ (Pl.numB id = true ∧ Pl.verB s.n u = true ∧ Pl.verB s.n v = false ∧ code = 3) ∨ (Pl.numB id = true ∧ Pl.verB s.n u = true ∧ Pl.verB s.n v = true ∧ Pl.has s.L id = true ∧ code = 4) ∨
      (Pl.numB id = true ∧ Pl.verB s.n u = true ∧ Pl.verB s.n v = true ∧ Pl.has s.L id = false ∧ s.most ≤ s.L.length ∧ code = 5)) → ∀ (w : World) (xb : Nat), XG w xb s → Calls Tryd.prog 18 #[P0 xb, .int .i64 id, .int .i64 u, .int .i64 v, .int .i64 wt] w fun e w' => e = .returned (.tuple #[.agg #[.int .i64 0, .int .i64 0], .int .i64 code]) ∧ XG w' xb s ∧ Fr (fun k => k = xb) w w' := fun code hc w xb hX => by
    refine (insX_no h.ok id u v wt code hc w xb hX).mono ?_
    rintro e w' ⟨rfl, h1, h2⟩
    exact ⟨rfl, h1, Fr.of_below h2⟩
  cases h1 : Pl.numB id with
  | false => exact ⟨0, 0, 2, s, h.ok, rfl, rfl, Or.inl ⟨rfl, rfl, rfl, rfl, rfl⟩, no 2 (Or.inl ⟨h1, rfl⟩)⟩
  | true =>
    cases h2 : Pl.verB s.n u with
    | false => exact ⟨0, 0, 3, s, h.ok, rfl, rfl, Or.inr (Or.inl ⟨rfl, rfl, rfl, rfl, rfl, rfl⟩), no 3 (Or.inr (Or.inl ⟨h1, h2, rfl⟩))⟩
    | true =>
      cases h3 : Pl.verB s.n v with
      | false => exact ⟨0, 0, 3, s, h.ok, rfl, rfl, Or.inr (Or.inl ⟨rfl, rfl, rfl, rfl, rfl, rfl⟩), no 3 (Or.inr (Or.inr (Or.inl ⟨h1, h2, h3, rfl⟩)))⟩
      | true =>
        cases h4 : Pl.has s.L id with
        | true => exact ⟨0, 0, 4, s, h.ok, rfl, rfl, Or.inr (Or.inr (Or.inl ⟨rfl, rfl, rfl, rfl, rfl, rfl, rfl⟩)), no 4 (Or.inr (Or.inr (Or.inr (Or.inl ⟨h1, h2, h3, h4, rfl⟩))))⟩
        | false =>
          obtain ⟨i, rfl⟩ := Int.eq_ofNat_of_zero_le (Pl.numB_true.1 h1).1
          exact ⟨_, _, 0, insSt s i u v wt, h.ok.ins i u v wt h1 h2 h3 h4 h.room hw.1 hw.2, rfl, rfl, Or.inr (Or.inr (Or.inr ⟨rfl, rfl, rfl, rfl, rfl⟩)), fun w xb hX => insX_ok h.ok i u v wt h1 h2 h3 h4 h.room w xb hX⟩
/-- Delete of a number -/
theorem del_raw {s : St} (h : Ok s) (id : Int) : ∃ (a b code : Int) (s2 : St), Ok s2 ∧ s2.n = s.n ∧ s2.most = s.most ∧
    ((Pl.numB id = false ∧ a = 0 ∧ b = 0 ∧ code = 2 ∧ s2 = s) ∨ (Pl.numB id = true ∧ Pl.has s.L id = false ∧ a = 0 ∧ b = 0 ∧ code = 6 ∧ s2 = s) ∨ (Pl.numB id = true ∧ Pl.has s.L id = true ∧ code = 0 ∧ s2.L = Pl.withoutI s.L id)) ∧
    ∀ (w : World) (xb : Nat), XG w xb s → Calls Tryd.prog 19 #[P0 xb, .int .i64 id] w fun e w' => e = .returned (.tuple #[.agg #[.int .i64 a, .int .i64 b], .int .i64 code]) ∧ XG w' xb s2 ∧ Fr (fun k => k = xb) w w' := by
  have no : ∀ code, ((Pl.numB id = false ∧ code = 2) ∨ (Pl.numB id = true ∧ Pl.has s.L id = false ∧ code = 6)) → ∀ (w : World) (xb : Nat), XG w xb s → Calls Tryd.prog 19 #[P0 xb, .int .i64 id] w fun e w' => e = .returned (.tuple #[.agg #[.int .i64 0, .int .i64 0], .int .i64 code]) ∧ XG w' xb s ∧ Fr (fun k => k = xb) w w' := fun code hc w xb hX => by
    refine (delX_no h id code hc w xb hX).mono ?_
    rintro e w' ⟨rfl, h1, h2⟩
    exact ⟨rfl, h1, Fr.of_below h2⟩
  cases h1 : Pl.numB id with
  | false => exact ⟨0, 0, 2, s, h, rfl, rfl, Or.inl ⟨rfl, rfl, rfl, rfl, rfl⟩, no 2 (Or.inl ⟨h1, rfl⟩)⟩
  | true =>
    cases h2 : Pl.has s.L id with
    | false => exact ⟨0, 0, 6, s, h, rfl, rfl, Or.inr (Or.inl ⟨rfl, rfl, rfl, rfl, rfl, rfl⟩), no 6 (Or.inr ⟨h1, h2, rfl⟩)⟩
    | true =>
      obtain ⟨i, rfl⟩ := Int.eq_ofNat_of_zero_le (Pl.numB_true.1 h1).1
      exact ⟨_, _, 0, delSt s i, h.del i h1 h2, rfl, rfl, Or.inr (Or.inr ⟨rfl, rfl, rfl, rfl⟩), fun w xb hX => delX_ok h i h1 h2 w xb hX⟩

end Go.Proofs.YtnnnleckoinjoaaDoor
