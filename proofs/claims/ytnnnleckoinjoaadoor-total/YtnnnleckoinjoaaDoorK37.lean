import Derived.Test.YtnnnleckoinjoaaDoorK14
import Derived.Test.YtnnnleckoinjoaaDoorP8
namespace Go.Proofs.YtnnnleckoinjoaaDoor
open Go.RowKit
open Pl (It)

theorem cut1 {w w1 : World} {r c : Obj} (hb : Below (w.alloc r).drew.heap.size (w.alloc r).drew w1) :
    w.heap.size < w1.heap.size ∧ (w1.alloc c).heap[w1.heap.size]? = some c ∧ (w1.alloc c).heap[w.heap.size]? = some r ∧ Below w.heap.size w (w1.alloc c) := by
  have hb' : Below (w.heap.size + 1) (w.alloc r) w1 := by
    have e : (w.alloc r).drew.heap.size = w.heap.size + 1 := World.size_alloc _ _
    rw [e] at hb; exact Below.undrew hb
  have hs : w.heap.size + 1 ≤ w1.heap.size := by have := hb'.size; rw [World.size_alloc] at this; exact this
  refine ⟨by omega, heap_alloc_new _ _, ?_, ?_⟩
  · rw [Below.heap_alloc _ _ _ (by omega)]; exact made_later hb' (by omega)
  · exact (((Below.refl _ _).alloc (Nat.le_refl _) _).trans (hb'.mono (by omega))).alloc (by omega) _
theorem set_three {w : World} {b t : Nat} {x0 y0 z0 x y z : Value} (h : w.heap[b]? = some (.cells #[x0, y0, z0] t (0, 0))) :
    (((w.setCell ⟨b, 0, none⟩ x).setCell ⟨b, 1, none⟩ y).setCell ⟨b, 2, none⟩ z).heap[b]? = some (.cells #[x, y, z] t (0, 0)) := by
  have h1 := heap_setCell_same w b 0 _ _ x h
  have h2 := heap_setCell_same _ b 1 _ _ y h1
  have h3 := heap_setCell_same _ b 2 _ _ z h2
  rw [h3]; rfl
theorem cut3 {w w1 : World} {r : Obj} {t : Nat} {x0 y0 z0 x y z : Value} (hb : Below ((w.alloc r).alloc (.cells #[x0, y0, z0] t)).drew.heap.size ((w.alloc r).alloc (.cells #[x0, y0, z0] t)).drew w1) :
    w.heap.size < w.heap.size + 1 ∧ (((w1.setCell ⟨w.heap.size + 1, 0, none⟩ x).setCell ⟨w.heap.size + 1, 1, none⟩ y).setCell ⟨w.heap.size + 1, 2, none⟩ z).heap[w.heap.size + 1]? = some (.cells #[x, y, z] t (0, 0)) ∧
    (((w1.setCell ⟨w.heap.size + 1, 0, none⟩ x).setCell ⟨w.heap.size + 1, 1, none⟩ y).setCell ⟨w.heap.size + 1, 2, none⟩ z).heap[w.heap.size]? = some r ∧ Below w.heap.size w (((w1.setCell ⟨w.heap.size + 1, 0, none⟩ x).setCell ⟨w.heap.size + 1, 1, none⟩ y).setCell ⟨w.heap.size + 1, 2, none⟩ z) := by
  have hb' : Below (w.heap.size + 1 + 1) ((w.alloc r).alloc (.cells #[x0, y0, z0] t)) w1 := by
    have e : ((w.alloc r).alloc (.cells #[x0, y0, z0] t)).drew.heap.size = w.heap.size + 1 + 1 := by show ((w.alloc r).alloc (.cells #[x0, y0, z0] t)).heap.size = _; rw [World.size_alloc, World.size_alloc]
    rw [e] at hb; exact Below.undrew hb
  have h1 : w1.heap[w.heap.size + 1]? = some (.cells #[x0, y0, z0] t (0, 0)) := by
    rw [hb'.block _ (by omega)]
    have := heap_alloc_new (w.alloc r) (.cells #[x0, y0, z0] t)
    rw [World.size_alloc] at this; exact this
  have h0 : w1.heap[w.heap.size]? = some r := by
    rw [hb'.block _ (by omega), Below.heap_alloc _ _ _ (by rw [World.size_alloc]; omega)]; exact heap_alloc_new _ _
  have hB : Below w.heap.size w w1 := (((Below.refl _ _).alloc (Nat.le_refl _) _).alloc (by rw [World.size_alloc]; omega) _).trans (hb'.mono (by omega))
  refine ⟨by omega, set_three h1, ?_, ?_⟩
  · rw [Below.heap_setCell _ _ _ _ (by simp), Below.heap_setCell _ _ _ _ (by simp), Below.heap_setCell _ _ _ _ (by simp)]; exact h0
  · exact ((hB.setCell (p := ⟨w.heap.size + 1, 0, none⟩) (by simp) _).setCell (p := ⟨w.heap.size + 1, 1, none⟩) (by simp) _).setCell (p := ⟨w.heap.size + 1, 2, none⟩) (by simp) _

theorem var3 {w w1 : World} {r : Obj} {t : Nat} {x0 y0 z0 : Value} (hb : Below ((w.alloc r).alloc (.cells #[x0, y0, z0] t)).drew.heap.size ((w.alloc r).alloc (.cells #[x0, y0, z0] t)).drew w1) :
    w1.cell? ⟨w.heap.size + 1, 0, none⟩ = some x0 ∧ w1.cell? ⟨w.heap.size + 1, 1, none⟩ = some y0 ∧ w1.cell? ⟨w.heap.size + 1, 2, none⟩ = some z0 ∧ ∀ k, w1.frozen? ⟨w.heap.size + 1, k, none⟩ = false := by
  have hb' : Below (w.heap.size + 1 + 1) ((w.alloc r).alloc (.cells #[x0, y0, z0] t)) w1 := by
    have e : ((w.alloc r).alloc (.cells #[x0, y0, z0] t)).drew.heap.size = w.heap.size + 1 + 1 := by show ((w.alloc r).alloc (.cells #[x0, y0, z0] t)).heap.size = _; rw [World.size_alloc, World.size_alloc]
    rw [e] at hb; exact Below.undrew hb
  have h1 : w1.heap[w.heap.size + 1]? = some (.cells #[x0, y0, z0] t (0, 0)) := by
    rw [hb'.block _ (by omega)]
    have := heap_alloc_new (w.alloc r) (.cells #[x0, y0, z0] t)
    rw [World.size_alloc] at this; exact this
  exact three_cells h1

theorem far3 (w : World) (b q o : Nat) (v0 v1 v2 : Value) (h : b ≠ q) : (((w.setCell ⟨b, 0, none⟩ v0).setCell ⟨b, 1, none⟩ v1).setCell ⟨b, 2, none⟩ v2).cell? ⟨q, o, none⟩ = w.cell? ⟨q, o, none⟩ := by
  rw [World.cell?_setCell_far _ _ _ _ h, World.cell?_setCell_far _ _ _ _ h, World.cell?_setCell_far _ _ _ _ h]

/-- what is asked of a graph in a book -/
theorem BK.forest {w : World} {bb xb : Nat} {s : St} (h : BOk s) (hK : BK w bb xb s) : Calls Tryd.prog 23 #[P0 xb] w fun e w' => ∃ v, e = .returned v ∧ Nums w' w.heap.size v ((Pl.forest s.L).map It.id) ∧ Below w.heap.size w w' :=
  forestp_any xb _ _ _ _ s.L w hK.xg.pg h.ok.gl h.ok.l100 h.ok.n30 h.ok.ends
theorem BK.live {w : World} {bb xb : Nat} {s : St} (h : BOk s) (hK : BK w bb xb s) : Calls Tryd.prog 26 #[P0 xb] w fun e w' => ∃ v, e = .returned v ∧ Nums w' w.heap.size v (s.L.map It.id) ∧ Below w.heap.size w w' := by
  have := livep_any xb _ _ _ _ w hK.xg.pg
  rw [h.ok.gl.marks] at this
  exact this

abbrev ito (e : It) : Obj := .cells #[.int .i64 e.id, .int .i64 e.u, .int .i64 e.v, .int .i64 e.w] 32 (0, 0)

end Go.Proofs.YtnnnleckoinjoaaDoor
