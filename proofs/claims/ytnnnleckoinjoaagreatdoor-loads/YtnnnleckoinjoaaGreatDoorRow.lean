/- A block that is a row of one-cell values: read, written, loaded and stored whole. -/
import Derived.Test.YtnnnleckoinjoaaGreatDoorGr
namespace Go.Proofs.YtnnnleckoinjoaaGreatDoor
open Go.RowKit

/-- block b is the row xs -/
def RowAt (w : World) (b t : Nat) (xs : List Value) : Prop := w.heap[b]? = some (.cells xs.toArray t (0, 0))

theorem RowAt.lt {w : World} {b t : Nat} {xs : List Value} (h : RowAt w b t xs) : b < w.heap.size := lt_of_block h
theorem RowAt.cell {w : World} {b t : Nat} {xs : List Value} (h : RowAt w b t xs) (k : Nat) (hk : k < xs.length) : w.cell? ⟨b, k, none⟩ = some xs[k] := by
  unfold RowAt at h
  simp only [World.cell?, h]
  simp [hk]
theorem RowAt.free {w : World} {b t : Nat} {xs : List Value} (h : RowAt w b t xs) (k : Nat) : w.frozen? ⟨b, k, none⟩ = false := by
  unfold RowAt at h
  simp [World.frozen?, h]
theorem RowAt.set {w : World} {b t : Nat} {xs : List Value} (h : RowAt w b t xs) (k : Nat) (v : Value) : RowAt (w.setCell ⟨b, k, none⟩ v) b t (xs.set k v) := by
  unfold RowAt at *
  rw [heap_setCell_same w b k _ _ v h]
  simp
theorem RowAt.later {w w' : World} {b t B : Nat} {xs : List Value} (h : RowAt w b t xs) (hb : Below B w w') (hB : b < B) : RowAt w' b t xs := by
  unfold RowAt at *
  rw [hb.block b hB]; exact h
theorem RowAt.fr {S : Nat → Prop} {w w' : World} {b t : Nat} {xs : List Value} (h : RowAt w b t xs) (hf : Fr S w w') (hS : ¬ S b) : RowAt w' b t xs := by
  unfold RowAt at *
  rw [hf.block b (lt_of_block h) hS]; exact h
theorem RowAt.other {w : World} {b t : Nat} {xs : List Value} (h : RowAt w b t xs) (a : Addr) (v : Value) (hne : b ≠ a.block) : RowAt (w.setCell a v) b t xs := by
  unfold RowAt at *
  rw [Below.heap_setCell _ _ _ _ hne]; exact h
theorem RowAt.alloc {w : World} {b t : Nat} {xs : List Value} (h : RowAt w b t xs) (o : Obj) : RowAt (w.alloc o) b t xs := by
  unfold RowAt at *
  rw [Below.heap_alloc _ _ _ (lt_of_block h)]; exact h
theorem row_new (w : World) (t : Nat) (xs : List Value) : RowAt (w.alloc (.cells xs.toArray t)) w.heap.size t xs := heap_alloc_new _ _
theorem RowAt.range {w : World} {b t : Nat} {xs : List Value} (h : RowAt w b t xs) (o : Nat) (ys : List Value) (hy : ys = (xs.drop o).take ys.length) : w.rangeAt b o ys := by
  intro j v hv
  rw [hy] at hv
  have hj : j < ((xs.drop o).take ys.length).length := (List.getElem?_eq_some_iff.1 hv).1
  have hlen : j < ys.length ∧ o + j < xs.length := by rw [List.length_take, List.length_drop] at hj; omega
  rw [h.cell (o + j) hlen.2]
  rw [List.getElem?_take_of_lt hlen.1, List.getElem?_drop] at hv
  rw [← hv, List.getElem?_eq_getElem hlen.2]
theorem RowAt.there {w : World} {b t : Nat} {xs : List Value} (h : RowAt w b t xs) (o n : Nat) (hn : o + n ≤ xs.length) : w.there b o n := fun j hj => by
  rw [h.cell (o + j) (by omega)]
  exact ⟨rfl, h.free _⟩
theorem RowAt.setCells {b t : Nat} : ∀ (ys : List Value) (w : World) (xs : List Value) (o : Nat), RowAt w b t xs → o + ys.length ≤ xs.length → RowAt (w.setCells b o ys) b t (xs.take o ++ ys ++ xs.drop (o + ys.length)) := by
  intro ys
  induction ys with
  | nil => intro w xs o h _; show RowAt w b t _; simpa using h
  | cons v r ih =>
    intro w xs o h hl
    have h1 := ih (w.setCell ⟨b, o, none⟩ v) (xs.set o v) (o + 1) (h.set o v) (by simp at hl ⊢; omega)
    have e : (xs.set o v).take (o + 1) ++ r ++ (xs.set o v).drop (o + 1 + r.length) = xs.take o ++ (v :: r) ++ xs.drop (o + (v :: r).length) := by
      simp only [List.length_cons] at hl
      have e1 : (xs.set o v).take (o + 1) = xs.take o ++ [v] := by
        rw [List.take_succ_eq_append_getElem (by simp; omega)]
        simp [List.take_set_of_le]
      have e2 : (xs.set o v).drop (o + 1 + r.length) = xs.drop (o + (v :: r).length) := by
        rw [List.drop_set_of_lt (by omega)]; simp; congr 1; omega
      rw [e1, e2]; simp
    rw [e] at h1
    exact h1
theorem RowAt.whole {b t : Nat} {w : World} {xs ys : List Value} (h : RowAt w b t xs) (hl : ys.length = xs.length) : RowAt (w.setCells b 0 ys) b t ys := by
  have := RowAt.setCells ys w xs 0 h (by omega)
  rw [Nat.zero_add, hl, List.drop_length, List.take_zero] at this
  simpa using this
theorem heap_setCells {b : Nat} : ∀ (ys : List Value) (w : World) (o k : Nat), k ≠ b → (w.setCells b o ys).heap[k]? = w.heap[k]? := by
  intro ys
  induction ys with
  | nil => intro w o k _; rfl
  | cons v r ih =>
    intro w o k hk
    show ((w.setCell ⟨b, o, none⟩ v).setCells b (o + 1) r).heap[k]? = _
    rw [ih _ _ _ hk, Below.heap_setCell _ _ _ _ hk]
theorem fr_setCells {S : Nat → Prop} {a : World} {b : Nat} : ∀ (ys : List Value) (w : World) (o : Nat), Fr S a w → (S b ∨ a.heap.size ≤ b) → Fr S a (w.setCells b o ys) := by
  intro ys
  induction ys with
  | nil => intro w o h _; exact h
  | cons v r ih => intro w o h hb; exact ih _ _ (h.setCell (p := ⟨b, o, none⟩) hb v) hb
theorem below_setCells {B : Nat} {a : World} {b : Nat} (hb : B ≤ b) : ∀ (ys : List Value) (w : World) (o : Nat), Below B a w → Below B a (w.setCells b o ys) := by
  intro ys
  induction ys with
  | nil => intro w o h; exact h
  | cons v r ih => intro w o h; exact ih _ _ (h.setCell (p := ⟨b, o, none⟩) hb v)

end Go.Proofs.YtnnnleckoinjoaaGreatDoor
