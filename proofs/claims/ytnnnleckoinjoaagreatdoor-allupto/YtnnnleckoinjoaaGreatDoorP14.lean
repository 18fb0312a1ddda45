/- What can be taken back, as the program keeps it. -/
import Derived.Test.YtnnnleckoinjoaaGreatDoorP12
namespace Go.Proofs.YtnnnleckoinjoaaGreatDoor
open Go.RowKit
open Pl (It)

theorem slcs_length (l : List Sl) : (slcs l).length = l.length * 5 := by
  induction l with
  | nil => rfl
  | cons e l ih => simp only [slcs, List.flatMap_cons, List.length_append, List.length_cons] at *; rw [ih]; simp [slc]; omega
theorem slcs_get (l : List Sl) : ∀ (k : Nat) (s : Sl), l[k]? = some s → ∀ j, j < 5 → (slcs l)[k * 5 + j]? = (slc s)[j]? := by
  induction l with
  | nil => intro k s h; simp at h
  | cons e l ih =>
    intro k s h j hj
    have e0 : slcs (e :: l) = slc e ++ slcs l := by simp [slcs]
    rw [e0]
    cases k with
    | zero =>
      rw [List.getElem?_append_left (by simp [slc]; omega)]
      simp at h
      simp [h]
    | succ k =>
      rw [List.getElem?_append_right (by simp [slc]; omega)]
      have := ih k s (by simpa using h) j hj
      have e1 : (k + 1) * 5 + j - (slc e).length = k * 5 + j := by simp [slc]; omega
      rw [e1, this]
theorem slcs_set (l : List Sl) : ∀ (k : Nat), k < l.length → ∀ s : Sl, (((((slcs l).set (k * 5) (.int .i64 s.it.id)).set (k * 5 + 1) (.bool s.live)).set (k * 5 + 2) (.int .i64 s.it.u)).set (k * 5 + 3) (.int .i64 s.it.v)).set (k * 5 + 4) (.int .i64 s.it.w) = slcs (l.set k s) := by
  induction l with
  | nil => intro k h; simp at h
  | cons d l ih =>
    intro k h e
    cases k with
    | zero => simp [slcs, slc]
    | succ k =>
      have e0 : ∀ (d : Sl) (l : List Sl), slcs (d :: l) = .int .i64 d.it.id :: .bool d.live :: .int .i64 d.it.u :: .int .i64 d.it.v :: .int .i64 d.it.w :: slcs l := fun d l => by simp [slcs, slc]
      have := ih k (by simpa using h) e
      rw [List.set_cons_succ, e0, e0, ← this]
      have e1 : (k + 1) * 5 = k * 5 + 1 + 1 + 1 + 1 + 1 := by omega
      rw [e1]
      rfl
theorem pcells_length (sl : List Sl) (k : Nat) (h : sl.length = 20) : (pcells sl k).length = 101 := by
  simp [pcells, slcs_length, h]
theorem pcells_count (sl : List Sl) (k : Nat) (h : sl.length = 20) : (pcells sl k)[100]? = some (.int .i64 k) := by
  unfold pcells
  rw [List.getElem?_append_right (by rw [slcs_length, h]; omega), slcs_length, h]; rfl
theorem pcells_get (sl : List Sl) (k i : Nat) (s : Sl) (hs : sl[i]? = some s) (j : Nat) (hj : j < 5) : (pcells sl k)[i * 5 + j]? = (slc s)[j]? := by
  have hi := (List.getElem?_eq_some_iff.1 hs).1
  unfold pcells
  rw [List.getElem?_append_left (by rw [slcs_length]; omega)]
  exact slcs_get sl i s hs j hj
theorem pcells_set_count (sl : List Sl) (k m : Nat) (h : sl.length = 20) : (pcells sl k).set 100 (.int .i64 m) = pcells sl m := by
  unfold pcells
  rw [List.set_append_right _ _ (by rw [slcs_length, h]; omega), slcs_length, h]; rfl
theorem pcells_set (sl : List Sl) (k i : Nat) (hi : i < sl.length) (s : Sl) : ((((((pcells sl k).set (i * 5) (.int .i64 s.it.id)).set (i * 5 + 1) (.bool s.live)).set (i * 5 + 2) (.int .i64 s.it.u)).set (i * 5 + 3) (.int .i64 s.it.v)).set (i * 5 + 4) (.int .i64 s.it.w)) = pcells (sl.set i s) k := by
  unfold pcells
  have hE := slcs_length sl
  rw [← slcs_set sl i hi s]
  rw [List.set_append_left _ _ (by omega), List.set_append_left _ _ (by rw [List.length_set]; omega), List.set_append_left _ _ (by rw [List.length_set, List.length_set]; omega), List.set_append_left _ _ (by rw [List.length_set, List.length_set, List.length_set]; omega), List.set_append_left _ _ (by rw [List.length_set, List.length_set, List.length_set, List.length_set]; omega)]

section
variable {w : World} {b n most k : Nat} {live : List Bool} {ed : List It} {sl : List Sl}
theorem PF.count (h : PF w b n most live ed (pcells sl k)) (hs : sl.length = 20) : w.cell? ⟨b, 502, none⟩ = some (.int .i64 k) := h.ct 100 _ (pcells_count sl k hs)
theorem PF.slot (h : PF w b n most live ed (pcells sl k)) (i : Nat) (s : Sl) (hs : sl[i]? = some s) :
    w.cell? ⟨b, 402 + i * 5, none⟩ = some (.int .i64 s.it.id) ∧ w.cell? ⟨b, 402 + i * 5 + 1, none⟩ = some (.bool s.live) ∧ w.cell? ⟨b, 402 + i * 5 + 2, none⟩ = some (.int .i64 s.it.u) ∧ w.cell? ⟨b, 402 + i * 5 + 3, none⟩ = some (.int .i64 s.it.v) ∧ w.cell? ⟨b, 402 + i * 5 + 4, none⟩ = some (.int .i64 s.it.w) := by
  have c : ∀ j v, j < 5 → (slc s)[j]? = some v → w.cell? ⟨b, 402 + (i * 5 + j), none⟩ = some v := fun j v hj hv => h.ct (i * 5 + j) v (by rw [pcells_get sl k i s hs j hj, hv])
  exact ⟨c 0 _ (by omega) rfl, c 1 _ (by omega) rfl, c 2 _ (by omega) rfl, c 3 _ (by omega) rfl, c 4 _ (by omega) rfl⟩
theorem PF.setCount (h : PF w b n most live ed (pcells sl k)) (hs : sl.length = 20) (m : Nat) : PF (w.setCell ⟨b, 502, none⟩ (.int .i64 m)) b n most live ed (pcells sl m) := by
  have := h.tail 100 (.int .i64 m)
  rw [pcells_set_count sl k m hs] at this
  exact this
theorem PF.setSlot (h : PF w b n most live ed (pcells sl k)) (i : Nat) (hi : i < sl.length) (s : Sl) :
    PF (((((w.setCell ⟨b, 402 + i * 5, none⟩ (.int .i64 s.it.id)).setCell ⟨b, 402 + i * 5 + 1, none⟩ (.bool s.live)).setCell ⟨b, 402 + i * 5 + 2, none⟩ (.int .i64 s.it.u)).setCell ⟨b, 402 + i * 5 + 3, none⟩ (.int .i64 s.it.v)).setCell ⟨b, 402 + i * 5 + 4, none⟩ (.int .i64 s.it.w)) b n most live ed (pcells (sl.set i s) k) := by
  have := ((((h.tail (i * 5) (.int .i64 s.it.id)).tail (i * 5 + 1) (.bool s.live)).tail (i * 5 + 2) (.int .i64 s.it.u)).tail (i * 5 + 3) (.int .i64 s.it.v)).tail (i * 5 + 4) (.int .i64 s.it.w)
  rw [pcells_set sl k i hi s] at this
  exact this
end

set_option maxRecDepth 100000 in
set_option maxHeartbeats 1000000 in
theorem slotOf_any (b n most : Nat) (live : List Bool) (ed : List It) (i : Nat) (hi : i < 100) (hll : i < live.length) (hle : i < ed.length) (w : World) (hG : PG w b n most live ed) :
    Calls Tryz.prog 100 #[.pointer (some ⟨b, 0, none⟩), .int .i64 i] w fun e w' => e = .returned (.agg #[.int .i64 i, .bool live[i], .int .i64 ed[i].u, .int .i64 ed[i].v, .int .i64 ed[i].w]) ∧ Below w.heap.size w w' := by
  have hbl := hG.blt
  have hbn : ¬ b = w.heap.size := by omega
  have hbn2 : ¬ w.heap.size = b := by omega
  have hi1 : (i : Int) < 100 := by omega
  have cl := hG.cl i hi
  obtain ⟨e0, e1, e2⟩ := hG.ce i hle
  generalize live[i] = q at *
  generalize ed[i] = x at *
  clear hG hll hle
  go_enter Tryz.func100, Tryz.ntmps100
  go_wp2
  go_region
  go_wp2
  exact bodyPost_ret (v := .agg #[.int .i64 i, .bool q, .int .i64 x.u, .int .i64 x.v, .int .i64 x.w]) (by simp [results, Tryz.results100, go_sem]) rfl ⟨rfl, below_drewN ((Below.refl _ _).alloc (Nat.le_refl _) _) 1⟩

end Go.Proofs.YtnnnleckoinjoaaGreatDoor
