import Derived.Test.YtnnnleckoinjoaaGreatDoorP1
namespace Go.Proofs.YtnnnleckoinjoaaGreatDoor
open Go.RowKit
open Pl (It)

def edc (e : It) : List Value := [.int .i64 e.u, .int .i64 e.v, .int .i64 e.w]
def edcs (l : List It) : List Value := l.flatMap edc
theorem edcs_length (l : List It) : (edcs l).length = l.length * 3 := by
  induction l with
  | nil => rfl
  | cons e l ih => simp only [edcs, List.flatMap_cons, List.length_append, List.length_cons] at *; rw [ih]; simp [edc]; omega
theorem edcs_get (l : List It) : ∀ (k : Nat) (h : k < l.length) (j : Nat), j < 3 → (edcs l)[k * 3 + j]? = (edc l[k])[j]? := by
  induction l with
  | nil => intro k h; simp at h
  | cons e l ih =>
    intro k h j hj
    have e0 : edcs (e :: l) = edc e ++ edcs l := by simp [edcs]
    rw [e0]
    cases k with
    | zero =>
      rw [List.getElem?_append_left (by simp [edc]; omega)]
      simp
    | succ k =>
      rw [List.getElem?_append_right (by simp [edc]; omega)]
      have := ih k (by simpa using h) j hj
      have e1 : (k + 1) * 3 + j - (edc e).length = k * 3 + j := by simp [edc]; omega
      rw [e1, this]; simp
theorem edcs_set (l : List It) : ∀ (k : Nat), k < l.length → ∀ e : It, (((edcs l).set (k * 3) (.int .i64 e.u)).set (k * 3 + 1) (.int .i64 e.v)).set (k * 3 + 2) (.int .i64 e.w) = edcs (l.set k e) := by
  induction l with
  | nil => intro k h; simp at h
  | cons d l ih =>
    intro k h e
    cases k with
    | zero => simp [edcs, edc]
    | succ k =>
      have e0 : ∀ (d : It) (l : List It), edcs (d :: l) = .int .i64 d.u :: .int .i64 d.v :: .int .i64 d.w :: edcs l := fun d l => by simp [edcs, edc]
      have := ih k (by simpa using h) e
      rw [List.set_cons_succ, e0, e0, ← this]
      have e1 : (k + 1) * 3 = k * 3 + 1 + 1 + 1 := by omega
      rw [e1]
      rfl

/-- the program's graph as a row; tl: what lies behind the edges -/
def gcells (n most : Nat) (live : List Bool) (ed : List It) (tl : List Value) : List Value := .int .i64 n :: .int .i64 most :: (live.map Value.bool ++ (edcs ed ++ tl))
structure PF (w : World) (b n most : Nat) (live : List Bool) (ed : List It) (tl : List Value) : Prop where
  row : RowAt w b 57 (gcells n most live ed tl)
  ll : live.length = 100
  le : ed.length = 100
  lt : tl.length = 101
def PG (w : World) (b n most : Nat) (live : List Bool) (ed : List It) : Prop := ∃ tl, PF w b n most live ed tl

section
variable {w : World} {b n most : Nat} {live : List Bool} {ed : List It} {tl : List Value}
theorem PF.len (h : PF w b n most live ed tl) : (gcells n most live ed tl).length = 503 := by
  simp [gcells, edcs_length, h.ll, h.le, h.lt]
theorem PF.c0 (h : PF w b n most live ed tl) : w.cell? ⟨b, 0, none⟩ = some (.int .i64 n) := by
  rw [h.row.cell 0 (by rw [h.len]; omega)]; rfl
theorem PF.c1 (h : PF w b n most live ed tl) : w.cell? ⟨b, 1, none⟩ = some (.int .i64 most) := by
  rw [h.row.cell 1 (by rw [h.len]; omega)]; rfl
theorem gcells_live (h : live.length = 100) (i : Nat) (hi : i < 100) : (gcells n most live ed tl)[2 + i]? = some (.bool (live[i]'(by omega))) := by
  unfold gcells
  rw [show 2 + i = i + 1 + 1 by omega, List.getElem?_cons_succ, List.getElem?_cons_succ, List.getElem?_append_left (by simp; omega)]
  simp [show i < live.length by omega]
theorem gcells_ed (h : live.length = 100) (i j : Nat) (hi : i < ed.length) (hj : j < 3) : (gcells n most live ed tl)[102 + i * 3 + j]? = (edc ed[i])[j]? := by
  unfold gcells
  rw [show 102 + i * 3 + j = (100 + i * 3 + j) + 1 + 1 by omega, List.getElem?_cons_succ, List.getElem?_cons_succ, List.getElem?_append_right (by simp; omega)]
  rw [show 100 + i * 3 + j - (live.map Value.bool).length = i * 3 + j by simp; omega]
  rw [List.getElem?_append_left (by rw [edcs_length]; omega)]
  exact edcs_get ed i hi j hj
theorem gcells_tl (h : live.length = 100) (he : ed.length = 100) (j : Nat) : (gcells n most live ed tl)[402 + j]? = tl[j]? := by
  unfold gcells
  rw [show 402 + j = (400 + j) + 1 + 1 by omega, List.getElem?_cons_succ, List.getElem?_cons_succ, List.getElem?_append_right (by simp; omega), List.getElem?_append_right (by simp [edcs_length]; omega)]
  congr 1
  simp [edcs_length]; omega
theorem PF.cl (h : PF w b n most live ed tl) (i : Nat) (hi : i < 100) : w.cell? ⟨b, 2 + i, none⟩ = some (.bool (live[i]'(by have := h.ll; omega))) := by
  rw [h.row.cell (2 + i) (by rw [h.len]; omega), ← gcells_live h.ll i hi]
  exact (List.getElem?_eq_getElem _).symm
theorem PF.ce (h : PF w b n most live ed tl) (i : Nat) (hi : i < ed.length) : w.cell? ⟨b, 102 + i * 3, none⟩ = some (.int .i64 ed[i].u) ∧ w.cell? ⟨b, 102 + i * 3 + 1, none⟩ = some (.int .i64 ed[i].v) ∧ w.cell? ⟨b, 102 + i * 3 + 2, none⟩ = some (.int .i64 ed[i].w) := by
  have hle := h.le
  have c : ∀ j, j < 3 → w.cell? ⟨b, 102 + i * 3 + j, none⟩ = (edc ed[i])[j]? := fun j hj => by
    have hlt : 102 + i * 3 + j < (gcells n most live ed tl).length := by rw [h.len]; omega
    rw [h.row.cell _ hlt, ← gcells_ed h.ll i j hi hj]
    exact (List.getElem?_eq_getElem _).symm
  exact ⟨c 0 (by omega), c 1 (by omega), c 2 (by omega)⟩
theorem PF.ct (h : PF w b n most live ed tl) (j : Nat) (v : Value) (hv : tl[j]? = some v) : w.cell? ⟨b, 402 + j, none⟩ = some v := by
  have hj := (List.getElem?_eq_some_iff.1 hv).1
  have hlt : 402 + j < (gcells n most live ed tl).length := by rw [h.len]; have := h.lt; omega
  rw [h.row.cell _ hlt, ← hv, ← gcells_tl h.ll h.le j]
  exact (List.getElem?_eq_getElem _).symm
theorem PF.later {w' : World} {B : Nat} (h : PF w b n most live ed tl) (hb : Below B w w') (hB : w.heap.size ≤ B) : PF w' b n most live ed tl := ⟨h.row.later hb (by have := h.row.lt; omega), h.ll, h.le, h.lt⟩
theorem PF.fr {S : Nat → Prop} {w' : World} (h : PF w b n most live ed tl) (hf : Fr S w w') (hS : ¬ S b) : PF w' b n most live ed tl := ⟨h.row.fr hf hS, h.ll, h.le, h.lt⟩
theorem PF.alloc (h : PF w b n most live ed tl) (o : Obj) : PF (w.alloc o) b n most live ed tl := ⟨h.row.alloc o, h.ll, h.le, h.lt⟩
theorem PF.other (h : PF w b n most live ed tl) (a : Addr) (v : Value) (hne : b ≠ a.block) : PF (w.setCell a v) b n most live ed tl := ⟨h.row.other a v hne, h.ll, h.le, h.lt⟩
theorem PF.cells (h : PF w b n most live ed tl) (k o : Nat) (ys : List Value) (hne : b ≠ k) : PF (w.setCells k o ys) b n most live ed tl := ⟨by unfold RowAt; rw [heap_setCells _ _ _ _ hne]; exact h.row, h.ll, h.le, h.lt⟩
theorem PF.pg (h : PF w b n most live ed tl) : PG w b n most live ed := ⟨tl, h⟩
theorem PG.blt (h : PG w b n most live ed) : b < w.heap.size := h.elim fun _ h => h.row.lt
theorem PG.ll (h : PG w b n most live ed) : live.length = 100 := h.elim fun _ h => h.ll
theorem PG.le (h : PG w b n most live ed) : ed.length = 100 := h.elim fun _ h => h.le
theorem PG.c0 (h : PG w b n most live ed) : w.cell? ⟨b, 0, none⟩ = some (.int .i64 n) := h.elim fun _ h => h.c0
theorem PG.c1 (h : PG w b n most live ed) : w.cell? ⟨b, 1, none⟩ = some (.int .i64 most) := h.elim fun _ h => h.c1
theorem PG.cl (h : PG w b n most live ed) (i : Nat) (hi : i < 100) : w.cell? ⟨b, 2 + i, none⟩ = some (.bool (live[i]'(by have := h.ll; omega))) := h.elim fun _ h => h.cl i hi
theorem PG.ce (h : PG w b n most live ed) (i : Nat) (hi : i < ed.length) : w.cell? ⟨b, 102 + i * 3, none⟩ = some (.int .i64 ed[i].u) ∧ w.cell? ⟨b, 102 + i * 3 + 1, none⟩ = some (.int .i64 ed[i].v) ∧ w.cell? ⟨b, 102 + i * 3 + 2, none⟩ = some (.int .i64 ed[i].w) := h.elim fun _ h => h.ce i hi
theorem PG.free (h : PG w b n most live ed) (k : Nat) : w.frozen? ⟨b, k, none⟩ = false := h.elim fun _ h => h.row.free k
theorem PG.later {w' : World} {B : Nat} (h : PG w b n most live ed) (hb : Below B w w') (hB : w.heap.size ≤ B) : PG w' b n most live ed := h.elim fun _ h => (h.later hb hB).pg
theorem PG.fr {S : Nat → Prop} {w' : World} (h : PG w b n most live ed) (hf : Fr S w w') (hS : ¬ S b) : PG w' b n most live ed := h.elim fun _ h => (h.fr hf hS).pg
theorem PG.alloc (h : PG w b n most live ed) (o : Obj) : PG (w.alloc o) b n most live ed := h.elim fun _ h => (h.alloc o).pg
theorem PG.drewN (h : PG w b n most live ed) (k : Nat) : PG (w.drewN k) b n most live ed := h.elim fun _ h => PF.pg ⟨h.row, h.ll, h.le, h.lt⟩
theorem PG.bools (h : PG w b n most live ed) : w.rangeAt b 2 (live.map Value.bool) := h.elim fun _ h => by
  refine h.row.range 2 _ ?_
  unfold gcells
  simp
end

theorem ofrow_cell {w : World} {b t : Nat} {of : List Int} (h : RowAt w b t (ofc of)) {k : Nat} {x : Int} (hk : of[k]? = some x) : w.cell? ⟨b, k, none⟩ = some (.int .i64 x) := by
  obtain ⟨hlt, e⟩ := List.getElem?_eq_some_iff.1 hk
  rw [h.cell k (by rw [ofc_length]; exact hlt), ofc_get of k hlt, e]
theorem set_same {l : List Int} {k : Nat} {x : Int} (h : l[k]? = some x) : l.set k x = l := by
  obtain ⟨hlt, e⟩ := List.getElem?_eq_some_iff.1 h
  rw [← e, List.set_getElem_self]

set_option maxHeartbeats 1000000 in
theorem same_any (b : Nat) (of : List Int) (x y : Nat) (p q : Int) (hp : of[x]? = some p) (hq : of[y]? = some q) (hx : x < 30) (hy : y < 30) (w : World) (h : RowAt w b 116 (ofc of)) :
    Calls Tryz.prog 84 #[.pointer (some ⟨b, 0, none⟩), .int .i64 x, .int .i64 y] w fun e w' => e = .returned (.bool (p == q)) ∧ ∃ n, w' = w.drewN n := by
  have cx := ofrow_cell h hp
  have cy := ofrow_cell h hq
  have hx1 : (x : Int) < 30 := by omega
  have hy1 : (y : Int) < 30 := by omega
  clear hp hq
  go_enter Tryz.func84, Tryz.ntmps84
  go_wp2
  go_quiet (fail)
  go_wp2
  go_ret
  exact ⟨rfl, _, rfl⟩

/-- one part is made of two -/
def joinTo (of : List Int) (kept gone : Int) (k : Nat) : List Int := (of.take k).map (fun x => if x = gone then kept else x) ++ of.drop k
theorem joinTo_len (of : List Int) (a b : Int) (k : Nat) : (joinTo of a b k).length = of.length := by simp [joinTo]; omega
theorem joinTo_get (of : List Int) (a b : Int) (k : Nat) (hk : k < of.length) : (joinTo of a b k)[k]'(by rw [joinTo_len]; exact hk) = of[k] := by
  unfold joinTo
  rw [List.getElem_append_right (by simp; omega)]
  simp [Nat.min_eq_left (Nat.le_of_lt hk)]
theorem joinTo_succ (of : List Int) (a b : Int) (k : Nat) (hk : k < of.length) : joinTo of a b (k + 1) = (joinTo of a b k).set k (if of[k] = b then a else of[k]) := by
  unfold joinTo
  rw [List.take_succ_eq_append_getElem hk, List.map_append, List.set_append_right _ _ (by simp; omega)]
  rw [show k - ((of.take k).map fun x => if x = b then a else x).length = 0 by simp; omega, List.drop_eq_getElem_cons hk, List.set_cons_zero]
  simp

set_option maxRecDepth 100000 in
set_option maxHeartbeats 1000000 in
theorem join_any (b : Nat) (of : List Int) (hl : of.length = 30) (u v : Nat) (ka kb : Int) (hp : of[u]? = some ka) (hq : of[v]? = some kb) (w : World) (h : RowAt w b 116 (ofc of)) :
    Calls Tryz.prog 105 #[.pointer (some ⟨b, 0, none⟩), .int .i64 u, .int .i64 v] w fun e w' => e = .returned (.tuple #[]) ∧ RowAt w' b 116 (ofc (joinTo of ka kb 30)) ∧ Fr (fun k => k = b) w w' := by
  have cx := ofrow_cell h hp
  have cy := ofrow_cell h hq
  have hx1 : (u : Int) < 30 := by have := (List.getElem?_eq_some_iff.1 hp).1; omega
  have hy1 : (v : Int) < 30 := by have := (List.getElem?_eq_some_iff.1 hq).1; omega
  clear hp hq
  go_enter Tryz.func105, Tryz.ntmps105
  go_wp2
  go_loopg [8] 30 (fun gk i wr => ∃ k : Nat, k ≤ 30 ∧ i = .int .i64 k ∧ RowAt wr b 116 (ofc (joinTo of ka kb k)) ∧ Fr (fun k => k = b) w wr ∧ 30 - k ≤ gk)
  case atStart => exact ⟨0, Nat.zero_le _, rfl, by simpa [joinTo] using h, Fr.refl _ _, by omega⟩
  case round =>
    obtain ⟨k, hk, rfl, hr, hf, hgk⟩ := hrel
    clear cx cy
    by_cases hlt : k < 30
    · have hk2 : (k : Int) < 30 := by omega
      have hlk : k < of.length := by omega
      have hc := hr.cell k (by rw [ofc_length, joinTo_len]; omega)
      rw [ofc_get _ k (by rw [joinTo_len]; omega), joinTo_get of ka kb k hlk] at hc
      have hfz := hr.free k
      have HS := hide (joinTo_succ of ka kb k hlk)
      have HR := hide hr
      have HG : Hid ((joinTo of ka kb k)[k]? = some of[k]) := by show _ = _; rw [List.getElem?_eq_getElem (by rw [joinTo_len]; omega), joinTo_get of ka kb k hlk]
      clear hr
      generalize of[k] = x at *
      by_cases hq : x = kb
      · have hq' : (x == kb) = true := by simpa using hq
        have HQ := hide hq
        clear hq
        go_wp2
        go_roundg (gk - 1)
        case measure => omega
        case rel => exact ⟨k + 1, by omega, by go_num, by rw [unhide HS, if_pos (unhide HQ), ← ofc_set]; exact (unhide HR).set k _, hf.setCell (Or.inl rfl) _, by omega⟩
      · have hq' : (x == kb) = false := by simpa using hq
        have HQ := hide hq
        clear hq
        go_wp2
        go_roundg (gk - 1)
        case measure => omega
        case rel => exact ⟨k + 1, by omega, by go_num, by rw [unhide HS, if_neg (unhide HQ), set_same (unhide HG)]; exact unhide HR, hf, by omega⟩
    · have hk' : k = 30 := by omega
      subst hk'
      go_wp2
      go_end0
      exact ⟨rfl, hr, hf⟩

end Go.Proofs.YtnnnleckoinjoaaGreatDoor
