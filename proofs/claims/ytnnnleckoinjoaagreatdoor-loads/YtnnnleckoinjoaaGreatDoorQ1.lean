/- The program's graph as a state: what it holds, what can be taken back. -/
import Derived.Test.YtnnnleckoinjoaaGreatDoorP13
import Derived.Test.YtnnnleckoinjoaaGreatDoorP10
namespace Go.Proofs.YtnnnleckoinjoaaGreatDoor
open Go.RowKit
open Pl (It)

theorem Pl.GL.without {L : List It} {live : List Bool} {ed : List It} (h : Pl.GL L live ed) (i : Nat) (d : It) : Pl.GL (Pl.withoutI L i) (live.set i false) (ed.set i d) := by
  refine ⟨Pl.without_ids h.ids _, Pl.without_rng h.rng _, ?_, ?_⟩
  · intro j hj
    by_cases e : i = j
    · subst e
      rw [Pl.without_has]
      simp only [List.getD]
      by_cases hl : i < live.length
      · rw [List.getElem?_set_self hl]; rfl
      · rw [List.getElem?_eq_none (by rw [List.length_set]; omega)]; rfl
    · have e2 : (live.set i false).getD j false = live.getD j false := by simp [List.getD, e]
      rw [e2, h.live j hj, Bool.eq_iff_iff, Pl.has_iff, Pl.has_iff]
      constructor
      · rintro ⟨x, hx, h2⟩; exact ⟨x, Pl.mem_without.2 ⟨hx, by omega⟩, h2⟩
      · rintro ⟨x, hx, h2⟩; exact ⟨x, (Pl.mem_without.1 hx).1, h2⟩
  · intro e he
    obtain ⟨h1, h2⟩ := Pl.mem_without.1 he
    have := h.rng e h1
    rw [List.getElem?_set_ne (by omega)]
    exact h.ed e h1

structure St where
  n : Nat
  most : Nat
  L : List It
  live : List Bool
  ed : List It
  past : List (List It)
  sl : List Sl

/-- what can be taken back, the newest first: slots and lists go together -/
def PastOk (n most : Nat) : List Sl → List (List It) → List Bool → List It → List It → Prop
  | [], [], _, _, _ => True
  | s :: ss, l :: ls, live, ed, L => (0 ≤ s.it.id ∧ s.it.id < 100) ∧ Pl.GL l (live.set s.it.id.toNat s.live) (ed.set s.it.id.toNat s.it) ∧ Pl.Adj l L ∧ l.length ≤ most ∧ Pl.Ends n l ∧ Pl.WB l ∧ PastOk n most ss ls (live.set s.it.id.toNat s.live) (ed.set s.it.id.toNat s.it) l
  | [], _ :: _, _, _, _ => False
  | _ :: _, [], _, _, _ => False

theorem PastOk.take {n most : Nat} : ∀ {ss : List Sl} {ls : List (List It)} {live : List Bool} {ed L : List It}, PastOk n most ss ls live ed L → ∀ m, PastOk n most (ss.take m) (ls.take m) live ed L := by
  intro ss
  induction ss with
  | nil =>
    intro ls live ed L h m
    cases ls with
    | nil => simp [PastOk]
    | cons l ls => exact h.elim
  | cons s ss ih =>
    intro ls live ed L h m
    cases ls with
    | nil => exact h.elim
    | cons l ls =>
      cases m with
      | zero => simp [PastOk]
      | succ m =>
        obtain ⟨h1, h2, h3, h4, h5, h6, h7⟩ := h
        exact ⟨h1, h2, h3, h4, h5, h6, ih h7 m⟩

structure Ok (s : St) : Prop where
  n1 : 1 ≤ s.n
  n30 : s.n ≤ 30
  m60 : s.most ≤ 60
  len : s.L.length ≤ s.most
  ends : Pl.Ends s.n s.L
  wb : Pl.WB s.L
  past : s.past.length ≤ 20
  gl : Pl.GL s.L s.live s.ed
  ll : s.live.length = 100
  le : s.ed.length = 100
  eid : ∀ (i : Nat) (x : It), s.ed[i]? = some x → x.id = i
  sll : s.sl.length = 20
  chain : PastOk s.n s.most (s.sl.take s.past.length).reverse s.past.reverse s.live s.ed s.L

def XG (w : World) (xb : Nat) (s : St) : Prop := PF w xb s.n s.most s.live s.ed (pcells s.sl s.past.length)
theorem XG.pg {w : World} {xb : Nat} {s : St} (h : XG w xb s) : PG w xb s.n s.most s.live s.ed := PF.pg h

theorem Ok.l100 {s : St} (h : Ok s) : s.L.length ≤ 100 := by have := h.len; have := h.m60; omega
theorem Ok.l90 {s : St} (h : Ok s) : s.L.length ≤ 90 := by have := h.len; have := h.m60; omega

abbrev P0 (b : Nat) : Value := .pointer (some ⟨b, 0, none⟩)

theorem push_len (past : List (List It)) (L : List It) (h : past.length ≤ 20) : (push past L).length ≤ 20 := by
  unfold push
  split
  · simp; omega
  · rename_i hh; simp at hh ⊢; omega
theorem push_n (past : List (List It)) (L : List It) (h : past.length ≤ 20) : (push past L).length = pushN past.length := by
  unfold push pushN
  by_cases h20 : 20 ≤ past.length
  · rw [if_pos (by simp; omega), if_pos h20]; simp; omega
  · rw [if_neg (by simp; omega), if_neg h20]; simp

theorem chain_push {n most : Nat} {sl : List Sl} {past : List (List It)} {L L' ed ed' : List It} {live live' : List Bool} (s : Sl) (hsl : sl.length = 20) (hp : past.length ≤ 20)
    (h : PastOk n most (sl.take past.length).reverse past.reverse live ed L) (hid : 0 ≤ s.it.id ∧ s.it.id < 100) (hl : live'.set s.it.id.toNat s.live = live) (he : ed'.set s.it.id.toNat s.it = ed)
    (gl : Pl.GL L live ed) (adj : Pl.Adj L L') (len : L.length ≤ most) (ends : Pl.Ends n L) (wb : Pl.WB L) :
    PastOk n most ((pushS sl past.length s).take (push past L).length).reverse (push past L).reverse live' ed' L' := by
  by_cases hk : past.length < 20
  · have e1 : push past L = past ++ [L] := by unfold push; rw [if_neg (by simp; omega)]
    have e2 : pushS sl past.length s = sl.set past.length s := by unfold pushS; rw [if_neg (by omega)]
    have e3 : (sl.set past.length s).take (past.length + 1) = sl.take past.length ++ [s] := by
      rw [List.take_succ_eq_append_getElem (by rw [List.length_set]; omega), List.take_set_of_le (Nat.le_refl _), List.getElem_set_self]
    rw [e1, e2, List.length_append, List.length_singleton, e3, List.reverse_append, List.reverse_append]
    exact ⟨hid, by rw [hl, he]; exact gl, adj, len, ends, wb, by rw [hl, he]; exact h⟩
  · have hk' : past.length = 20 := by omega
    have e1 : push past L = past.tail ++ [L] := by
      unfold push; rw [if_pos (by simp; omega)]
      cases past with
      | nil => simp at hk'
      | cons a t => rfl
    have e2 : pushS sl past.length s = sl.drop 1 ++ [s] := by unfold pushS; rw [if_pos (by omega)]
    have e4 : (past.tail ++ [L]).length = 20 := by simp; omega
    have e3 : (sl.drop 1 ++ [s]).take 20 = sl.drop 1 ++ [s] := List.take_of_length_le (by simp; omega)
    have e5 : (sl.drop 1).reverse = sl.reverse.take 19 := by
      rw [List.take_reverse]; congr 2; omega
    have e6 : past.tail.reverse = past.reverse.take 19 := by
      rw [List.take_reverse, ← List.drop_one]; congr 2; omega
    rw [e1, e2, e4, e3, List.reverse_append, List.reverse_append, e5, e6]
    rw [hk', List.take_of_length_le (by omega)] at h
    exact ⟨hid, by rw [hl, he]; exact gl, adj, len, ends, wb, by rw [hl, he]; exact h.take 19⟩

/-- the states behind an edge that came, that went -/
def insSt (s : St) (i : Nat) (u v wt : Int) : St := ⟨s.n, s.most, Pl.withI s.L ⟨i, u, v, wt⟩, s.live.set i true, s.ed.set i ⟨i, u, v, wt⟩, push s.past s.L, pushS s.sl s.past.length ⟨s.live.getD i false, s.ed.getD i ⟨0, 0, 0, 0⟩⟩⟩
def delSt (s : St) (i : Nat) : St := ⟨s.n, s.most, Pl.withoutI s.L i, s.live.set i false, s.ed.set i ⟨i, 0, 0, 0⟩, push s.past s.L, pushS s.sl s.past.length ⟨s.live.getD i false, s.ed.getD i ⟨0, 0, 0, 0⟩⟩⟩

theorem pushS_len {sl : List Sl} {k : Nat} {s : Sl} (h : sl.length = 20) : (pushS sl k s).length = 20 := by
  unfold pushS
  split
  · simp; omega
  · rw [List.length_set]; exact h
theorem eid_set {ed : List It} (h : ∀ (i : Nat) (x : It), ed[i]? = some x → x.id = i) (j : Nat) (y : It) (hy : y.id = j) : ∀ (i : Nat) (x : It), (ed.set j y)[i]? = some x → x.id = i := by
  intro i x hx
  by_cases e : j = i
  · subst e
    rcases Nat.lt_or_ge j ed.length with hl | hl
    · rw [List.getElem?_set_self hl] at hx; simp at hx; rw [← hx]; exact hy
    · rw [List.getElem?_eq_none (by rw [List.length_set]; exact hl)] at hx; cases hx
  · rw [List.getElem?_set_ne e] at hx; exact h i x hx

section
variable {s : St}
theorem Ok.slot (h : Ok s) (i : Nat) (hi : i < 100) : ∃ (hl : i < s.live.length) (he : i < s.ed.length), s.live.getD i false = s.live[i] ∧ s.ed.getD i ⟨0, 0, 0, 0⟩ = s.ed[i] ∧ s.ed[i].id = i := by
  have h1 := h.ll
  have h2 := h.le
  refine ⟨by omega, by omega, ?_, ?_, ?_⟩
  · simp [List.getD, h1, hi]
  · simp [List.getD, h2, hi]
  · exact h.eid i _ (List.getElem?_eq_getElem (by omega))
theorem Ok.ins (h : Ok s) (i : Nat) (u v wt : Int) (h1 : Pl.numB (i : Int) = true) (h2 : Pl.verB s.n u = true) (h3 : Pl.verB s.n v = true) (h4 : Pl.has s.L (i : Int) = false) (h5 : s.L.length < s.most) (hw0 : -9223372036854775808 ≤ wt) (hw1 : wt ≤ 9223372036854775807) : Ok (insSt s i u v wt) := by
  obtain ⟨i0, i1⟩ := Pl.numB_true.1 h1
  obtain ⟨u0, u1⟩ := Pl.verB_true.1 h2
  obtain ⟨v0, v1⟩ := Pl.verB_true.1 h3
  have hll := Pl.with_len_eq s.L ⟨i, u, v, wt⟩ h4
  have hgl : Pl.GL (Pl.withI s.L ⟨i, u, v, wt⟩) (s.live.set i true) (s.ed.set i ⟨i, u, v, wt⟩) := by
    have := h.gl.with ⟨i, u, v, wt⟩ h4 i0 i1 h.ll h.le
    simpa using this
  obtain ⟨hl, he, e1, e2, e3⟩ := h.slot i (by omega)
  refine ⟨h.n1, h.n30, h.m60, ?_, Pl.with_ends h.ends ⟨u0, u1, v0, v1⟩, ?_, push_len _ _ h.past, hgl, by rw [insSt, List.length_set]; exact h.ll, by rw [insSt, List.length_set]; exact h.le, eid_set h.eid i _ rfl, pushS_len h.sll, ?_⟩
  · show (Pl.withI s.L ⟨i, u, v, wt⟩).length ≤ s.most
    omega
  · intro e hee
    rcases (Pl.mem_with h4).1 hee with e1 | e1
    · subst e1; exact ⟨hw0, hw1⟩
    · exact h.wb e e1
  · refine chain_push _ h.sll h.past h.chain ?_ ?_ ?_ h.gl (Pl.adj_with h4) h.len h.ends h.wb
    · show 0 ≤ (s.ed.getD i ⟨0, 0, 0, 0⟩).id ∧ (s.ed.getD i ⟨0, 0, 0, 0⟩).id < 100
      rw [e2, e3]; omega
    · show (s.live.set i true).set (s.ed.getD i ⟨0, 0, 0, 0⟩).id.toNat (s.live.getD i false) = s.live
      rw [e1, e2, e3, Int.toNat_natCast, List.set_set, List.set_getElem_self]
    · show (s.ed.set i ⟨i, u, v, wt⟩).set (s.ed.getD i ⟨0, 0, 0, 0⟩).id.toNat (s.ed.getD i ⟨0, 0, 0, 0⟩) = s.ed
      rw [e2, e3, Int.toNat_natCast, List.set_set, List.set_getElem_self]
theorem Ok.adjdel (h : Ok s) (i : Nat) (h4 : Pl.has s.L (i : Int) = true) : Pl.Adj s.L (Pl.withoutI s.L i) := by
  obtain ⟨x, hx, hxi⟩ := Pl.has_iff.1 h4
  rw [← hxi]
  exact Pl.adj_without h.gl.ids hx
theorem Ok.del (h : Ok s) (i : Nat) (h1 : Pl.numB (i : Int) = true) (h4 : Pl.has s.L (i : Int) = true) : Ok (delSt s i) := by
  obtain ⟨i0, i1⟩ := Pl.numB_true.1 h1
  have hll := Pl.without_len s.L i
  have hlen := h.len
  obtain ⟨hl, he, e1, e2, e3⟩ := h.slot i (by omega)
  refine ⟨h.n1, h.n30, h.m60, ?_, Pl.without_ends h.ends _, fun e he => h.wb e (Pl.mem_without.1 he).1, push_len _ _ h.past, h.gl.without i _, by rw [delSt, List.length_set]; exact h.ll, by rw [delSt, List.length_set]; exact h.le, eid_set h.eid i _ rfl, pushS_len h.sll, ?_⟩
  · show (Pl.withoutI s.L i).length ≤ s.most
    omega
  · refine chain_push _ h.sll h.past h.chain ?_ ?_ ?_ h.gl (h.adjdel i h4) h.len h.ends h.wb
    · show 0 ≤ (s.ed.getD i ⟨0, 0, 0, 0⟩).id ∧ (s.ed.getD i ⟨0, 0, 0, 0⟩).id < 100
      rw [e2, e3]; omega
    · show (s.live.set i false).set (s.ed.getD i ⟨0, 0, 0, 0⟩).id.toNat (s.live.getD i false) = s.live
      rw [e1, e2, e3, Int.toNat_natCast, List.set_set, List.set_getElem_self]
    · show (s.ed.set i ⟨i, 0, 0, 0⟩).set (s.ed.getD i ⟨0, 0, 0, 0⟩).id.toNat (s.ed.getD i ⟨0, 0, 0, 0⟩) = s.ed
      rw [e2, e3, Int.toNat_natCast, List.set_set, List.set_getElem_self]
/-- one change is taken back: the slot that says how -/
theorem Ok.last (h : Ok s) {q : List (List It)} {l : List It} (hp : s.past = q ++ [l]) : ∃ t : Sl, s.sl[q.length]? = some t ∧ (0 ≤ t.it.id ∧ t.it.id < 100) ∧ Pl.Adj s.L l ∧ l.length ≤ s.most ∧ Pl.Ends s.n l ∧ Pl.GL l (s.live.set t.it.id.toNat t.live) (s.ed.set t.it.id.toNat t.it) ∧
    Ok ⟨s.n, s.most, l, s.live.set t.it.id.toNat t.live, s.ed.set t.it.id.toNat t.it, q, s.sl.set q.length zeroSl⟩ := by
  have hc := h.chain
  have hpl := h.past
  rw [hp, List.length_append, List.length_singleton] at hpl
  have hq : q.length < s.sl.length := by have := h.sll; omega
  rw [hp, List.length_append, List.length_singleton, List.take_succ_eq_append_getElem hq, List.reverse_append, List.reverse_append] at hc
  obtain ⟨h1, h2, h3, h4, h5, h6, h7⟩ := hc
  refine ⟨s.sl[q.length], List.getElem?_eq_getElem hq, h1, h3.symm, h4, h5, h2, h.n1, h.n30, h.m60, h4, h5, h6, by show q.length ≤ 20; omega, h2, by rw [List.length_set]; exact h.ll, by rw [List.length_set]; exact h.le, eid_set h.eid _ _ (by omega), by rw [List.length_set]; exact h.sll, ?_⟩
  show PastOk s.n s.most ((s.sl.set q.length zeroSl).take q.length).reverse q.reverse _ _ l
  rw [List.take_set_of_le (Nat.le_refl _)]
  exact h7

theorem insX_ok (h : Ok s) (i : Nat) (u v wt : Int) (h1 : Pl.numB (i : Int) = true) (h2 : Pl.verB s.n u = true) (h3 : Pl.verB s.n v = true) (h4 : Pl.has s.L (i : Int) = false) (h5 : s.L.length < s.most) (w : World) (xb : Nat) (hx : XG w xb s) :
    Calls Tryz.prog 36 #[P0 xb, .int .i64 i, .int .i64 u, .int .i64 v, .int .i64 wt] w fun e w' =>
      e = .returned (.tuple #[.agg #[.int .i64 (Pl.only (Pl.forest (Pl.withI s.L ⟨i, u, v, wt⟩)) (Pl.forest s.L)), .int .i64 (Pl.only (Pl.forest s.L) (Pl.forest (Pl.withI s.L ⟨i, u, v, wt⟩)))], .int .i64 0]) ∧ XG w' xb (insSt s i u v wt) ∧ Fr (fun k => k = xb) w w' := by
  obtain ⟨i0, i1⟩ := Pl.numB_true.1 h1
  obtain ⟨hl, he, e1, e2, e3⟩ := h.slot i (by omega)
  unfold XG insSt
  simp only [e1, e2]
  rw [push_n _ _ h.past]
  exact insp_ok xb s.n s.most _ _ s.L s.sl s.past.length h.sll h.past i hl he e3 u v wt w hx h.gl h.l90 h.n30 h.ends h1 h2 h3 h4 h5
theorem insX_no (h : Ok s) (id u v wt : Int) (code : Int) (hc : (Pl.numB id = false ∧ code = 2) ∨ (Pl.numB id = true ∧ Pl.verB s.n u = false ∧ code = 3) ∨ (Pl.numB id = true ∧ Pl.verB s.n u = true ∧ Pl.verB s.n v = false ∧ code = 3) ∨ (Pl.numB id = true ∧ Pl.verB s.n u = true ∧ Pl.verB s.n v = true ∧ Pl.has s.L id = true ∧ code = 4) ∨
      (Pl.numB id = true ∧ Pl.verB s.n u = true ∧ Pl.verB s.n v = true ∧ Pl.has s.L id = false ∧ s.most ≤ s.L.length ∧ code = 5)) (w : World) (xb : Nat) (hx : XG w xb s) :
    Calls Tryz.prog 36 #[P0 xb, .int .i64 id, .int .i64 u, .int .i64 v, .int .i64 wt] w fun e w' => e = .returned (.tuple #[.agg #[.int .i64 0, .int .i64 0], .int .i64 code]) ∧ XG w' xb s ∧ Below w.heap.size w w' := by
  refine (insp_no xb _ _ _ _ s.L id u v wt w hx.pg h.gl code hc).mono ?_
  rintro e w' ⟨rfl, hb⟩
  exact ⟨rfl, PF.later hx hb (Nat.le_refl _), hb⟩
theorem delX_ok (h : Ok s) (i : Nat) (h1 : Pl.numB (i : Int) = true) (h4 : Pl.has s.L (i : Int) = true) (w : World) (xb : Nat) (hx : XG w xb s) :
    Calls Tryz.prog 37 #[P0 xb, .int .i64 i] w fun e w' =>
      e = .returned (.tuple #[.agg #[.int .i64 (Pl.only (Pl.forest (Pl.withoutI s.L i)) (Pl.forest s.L)), .int .i64 (Pl.only (Pl.forest s.L) (Pl.forest (Pl.withoutI s.L i)))], .int .i64 0]) ∧ XG w' xb (delSt s i) ∧ Fr (fun k => k = xb) w w' := by
  obtain ⟨i0, i1⟩ := Pl.numB_true.1 h1
  obtain ⟨hl, he, e1, e2, e3⟩ := h.slot i (by omega)
  unfold XG delSt
  simp only [e1, e2]
  rw [push_n _ _ h.past]
  exact delp_ok xb s.n s.most _ _ s.L s.sl s.past.length h.sll h.past i hl he e3 w hx h.gl h.l100 h.n30 h.ends h1 h4 (h.gl.without i _) (h.adjdel i h4)
theorem delX_no (h : Ok s) (id : Int) (code : Int) (hc : (Pl.numB id = false ∧ code = 2) ∨ (Pl.numB id = true ∧ Pl.has s.L id = false ∧ code = 6)) (w : World) (xb : Nat) (hx : XG w xb s) :
    Calls Tryz.prog 37 #[P0 xb, .int .i64 id] w fun e w' => e = .returned (.tuple #[.agg #[.int .i64 0, .int .i64 0], .int .i64 code]) ∧ XG w' xb s ∧ Below w.heap.size w w' := by
  refine (delp_no xb _ _ _ _ s.L id w hx.pg h.gl code hc).mono ?_
  rintro e w' ⟨rfl, hb⟩
  exact ⟨rfl, PF.later hx hb (Nat.le_refl _), hb⟩
theorem undoX_no (h : Ok s) (hp : s.past = []) (w : World) (xb : Nat) (hx : XG w xb s) :
    Calls Tryz.prog 39 #[P0 xb] w fun e w' => e = .returned (.tuple #[.agg #[.int .i64 0, .int .i64 0], .int .i64 8]) ∧ XG w' xb s ∧ Below w.heap.size w w' := by
  have hx' := hx
  unfold XG at hx'
  rw [hp] at hx'
  refine (undop_no xb _ _ _ _ s.sl h.sll w hx').mono ?_
  rintro e w' ⟨rfl, hb⟩
  exact ⟨rfl, PF.later hx hb (Nat.le_refl _), hb⟩
theorem undoX_ok (h : Ok s) {q : List (List It)} {l : List It} (hp : s.past = q ++ [l]) : ∃ s', Ok s' ∧ s'.L = l ∧ s'.past = q ∧ s'.n = s.n ∧ s'.most = s.most ∧ ∀ (w : World) (xb : Nat), XG w xb s →
    Calls Tryz.prog 39 #[P0 xb] w fun e w' =>
      e = .returned (.tuple #[.agg #[.int .i64 (Pl.only (Pl.forest l) (Pl.forest s.L)), .int .i64 (Pl.only (Pl.forest s.L) (Pl.forest l))], .int .i64 0]) ∧ XG w' xb s' ∧ Fr (fun k => k = xb) w w' := by
  obtain ⟨t, h1, h2, h3, h4, h5, h6, h7⟩ := h.last hp
  refine ⟨_, h7, rfl, rfl, rfl, rfl, fun w xb hx => ?_⟩
  have hpl := h.past
  rw [hp, List.length_append, List.length_singleton] at hpl
  have hx' := hx
  unfold XG at hx'
  rw [hp, List.length_append, List.length_singleton] at hx'
  obtain ⟨j, hj⟩ := Int.eq_ofNat_of_zero_le h2.1
  have hm := h.m60
  rw [hj, Int.toNat_natCast] at h6
  unfold XG
  simp only [hj, Int.toNat_natCast]
  exact undop_ok xb s.n s.most _ _ s.L l s.sl q.length h.sll (by omega) j (by omega) t.live t.it hj h1 w hx' h.gl h.l100 (by omega) h.n30 h.ends h5 h6 h3
end

def st0 (v m : Nat) : St := ⟨v, m, [], List.replicate 100 false, zeroEd, [], zeroSls⟩
theorem ok0 (v m : Nat) (h1 : 1 ≤ v) (h2 : v ≤ 30) (h4 : m ≤ 60) : Ok (st0 v m) := by
  refine ⟨h1, h2, h4, Nat.zero_le _, (fun e h => by cases h), (fun e h => by cases h), Nat.zero_le _, Pl.GL.nil _, by simp [st0], by simp [st0, zeroEd], ?_, by simp [st0, zeroSls], by simp [st0, PastOk]⟩
  intro i x hx
  simp only [st0, zeroEd] at hx
  rw [List.getElem?_map] at hx
  obtain ⟨hl, e⟩ := List.getElem?_eq_some_iff.1 (show (List.range 100)[i]? = some i by
    rw [List.getElem?_range]
    by_cases h : i < 100
    · exact h
    · rw [List.getElem?_eq_none (by simp; omega)] at hx; cases hx)
  rw [List.getElem?_eq_getElem hl, e] at hx
  simp at hx
  rw [← hx]
theorem newX_ok (v m : Nat) (w : World) (h1 : 1 ≤ v) (h2 : v ≤ 30) (h3 : 1 ≤ m) (h4 : m ≤ 60) :
    Calls Tryz.prog 25 #[.int .i64 v, .int .i64 m] w fun e w' => e = .returned (.tuple #[P0 w.heap.size, .int .i64 0]) ∧ XG w' w.heap.size (st0 v m) ∧ Below w.heap.size w w' ∧ w'.heap.size = w.heap.size + 1 := newp_ok v m w h1 h2 h3 h4

end Go.Proofs.YtnnnleckoinjoaaGreatDoor
