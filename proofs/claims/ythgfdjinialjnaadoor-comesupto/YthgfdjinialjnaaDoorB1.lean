/- Both graphs, the program's and the reference's, answer alike. -/
import Derived.Test.YthgfdjinialjnaaDoorP13
import Derived.Test.YthgfdjinialjnaaDoorP8
import Derived.Test.YthgfdjinialjnaaDoorR13
namespace Go.Proofs.YthgfdjinialjnaaDoor
open Go.RowKit
open Pl (It)

structure St where
  n : Nat
  most : Nat
  L : List It
  live : List Bool
  ed : List It
  past : List (List It)

structure Ok (s : St) : Prop where
  n1 : 1 ≤ s.n
  n30 : s.n ≤ 30
  m60 : s.most ≤ 60
  len : s.L.length ≤ s.most
  ends : Pl.Ends s.n s.L
  wb : Pl.WB s.L
  past : s.past.length ≤ 20
  gl : Pl.GL s.L s.live s.ed
  ll : s.live.length = 100
  le : s.ed.length = 100

def XG (w : World) (xb : Nat) (s : St) : Prop := PG w xb s.n s.most s.live s.ed
def YG (w : World) (gb : Nat) (s : St) (p : Option Nat) : Prop := RG w gb s.n s.most s.L s.past p

theorem Ok.l100 {s : St} (h : Ok s) : s.L.length ≤ 100 := by have := h.len; have := h.m60; omega
theorem Ok.l90 {s : St} (h : Ok s) : s.L.length ≤ 90 := by have := h.len; have := h.m60; omega

abbrev P0 (b : Nat) : Value := .pointer (some ⟨b, 0, none⟩)

theorem edge_both (s : St) (h : Ok s) (id : Int) : ∃ r0 r1 r2 c : Int,
    (∀ w xb, XG w xb s → Calls Tryd.prog 24 #[P0 xb, .int .i64 id] w fun e w' => e = .returned (.tuple #[.agg #[.int .i64 r0, .int .i64 r1, .int .i64 r2], .int .i64 c]) ∧ Below w.heap.size w w') ∧
    (∀ w gb p, YG w gb s p → Calls Tryd.prog 25 #[P0 gb, .int .i64 id] w fun e w' => e = .returned (.tuple #[.agg #[.int .i64 r0, .int .i64 r1, .int .i64 r2], .int .i64 c]) ∧ Below w.heap.size w w') := by
  cases h1 : Pl.numB id with
  | false =>
    exact ⟨0, 0, 0, 2, fun w xb hx => edgep_no xb _ _ _ _ s.L id w hx h.gl 2 (Or.inl ⟨h1, rfl⟩), fun w gb p hy => edger_no gb _ _ _ _ p id w hy h.l100 2 (Or.inl ⟨h1, rfl⟩)⟩
  | true =>
    cases h2 : Pl.has s.L id with
    | false =>
      exact ⟨0, 0, 0, 6, fun w xb hx => edgep_no xb _ _ _ _ s.L id w hx h.gl 6 (Or.inr ⟨h1, h2, rfl⟩), fun w gb p hy => edger_no gb _ _ _ _ p id w hy h.l100 6 (Or.inr ⟨h1, h2, rfl⟩)⟩
    | true =>
      obtain ⟨x, hx, rfl⟩ := Pl.has_iff.1 h2
      refine ⟨x.u, x.v, x.w, 0, fun w xb hX => edgep_ok xb _ _ _ _ s.L x hx w hX h.gl, fun w gb p hy => ?_⟩
      refine (edger_ok gb _ _ _ _ p x.id w hy h.l100 h1 h2).mono ?_
      rintro e w' ⟨k, hk, hid, rfl, hb⟩
      rw [Pl.ids_inj h.gl.ids (List.getElem_mem hk) hx hid]
      exact ⟨rfl, hb⟩

theorem in_both (s : St) (h : Ok s) (id : Int) : ∃ (r : Bool) (c : Int),
    (∀ w xb, XG w xb s → Calls Tryd.prog 26 #[P0 xb, .int .i64 id] w fun e w' => e = .returned (.tuple #[.bool r, .int .i64 c]) ∧ Below w.heap.size w w') ∧
    (∀ w gb p, YG w gb s p → Calls Tryd.prog 27 #[P0 gb, .int .i64 id] w fun e w' => e = .returned (.tuple #[.bool r, .int .i64 c]) ∧ Below w.heap.size w w') := by
  cases h1 : Pl.numB id with
  | false =>
    exact ⟨false, 2, fun w xb hx => inp_no xb _ _ _ _ s.L id w hx h.gl 2 (Or.inl ⟨h1, rfl⟩), fun w gb p hy => inr_no gb _ _ _ _ p id w hy h.l100 2 (Or.inl ⟨h1, rfl⟩)⟩
  | true =>
    cases h2 : Pl.has s.L id with
    | false =>
      exact ⟨false, 6, fun w xb hx => inp_no xb _ _ _ _ s.L id w hx h.gl 6 (Or.inr ⟨h1, h2, rfl⟩), fun w gb p hy => inr_no gb _ _ _ _ p id w hy h.l100 6 (Or.inr ⟨h1, h2, rfl⟩)⟩
    | true =>
      obtain ⟨x, hx, rfl⟩ := Pl.has_iff.1 h2
      refine ⟨Pl.keeps s.L x, 0, fun w xb hX => inp_ok xb _ _ _ _ s.L x hx w hX h.gl h.l100 h.n30 h.ends, fun w gb p hy => ?_⟩
      refine (inr_ok gb _ _ _ _ p x.id w hy h.l100 h.n30 h.ends h1 h2).mono ?_
      rintro e w' ⟨k, hk, hid, rfl, hb⟩
      rw [Pl.ids_inj h.gl.ids (List.getElem_mem hk) hx hid]
      exact ⟨rfl, hb⟩

theorem conn_both (s : St) (h : Ok s) (u v : Int) : ∃ (r : Bool) (c : Int),
    (∀ w xb, XG w xb s → Calls Tryd.prog 28 #[P0 xb, .int .i64 u, .int .i64 v] w fun e w' => e = .returned (.tuple #[.bool r, .int .i64 c]) ∧ Below w.heap.size w w') ∧
    (∀ w gb p, YG w gb s p → Calls Tryd.prog 29 #[P0 gb, .int .i64 u, .int .i64 v] w fun e w' => e = .returned (.tuple #[.bool r, .int .i64 c]) ∧ Below w.heap.size w w') := by
  cases h1 : Pl.verB s.n u with
  | false => exact ⟨false, 3, fun w xb hx => connp_no xb _ _ _ _ u v w hx (Or.inl h1), fun w gb p hy => connr_no gb _ _ _ _ p u v w hy (Or.inl h1)⟩
  | true =>
    cases h2 : Pl.verB s.n v with
    | false => exact ⟨false, 3, fun w xb hx => connp_no xb _ _ _ _ u v w hx (Or.inr ⟨h1, h2⟩), fun w gb p hy => connr_no gb _ _ _ _ p u v w hy (Or.inr ⟨h1, h2⟩)⟩
    | true => exact ⟨Pl.conn s.L u v, 0, fun w xb hx => connp_ok xb _ _ _ _ s.L u v w hx h.gl h.l100 h.n30 h.ends h1 h2, fun w gb p hy => connr_ok gb _ _ _ _ p u v w hy h.l100 h.n30 h.ends h1 h2⟩

theorem comp_both (s : St) (h : Ok s) : ∃ r : Int,
    (∀ w xb, XG w xb s → Calls Tryd.prog 36 #[P0 xb] w fun e w' => e = .returned (.int .i64 r) ∧ Below w.heap.size w w') ∧
    (∀ w gb p, YG w gb s p → Calls Tryd.prog 37 #[P0 gb] w fun e w' => e = .returned (.int .i64 r) ∧ Below w.heap.size w w') :=
  ⟨_, fun w xb hx => compp_any xb _ _ _ _ s.L w hx h.gl h.l100 h.n30 h.ends, fun w gb p hy => compr_any gb _ _ _ _ p w hy h.l100 h.n30 h.ends⟩

theorem weight_both (s : St) (h : Ok s) : ∃ r q : Int,
    (∀ w xb, XG w xb s → Calls Tryd.prog 38 #[P0 xb] w fun e w' => e = .returned (.tuple #[.int .i64 r, .int .i64 q]) ∧ Below w.heap.size w w') ∧
    (∀ w gb p, YG w gb s p → Calls Tryd.prog 39 #[P0 gb] w fun e w' => e = .returned (.tuple #[.int .i64 r, .int .i64 q]) ∧ Below w.heap.size w w') :=
  ⟨_, _, fun w xb hx => weightp_any xb _ _ _ _ s.L w hx h.gl h.l100 h.n30 h.ends h.wb, fun w gb p hy => weightr_any gb _ _ _ _ p w hy h.l100 h.n30 h.ends h.wb⟩

theorem live_both (s : St) (h : Ok s) : ∃ l : List Int, l.length ≤ 100 ∧
    (∀ w xb, XG w xb s → Calls Tryd.prog 30 #[P0 xb] w fun e w' => ∃ v, e = .returned v ∧ Nums w' w.heap.size v l ∧ Below w.heap.size w w') ∧
    (∀ w gb p, YG w gb s p → Calls Tryd.prog 31 #[P0 gb] w fun e w' => ∃ v, e = .returned v ∧ Nums w' w.heap.size v l ∧ Below w.heap.size w w') := by
  refine ⟨s.L.map It.id, by rw [List.length_map]; exact h.l100, fun w xb hx => ?_, fun w gb p hy => liver_any gb _ _ _ _ p w hy h.l100⟩
  have := livep_any xb _ _ _ _ w hx
  rw [h.gl.marks] at this
  exact this

theorem forest_both (s : St) (h : Ok s) : ∃ l : List Int, l.length ≤ 100 ∧
    (∀ w xb, XG w xb s → Calls Tryd.prog 34 #[P0 xb] w fun e w' => ∃ v, e = .returned v ∧ Nums w' w.heap.size v l ∧ Below w.heap.size w w') ∧
    (∀ w gb p, YG w gb s p → Calls Tryd.prog 35 #[P0 gb] w fun e w' => ∃ v, e = .returned v ∧ Nums w' w.heap.size v l ∧ Below w.heap.size w w') :=
  ⟨(Pl.forest s.L).map It.id, by rw [List.length_map]; exact Nat.le_trans (List.length_filter_le _ _) h.l100, fun w xb hx => forestp_any xb _ _ _ _ s.L w hx h.gl h.l100 h.n30 h.ends, fun w gb p hy => forestr_any gb _ _ _ _ p w hy h.l100 h.n30 h.ends⟩

theorem push_len (past : List (List It)) (L : List It) (h : past.length ≤ 20) : (push past L).length ≤ 20 := by
  unfold push
  split
  · simp; omega
  · rename_i hh; simp at hh ⊢; omega

theorem insert_both (s : St) (h : Ok s) (id u v wt : Int) (hw0 : -9223372036854775808 ≤ wt) (hw1 : wt ≤ 9223372036854775807) : ∃ (s' : St) (a r c : Int), Ok s' ∧
    (∀ w xb, XG w xb s → Calls Tryd.prog 18 #[P0 xb, .int .i64 id, .int .i64 u, .int .i64 v, .int .i64 wt] w fun e w' => e = .returned (.tuple #[.agg #[.int .i64 a, .int .i64 r], .int .i64 c]) ∧ XG w' xb s' ∧ Fr (fun k => k = xb) w w') ∧
    (∀ w gb p, YG w gb s p → Calls Tryd.prog 19 #[P0 gb, .int .i64 id, .int .i64 u, .int .i64 v, .int .i64 wt] w fun e w' => e = .returned (.tuple #[.agg #[.int .i64 a, .int .i64 r], .int .i64 c]) ∧ ∃ p', YG w' gb s' p' ∧ (p' = p ∨ ∃ k, p' = some k ∧ w.heap.size ≤ k) ∧ Fr (fun k => k = gb ∨ p = some k) w w') := by
  have no : ∀ code : Int, ((Pl.numB id = false ∧ code = 2) ∨ (Pl.numB id = true ∧ Pl.verB s.n u = false ∧ code = 3) ∨ (Pl.numB id = true ∧ Pl.verB s.n u = true ∧ Pl.verB s.n v = false ∧ code = 3) ∨ (Pl.numB id = true ∧ Pl.verB s.n u = true ∧ Pl.verB s.n v = true ∧ Pl.has s.L id = true ∧ code = 4) ∨
      (Pl.numB id = true ∧ Pl.verB s.n u = true ∧ Pl.verB s.n v = true ∧ Pl.has s.L id = false ∧ s.most ≤ s.L.length ∧ code = 5)) →
      ∃ (s' : St) (a r c : Int), Ok s' ∧
    (∀ w xb, XG w xb s → Calls Tryd.prog 18 #[P0 xb, .int .i64 id, .int .i64 u, .int .i64 v, .int .i64 wt] w fun e w' => e = .returned (.tuple #[.agg #[.int .i64 a, .int .i64 r], .int .i64 c]) ∧ XG w' xb s' ∧ Fr (fun k => k = xb) w w') ∧
    (∀ w gb p, YG w gb s p → Calls Tryd.prog 19 #[P0 gb, .int .i64 id, .int .i64 u, .int .i64 v, .int .i64 wt] w fun e w' => e = .returned (.tuple #[.agg #[.int .i64 a, .int .i64 r], .int .i64 c]) ∧ ∃ p', YG w' gb s' p' ∧ (p' = p ∨ ∃ k, p' = some k ∧ w.heap.size ≤ k) ∧ Fr (fun k => k = gb ∨ p = some k) w w') := by
    intro code hc
    refine ⟨s, 0, 0, code, h, fun w xb hx => ?_, fun w gb p hy => ?_⟩
    · refine (insp_no xb _ _ _ _ s.L id u v wt w hx h.gl code hc).mono ?_
      rintro e w' ⟨rfl, hb⟩
      exact ⟨rfl, PG.later hx hb (Nat.le_refl _), Fr.of_below hb⟩
    · refine (insr_no gb _ _ _ _ p id u v wt w hy h.l100 code hc).mono ?_
      rintro e w' ⟨rfl, hb⟩
      exact ⟨rfl, p, RG.later hy hb, Or.inl rfl, Fr.of_below hb⟩
  cases h1 : Pl.numB id with
  | false => exact no 2 (Or.inl ⟨h1, rfl⟩)
  | true =>
    cases h2 : Pl.verB s.n u with
    | false => exact no 3 (Or.inr (Or.inl ⟨h1, h2, rfl⟩))
    | true =>
      cases h3 : Pl.verB s.n v with
      | false => exact no 3 (Or.inr (Or.inr (Or.inl ⟨h1, h2, h3, rfl⟩)))
      | true =>
        cases h4 : Pl.has s.L id with
        | true => exact no 4 (Or.inr (Or.inr (Or.inr (Or.inl ⟨h1, h2, h3, h4, rfl⟩))))
        | false =>
          by_cases h5 : s.most ≤ s.L.length
          · exact no 5 (Or.inr (Or.inr (Or.inr (Or.inr ⟨h1, h2, h3, h4, h5, rfl⟩))))
          · clear no
            obtain ⟨i0, i1⟩ := Pl.numB_true.1 h1
            obtain ⟨i, rfl⟩ := Int.eq_ofNat_of_zero_le i0
            have hll := Pl.with_len_eq s.L ⟨i, u, v, wt⟩ h4
            obtain ⟨u0, u1⟩ := Pl.verB_true.1 h2
            obtain ⟨v0, v1⟩ := Pl.verB_true.1 h3
            have hgl : Pl.GL (Pl.withI s.L ⟨i, u, v, wt⟩) (s.live.set i true) (s.ed.set i ⟨i, u, v, wt⟩) := by
              have := h.gl.with ⟨i, u, v, wt⟩ h4 i0 i1 h.ll h.le
              simpa using this
            refine ⟨⟨s.n, s.most, Pl.withI s.L ⟨i, u, v, wt⟩, s.live.set i true, s.ed.set i ⟨i, u, v, wt⟩, push s.past s.L⟩, Pl.only (Pl.forest (Pl.withI s.L ⟨i, u, v, wt⟩)) (Pl.forest s.L), Pl.only (Pl.forest s.L) (Pl.forest (Pl.withI s.L ⟨i, u, v, wt⟩)), 0, ⟨h.n1, h.n30, h.m60, ?_, Pl.with_ends h.ends ⟨u0, u1, v0, v1⟩, ?_, push_len _ _ h.past, hgl, by rw [List.length_set]; exact h.ll, by rw [List.length_set]; exact h.le⟩, fun w xb hx => ?_, fun w gb p hy => ?_⟩
            · show (Pl.withI s.L ⟨i, u, v, wt⟩).length ≤ s.most
              omega
            · intro e hee
              rcases (Pl.mem_with h4).1 hee with e1 | e1
              · subst e1; exact ⟨hw0, hw1⟩
              · exact h.wb e e1
            · exact insp_ok xb s.n s.most _ _ s.L i u v wt w hx h.gl h.l90 h.n30 h.ends h1 h2 h3 h4 (by omega)
            · exact insr_ok gb s.n s.most s.L s.past p i u v wt w hy h.l90 h.n30 h.ends h.past h1 h2 h3 h4 (by omega)

end Go.Proofs.YthgfdjinialjnaaDoor
