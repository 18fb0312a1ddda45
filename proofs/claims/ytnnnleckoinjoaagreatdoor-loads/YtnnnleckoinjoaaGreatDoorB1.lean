/- Both graphs, the program's and the reference's, answer alike. -/
import Derived.Test.YtnnnleckoinjoaaGreatDoorQ1
import Derived.Test.YtnnnleckoinjoaaGreatDoorP8
import Derived.Test.YtnnnleckoinjoaaGreatDoorRAll
namespace Go.Proofs.YtnnnleckoinjoaaGreatDoor
open Go.RowKit
open Pl (It)

def YG (w : World) (gb : Nat) (s : St) (p : Option Nat) : Prop := RG w gb s.n s.most s.L s.past p

theorem edge_both (s : St) (h : Ok s) (id : Int) : ∃ r0 r1 r2 c : Int,
    (∀ w xb, XG w xb s → Calls Tryz.prog 41 #[P0 xb, .int .i64 id] w fun e w' => e = .returned (.tuple #[.agg #[.int .i64 r0, .int .i64 r1, .int .i64 r2], .int .i64 c]) ∧ Below w.heap.size w w') ∧
    (∀ w gb p, YG w gb s p → Calls Tryz.prog 42 #[P0 gb, .int .i64 id] w fun e w' => e = .returned (.tuple #[.agg #[.int .i64 r0, .int .i64 r1, .int .i64 r2], .int .i64 c]) ∧ Below w.heap.size w w') := by
  cases h1 : Pl.numB id with
  | false =>
    exact ⟨0, 0, 0, 2, fun w xb hx => edgep_no xb _ _ _ _ s.L id w hx.pg h.gl 2 (Or.inl ⟨h1, rfl⟩), fun w gb p hy => edger_no gb _ _ _ _ p id w hy h.l100 2 (Or.inl ⟨h1, rfl⟩)⟩
  | true =>
    cases h2 : Pl.has s.L id with
    | false =>
      exact ⟨0, 0, 0, 6, fun w xb hx => edgep_no xb _ _ _ _ s.L id w hx.pg h.gl 6 (Or.inr ⟨h1, h2, rfl⟩), fun w gb p hy => edger_no gb _ _ _ _ p id w hy h.l100 6 (Or.inr ⟨h1, h2, rfl⟩)⟩
    | true =>
      obtain ⟨x, hx, rfl⟩ := Pl.has_iff.1 h2
      refine ⟨x.u, x.v, x.w, 0, fun w xb hX => edgep_ok xb _ _ _ _ s.L x hx w hX.pg h.gl, fun w gb p hy => ?_⟩
      refine (edger_ok gb _ _ _ _ p x.id w hy h.l100 h1 h2).mono ?_
      rintro e w' ⟨k, hk, hid, rfl, hb⟩
      rw [Pl.ids_inj h.gl.ids (List.getElem_mem hk) hx hid]
      exact ⟨rfl, hb⟩

theorem in_both (s : St) (h : Ok s) (id : Int) : ∃ (r : Bool) (c : Int),
    (∀ w xb, XG w xb s → Calls Tryz.prog 43 #[P0 xb, .int .i64 id] w fun e w' => e = .returned (.tuple #[.bool r, .int .i64 c]) ∧ Below w.heap.size w w') ∧
    (∀ w gb p, YG w gb s p → Calls Tryz.prog 44 #[P0 gb, .int .i64 id] w fun e w' => e = .returned (.tuple #[.bool r, .int .i64 c]) ∧ Below w.heap.size w w') := by
  cases h1 : Pl.numB id with
  | false =>
    exact ⟨false, 2, fun w xb hx => inp_no xb _ _ _ _ s.L id w hx.pg h.gl 2 (Or.inl ⟨h1, rfl⟩), fun w gb p hy => inr_no gb _ _ _ _ p id w hy h.l100 2 (Or.inl ⟨h1, rfl⟩)⟩
  | true =>
    cases h2 : Pl.has s.L id with
    | false =>
      exact ⟨false, 6, fun w xb hx => inp_no xb _ _ _ _ s.L id w hx.pg h.gl 6 (Or.inr ⟨h1, h2, rfl⟩), fun w gb p hy => inr_no gb _ _ _ _ p id w hy h.l100 6 (Or.inr ⟨h1, h2, rfl⟩)⟩
    | true =>
      obtain ⟨x, hx, rfl⟩ := Pl.has_iff.1 h2
      refine ⟨Pl.keeps s.L x, 0, fun w xb hX => inp_ok xb _ _ _ _ s.L x hx w hX.pg h.gl h.l100 h.n30 h.ends, fun w gb p hy => ?_⟩
      refine (inr_ok gb _ _ _ _ p x.id w hy h.l100 h.n30 h.ends h1 h2).mono ?_
      rintro e w' ⟨k, hk, hid, rfl, hb⟩
      rw [Pl.ids_inj h.gl.ids (List.getElem_mem hk) hx hid]
      exact ⟨rfl, hb⟩

theorem conn_both (s : St) (h : Ok s) (u v : Int) : ∃ (r : Bool) (c : Int),
    (∀ w xb, XG w xb s → Calls Tryz.prog 45 #[P0 xb, .int .i64 u, .int .i64 v] w fun e w' => e = .returned (.tuple #[.bool r, .int .i64 c]) ∧ Below w.heap.size w w') ∧
    (∀ w gb p, YG w gb s p → Calls Tryz.prog 46 #[P0 gb, .int .i64 u, .int .i64 v] w fun e w' => e = .returned (.tuple #[.bool r, .int .i64 c]) ∧ Below w.heap.size w w') := by
  cases h1 : Pl.verB s.n u with
  | false => exact ⟨false, 3, fun w xb hx => connp_no xb _ _ _ _ u v w hx.pg (Or.inl h1), fun w gb p hy => connr_no gb _ _ _ _ p u v w hy (Or.inl h1)⟩
  | true =>
    cases h2 : Pl.verB s.n v with
    | false => exact ⟨false, 3, fun w xb hx => connp_no xb _ _ _ _ u v w hx.pg (Or.inr ⟨h1, h2⟩), fun w gb p hy => connr_no gb _ _ _ _ p u v w hy (Or.inr ⟨h1, h2⟩)⟩
    | true => exact ⟨Pl.conn s.L u v, 0, fun w xb hx => connp_ok xb _ _ _ _ s.L u v w hx.pg h.gl h.l100 h.n30 h.ends h.wb h1 h2, fun w gb p hy => connr_ok gb _ _ _ _ p u v w hy h.l100 h.n30 h.ends h1 h2⟩

theorem comp_both (s : St) (h : Ok s) : ∃ r : Int,
    (∀ w xb, XG w xb s → Calls Tryz.prog 52 #[P0 xb] w fun e w' => e = .returned (.int .i64 r) ∧ Below w.heap.size w w') ∧
    (∀ w gb p, YG w gb s p → Calls Tryz.prog 53 #[P0 gb] w fun e w' => e = .returned (.int .i64 r) ∧ Below w.heap.size w w') :=
  ⟨_, fun w xb hx => compp_any xb _ _ _ _ s.L w hx.pg h.gl h.l100 h.n30 h.ends, fun w gb p hy => compr_any gb _ _ _ _ p w hy h.l100 h.n30 h.ends⟩

theorem weight_both (s : St) (h : Ok s) : ∃ r q : Int,
    (∀ w xb, XG w xb s → Calls Tryz.prog 54 #[P0 xb] w fun e w' => e = .returned (.tuple #[.int .i64 r, .int .i64 q]) ∧ Below w.heap.size w w') ∧
    (∀ w gb p, YG w gb s p → Calls Tryz.prog 55 #[P0 gb] w fun e w' => e = .returned (.tuple #[.int .i64 r, .int .i64 q]) ∧ Below w.heap.size w w') :=
  ⟨_, _, fun w xb hx => weightp_any xb _ _ _ _ s.L w hx.pg h.gl h.l100 h.n30 h.ends h.wb, fun w gb p hy => weightr_any gb _ _ _ _ p w hy h.l100 h.n30 h.ends h.wb⟩

theorem live_both (s : St) (h : Ok s) : ∃ l : List Int, l.length ≤ 100 ∧
    (∀ w xb, XG w xb s → Calls Tryz.prog 17 #[P0 xb] w fun e w' => ∃ v, e = .returned v ∧ Nums w' w.heap.size v l ∧ Below w.heap.size w w') ∧
    (∀ w gb p, YG w gb s p → Calls Tryz.prog 47 #[P0 gb] w fun e w' => ∃ v, e = .returned v ∧ Nums w' w.heap.size v l ∧ Below w.heap.size w w') := by
  refine ⟨s.L.map It.id, by rw [List.length_map]; exact h.l100, fun w xb hx => ?_, fun w gb p hy => liver_any gb _ _ _ _ p w hy h.l100⟩
  have := livep_any xb _ _ _ _ w hx.pg
  rw [h.gl.marks] at this
  exact this

theorem forest_both (s : St) (h : Ok s) : ∃ l : List Int, l.length ≤ 100 ∧
    (∀ w xb, XG w xb s → Calls Tryz.prog 50 #[P0 xb] w fun e w' => ∃ v, e = .returned v ∧ Nums w' w.heap.size v l ∧ Below w.heap.size w w') ∧
    (∀ w gb p, YG w gb s p → Calls Tryz.prog 51 #[P0 gb] w fun e w' => ∃ v, e = .returned v ∧ Nums w' w.heap.size v l ∧ Below w.heap.size w w') :=
  ⟨(Pl.forest s.L).map It.id, by rw [List.length_map]; exact Nat.le_trans (List.length_filter_le _ _) h.l100, fun w xb hx => forestp_any xb _ _ _ _ s.L w hx.pg h.gl h.l100 h.n30 h.ends, fun w gb p hy => forestr_any gb _ _ _ _ p w hy h.l100 h.n30 h.ends⟩

theorem insert_both (s : St) (h : Ok s) (id u v wt : Int) (hw0 : -9223372036854775808 ≤ wt) (hw1 : wt ≤ 9223372036854775807) : ∃ (s' : St) (a r c : Int), Ok s' ∧
    (∀ w xb, XG w xb s → Calls Tryz.prog 36 #[P0 xb, .int .i64 id, .int .i64 u, .int .i64 v, .int .i64 wt] w fun e w' => e = .returned (.tuple #[.agg #[.int .i64 a, .int .i64 r], .int .i64 c]) ∧ XG w' xb s' ∧ Fr (fun k => k = xb) w w') ∧
    (∀ w gb p, YG w gb s p → Calls Tryz.prog 33 #[P0 gb, .int .i64 id, .int .i64 u, .int .i64 v, .int .i64 wt] w fun e w' => e = .returned (.tuple #[.agg #[.int .i64 a, .int .i64 r], .int .i64 c]) ∧ ∃ p', YG w' gb s' p' ∧ (p' = p ∨ ∃ k, p' = some k ∧ w.heap.size ≤ k) ∧ Fr (fun k => k = gb ∨ p = some k) w w') := by
  have no : ∀ code : Int, ((Pl.numB id = false ∧ code = 2) ∨ (Pl.numB id = true ∧ Pl.verB s.n u = false ∧ code = 3) ∨ (Pl.numB id = true ∧ Pl.verB s.n u = true ∧ Pl.verB s.n v = false ∧ code = 3) ∨ (Pl.numB id = true ∧ Pl.verB s.n u = true ∧ Pl.verB s.n v = true ∧ Pl.has s.L id = true ∧ code = 4) ∨
      (Pl.numB id = true ∧ Pl.verB s.n u = true ∧ Pl.verB s.n v = true ∧ Pl.has s.L id = false ∧ s.most ≤ s.L.length ∧ code = 5)) →
      ∃ (s' : St) (a r c : Int), Ok s' ∧
    (∀ w xb, XG w xb s → Calls Tryz.prog 36 #[P0 xb, .int .i64 id, .int .i64 u, .int .i64 v, .int .i64 wt] w fun e w' => e = .returned (.tuple #[.agg #[.int .i64 a, .int .i64 r], .int .i64 c]) ∧ XG w' xb s' ∧ Fr (fun k => k = xb) w w') ∧
    (∀ w gb p, YG w gb s p → Calls Tryz.prog 33 #[P0 gb, .int .i64 id, .int .i64 u, .int .i64 v, .int .i64 wt] w fun e w' => e = .returned (.tuple #[.agg #[.int .i64 a, .int .i64 r], .int .i64 c]) ∧ ∃ p', YG w' gb s' p' ∧ (p' = p ∨ ∃ k, p' = some k ∧ w.heap.size ≤ k) ∧ Fr (fun k => k = gb ∨ p = some k) w w') := by
    intro code hc
    refine ⟨s, 0, 0, code, h, fun w xb hx => ?_, fun w gb p hy => ?_⟩
    · refine (insX_no h id u v wt code hc w xb hx).mono ?_
      rintro e w' ⟨rfl, hx', hb⟩
      exact ⟨rfl, hx', Fr.of_below hb⟩
    · refine (insr_no gb _ _ _ _ p id u v wt w hy h.l100 code hc).mono ?_
      rintro e w' ⟨rfl, hb⟩
      exact ⟨rfl, p, RG.later hy hb, Or.inl rfl, Fr.of_below hb⟩
  cases h1 : Pl.numB id with
  | false => exact no 2 (Or.inl ⟨h1, rfl⟩)
  | true =>
    cases h2 : Pl.verB s.n u with
    | false => exact no 3 (Or.inr (Or.inl ⟨h1, h2, rfl⟩))
    | true =>
      cases h3 : Pl.verB s.n v with
      | false => exact no 3 (Or.inr (Or.inr (Or.inl ⟨h1, h2, h3, rfl⟩)))
      | true =>
        cases h4 : Pl.has s.L id with
        | true => exact no 4 (Or.inr (Or.inr (Or.inr (Or.inl ⟨h1, h2, h3, h4, rfl⟩))))
        | false =>
          by_cases h5 : s.most ≤ s.L.length
          · exact no 5 (Or.inr (Or.inr (Or.inr (Or.inr ⟨h1, h2, h3, h4, h5, rfl⟩))))
          · clear no
            obtain ⟨i0, i1⟩ := Pl.numB_true.1 h1
            obtain ⟨i, rfl⟩ := Int.eq_ofNat_of_zero_le i0
            refine ⟨insSt s i u v wt, Pl.only (Pl.forest (Pl.withI s.L ⟨i, u, v, wt⟩)) (Pl.forest s.L), Pl.only (Pl.forest s.L) (Pl.forest (Pl.withI s.L ⟨i, u, v, wt⟩)), 0, h.ins i u v wt h1 h2 h3 h4 (by omega) hw0 hw1, fun w xb hx => insX_ok h i u v wt h1 h2 h3 h4 (by omega) w xb hx, fun w gb p hy => ?_⟩
            · exact insr_ok gb s.n s.most s.L s.past p i u v wt w hy h.l90 h.n30 h.ends h.past h1 h2 h3 h4 (by omega)

theorem Pl.out_is (l : List It) (id : Int) : Pl.outI l id = Pl.withoutI l id := by
  unfold Pl.outI Pl.withoutI
  refine List.filter_congr fun e _ => ?_
  by_cases h : e.id = id <;> simp [h]

theorem delete_both (s : St) (h : Ok s) (id : Int) : ∃ (s' : St) (a r c : Int), Ok s' ∧
    (∀ w xb, XG w xb s → Calls Tryz.prog 37 #[P0 xb, .int .i64 id] w fun e w' => e = .returned (.tuple #[.agg #[.int .i64 a, .int .i64 r], .int .i64 c]) ∧ XG w' xb s' ∧ Fr (fun k => k = xb) w w') ∧
    (∀ w gb p, YG w gb s p → Calls Tryz.prog 38 #[P0 gb, .int .i64 id] w fun e w' => e = .returned (.tuple #[.agg #[.int .i64 a, .int .i64 r], .int .i64 c]) ∧ ∃ p', YG w' gb s' p' ∧ (p' = p ∨ ∃ k, p' = some k ∧ w.heap.size ≤ k) ∧ Fr (fun k => k = gb ∨ p = some k) w w') := by
  have no : ∀ code : Int, ((Pl.numB id = false ∧ code = 2) ∨ (Pl.numB id = true ∧ Pl.has s.L id = false ∧ code = 6)) → ∃ (s' : St) (a r c : Int), Ok s' ∧
    (∀ w xb, XG w xb s → Calls Tryz.prog 37 #[P0 xb, .int .i64 id] w fun e w' => e = .returned (.tuple #[.agg #[.int .i64 a, .int .i64 r], .int .i64 c]) ∧ XG w' xb s' ∧ Fr (fun k => k = xb) w w') ∧
    (∀ w gb p, YG w gb s p → Calls Tryz.prog 38 #[P0 gb, .int .i64 id] w fun e w' => e = .returned (.tuple #[.agg #[.int .i64 a, .int .i64 r], .int .i64 c]) ∧ ∃ p', YG w' gb s' p' ∧ (p' = p ∨ ∃ k, p' = some k ∧ w.heap.size ≤ k) ∧ Fr (fun k => k = gb ∨ p = some k) w w') := by
    intro code hc
    refine ⟨s, 0, 0, code, h, fun w xb hx => ?_, fun w gb p hy => ?_⟩
    · refine (delX_no h id code hc w xb hx).mono ?_
      rintro e w' ⟨rfl, hx', hb⟩
      exact ⟨rfl, hx', Fr.of_below hb⟩
    · refine (delr_no gb _ _ _ _ p id w hy h.l100 code hc).mono ?_
      rintro e w' ⟨rfl, hb⟩
      exact ⟨rfl, p, RG.later hy hb, Or.inl rfl, Fr.of_below hb⟩
  cases h1 : Pl.numB id with
  | false => exact no 2 (Or.inl ⟨h1, rfl⟩)
  | true =>
    cases h4 : Pl.has s.L id with
    | false => exact no 6 (Or.inr ⟨h1, h4, rfl⟩)
    | true =>
      clear no
      obtain ⟨i0, i1⟩ := Pl.numB_true.1 h1
      obtain ⟨i, rfl⟩ := Int.eq_ofNat_of_zero_le i0
      refine ⟨delSt s i, Pl.only (Pl.forest (Pl.withoutI s.L i)) (Pl.forest s.L), Pl.only (Pl.forest s.L) (Pl.forest (Pl.withoutI s.L i)), 0, h.del i h1 h4, fun w xb hx => delX_ok h i h1 h4 w xb hx, fun w gb p hy => ?_⟩
      have := delr_ok gb s.n s.most s.L s.past p i w hy h.l100 h.n30 h.ends h.past h1 h4
      rw [Pl.out_is] at this
      exact this

theorem undo_both (s : St) (h : Ok s) : ∃ (s' : St) (a r c : Int), Ok s' ∧
    (∀ w xb, XG w xb s → Calls Tryz.prog 39 #[P0 xb] w fun e w' => e = .returned (.tuple #[.agg #[.int .i64 a, .int .i64 r], .int .i64 c]) ∧ XG w' xb s' ∧ Fr (fun k => k = xb) w w') ∧
    (∀ w gb p, YG w gb s p → Calls Tryz.prog 40 #[P0 gb] w fun e w' => e = .returned (.tuple #[.agg #[.int .i64 a, .int .i64 r], .int .i64 c]) ∧ ∃ p', YG w' gb s' p' ∧ (p' = p ∨ ∃ k, p' = some k ∧ w.heap.size ≤ k) ∧ Fr (fun k => k = gb ∨ p = some k) w w') := by
  rcases List.eq_nil_or_concat s.past with hp | ⟨q, l, hp⟩
  · refine ⟨s, 0, 0, 8, h, fun w xb hx => ?_, fun w gb p hy => ?_⟩
    · refine (undoX_no h hp w xb hx).mono ?_
      rintro e w' ⟨rfl, hx', hb⟩
      exact ⟨rfl, hx', Fr.of_below hb⟩
    · have hy' := hy
      unfold YG at hy'
      rw [hp] at hy'
      refine (undor_no gb _ _ _ p w hy').mono ?_
      rintro e w' ⟨rfl, hb⟩
      exact ⟨rfl, p, RG.later hy hb, Or.inl rfl, Fr.of_below hb⟩
  · rw [List.concat_eq_append] at hp
    obtain ⟨t, h1, h2, h3, h4, h5, h6, h7⟩ := h.last hp
    obtain ⟨s', ok', e1, e2, e3, e4, hX⟩ := undoX_ok h hp
    refine ⟨s', Pl.only (Pl.forest l) (Pl.forest s.L), Pl.only (Pl.forest s.L) (Pl.forest l), 0, ok', hX, fun w gb p hy => ?_⟩
    have hy' := hy
    unfold YG at hy'
    rw [hp] at hy'
    have hpl := h.past
    rw [hp, List.length_append, List.length_singleton] at hpl
    have hm := h.m60
    refine (undor_ok gb s.n s.most s.L l q p w hy' (by omega) h.l100 h.n30 h.ends h5 (by omega)).mono ?_
    rintro e w' ⟨rfl, hR, hF⟩
    refine ⟨rfl, p, ?_, Or.inl rfl, hF.mono (fun k _ e => Or.inl e)⟩
    unfold YG
    rw [e1, e2, e3, e4]
    exact hR

end Go.Proofs.YtnnnleckoinjoaaGreatDoor
