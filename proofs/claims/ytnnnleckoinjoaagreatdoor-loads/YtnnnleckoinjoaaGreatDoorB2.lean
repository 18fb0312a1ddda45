/- What hangs on the forest: both graphs answer alike. -/
import Derived.Test.YtnnnleckoinjoaaGreatDoorB1
import Derived.Test.YtnnnleckoinjoaaGreatDoorL10
import Derived.Test.YtnnnleckoinjoaaGreatDoorH2
import Derived.Test.YtnnnleckoinjoaaGreatDoorP23
namespace Go.Proofs.YtnnnleckoinjoaaGreatDoor
open Go.RowKit
open Pl (It)

theorem groups_both (s : St) (h : Ok s) (d : Int) : Both1 56 57 [.int .i64 d] s :=
  ⟨Pl.parts s.n (Pl.upI s.L d), fun w xb hx => groupsp_any xb _ _ _ _ s.L d w hx.pg h.gl h.l100 h.n30 h.ends, fun w gb p hy => groupsr_any gb _ _ _ _ p d w hy h.l100 h.n30 h.ends⟩

theorem reach_both (s : St) (h : Ok s) (a d : Int) : Both2 62 63 [.int .i64 a, .int .i64 d] s := by
  cases h1 : Pl.verB s.n a with
  | false => exact ⟨0, 3, fun w xb hx => reachp_no xb _ _ _ _ a d w hx.pg h1, fun w gb p hy => reachr_no gb _ _ _ _ p a d w hy h1⟩
  | true => exact ⟨Pl.joinN s.n (Pl.upI s.L d) a, 0, fun w xb hx => reachp_ok xb _ _ _ _ s.L a d w hx.pg h.gl h.l100 h.n30 h.ends h1, fun w gb p hy => reachr_ok gb _ _ _ _ p a d w hy h.l100 h.n30 h.ends h1⟩

theorem heav_both (s : St) (h : Ok s) (a b : Int) : Both2 58 59 [.int .i64 a, .int .i64 b] s := by
  have no : ∀ code : Int, ((Pl.verB s.n a = false ∧ code = 3) ∨ (Pl.verB s.n a = true ∧ Pl.verB s.n b = false ∧ code = 3) ∨ (Pl.verB s.n a = true ∧ Pl.verB s.n b = true ∧ Pl.conn s.L a b = false ∧ code = 7)) → Both2 58 59 [.int .i64 a, .int .i64 b] s := fun code hc =>
    ⟨0, code, fun w xb hx => heavp_no xb _ _ _ _ s.L a b w hx.pg h.gl h.l100 h.n30 h.ends h.wb code hc, fun w gb p hy => heavr_no gb _ _ _ _ p a b w hy h.l100 h.n30 h.ends code hc⟩
  cases h1 : Pl.verB s.n a with
  | false => exact no 3 (Or.inl ⟨h1, rfl⟩)
  | true =>
    cases h2 : Pl.verB s.n b with
    | false => exact no 3 (Or.inr (Or.inl ⟨h1, h2, rfl⟩))
    | true =>
      cases h3 : Pl.conn s.L a b with
      | false => exact no 7 (Or.inr (Or.inr ⟨h1, h2, h3, rfl⟩))
      | true =>
        refine ⟨Pl.midI s.L a b, 0, fun w xb hx => heavp_ok xb _ _ _ _ s.L a b w hx.pg h.gl h.l100 h.n30 h.ends h.wb h1 h2 h3, fun w gb p hy => ?_⟩
        rw [← Pl.best_mid h.gl.ids h.gl.rng h3]
        exact heavr_ok gb _ _ _ _ p a b w hy h.l100 h.n30 h.ends h1 h2 h3

theorem other_both (s : St) (h : Ok s) (id : Int) : Both2 60 61 [.int .i64 id] s := by
  cases h1 : Pl.numB id with
  | false =>
    exact ⟨0, 2, fun w xb hx => otherp_no xb _ _ _ _ s.L id w hx.pg h.gl 2 (Or.inl ⟨h1, rfl⟩), fun w gb p hy => otherr_no gb _ _ _ _ p id w hy h.l100 2 (Or.inl ⟨h1, rfl⟩)⟩
  | true =>
    cases h2 : Pl.has s.L id with
    | false =>
      exact ⟨0, 6, fun w xb hx => otherp_no xb _ _ _ _ s.L id w hx.pg h.gl 6 (Or.inr ⟨h1, h2, rfl⟩), fun w gb p hy => otherr_no gb _ _ _ _ p id w hy h.l100 6 (Or.inr ⟨h1, h2, rfl⟩)⟩
    | true =>
      obtain ⟨x, hx, rfl⟩ := Pl.has_iff.1 h2
      refine ⟨if Pl.keeps s.L x then Pl.only (Pl.forest (Pl.withoutI s.L x.id)) (Pl.forest s.L) else Pl.midI s.L x.u x.v, 0, fun w xb hX => otherp_ok xb s x hx w hX h, fun w gb p hy => ?_⟩
      refine (otherr_ok gb _ _ _ _ p x.id w hy h.l100 h.n30 h.ends h1 h2).mono ?_
      rintro e w' ⟨k, hk, hid, rfl, hb⟩
      rw [Pl.ids_inj h.gl.ids (List.getElem_mem hk) hx hid]
      refine ⟨?_, hb⟩
      cases hkx : Pl.keeps s.L x with
      | true => simp only [if_true]; rw [Pl.out_is]
      | false =>
        have hc : Pl.conn s.L x.u x.v = true := by
          have : Pl.conn (Pl.below s.L x) x.u x.v = true := by unfold Pl.keeps at hkx; simpa using hkx
          exact Pl.conn_mono (fun e he => (Pl.mem_below.1 he).1) this
        rw [← Pl.best_mid h.gl.ids h.gl.rng hc]; rfl

end Go.Proofs.YtnnnleckoinjoaaGreatDoor
