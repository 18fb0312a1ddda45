/- All that a graph tells, as functions of its edges alone. -/
import Derived.Test.YtnnnleckoinjoaaDoorK14
import Derived.Test.YtnnnleckoinjoaaDoorP10
import Derived.Test.YtnnnleckoinjoaaDoorP23
import Derived.Test.YtnnnleckoinjoaaDoorT5
namespace Go.Proofs.YtnnnleckoinjoaaDoor
open Go.RowKit
open Pl (It)

namespace Pl
def edI (L : List It) (id : Int) : It := (L.find? (fun e => e.id == id)).getD ⟨0, 0, 0, 0⟩
def edC (L : List It) (id : Int) : Int := if numB id then (if has L id then 0 else 6) else 2
def othI (L : List It) (id : Int) : Int := if has L id then (if has (forest L) id then only (forest (withoutI L id)) (forest L) else midI L (edI L id).u (edI L id).v) else 0
def cnB (n : Nat) (L : List It) (u v : Int) : Bool := verB n u && verB n v && conn L u v
def cnC (n : Nat) (u v : Int) : Int := if verB n u && verB n v then 0 else 3
def hvI (n : Nat) (L : List It) (u v : Int) : Int := if cnB n L u v then midI L u v else 0
def hvC (n : Nat) (L : List It) (u v : Int) : Int := if verB n u && verB n v then (if conn L u v then 0 else 7) else 3
def rcI (n : Nat) (L : List It) (u x : Int) : Int := if verB n u then joinN n (upI L x) u else 0
def rcC (n : Nat) (u : Int) : Int := if verB n u then 0 else 3

theorem edI_mem {L : List It} {x : It} (hi : Ids L) (hx : x ∈ L) : edI L x.id = x := by
  unfold edI
  cases hf : L.find? (fun e => e.id == x.id) with
  | none =>
    have := List.find?_eq_none.1 hf x hx
    simp at this
  | some y =>
    have h1 := List.find?_some hf
    have h2 := List.mem_of_find?_eq_some hf
    exact ids_inj hi h2 hx (by simpa using h1)
theorem edI_no {L : List It} {id : Int} (h : has L id = false) : edI L id = ⟨0, 0, 0, 0⟩ := by
  unfold edI
  cases hf : L.find? (fun e => e.id == id) with
  | none => rfl
  | some y =>
    have h1 := List.find?_some hf
    have h2 := List.mem_of_find?_eq_some hf
    exact absurd (by simpa using h1) (has_false.1 h y h2)
theorem has_num {L : List It} {id : Int} (hr : Rng L) (h : numB id = false) : has L id = false := by
  rw [has_false]
  rintro e he rfl
  have := hr e he
  have : numB e.id = true := numB_true.2 this
  rw [h] at this; cases this
theorem has_fo {L : List It} {id : Int} (h : has L id = false) : has (forest L) id = false := by
  rw [has_false] at *
  exact fun e he => h e (forest_mem.1 he).1
end Pl

section
variable {s : St} (h : Ok s)

theorem edge_t (h : Ok s) (id : Int) (w : World) (xb : Nat) (hX : XG w xb s) : Calls Tryd.prog 29 #[P0 xb, .int .i64 id] w fun e w' => e = .returned (.tuple #[.agg #[.int .i64 (Pl.edI s.L id).u, .int .i64 (Pl.edI s.L id).v, .int .i64 (Pl.edI s.L id).w], .int .i64 (Pl.edC s.L id)]) ∧ Below w.heap.size w w' := by
  cases h1 : Pl.numB id with
  | false =>
    have h2 := Pl.has_num h.gl.rng h1
    rw [Pl.edI_no h2, show Pl.edC s.L id = 2 by simp [Pl.edC, h1]]
    exact edgep_no xb _ _ _ _ s.L id w hX.pg h.gl 2 (Or.inl ⟨h1, rfl⟩)
  | true =>
    cases h2 : Pl.has s.L id with
    | false =>
      rw [Pl.edI_no h2, show Pl.edC s.L id = 6 by simp [Pl.edC, h1, h2]]
      exact edgep_no xb _ _ _ _ s.L id w hX.pg h.gl 6 (Or.inr ⟨h1, h2, rfl⟩)
    | true =>
      obtain ⟨x, hx, rfl⟩ := Pl.has_iff.1 h2
      rw [Pl.edI_mem h.gl.ids hx, show Pl.edC s.L x.id = 0 by simp [Pl.edC, h1, h2]]
      exact edgep_ok xb _ _ _ _ s.L x hx w hX.pg h.gl
theorem in_t (h : Ok s) (id : Int) (w : World) (xb : Nat) (hX : XG w xb s) : Calls Tryd.prog 30 #[P0 xb, .int .i64 id] w fun e w' => e = .returned (.tuple #[.bool (Pl.has (Pl.forest s.L) id), .int .i64 (Pl.edC s.L id)]) ∧ Below w.heap.size w w' := by
  cases h1 : Pl.numB id with
  | false =>
    have h2 := Pl.has_num h.gl.rng h1
    rw [Pl.has_fo h2, show Pl.edC s.L id = 2 by simp [Pl.edC, h1]]
    exact inp_no xb _ _ _ _ s.L id w hX.pg h.gl 2 (Or.inl ⟨h1, rfl⟩)
  | true =>
    cases h2 : Pl.has s.L id with
    | false =>
      rw [Pl.has_fo h2, show Pl.edC s.L id = 6 by simp [Pl.edC, h1, h2]]
      exact inp_no xb _ _ _ _ s.L id w hX.pg h.gl 6 (Or.inr ⟨h1, h2, rfl⟩)
    | true =>
      obtain ⟨x, hx, rfl⟩ := Pl.has_iff.1 h2
      rw [has_forest h.gl.ids hx, show Pl.edC s.L x.id = 0 by simp [Pl.edC, h1, h2]]
      exact inp_ok xb _ _ _ _ s.L x hx w hX.pg h.gl h.l100 h.n30 h.ends
theorem other_t (h : Ok s) (id : Int) (w : World) (xb : Nat) (hX : XG w xb s) : Calls Tryd.prog 31 #[P0 xb, .int .i64 id] w fun e w' => e = .returned (.tuple #[.int .i64 (Pl.othI s.L id), .int .i64 (Pl.edC s.L id)]) ∧ Below w.heap.size w w' := by
  cases h1 : Pl.numB id with
  | false =>
    have h2 := Pl.has_num h.gl.rng h1
    rw [show Pl.othI s.L id = 0 by simp [Pl.othI, h2], show Pl.edC s.L id = 2 by simp [Pl.edC, h1]]
    exact otherp_no xb _ _ _ _ s.L id w hX.pg h.gl 2 (Or.inl ⟨h1, rfl⟩)
  | true =>
    cases h2 : Pl.has s.L id with
    | false =>
      rw [show Pl.othI s.L id = 0 by simp [Pl.othI, h2], show Pl.edC s.L id = 6 by simp [Pl.edC, h1, h2]]
      exact otherp_no xb _ _ _ _ s.L id w hX.pg h.gl 6 (Or.inr ⟨h1, h2, rfl⟩)
    | true =>
      obtain ⟨x, hx, rfl⟩ := Pl.has_iff.1 h2
      have e : Pl.othI s.L x.id = if Pl.keeps s.L x then Pl.only (Pl.forest (Pl.withoutI s.L x.id)) (Pl.forest s.L) else Pl.midI s.L x.u x.v := by
        unfold Pl.othI
        rw [h2, has_forest h.gl.ids hx, Pl.edI_mem h.gl.ids hx]; rfl
      rw [e, show Pl.edC s.L x.id = 0 by simp [Pl.edC, h1, h2]]
      exact otherp_ok xb s x hx w hX h
theorem conn_t (h : Ok s) (u v : Int) (w : World) (xb : Nat) (hX : XG w xb s) : Calls Tryd.prog 32 #[P0 xb, .int .i64 u, .int .i64 v] w fun e w' => e = .returned (.tuple #[.bool (Pl.cnB s.n s.L u v), .int .i64 (Pl.cnC s.n u v)]) ∧ Below w.heap.size w w' := by
  unfold Pl.cnB Pl.cnC
  cases h1 : Pl.verB s.n u with
  | false => exact connp_no xb _ _ _ _ u v w hX.pg (Or.inl h1)
  | true =>
    cases h2 : Pl.verB s.n v with
    | false => exact connp_no xb _ _ _ _ u v w hX.pg (Or.inr ⟨h1, h2⟩)
    | true =>
      rw [Bool.true_and]
      exact connp_ok xb _ _ _ _ s.L u v w hX.pg h.gl h.l100 h.n30 h.ends h.wb h1 h2
theorem heav_t (h : Ok s) (u v : Int) (w : World) (xb : Nat) (hX : XG w xb s) : Calls Tryd.prog 33 #[P0 xb, .int .i64 u, .int .i64 v] w fun e w' => e = .returned (.tuple #[.int .i64 (Pl.hvI s.n s.L u v), .int .i64 (Pl.hvC s.n s.L u v)]) ∧ Below w.heap.size w w' := by
  unfold Pl.hvI Pl.hvC Pl.cnB
  cases h1 : Pl.verB s.n u with
  | false => exact heavp_no xb _ _ _ _ s.L u v w hX.pg h.gl h.l100 h.n30 h.ends h.wb 3 (Or.inl ⟨h1, rfl⟩)
  | true =>
    cases h2 : Pl.verB s.n v with
    | false => exact heavp_no xb _ _ _ _ s.L u v w hX.pg h.gl h.l100 h.n30 h.ends h.wb 3 (Or.inr (Or.inl ⟨h1, h2, rfl⟩))
    | true =>
      cases h3 : Pl.conn s.L u v with
      | false => exact heavp_no xb _ _ _ _ s.L u v w hX.pg h.gl h.l100 h.n30 h.ends h.wb 7 (Or.inr (Or.inr ⟨h1, h2, h3, rfl⟩))
      | true => exact heavp_ok xb _ _ _ _ s.L u v w hX.pg h.gl h.l100 h.n30 h.ends h.wb h1 h2 h3
theorem reach_t (h : Ok s) (u x : Int) (w : World) (xb : Nat) (hX : XG w xb s) : Calls Tryd.prog 34 #[P0 xb, .int .i64 u, .int .i64 x] w fun e w' => e = .returned (.tuple #[.int .i64 (Pl.rcI s.n s.L u x), .int .i64 (Pl.rcC s.n u)]) ∧ Below w.heap.size w w' := by
  unfold Pl.rcI Pl.rcC
  cases h1 : Pl.verB s.n u with
  | false => exact reachp_no xb _ _ _ _ u x w hX.pg h1
  | true => exact reachp_ok xb _ _ _ _ s.L u x w hX.pg h.gl h.l100 h.n30 h.ends h1
theorem groups_t (h : Ok s) (x : Int) (w : World) (xb : Nat) (hX : XG w xb s) : Calls Tryd.prog 35 #[P0 xb, .int .i64 x] w fun e w' => e = .returned (.int .i64 (Pl.parts s.n (Pl.upI s.L x))) ∧ Below w.heap.size w w' :=
  groupsp_any xb _ _ _ _ s.L x w hX.pg h.gl h.l100 h.n30 h.ends
theorem comp_t (h : Ok s) (w : World) (xb : Nat) (hX : XG w xb s) : Calls Tryd.prog 28 #[P0 xb] w fun e w' => e = .returned (.int .i64 (Pl.parts s.n s.L)) ∧ Below w.heap.size w w' :=
  compp_any xb _ _ _ _ s.L w hX.pg h.gl h.l100 h.n30 h.ends
theorem weight_t (h : Ok s) (w : World) (xb : Nat) (hX : XG w xb s) : Calls Tryd.prog 27 #[P0 xb] w fun e w' => e = .returned (.tuple #[.int .i64 (Pl.sumw (Pl.forest s.L) / 4294967296), .int .i64 (Pl.sumw (Pl.forest s.L) % 4294967296)]) ∧ Below w.heap.size w w' :=
  weightp_any xb _ _ _ _ s.L w hX.pg h.gl h.l100 h.n30 h.ends h.wb
theorem forest_t (h : Ok s) (w : World) (xb : Nat) (hX : XG w xb s) : Calls Tryd.prog 23 #[P0 xb] w fun e w' => ∃ v, e = .returned v ∧ Nums w' w.heap.size v ((Pl.forest s.L).map It.id) ∧ Below w.heap.size w w' :=
  forestp_any xb _ _ _ _ s.L w hX.pg h.gl h.l100 h.n30 h.ends
theorem live_t (h : Ok s) (w : World) (xb : Nat) (hX : XG w xb s) : Calls Tryd.prog 26 #[P0 xb] w fun e w' => ∃ v, e = .returned v ∧ Nums w' w.heap.size v (s.L.map It.id) ∧ Below w.heap.size w w' := by
  have := livep_any xb _ _ _ _ w hX.pg
  rw [h.gl.marks] at this
  exact this
/-- what Text tells -/
def txt (n most : Nat) (L : List It) : ByteArray := bs (Pl.text n most L)
theorem text_t (h : Ok s) (w : World) (xb : Nat) (ht : Tab w) (hX : XG w xb s) : Calls Tryd.prog 21 #[P0 xb] w fun e w' => e = .returned (.string (txt s.n s.most s.L)) ∧ Below w.heap.size w w' := textX s xb w h ht hX
end

end Go.Proofs.YtnnnleckoinjoaaDoor
