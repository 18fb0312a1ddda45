import Derived.Deep.Upon
import Derived.Test.YtnnnleckoinjoaaDoorK14
import Derived.Test.YtnnnleckoinjoaaDoorP10
import Derived.Test.YtnnnleckoinjoaaDoorP23
import Derived.Test.YtnnnleckoinjoaaDoorT5
/- All that a graph tells, as functions of its edges alone. -/
namespace Go.Proofs.YtnnnleckoinjoaaDoor
open Go.RowKit
open Pl (It)

namespace Pl
def edI (L : List It) (id : Int) : It := (L.find? (fun e => e.id == id)).getD ⟨0, 0, 0, 0⟩
def edC (L : List It) (id : Int) : Int := if numB id then (if has L id then 0 else 6) else 2
def othI (L : List It) (id : Int) : Int := if has L id then (if has (forest L) id then only (forest (withoutI L id)) (forest L) else midI L (edI L id).u (edI L id).v) else 0
def cnB (n : Nat) (L : List It) (u v : Int) : Bool := verB n u && verB n v && conn L u v
def cnC (n : Nat) (u v : Int) : Int := if verB n u && verB n v then 0 else 3
def hvI (n : Nat) (L : List It) (u v : Int) : Int := if cnB n L u v then midI L u v else 0
def hvC (n : Nat) (L : List It) (u v : Int) : Int := if verB n u && verB n v then (if conn L u v then 0 else 7) else 3
def rcI (n : Nat) (L : List It) (u x : Int) : Int := if verB n u then joinN n (upI L x) u else 0
def rcC (n : Nat) (u : Int) : Int := if verB n u then 0 else 3

theorem edI_mem {L : List It} {x : It} (hi : Ids L) (hx : x ∈ L) : edI L x.id = x := by
  unfold edI
  cases hf : L.find? (fun e => e.id == x.id) with
  | none =>
    have := List.find?_eq_none.1 hf x hx
    simp at this
  | some y =>
    have h1 := List.find?_some hf
    have h2 := List.mem_of_find?_eq_some hf
    exact ids_inj hi h2 hx (by simpa using h1)
theorem edI_no {L : List It} {id : Int} (h : has L id = false) : edI L id = ⟨0, 0, 0, 0⟩ := by
  unfold edI
  cases hf : L.find? (fun e => e.id == id) with
  | none => rfl
  | some y =>
    have h1 := List.find?_some hf
    have h2 := List.mem_of_find?_eq_some hf
    exact absurd (by simpa using h1) (has_false.1 h y h2)
theorem has_num {L : List It} {id : Int} (hr : Rng L) (h : numB id = false) : has L id = false := by
  rw [has_false]
  rintro e he rfl
  have := hr e he
  have : numB e.id = true := numB_true.2 this
  rw [h] at this; cases this
theorem has_fo {L : List It} {id : Int} (h : has L id = false) : has (forest L) id = false := by
  rw [has_false] at *
  exact fun e he => h e (forest_mem.1 he).1
end Pl

section
variable {s : St} (h : Ok s)

theorem edge_t (h : Ok s) (id : Int) (w : World) (xb : Nat) (hX : XG w xb s) : Calls Tryd.prog 29 #[P0 xb, .int .i64 id] w fun e w' => e = .returned (.tuple #[.agg #[.int .i64 (Pl.edI s.L id).u, .int .i64 (Pl.edI s.L id).v, .int .i64 (Pl.edI s.L id).w], .int .i64 (Pl.edC s.L id)]) ∧ Below w.heap.size w w' := by
  cases h1 : Pl.numB id with
  | false =>
    have h2 := Pl.has_num h.gl.rng h1
    rw [Pl.edI_no h2, show Pl.edC s.L id = 2 by simp [Pl.edC, h1]]
    exact edgep_no xb _ _ _ _ s.L id w hX.pg h.gl 2 (Or.inl ⟨h1, rfl⟩)
  | true =>
    cases h2 : Pl.has s.L id with
    | false =>
      rw [Pl.edI_no h2, show Pl.edC s.L id = 6 by simp [Pl.edC, h1, h2]]
      exact edgep_no xb _ _ _ _ s.L id w hX.pg h.gl 6 (Or.inr ⟨h1, h2, rfl⟩)
    | true =>
      obtain ⟨x, hx, rfl⟩ := Pl.has_iff.1 h2
      rw [Pl.edI_mem h.gl.ids hx, show Pl.edC s.L x.id = 0 by simp [Pl.edC, h1, h2]]
      exact edgep_ok xb _ _ _ _ s.L x hx w hX.pg h.gl
theorem in_t (h : Ok s) (id : Int) (w : World) (xb : Nat) (hX : XG w xb s) : Calls Tryd.prog 30 #[P0 xb, .int .i64 id] w fun e w' => e = .returned (.tuple #[.bool (Pl.has (Pl.forest s.L) id), .int .i64 (Pl.edC s.L id)]) ∧ Below w.heap.size w w' := by
  cases h1 : Pl.numB id with
  | false =>
    have h2 := Pl.has_num h.gl.rng h1
    rw [Pl.has_fo h2, show Pl.edC s.L id = 2 by simp [Pl.edC, h1]]
    exact inp_no xb _ _ _ _ s.L id w hX.pg h.gl 2 (Or.inl ⟨h1, rfl⟩)
  | true =>
    cases h2 : Pl.has s.L id with
    | false =>
      rw [Pl.has_fo h2, show Pl.edC s.L id = 6 by simp [Pl.edC, h1, h2]]
      exact inp_no xb _ _ _ _ s.L id w hX.pg h.gl 6 (Or.inr ⟨h1, h2, rfl⟩)
    | true =>
      obtain ⟨x, hx, rfl⟩ := Pl.has_iff.1 h2
      rw [has_forest h.gl.ids hx, show Pl.edC s.L x.id = 0 by simp [Pl.edC, h1, h2]]
      exact inp_ok xb _ _ _ _ s.L x hx w hX.pg h.gl h.l100 h.n30 h.ends
theorem other_t (h : Ok s) (id : Int) (w : World) (xb : Nat) (hX : XG w xb s) : Calls Tryd.prog 31 #[P0 xb, .int .i64 id] w fun e w' => e = .returned (.tuple #[.int .i64 (Pl.othI s.L id), .int .i64 (Pl.edC s.L id)]) ∧ Below w.heap.size w w' := by
  cases h1 : Pl.numB id with
  | false =>
    have h2 := Pl.has_num h.gl.rng h1
    rw [show Pl.othI s.L id = 0 by simp [Pl.othI, h2], show Pl.edC s.L id = 2 by simp [Pl.edC, h1]]
    exact otherp_no xb _ _ _ _ s.L id w hX.pg h.gl 2 (Or.inl ⟨h1, rfl⟩)
  | true =>
    cases h2 : Pl.has s.L id with
    | false =>
      rw [show Pl.othI s.L id = 0 by simp [Pl.othI, h2], show Pl.edC s.L id = 6 by simp [Pl.edC, h1, h2]]
      exact otherp_no xb _ _ _ _ s.L id w hX.pg h.gl 6 (Or.inr ⟨h1, h2, rfl⟩)
    | true =>
      obtain ⟨x, hx, rfl⟩ := Pl.has_iff.1 h2
      have e : Pl.othI s.L x.id = if Pl.keeps s.L x then Pl.only (Pl.forest (Pl.withoutI s.L x.id)) (Pl.forest s.L) else Pl.midI s.L x.u x.v := by
        unfold Pl.othI
        rw [h2, has_forest h.gl.ids hx, Pl.edI_mem h.gl.ids hx]; rfl
      rw [e, show Pl.edC s.L x.id = 0 by simp [Pl.edC, h1, h2]]
      exact otherp_ok xb s x hx w hX h
theorem conn_t (h : Ok s) (u v : Int) (w : World) (xb : Nat) (hX : XG w xb s) : Calls Tryd.prog 32 #[P0 xb, .int .i64 u, .int .i64 v] w fun e w' => e = .returned (.tuple #[.bool (Pl.cnB s.n s.L u v), .int .i64 (Pl.cnC s.n u v)]) ∧ Below w.heap.size w w' := by
  unfold Pl.cnB Pl.cnC
  cases h1 : Pl.verB s.n u with
  | false => exact connp_no xb _ _ _ _ u v w hX.pg (Or.inl h1)
  | true =>
    cases h2 : Pl.verB s.n v with
    | false => exact connp_no xb _ _ _ _ u v w hX.pg (Or.inr ⟨h1, h2⟩)
    | true =>
      rw [Bool.true_and]
      exact connp_ok xb _ _ _ _ s.L u v w hX.pg h.gl h.l100 h.n30 h.ends h.wb h1 h2
theorem heav_t (h : Ok s) (u v : Int) (w : World) (xb : Nat) (hX : XG w xb s) : Calls Tryd.prog 33 #[P0 xb, .int .i64 u, .int .i64 v] w fun e w' => e = .returned (.tuple #[.int .i64 (Pl.hvI s.n s.L u v), .int .i64 (Pl.hvC s.n s.L u v)]) ∧ Below w.heap.size w w' := by
  unfold Pl.hvI Pl.hvC Pl.cnB
  cases h1 : Pl.verB s.n u with
  | false => exact heavp_no xb _ _ _ _ s.L u v w hX.pg h.gl h.l100 h.n30 h.ends h.wb 3 (Or.inl ⟨h1, rfl⟩)
  | true =>
    cases h2 : Pl.verB s.n v with
    | false => exact heavp_no xb _ _ _ _ s.L u v w hX.pg h.gl h.l100 h.n30 h.ends h.wb 3 (Or.inr (Or.inl ⟨h1, h2, rfl⟩))
    | true =>
      cases h3 : Pl.conn s.L u v with
      | false => exact heavp_no xb _ _ _ _ s.L u v w hX.pg h.gl h.l100 h.n30 h.ends h.wb 7 (Or.inr (Or.inr ⟨h1, h2, h3, rfl⟩))
      | true => exact heavp_ok xb _ _ _ _ s.L u v w hX.pg h.gl h.l100 h.n30 h.ends h.wb h1 h2 h3
theorem reach_t (h : Ok s) (u x : Int) (w : World) (xb : Nat) (hX : XG w xb s) : Calls Tryd.prog 34 #[P0 xb, .int .i64 u, .int .i64 x] w fun e w' => e = .returned (.tuple #[.int .i64 (Pl.rcI s.n s.L u x), .int .i64 (Pl.rcC s.n u)]) ∧ Below w.heap.size w w' := by
  unfold Pl.rcI Pl.rcC
  cases h1 : Pl.verB s.n u with
  | false => exact reachp_no xb _ _ _ _ u x w hX.pg h1
  | true => exact reachp_ok xb _ _ _ _ s.L u x w hX.pg h.gl h.l100 h.n30 h.ends h1
theorem groups_t (h : Ok s) (x : Int) (w : World) (xb : Nat) (hX : XG w xb s) : Calls Tryd.prog 35 #[P0 xb, .int .i64 x] w fun e w' => e = .returned (.int .i64 (Pl.parts s.n (Pl.upI s.L x))) ∧ Below w.heap.size w w' :=
  groupsp_any xb _ _ _ _ s.L x w hX.pg h.gl h.l100 h.n30 h.ends
theorem comp_t (h : Ok s) (w : World) (xb : Nat) (hX : XG w xb s) : Calls Tryd.prog 28 #[P0 xb] w fun e w' => e = .returned (.int .i64 (Pl.parts s.n s.L)) ∧ Below w.heap.size w w' :=
  compp_any xb _ _ _ _ s.L w hX.pg h.gl h.l100 h.n30 h.ends
theorem weight_t (h : Ok s) (w : World) (xb : Nat) (hX : XG w xb s) : Calls Tryd.prog 27 #[P0 xb] w fun e w' => e = .returned (.tuple #[.int .i64 (Pl.sumw (Pl.forest s.L) / 4294967296), .int .i64 (Pl.sumw (Pl.forest s.L) % 4294967296)]) ∧ Below w.heap.size w w' :=
  weightp_any xb _ _ _ _ s.L w hX.pg h.gl h.l100 h.n30 h.ends h.wb
theorem forest_t (h : Ok s) (w : World) (xb : Nat) (hX : XG w xb s) : Calls Tryd.prog 23 #[P0 xb] w fun e w' => ∃ v, e = .returned v ∧ Nums w' w.heap.size v ((Pl.forest s.L).map It.id) ∧ Below w.heap.size w w' :=
  forestp_any xb _ _ _ _ s.L w hX.pg h.gl h.l100 h.n30 h.ends
theorem live_t (h : Ok s) (w : World) (xb : Nat) (hX : XG w xb s) : Calls Tryd.prog 26 #[P0 xb] w fun e w' => ∃ v, e = .returned v ∧ Nums w' w.heap.size v (s.L.map It.id) ∧ Below w.heap.size w w' := by
  have := livep_any xb _ _ _ _ w hX.pg
  rw [h.gl.marks] at this
  exact this
/-- what Text tells -/
def txt (n most : Nat) (L : List It) : ByteArray := bs (Pl.text n most L)
theorem text_t (h : Ok s) (w : World) (xb : Nat) (ht : Tab w) (hX : XG w xb s) : Calls Tryd.prog 21 #[P0 xb] w fun e w' => e = .returned (.string (txt s.n s.most s.L)) ∧ Below w.heap.size w w' := textX s xb w h ht hX
end

end Go.Proofs.YtnnnleckoinjoaaDoor

/- dump: all that a graph tells, in one list. -/
namespace Go.Proofs.YtnnnleckoinjoaaDoor
open Go.RowKit
open Pl (It)

theorem own_fr {w w' : World} {v : Value} (h : w.grownBy w' v.ownBlock) : Fr (fun k => v.ownBlock = some k) w w' :=
  ⟨h.os, h.tape, h.output, h.size, fun k hk hn => h.block k hk fun e => hn e.symm⟩

/-- 'l = append(l, x...)', l nil or the call's own -/
theorem wpList_append_nums {ops : Array Oper} {rest : List Oper} {o : Oper} {a : Act} {Q : Exit → Act → World → Prop} (w : World) (hgd : o.guard = none) (s x : Operand)
    (ho : o.op = .call { callee := .builtin .append, args := #[s, x], argTypes := #[28, 28] }) (base : Nat) (v : Value) (l : List Int) (hs : a.eval s = v) (hown : Nums w base v l)
    (vx : Value) (xs : List Int) (hx : a.eval x = vx) (hxs : Nums w 0 vx xs) (hl : l.length + xs.length ≤ 100000) (hbase : base ≤ w.heap.size)
    (h : ∀ v' w', Nums w' base v' (l ++ xs) → Below base w w' → Fr (fun k => v.ownBlock = some k) w w' → wpList Tryd.prog ops Q rest (a.put o.dst v') w') :
    wpList Tryd.prog ops Q (o :: rest) a w := by
  obtain ⟨i0, hi, hz0, hz1, hz2⟩ := info_parts info3
  have hxl := hxs.1
  rcases hxs.2 with ⟨rfl, h0⟩ | ⟨g, cap, cur, rfl, _, hg, hnc, hcm, hcs, htake⟩
  · obtain rfl : xs = [] := List.eq_nil_of_length_eq_zero h0
    obtain ⟨av, cv, rfl⟩ := row_form hown
    have hle : l.length ≤ cv := by
      rcases hown.2 with ⟨e, _⟩ | ⟨g, cap, cur, e, _, _, hnc, _⟩
      · injection e with _ e2 e3; omega
      · injection e with _ _ e3; omega
    refine wpList_plain hgd fun K hK => ?_
    have hr := run_append_nothing (P := Tryd.prog) w 28 28 o.type 3 i0 Tryd.underlying28 hi av l.length cv hle (.slice none 0 0) (Src.ofNil w Tryd.underlying28 0)
    unfold Oper.wp
    simp [execOp, ho, resolve, invoke, builtin, hs, hx, hr, Result.andThen]
    refine hK _ _ (h _ w ?_ (Below.refl _ _) (Fr.refl _ _))
    rw [List.append_nil]; exact hown
  · refine wpList_append_own _ hgd s x 28 ho base 3 i0 _ 1 8 Tryd.underlying28 hi hz0 hz1 hz2 rfl (by decide) v l.length (l.map (Value.int .i64)) hs hown ⟨g, 0, none⟩ xs.length cap (xs.map (Value.int .i64)) hx (by simp) ?_ ?_ ?_ ?_ hbase ?_
    · intro j u hj
      have hjl : j < xs.length := by
        have := (List.getElem?_eq_some_iff.1 hj).1
        simpa using this
      rw [Addr.add_lit, Nat.zero_add, World.ownsRow.cellAt (show w.ownsRow 0 3 1 (.slice (some ⟨g, 0, none⟩) xs.length cap) xs.length (xs.map (Value.int .i64)) from hxs) j (by omega)]
      exact hj
    · intro u hu; rw [List.mem_map] at hu; obtain ⟨_, _, rfl⟩ := hu; rfl
    · unfold maxLen; omega
    · omega
    · intro v' w' h1 h2 _
      have hf := own_fr h2
      refine h v' w' ?_ ((Below.refl _ _).grown h2 hbase fun k hk => (World.ownsRow.lt hown k hk).1) hf
      unfold Nums
      rw [List.map_append, List.length_append]
      exact h1

/-- 'l = append(l, a, b, ..)' -/
theorem wpList_append_lits {ops : Array Oper} {rest : List Oper} {o : Oper} {a : Act} {Q : Exit → Act → World → Prop} (w : World) (hgd : o.guard = none) (s x : Operand)
    (ho : o.op = .call { callee := .builtin .append, args := #[s, x], argTypes := #[28, 28] }) (base : Nat) (v : Value) (l : List Int) (hs : a.eval s = v) (hown : Nums w base v l)
    (xs : List Int) (hx : a.eval x = .slice (some ⟨w.heap.size, 0, none⟩) xs.length xs.length) (hl : l.length + xs.length ≤ 100000) (hbase : base ≤ w.heap.size)
    (h : ∀ v' w', Nums w' base v' (l ++ xs) → Below base w w' → Fr (fun k => v.ownBlock = some k) w w' → wpList Tryd.prog ops Q rest (a.put o.dst v') w') :
    wpList Tryd.prog ops Q (o :: rest) a (w.alloc (.cells (xs.map (Value.int .i64)).toArray 3)) := by
  have hB0 : Below base w (w.alloc (.cells (xs.map (Value.int .i64)).toArray 3)) := (Below.refl _ _).alloc hbase _
  refine wpList_append_nums _ hgd s x ho base v l hs (World.ownsRow.alloc hown _) _ xs hx ?_ hl (Nat.le_trans hbase hB0.size) ?_
  · refine ⟨by simp, Or.inr ⟨w.heap.size, xs.length, (xs.map (Value.int .i64)).toArray, rfl, Nat.zero_le _, heap_alloc_new _ _, Nat.le_refl _, by unfold maxLen; omega, by simp, ?_⟩⟩
    rw [Nat.mul_one]
    exact List.take_of_length_le (by simp)
  · intro v' w' h1 h2 h3
    exact h v' w' h1 (hB0.trans h2) (((Fr.refl _ _).alloc _).trans h3)

namespace Pl
def dId (L : List It) (i : Int) : List Int := [(edI L i).u, (edI L i).v, (edI L i).w, edC L i, if has (forest L) i then 1 else 0, edC L i, othI L i, edC L i]
def dUV (n : Nat) (L : List It) (u v : Int) : List Int := [if cnB n L u v then 1 else 0, cnC n u v, hvI n L u v, hvC n L u v]
def dV (n : Nat) (L : List It) (u : Int) (k : Nat) : List Int := (List.range k).flatMap fun (j : Nat) => dUV n L u ((j : Int) - 1)
def dU (n : Nat) (L : List It) (u : Int) : List Int := dV n L u (n + 2) ++ [rcI n L u 0, rcC n u]
def dHead (n : Nat) (L : List It) : List Int := (forest L).map It.id ++ [((forest L).length : Int)] ++ L.map It.id ++ [(L.length : Int), sumw (forest L) / 4294967296, sumw (forest L) % 4294967296, parts n L]
def dIds (L : List It) (k : Nat) : List Int := (List.range k).flatMap fun (j : Nat) => dId L ((j : Int) - 1)
def dUs (n : Nat) (L : List It) (k : Nat) : List Int := (List.range k).flatMap fun (j : Nat) => dU n L ((j : Int) - 1)
def dumpL (n : Nat) (L : List It) : List Int := dHead n L ++ dIds L 26 ++ dUs n L (n + 2) ++ [(parts n (upI L 0) : Int), parts n (upI L (-9223372036854775808)), parts n (upI L 9223372036854775807)]

theorem flat_snoc (f : Nat → List Int) (k : Nat) : (List.range (k + 1)).flatMap f = (List.range k).flatMap f ++ f k := by
  rw [List.range_succ, List.flatMap_append]; simp
theorem flat_len (f : Nat → List Int) (c : Nat) (h : ∀ k, (f k).length = c) (k : Nat) : ((List.range k).flatMap f).length = k * c := by
  induction k with
  | zero => simp
  | succ k ih => rw [flat_snoc, List.length_append, ih, h, Nat.add_mul, Nat.one_mul]
theorem dIds_snoc (L : List It) (k : Nat) : dIds L (k + 1) = dIds L k ++ dId L ((k : Int) - 1) := flat_snoc _ k
theorem dIds_len (L : List It) (k : Nat) : (dIds L k).length = k * 8 := flat_len _ 8 (fun _ => rfl) k
theorem dV_snoc (n : Nat) (L : List It) (u : Int) (k : Nat) : dV n L u (k + 1) = dV n L u k ++ dUV n L u ((k : Int) - 1) := flat_snoc _ k
theorem dV_len (n : Nat) (L : List It) (u : Int) (k : Nat) : (dV n L u k).length = k * 4 := flat_len _ 4 (fun _ => rfl) k
theorem dU_len (n : Nat) (L : List It) (u : Int) : (dU n L u).length = (n + 2) * 4 + 2 := by unfold dU; rw [List.length_append, dV_len]; rfl
theorem dUs_snoc (n : Nat) (L : List It) (k : Nat) : dUs n L (k + 1) = dUs n L k ++ dU n L ((k : Int) - 1) := flat_snoc _ k
theorem dUs_len (n : Nat) (L : List It) (k : Nat) : (dUs n L k).length = k * ((n + 2) * 4 + 2) := flat_len _ _ (fun _ => dU_len _ _ _) k
end Pl

theorem three_new (w : World) (a b c : Value) (t : TypeId) : (w.alloc (.cells #[a, b, c] t)).cell? ⟨w.heap.size, 0, none⟩ = some a ∧ (w.alloc (.cells #[a, b, c] t)).cell? ⟨w.heap.size, 1, none⟩ = some b ∧ (w.alloc (.cells #[a, b, c] t)).cell? ⟨w.heap.size, 2, none⟩ = some c := by
  have h := three_cells (heap_alloc_new w (.cells #[a, b, c] t))
  exact ⟨h.1, h.2.1, h.2.2.1⟩

set_option maxRecDepth 100000 in
set_option maxHeartbeats 8000000 in
theorem dump_any (s : St) (h : Ok s) (xb : Nat) (w : World) (htab : Tab w) (hX : XG w xb s) :
    Calls Tryd.prog 11 #[P0 xb, .int .i64 s.n] w fun e w' => ∃ v, e = .returned (.tuple #[v, .string (txt s.n s.most s.L)]) ∧ Nums w' w.heap.size v (Pl.dumpL s.n s.L) ∧ Below w.heap.size w w' := by
  have hn30 := h.n30
  have hl100 := h.l100
  have hfl : (Pl.forest s.L).length ≤ 100 := Nat.le_trans (List.length_filter_le _ _) hl100
  have HXG : Hid (∀ W, Below w.heap.size w W → XG W xb s) := fun W hW => PF.later hX hW (Nat.le_refl _)
  have HOK := hide h
  have HTB := hide htab
  clear h hX htab
  go_enter Tryd.func11, Tryd.ntmps11
  go_wp2_with fail
  refine (forest_t (unhide HOK) _ xb ((unhide HXG) _ (Below.refl _ _))).mono ?_
  rintro e w1 ⟨v1, rfl, hN1, hB1⟩
  obtain ⟨a1, k1, rfl⟩ := row_form hN1
  rw [List.length_map]
  have hN1' : Nums w1 0 (.slice a1 (Pl.forest s.L).length k1) ((Pl.forest s.L).map It.id) := by
    have := row_mono hN1 (Nat.zero_le _)
    rw [List.length_map] at this
    unfold Nums; rw [List.length_map]; exact this
  go_wp2_with (at_builtin; refine wpList_append_nums w1 rfl (.tmp 31) (.tmp 32) rfl w.heap.size _ [] rfl (World.ownsRow_nil _ _ _ _) _ ((Pl.forest s.L).map It.id) rfl (by exact hN1') (by rw [List.length_map, List.length_nil]; omega) (by exact hB1.size) ?_; intro v2 w2 hN2 hB2 hF2)
  have hBw2 := hB1.trans hB2
  rw [List.nil_append] at hN2
  obtain ⟨a2, k2, rfl⟩ := row_form hN2
  rw [List.length_map]
  have H2 := hide (And.intro hN2 hBw2)
  clear hN1 hN1' hN2 hB1 hB2 hBw2 hF2
  refine (live_t (unhide HOK) _ xb ((unhide HXG) _ (unhide H2).2)).mono ?_
  rintro e w3 ⟨v3, rfl, hN3, hB3⟩
  obtain ⟨a3, k3, rfl⟩ := row_form hN3
  rw [List.length_map]
  have hN23 := row_below (unhide H2).1 hB3 (Nat.le_refl _)
  have hBw3 := (unhide H2).2.trans (hB3.mono (unhide H2).2.size)
  have hl2 : ∀ k, (Value.slice a2 (Pl.forest s.L).length k2).ownBlock = some k → k < w2.heap.size := fun k hk => by
    have h0 := (unhide H2).1
    unfold Nums at h0
    rw [List.length_map] at h0
    exact (World.ownsRow.lt h0 k hk).2
  have H3 := hide (And.intro hN3 hl2)
  have HB3 := hide hBw3
  clear hN3 hl2 hB3 H2 hBw3
  rw [List.length_map] at hN23
  go_upto_region 6 with (at_builtin; refine wpList_append_lits w3 rfl (.tmp 36) (.tmp 39) rfl w.heap.size _ ((Pl.forest s.L).map It.id) rfl (by unfold Nums; rw [List.length_map]; exact hN23) [((Pl.forest s.L).length : Int)] rfl (by rw [List.length_map, List.length_singleton]; omega) (by exact (unhide HB3).size) ?_; intro v4 w4 hN4 hB4 hF4)
  have hy4 : Nums w4 0 (.slice a3 s.L.length k3) (s.L.map It.id) := by
    obtain ⟨hN3, hl2⟩ := unhide H3
    unfold Nums at hN3 ⊢
    rw [List.length_map] at hN3 ⊢
    refine row_mono (row_fr hN3 hF4 ?_) (Nat.zero_le _)
    intro k c f _ h1 h2
    have := (World.ownsRow.lt hN3 k h1).1
    have := hl2 k h2
    omega
  have HB4 := hide ((unhide HB3).trans hB4)
  clear hN23 hB4 hF4 H3 HB3
  go_wp2_with (at_builtin; refine wpList_append_nums w4 rfl (.tmp 41) (.tmp 42) rfl w.heap.size _ ((Pl.forest s.L).map It.id ++ [((Pl.forest s.L).length : Int)]) rfl (by exact hN4) _ (s.L.map It.id) rfl (by exact hy4) (by rw [List.length_append, List.length_map, List.length_map, List.length_singleton]; omega) (by exact (unhide HB4).size) ?_; intro v5 w5 hN5 hB5 hF5)
  have HB5 := hide ((unhide HB4).trans hB5)
  have HN5 := hide hN5
  clear hN4 hy4 hB5 hF5 HB4 hN5
  refine (weight_t (unhide HOK) _ xb ((unhide HXG) _ (unhide HB5))).mono ?_
  rintro e w6 ⟨rfl, hB6⟩
  have HN6 := hide (row_below (unhide HN5) hB6 (Nat.le_refl _))
  have HB6 := hide ((unhide HB5).trans (hB6.mono (unhide HB5).size))
  clear hB6 HN5 HB5
  generalize hq1 : Pl.sumw (Pl.forest s.L) / 4294967296 = sh
  generalize hq2 : Pl.sumw (Pl.forest s.L) % 4294967296 = sl
  have HQ := hide (And.intro hq1 hq2)
  clear hq1 hq2
  go_wp2_with fail
  refine (comp_t (unhide HOK) _ xb ((unhide HXG) _ (unhide HB6))).mono ?_
  rintro e w7 ⟨rfl, hB7⟩
  have hN7 := row_below (unhide HN6) hB7 (Nat.le_refl _)
  have HB7 := hide ((unhide HB6).trans (hB7.mono (unhide HB6).size))
  clear hB7 HN6 HB6
  go_wp2_with (at_builtin; refine wpList_append_lits w7 rfl (.tmp 51) (.tmp 57) rfl w.heap.size _ (((Pl.forest s.L).map It.id ++ [((Pl.forest s.L).length : Int)]) ++ s.L.map It.id) rfl (by exact hN7) [(s.L.length : Int), sh, sl, Pl.parts s.n s.L] rfl (by rw [List.length_append, List.length_append, List.length_map, List.length_map, List.length_singleton]; simp only [List.length_cons, List.length_nil]; omega) (by exact (unhide HB7).size) ?_; intro v8 w8 hN8 hB8 hF8)
  have hH : ((Pl.forest s.L).map It.id ++ [((Pl.forest s.L).length : Int)]) ++ s.L.map It.id ++ [(s.L.length : Int), sh, sl, (Pl.parts s.n s.L : Int)] = Pl.dHead s.n s.L := by
    rw [← (unhide HQ).1, ← (unhide HQ).2]; rfl
  rw [hH] at hN8
  have hHl : (Pl.dHead s.n s.L).length ≤ 300 := by
    unfold Pl.dHead
    simp only [List.length_append, List.length_map, List.length_cons, List.length_nil]
    omega
  have HN8 := hide hN8
  have HB8 := hide ((unhide HB7).trans hB8)
  clear hN7 hN8 hB8 hF8 HB7 hH HQ
  go_loopg [6, 12] 27 (fun gk lv iv wr => ∃ (k : Nat) (i : Int), Hid (i + 1 = k) ∧ k ≤ 26 ∧ -1 ≤ i ∧ i ≤ 25 ∧ iv = .int .i64 i ∧ Nums wr w.heap.size lv (Pl.dHead s.n s.L ++ Pl.dIds s.L k) ∧ Below w.heap.size w wr ∧ 26 - k ≤ gk)
  case atStart => exact ⟨0, -1, hide rfl, by omega, by omega, by omega, rfl, by rw [show Pl.dIds s.L 0 = [] from rfl, List.append_nil]; exact unhide HN8, unhide HB8, by omega⟩
  case round =>
    obtain ⟨k, i, hik, hk26, hi0, hi25, rfl, hN, hB, hgk⟩ := hrel
    by_cases hlt : k < 26
    · have hi24 : i ≤ 24 := by have := unhide hik; omega
      have HN := hide hN
      have HB := hide hB
      clear hN hB HN8 HB8
      go_wp2_with fail
      refine (edge_t (unhide HOK) i _ xb ((unhide HXG) _ (unhide HB))).mono ?_
      rintro e w9 ⟨rfl, hB9⟩
      obtain ⟨eu, heu⟩ : ∃ x, x = (Pl.edI s.L i).u := ⟨_, rfl⟩
      obtain ⟨ev, hev⟩ : ∃ x, x = (Pl.edI s.L i).v := ⟨_, rfl⟩
      obtain ⟨ew, hew⟩ : ∃ x, x = (Pl.edI s.L i).w := ⟨_, rfl⟩
      obtain ⟨ec, hec⟩ : ∃ x, x = Pl.edC s.L i := ⟨_, rfl⟩
      rw [← heu, ← hev, ← hew, ← hec]
      have hBa : Below w.heap.size w w9 := (unhide HB).trans (hB9.mono (unhide HB).size)
      have hNa := row_below (unhide HN) hB9 (Nat.le_refl _)
      have hwA : Below w.heap.size w (w9.alloc (.cells #[.int .i64 eu, .int .i64 ev, .int .i64 ew] 65)) := hBa.alloc hBa.size _
      have hNb : Nums (w9.alloc (.cells #[.int .i64 eu, .int .i64 ev, .int .i64 ew] 65)) w.heap.size _ _ := World.ownsRow.alloc hNa (.cells #[.int .i64 eu, .int .i64 ev, .int .i64 ew] 65)
      obtain ⟨x0, x1, x2⟩ := three_new w9 (.int .i64 eu) (.int .i64 ev) (.int .i64 ew) 65
      have HE := hide (And.intro heu (And.intro hev (And.intro hew hec)))
      have HA := hide (And.intro hwA (And.intro hNb (And.intro x0 (And.intro x1 x2))))
      clear heu hev hew hec hB9 hBa hNa hwA hNb x0 x1 x2 HN HB
      go_wp2_with fail
      obtain ⟨hwA, hNb, x0, x1, x2⟩ := unhide HA
      generalize (w9.alloc (.cells #[.int .i64 eu, .int .i64 ev, .int .i64 ew] 65)) = WA at hwA hNb x0 x1 x2 ⊢
      have hin := in_t (unhide HOK) i _ xb ((unhide HXG) _ hwA)
      rw [← (unhide HE).2.2.2] at hin
      refine hin.mono ?_
      rintro e w10 ⟨rfl, hB10⟩
      have y0 := cell_later hB10 x0
      have y1 := cell_later hB10 x1
      have y2 := cell_later hB10 x2
      have hwB := hwA.trans (hB10.mono hwA.size)
      have hNc := row_below hNb hB10 (Nat.le_refl _)
      have HA2 := hide (And.intro hwB (And.intro hNc (And.intro y0 (And.intro y1 y2))))
      clear hwA hNb x0 x1 x2 hin hB10 y0 y1 y2 hwB hNc HA
      go_wp2_with fail
      obtain ⟨hwB, hNc, y0, y1, y2⟩ := unhide HA2
      have hot := other_t (unhide HOK) i _ xb ((unhide HXG) _ hwB)
      rw [← (unhide HE).2.2.2] at hot
      refine hot.mono ?_
      rintro e w11 ⟨rfl, hB11⟩
      have z0 := cell_later hB11 y0
      have z1 := cell_later hB11 y1
      have z2 := cell_later hB11 y2
      have hwC := hwB.trans (hB11.mono hwB.size)
      have hNd := row_below hNc hB11 (Nat.le_refl _)
      have HB11 := hide hwC
      have HND := hide hNd
      have hlen : (Pl.dHead s.n s.L ++ Pl.dIds s.L k).length + 8 ≤ 100000 := by rw [List.length_append, Pl.dIds_len]; omega
      have HLN := hide hlen
      obtain ⟨oi, hoi⟩ : ∃ x, x = Pl.othI s.L i := ⟨_, rfl⟩
      rw [← hoi]
      have hsn := Pl.dIds_snoc s.L k
      have HS : Hid (∀ b : Bool, Pl.has (Pl.forest s.L) i = b → Pl.dHead s.n s.L ++ Pl.dIds s.L k ++ [eu, ev, ew, ec, if b then 1 else 0, ec, oi, ec] = Pl.dHead s.n s.L ++ Pl.dIds s.L (k + 1)) := fun b hb => by
        obtain ⟨e1, e2, e3, e4⟩ := unhide HE
        have hki : (k : Int) - 1 = i := by have := unhide hik; omega
        rw [hsn, hki, List.append_assoc, e1, e2, e3, e4, hoi, ← hb]; rfl
      clear hwB hNc y0 y1 y2 hot hB11 hwC hNd HA2 hlen hoi hsn HE
      cases hb : Pl.has (Pl.forest s.L) i with
      | true =>
        have hN9 := unhide HND
        go_wp2_with (at_builtin; refine wpList_append_lits w11 rfl (.tmp 82) (.tmp 94) rfl w.heap.size _ (Pl.dHead s.n s.L ++ Pl.dIds s.L k) rfl (by exact hN9) [eu, ev, ew, ec, 1, ec, oi, ec] rfl (by exact unhide HLN) (by exact (unhide HB11).size) ?_; intro v12 w12 hN12 hB12 hF12)
        have e9 := (unhide HS) true hb
        simp only [if_true] at e9
        rw [e9] at hN12
        have HN12 := hide hN12
        have HB12 := hide ((unhide HB11).trans hB12)
        clear hN9 hN12 hB12 hF12 e9 HND HB11 HLN HS z0 z1 z2
        go_roundg (gk - 1)
        case measure => omega
        case rel => exact ⟨k + 1, i + 1, by show _ = _; have := unhide hik; omega, by omega, by omega, by omega, by go_num, unhide HN12, unhide HB12, by omega⟩
      | false =>
        have hN9 := unhide HND
        go_wp2_with (at_builtin; refine wpList_append_lits w11 rfl (.tmp 82) (.tmp 94) rfl w.heap.size _ (Pl.dHead s.n s.L ++ Pl.dIds s.L k) rfl (by exact hN9) [eu, ev, ew, ec, 0, ec, oi, ec] rfl (by exact unhide HLN) (by exact (unhide HB11).size) ?_; intro v12 w12 hN12 hB12 hF12)
        have e9 := (unhide HS) false hb
        simp only [Bool.false_eq_true, if_false] at e9
        rw [e9] at hN12
        have HN12 := hide hN12
        have HB12 := hide ((unhide HB11).trans hB12)
        clear hN9 hN12 hB12 hF12 e9 HND HB11 HLN HS z0 z1 z2
        go_roundg (gk - 1)
        case measure => omega
        case rel => exact ⟨k + 1, i + 1, by show _ = _; have := unhide hik; omega, by omega, by omega, by omega, by go_num, unhide HN12, unhide HB12, by omega⟩
    · have hk' : k = 26 := by omega
      subst hk'
      have hi : i = 25 := by have := unhide hik; omega
      subst hi
      have hlenA : (Pl.dHead s.n s.L ++ Pl.dIds s.L 26).length ≤ 600 := by rw [List.length_append, Pl.dIds_len]; omega
      obtain ⟨H, hH⟩ : ∃ H, H = Pl.dHead s.n s.L ++ Pl.dIds s.L 26 := ⟨_, rfl⟩
      rw [← hH] at hN hlenA
      have HH := hide hH
      have HN9 := hide hN
      have HB9 := hide hB
      clear hN hB HN8 HB8 hik hgk hH
      go_wp2_with fail
      go_loopg [6, 20] (s.n + 3) (fun gk lv iv wr => ∃ (k : Nat) (i : Int), Hid (i + 1 = k) ∧ k ≤ s.n + 2 ∧ -1 ≤ i ∧ i ≤ s.n + 1 ∧ iv = .int .i64 i ∧ Nums wr w.heap.size lv (H ++ Pl.dUs s.n s.L k) ∧ Below w.heap.size w wr ∧ s.n + 2 - k ≤ gk)
      case atStart => exact ⟨0, -1, hide rfl, by omega, by omega, by omega, rfl, by rw [show Pl.dUs s.n s.L 0 = [] from rfl, List.append_nil]; exact unhide HN9, unhide HB9, by omega⟩
      case round =>
        obtain ⟨k, i, hik, hkn, hi0, hi1, rfl, hN, hB, hgk⟩ := hrel
        obtain ⟨g0, hg0⟩ : ∃ g0, g0 = gk := ⟨_, rfl⟩
        have hlenU : (Pl.dUs s.n s.L k).length ≤ 32 * 130 := by
          rw [Pl.dUs_len]; exact Nat.mul_le_mul (by omega) (by omega)
        by_cases hlt : k < s.n + 2
        · have hin : i ≤ s.n := by have := unhide hik; omega
          obtain ⟨G, hG⟩ : ∃ G, G = H ++ Pl.dUs s.n s.L k := ⟨_, rfl⟩
          have hlenG : G.length ≤ 5000 := by rw [hG, List.length_append]; omega
          rw [← hG] at hN
          have HG := hide hG
          have HN10 := hide hN
          have HB10 := hide hB
          clear hN hB HN9 HB9 hG hlenU
          go_wp2_with fail
          go_loopg [6, 21] (s.n + 3) (fun gk lv iv wr => ∃ (j : Nat) (v : Int), Hid (v + 1 = j) ∧ j ≤ s.n + 2 ∧ -1 ≤ v ∧ v ≤ s.n + 1 ∧ iv = .int .i64 v ∧ Nums wr w.heap.size lv (G ++ Pl.dV s.n s.L i j) ∧ Below w.heap.size w wr ∧ s.n + 2 - j ≤ gk)
          case atStart => exact ⟨0, -1, hide rfl, by omega, by omega, by omega, rfl, by rw [show Pl.dV s.n s.L i 0 = [] from rfl, List.append_nil]; exact unhide HN10, unhide HB10, by omega⟩
          case round =>
            obtain ⟨j, v, hvj, hjn, hv0, hv1, rfl, hN, hB, hgj⟩ := hrel
            have hlenV : (G ++ Pl.dV s.n s.L i j).length ≤ 6000 := by rw [List.length_append, Pl.dV_len]; omega
            by_cases hjlt : j < s.n + 2
            · have hvn : v ≤ s.n := by have := unhide hvj; omega
              have HN := hide hN
              have HB := hide hB
              clear hN hB HN10 HB10
              go_wp2_with fail
              refine (conn_t (unhide HOK) i v _ xb ((unhide HXG) _ (unhide HB))).mono ?_
              rintro e w9 ⟨rfl, hB9⟩
              have HB11 := hide ((unhide HB).trans (hB9.mono (unhide HB).size))
              have HN11 := hide (row_below (unhide HN) hB9 (Nat.le_refl _))
              obtain ⟨ca, hca⟩ : ∃ x, x = Pl.cnC s.n i v := ⟨_, rfl⟩
              rw [← hca]
              have HCA := hide hca
              clear hB9 HN HB hca
              go_wp2_with fail
              refine (heav_t (unhide HOK) i v _ xb ((unhide HXG) _ (unhide HB11))).mono ?_
              rintro e w10 ⟨rfl, hB10⟩
              have HB12 := hide ((unhide HB11).trans (hB10.mono (unhide HB11).size))
              have hN12 := row_below (unhide HN11) hB10 (Nat.le_refl _)
              obtain ⟨ha, hha⟩ : ∃ x, x = Pl.hvI s.n s.L i v := ⟨_, rfl⟩
              obtain ⟨hc, hhc⟩ : ∃ x, x = Pl.hvC s.n s.L i v := ⟨_, rfl⟩
              rw [← hha, ← hhc]
              have HS : Hid (∀ b : Bool, Pl.cnB s.n s.L i v = b → G ++ Pl.dV s.n s.L i j ++ [if b then 1 else 0, ca, ha, hc] = G ++ Pl.dV s.n s.L i (j + 1)) := fun b hb => by
                have hki : (j : Int) - 1 = v := by have := unhide hvj; omega
                rw [Pl.dV_snoc, hki, List.append_assoc, unhide HCA, hha, hhc, ← hb]; rfl
              have HN12 := hide hN12
              clear hB10 hN12 hha hhc HB11 HN11 HCA
              cases hb : Pl.cnB s.n s.L i v with
              | true =>
                have hN9 := unhide HN12
                go_wp2_with (at_builtin; refine wpList_append_lits w10 rfl (.tmp 121) (.tmp 126) rfl w.heap.size _ (G ++ Pl.dV s.n s.L i j) rfl (by exact hN9) [1, ca, ha, hc] rfl (by simp only [List.length_cons, List.length_nil]; omega) (by exact (unhide HB12).size) ?_; intro v12 w12 hN13 hB13 hF13)
                have e9 := (unhide HS) true hb
                simp only [if_true] at e9
                rw [e9] at hN13
                have HN13 := hide hN13
                have HB13 := hide ((unhide HB12).trans hB13)
                clear hN9 hN13 hB13 hF13 e9 HN12 HB12 HS
                go_roundg (gk - 1)
                case measure => omega
                case rel => exact ⟨j + 1, v + 1, by show _ = _; have := unhide hvj; omega, by omega, by omega, by omega, by go_num, unhide HN13, unhide HB13, by omega⟩
              | false =>
                have hN9 := unhide HN12
                go_wp2_with (at_builtin; refine wpList_append_lits w10 rfl (.tmp 121) (.tmp 126) rfl w.heap.size _ (G ++ Pl.dV s.n s.L i j) rfl (by exact hN9) [0, ca, ha, hc] rfl (by simp only [List.length_cons, List.length_nil]; omega) (by exact (unhide HB12).size) ?_; intro v12 w12 hN13 hB13 hF13)
                have e9 := (unhide HS) false hb
                simp only [Bool.false_eq_true, if_false] at e9
                rw [e9] at hN13
                have HN13 := hide hN13
                have HB13 := hide ((unhide HB12).trans hB13)
                clear hN9 hN13 hB13 hF13 e9 HN12 HB12 HS
                go_roundg (gk - 1)
                case measure => omega
                case rel => exact ⟨j + 1, v + 1, by show _ = _; have := unhide hvj; omega, by omega, by omega, by omega, by go_num, unhide HN13, unhide HB13, by omega⟩
            · have hjn' : j = s.n + 2 := by omega
              subst hjn'
              have hvn : ¬ v ≤ s.n := by have := unhide hvj; omega
              have HN := hide hN
              have HB := hide hB
              clear hN hB HN10 HB10
              go_wp2_with fail
              refine (reach_t (unhide HOK) i 0 _ xb ((unhide HXG) _ (unhide HB))).mono ?_
              rintro e w9 ⟨rfl, hB9⟩
              have HB11 := hide ((unhide HB).trans (hB9.mono (unhide HB).size))
              have hN11 := row_below (unhide HN) hB9 (Nat.le_refl _)
              obtain ⟨ra, hra⟩ : ∃ x, x = Pl.rcI s.n s.L i 0 := ⟨_, rfl⟩
              obtain ⟨rc, hrc⟩ : ∃ x, x = Pl.rcC s.n i := ⟨_, rfl⟩
              rw [← hra, ← hrc]
              have HS : Hid (G ++ Pl.dV s.n s.L i (s.n + 2) ++ [ra, rc] = H ++ Pl.dUs s.n s.L (k + 1)) := by
                show _ = _
                have hki : (k : Int) - 1 = i := by have := unhide hik; omega
                rw [Pl.dUs_snoc, hki, unhide HG, hra, hrc]
                unfold Pl.dU
                simp only [List.append_assoc]
              clear hB9 hra hrc HN HB
              go_wp2_with (at_builtin; refine wpList_append_lits w9 rfl (.tmp 134) (.tmp 137) rfl w.heap.size _ (G ++ Pl.dV s.n s.L i (s.n + 2)) rfl (by exact hN11) [ra, rc] rfl (by simp only [List.length_cons, List.length_nil]; omega) (by exact (unhide HB11).size) ?_; intro v12 w12 hN13 hB13 hF13)
              rw [unhide HS] at hN13
              have HN13 := hide hN13
              have HB13 := hide ((unhide HB11).trans hB13)
              clear hN11 hN13 hB13 hF13 HB11 HS
              go_roundg (g0 - 1)
              case measure => omega
              case rel => exact ⟨k + 1, i + 1, by show _ = _; have := unhide hik; omega, by omega, by omega, by omega, by go_num, unhide HN13, unhide HB13, by omega⟩
        · have hkn' : k = s.n + 2 := by omega
          subst hkn'
          have hin : ¬ i ≤ s.n := by have := unhide hik; omega
          have HN := hide hN
          have HB := hide hB
          have hlenF : (H ++ Pl.dUs s.n s.L (s.n + 2)).length ≤ 6000 := by rw [List.length_append]; omega
          clear hN hB HN9 HB9 hik
          go_wp2_with fail
          refine (groups_t (unhide HOK) 0 _ xb ((unhide HXG) _ (unhide HB))).mono ?_
          rintro e w9 ⟨rfl, hB9⟩
          have HB11 := hide ((unhide HB).trans (hB9.mono (unhide HB).size))
          have HN11 := hide (row_below (unhide HN) hB9 (Nat.le_refl _))
          clear hB9 HN HB
          go_wp2_with fail
          refine (groups_t (unhide HOK) (-9223372036854775808) _ xb ((unhide HXG) _ (unhide HB11))).mono ?_
          rintro e w10 ⟨rfl, hB10⟩
          have HB12 := hide ((unhide HB11).trans (hB10.mono (unhide HB11).size))
          have HN12 := hide (row_below (unhide HN11) hB10 (Nat.le_refl _))
          clear hB10 HN11 HB11
          go_wp2_with fail
          refine (groups_t (unhide HOK) 9223372036854775807 _ xb ((unhide HXG) _ (unhide HB12))).mono ?_
          rintro e w11 ⟨rfl, hB11⟩
          have HB13 := hide ((unhide HB12).trans (hB11.mono (unhide HB12).size))
          have hN13 := row_below (unhide HN12) hB11 (Nat.le_refl _)
          clear hB11 HN12 HB12
          go_wp2_with (at_builtin; refine wpList_append_lits w11 rfl (.tmp 139) (.tmp 146) rfl w.heap.size _ (H ++ Pl.dUs s.n s.L (s.n + 2)) rfl (by exact hN13) [(Pl.parts s.n (Pl.upI s.L 0) : Int), Pl.parts s.n (Pl.upI s.L (-9223372036854775808)), Pl.parts s.n (Pl.upI s.L 9223372036854775807)] rfl (by simp only [List.length_cons, List.length_nil]; omega) (by exact (unhide HB13).size) ?_; intro v12 w12 hN14 hB14 hF14)
          have hD : H ++ Pl.dUs s.n s.L (s.n + 2) ++ [(Pl.parts s.n (Pl.upI s.L 0) : Int), Pl.parts s.n (Pl.upI s.L (-9223372036854775808)), Pl.parts s.n (Pl.upI s.L 9223372036854775807)] = Pl.dumpL s.n s.L := by rw [unhide HH]; rfl
          rw [hD] at hN14
          have HN14 := hide hN14
          have HB14 := hide ((unhide HB13).trans hB14)
          clear hN13 hN14 hB14 hF14 HB13 hD
          refine (text_t (s := s) (unhide HOK) _ xb ((unhide HTB).later (unhide HB14)) ((unhide HXG) _ (unhide HB14))).mono ?_
          rintro e w13 ⟨rfl, hB15⟩
          have HN15 := hide (row_below (unhide HN14) hB15 (Nat.le_refl _))
          have HB15 := hide ((unhide HB14).trans (hB15.mono (unhide HB14).size))
          clear hB15 HN14 HB14
          go_wp2
          go_ret2
          exact ⟨_, rfl, unhide HN15, unhide HB15⟩

end Go.Proofs.YtnnnleckoinjoaaDoor
