/- How the statement's and the program's data lie in memory; what a call leaves as it was. -/
import Derived.Test.YtnnnleckoinjoaaGreatDoorProg
import Derived.Test.YtnnnleckoinjoaaGreatDoorPlainAll
import Derived.WalkKit
import Derived.WalkSpells
import Derived.WalkLawsBesides
import Derived.Deep.QuietTactic
import Derived.BigQuiet
import Derived.Deep.AppendLies
import Derived.Deep.MidRow
namespace Go.Proofs.YtnnnleckoinjoaaGreatDoor
open Go.RowKit
open Pl (It)

theorem info3 : (Tryz.prog.info? 3).map (fun i => (i.zero, i.size, i.bytes)) = some (some (.int .i64 0), 1, 8) := by kernel_rfl
theorem info4 : (Tryz.prog.info? 4).map (fun i => (i.zero, i.size, i.bytes)) = some (some (.bool false), 1, 1) := by kernel_rfl
theorem infoItem : (Tryz.prog.info? 97).map (fun i => (i.zero, i.size, i.bytes)) = some (some (.agg #[.int .i64 0, .int .i64 0, .int .i64 0, .int .i64 0]), 4, 32) := by kernel_rfl
theorem infoItems : (Tryz.prog.info? 76).map (fun i => (i.zero, i.size, i.bytes)) = some (some (.slice none 0 0), 1, 24) := by kernel_rfl
theorem infoInts : (Tryz.prog.info? 58).map (fun i => (i.zero, i.size, i.bytes)) = some (some (.slice none 0 0), 1, 24) := by kernel_rfl

theorem hide {p : Prop} (h : p) : Hid p := h
theorem unhide {p : Prop} (h : Hid p) : p := h

/-- an edge's cells -/
def itc (e : It) : List Value := [.int .i64 e.id, .int .i64 e.u, .int .i64 e.v, .int .i64 e.w]
abbrev itv (e : It) : Value := .agg #[.int .i64 e.id, .int .i64 e.u, .int .i64 e.v, .int .i64 e.w]
def itcs (l : List It) : List Value := l.flatMap itc

theorem itcs_length (l : List It) : (itcs l).length = l.length * 4 := by
  induction l with
  | nil => rfl
  | cons e l ih => simp only [itcs, List.flatMap_cons, List.length_append, List.length_cons] at *; rw [ih]; simp [itc]; omega
theorem itcs_append (l m : List It) : itcs (l ++ m) = itcs l ++ itcs m := by simp [itcs]
theorem itcs_one (e : It) : itcs [e] = itc e := by simp [itcs]
theorem itcs_get (l : List It) : ∀ (k : Nat) (h : k < l.length) (j : Nat), j < 4 → (itcs l)[k * 4 + j]? = (itc l[k])[j]? := by
  induction l with
  | nil => intro k h; simp at h
  | cons e l ih =>
    intro k h j hj
    have e0 : itcs (e :: l) = itc e ++ itcs l := by simp [itcs]
    rw [e0]
    cases k with
    | zero =>
      rw [List.getElem?_append_left (by simp [itc]; omega)]
      simp
    | succ k =>
      rw [List.getElem?_append_right (by simp [itc]; omega)]
      have := ih k (by simpa using h) j hj
      have e1 : (k + 1) * 4 + j - (itc e).length = k * 4 + j := by simp [itc]; omega
      rw [e1, this]; simp
theorem itcs_oneCell (l : List It) : ∀ u ∈ itcs l, u.oneCell' = true := by
  intro u hu
  simp only [itcs, List.mem_flatMap] at hu
  obtain ⟨e, _, hu⟩ := hu
  simp [itc] at hu
  rcases hu with rfl | rfl | rfl | rfl <;> rfl

/-- a list of edges: the value v is a slice of them, from block number base on -/
def Its (w : World) (base : Nat) (v : Value) (l : List It) : Prop := w.ownsRow base 97 4 v l.length (itcs l)
/-- a list of numbers -/
def Nums (w : World) (base : Nat) (v : Value) (l : List Int) : Prop := w.ownsRow base 3 1 v l.length (l.map (Value.int .i64))
/-- a list of bools -/
def Bools (w : World) (base : Nat) (v : Value) (l : List Bool) : Prop := w.ownsRow base 4 1 v l.length (l.map Value.bool)

theorem row_form {w : World} {base e size : Nat} {v : Value} {n : Nat} {xs : List Value} (h : w.ownsRow base e size v n xs) : ∃ a cap, v = .slice a n cap := by
  rcases h.2 with ⟨rfl, rfl⟩ | ⟨g, cap, cur, rfl, _⟩
  · exact ⟨_, _, rfl⟩
  · exact ⟨_, _, rfl⟩
theorem row_some {w : World} {base e size : Nat} {a : Option Addr} {cap : Nat} {n : Nat} {xs : List Value} (h : w.ownsRow base e size (.slice a n cap) n xs) (hn : 0 < n) : ∃ g, a = some ⟨g, 0, none⟩ := by
  rcases h.2 with ⟨_, h2⟩ | ⟨g, cap', cur, h2, _⟩
  · omega
  · simp only [Value.slice.injEq] at h2
    exact ⟨g, h2.1⟩
theorem row_below {w w' : World} {B base e size : Nat} {v : Value} {n : Nat} {xs : List Value} (h : w.ownsRow base e size v n xs) (hb : Below B w w') (hB : w.heap.size ≤ B) : w'.ownsRow base e size v n xs := by
  obtain ⟨h1, h2⟩ := h
  refine ⟨h1, ?_⟩
  rcases h2 with h2 | ⟨g, cap, cur, hv, hg, hh, r⟩
  · exact Or.inl h2
  · exact Or.inr ⟨g, cap, cur, hv, hg, by rw [hb.block g (by have := lt_of_block hh; omega)]; exact hh, r⟩
theorem row_mono {w : World} {base base' e size : Nat} {v : Value} {n : Nat} {xs : List Value} (h : w.ownsRow base e size v n xs) (hb : base' ≤ base) : w.ownsRow base' e size v n xs := by
  obtain ⟨h1, h2⟩ := h
  refine ⟨h1, ?_⟩
  rcases h2 with h2 | ⟨g, cap, cur, hv, hg, r⟩
  · exact Or.inl h2
  · exact Or.inr ⟨g, cap, cur, hv, by omega, r⟩

theorem Its.later {w w' : World} {B base : Nat} {v : Value} {l : List It} (h : Its w base v l) (hb : Below B w w') (hB : w.heap.size ≤ B) : Its w' base v l := row_below h hb hB
theorem Nums.later {w w' : World} {B base : Nat} {v : Value} {l : List Int} (h : Nums w base v l) (hb : Below B w w') (hB : w.heap.size ≤ B) : Nums w' base v l := row_below h hb hB
theorem Bools.later {w w' : World} {B base : Nat} {v : Value} {l : List Bool} (h : Bools w base v l) (hb : Below B w w') (hB : w.heap.size ≤ B) : Bools w' base v l := row_below h hb hB

/-- the four cells of the k-th edge -/
theorem its_cells {w : World} {base g cap : Nat} {l : List It} (h : Its w base (.slice (some ⟨g, 0, none⟩) l.length cap) l) (k : Nat) (hk : k < l.length) :
    w.cell? ⟨g, k * 4, none⟩ = some (.int .i64 l[k].id) ∧ w.cell? ⟨g, k * 4 + 1, none⟩ = some (.int .i64 l[k].u) ∧
    w.cell? ⟨g, k * 4 + 2, none⟩ = some (.int .i64 l[k].v) ∧ w.cell? ⟨g, k * 4 + 3, none⟩ = some (.int .i64 l[k].w) := by
  have c : ∀ j, j < 4 → w.cell? ⟨g, k * 4 + j, none⟩ = (itc l[k])[j]? := fun j hj => by
    rw [World.ownsRow.cellAt h (k * 4 + j) (by omega), itcs_get l k hk j hj]
  exact ⟨c 0 (by omega), c 1 (by omega), c 2 (by omega), c 3 (by omega)⟩
theorem nums_cell {w : World} {base g cap : Nat} {l : List Int} (h : Nums w base (.slice (some ⟨g, 0, none⟩) l.length cap) l) (k : Nat) (hk : k < l.length) :
    w.cell? ⟨g, k, none⟩ = some (.int .i64 l[k]) := by
  rw [World.ownsRow.cellAt h k (by omega)]; simp [hk]
theorem bools_cell {w : World} {base g cap : Nat} {l : List Bool} (h : Bools w base (.slice (some ⟨g, 0, none⟩) l.length cap) l) (k : Nat) (hk : k < l.length) :
    w.cell? ⟨g, k, none⟩ = some (.bool l[k]) := by
  rw [World.ownsRow.cellAt h k (by omega)]; simp [hk]

theorem its_snoc {w : World} {base : Nat} {v : Value} {l : List It} {e : It} (h : w.ownsRow base 97 4 v (l.length + 1) (itcs l ++ itc e)) : Its w base v (l ++ [e]) := by
  unfold Its
  rw [itcs_append, itcs_one, List.length_append]
  exact h

/-- 'out = append(out, e)' of one edge, out nil or the call's own: behind it out has it too, and what lies below base is as it was -/
theorem wpList_append_item {ops : Array Oper} {rest : List Oper} {o : Oper} {a : Act} {Q : Exit → Act → World → Prop} (w : World) (hgd : o.guard = none) (s x : Operand)
    (ho : o.op = .call { callee := .builtin .append, args := #[s, x], argTypes := #[76, 76] }) (base : Nat) (v : Value) (l : List It) (hs : a.eval s = v) (hown : Its w base v l) (e : It)
    (hx : a.eval x = .slice (some ⟨w.heap.size, 0, none⟩) 1 1) (hl : l.length ≤ 1000) (hbase : base ≤ w.heap.size)
    (h : ∀ v' w', Its w' base v' (l ++ [e]) → Below base w w' → wpList Tryz.prog ops Q rest (a.put o.dst v') w') :
    wpList Tryz.prog ops Q (o :: rest) a (w.alloc (.cells #[.int .i64 e.id, .int .i64 e.u, .int .i64 e.v, .int .i64 e.w] 97)) := by
  obtain ⟨i0, hi, hz0, hz1, hz2⟩ := info_parts infoItem
  refine wpList_append_own _ hgd s x 76 ho base 97 i0 _ 4 32 Tryz.underlying76 hi hz0 hz1 hz2 rfl (by decide) v l.length (itcs l) hs (World.ownsRow.alloc hown _) ⟨w.heap.size, 0, none⟩ 1 1 (itc e) hx rfl ?_ ?_ ?_ ?_ ?_ ?_
  · intro j u hj
    match j, hj with
    | 0, hj => simp [itc] at hj; subst hj; simp [Addr.add]
    | 1, hj => simp [itc] at hj; subst hj; simp [Addr.add]
    | 2, hj => simp [itc] at hj; subst hj; simp [Addr.add]
    | 3, hj => simp [itc] at hj; subst hj; simp [Addr.add]
    | n + 4, hj => simp [itc] at hj
  · intro u hu; exact itcs_oneCell [e] u (by rw [itcs_one]; exact hu)
  · unfold maxLen; omega
  · omega
  · simp; omega
  · intro v' w' h1 h2 _
    refine h v' w' (its_snoc h1) (((Below.refl _ _).alloc hbase _).grown h2 (by simp; omega) fun k hk => (World.ownsRow.lt hown k hk).1)

theorem nums_snoc {w : World} {base : Nat} {v : Value} {l : List Int} {e : Int} (h : w.ownsRow base 3 1 v (l.length + 1) (l.map (Value.int .i64) ++ [.int .i64 e])) : Nums w base v (l ++ [e]) := by
  unfold Nums
  rw [List.map_append, List.length_append]
  exact h
theorem wpList_append_num {ops : Array Oper} {rest : List Oper} {o : Oper} {a : Act} {Q : Exit → Act → World → Prop} (w : World) (hgd : o.guard = none) (s x : Operand)
    (ho : o.op = .call { callee := .builtin .append, args := #[s, x], argTypes := #[58, 58] }) (base : Nat) (v : Value) (l : List Int) (hs : a.eval s = v) (hown : Nums w base v l) (e : Int)
    (hx : a.eval x = .slice (some ⟨w.heap.size, 0, none⟩) 1 1) (hl : l.length ≤ 1000) (hbase : base ≤ w.heap.size)
    (h : ∀ v' w', Nums w' base v' (l ++ [e]) → Below base w w' → wpList Tryz.prog ops Q rest (a.put o.dst v') w') :
    wpList Tryz.prog ops Q (o :: rest) a (w.alloc (.cells #[.int .i64 e] 3)) := by
  obtain ⟨i0, hi, hz0, hz1, hz2⟩ := info_parts info3
  refine wpList_append_own _ hgd s x 58 ho base 3 i0 _ 1 8 Tryz.underlying58 hi hz0 hz1 hz2 rfl (by decide) v l.length (l.map (Value.int .i64)) hs (World.ownsRow.alloc hown _) ⟨w.heap.size, 0, none⟩ 1 1 [.int .i64 e] hx rfl ?_ ?_ ?_ ?_ ?_ ?_
  · intro j u hj
    match j, hj with
    | 0, hj => simp at hj; subst hj; simp [Addr.add]
    | n + 1, hj => simp at hj
  · intro u hu; simp at hu; subst hu; rfl
  · unfold maxLen; omega
  · omega
  · simp; omega
  · intro v' w' h1 h2 _
    refine h v' w' (nums_snoc h1) (((Below.refl _ _).alloc hbase _).grown h2 (by simp; omega) fun k hk => (World.ownsRow.lt hown k hk).1)

theorem ret_bool {a b : Bool} (h : a = b) : Ending.returned (.bool a) = .returned (.bool b) := by rw [h]
theorem ret_int {k : IntKind} {a b : Int} (h : a = b) : Ending.returned (.int k a) = .returned (.int k b) := by rw [h]

def Pl.sumw (l : List It) : Int := (l.map It.w).sum
def Pl.WB (l : List It) : Prop := ∀ e, e ∈ l → -9223372036854775808 ≤ e.w ∧ e.w ≤ 9223372036854775807
theorem Pl.sumw_snoc (l : List It) (k : Nat) (hk : k < l.length) : Pl.sumw (l.take (k + 1)) = Pl.sumw (l.take k) + l[k].w := by
  unfold Pl.sumw
  rw [List.take_succ_eq_append_getElem hk, List.map_append, List.sum_append]; simp
theorem Pl.sumw_bd (l : List It) (h : Pl.WB l) : -9223372036854775808 * (l.length : Int) ≤ Pl.sumw l ∧ Pl.sumw l ≤ 9223372036854775808 * (l.length : Int) := by
  induction l with
  | nil => simp [Pl.sumw]
  | cons e l ih =>
    have := ih (fun d hd => h d (List.mem_cons_of_mem _ hd))
    have := h e (List.mem_cons_self ..)
    simp only [Pl.sumw, List.map_cons, List.sum_cons, List.length_cons] at *
    omega
theorem Pl.WB_take {l : List It} (h : Pl.WB l) (k : Nat) : Pl.WB (l.take k) := fun e he => h e (List.mem_of_mem_take he)

theorem ret_pair {a b c d : Int} (h1 : a = c) (h2 : b = d) : Ending.returned (.tuple #[.int .i64 a, .int .i64 b]) = .returned (.tuple #[.int .i64 c, .int .i64 d]) := by rw [h1, h2]

end Go.Proofs.YtnnnleckoinjoaaGreatDoor
