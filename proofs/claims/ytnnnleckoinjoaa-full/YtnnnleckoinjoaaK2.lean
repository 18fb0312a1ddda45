import Derived.Test.YtnnnleckoinjoaaK1
namespace Go.Proofs.Ytnnnleckoinjoaa
open Go.RowKit
open Pl (It)

/-- so many edges have come, one behind the other -/
def fst (n m : Nat) (wt : Int) : Nat → St
  | 0 => st0 n m
  | i + 1 => insSt (fst n m wt i) i ((i % n : Nat) : Int) (((i + 1) % n : Nat) : Int) wt

structure FOk (n m i : Nat) (s : St) : Prop where
  ok : Ok s
  n : s.n = n
  most : s.most = m
  len : s.L.length = i
  ids : ∀ e, e ∈ s.L → e.id < i
  zero : 0 < i → Pl.has s.L 0 = true

theorem FOk.has {n m i : Nat} {s : St} (h : FOk n m i s) (j : Nat) (hj : i ≤ j) : Pl.has s.L (j : Int) = false := by
  rw [Pl.has_false]
  intro e he h2
  have := h.ids e he
  omega
theorem fst_ok (n m : Nat) (wt : Int) (hn1 : 1 ≤ n) (hn : n ≤ 30) (hm : m ≤ 60) (h0 : -9223372036854775808 ≤ wt) (h1 : wt ≤ 9223372036854775807) : ∀ i, i ≤ m → FOk n m i (fst n m wt i) := by
  intro i
  induction i with
  | zero => intro _; exact ⟨ok0 n m hn1 hn hm, rfl, rfl, rfl, (fun e h => by cases h), (fun h => by omega)⟩
  | succ i ih =>
    intro hi
    have h := ih (by omega)
    have a1 := Nat.mod_lt i (show n > 0 by omega)
    have a2 := Nat.mod_lt (i + 1) (show n > 0 by omega)
    have hf := h.has i (Nat.le_refl _)
    refine ⟨h.ok.ins i _ _ wt (Pl.numB_true.2 (by omega)) (Pl.verB_true.2 (by rw [h.n]; omega)) (Pl.verB_true.2 (by rw [h.n]; omega)) hf (by rw [h.len, h.most]; omega) h0 h1, h.n, h.most, ?_, ?_, ?_⟩
    · show (Pl.withI _ _).length = i + 1
      rw [Pl.with_len_eq _ _ hf, h.len]
    · intro e he
      rcases (Pl.mem_with hf).1 he with rfl | he
      · show (i : Int) < _; omega
      · have := h.ids e he; omega
    · intro _
      rcases Nat.eq_zero_or_pos i with rfl | hp
      · exact Pl.has_iff.2 ⟨_, (Pl.mem_with hf).2 (Or.inl rfl), rfl⟩
      · obtain ⟨e, he, h2⟩ := Pl.has_iff.1 (h.zero hp)
        exact Pl.has_iff.2 ⟨e, (Pl.mem_with hf).2 (Or.inr he), h2⟩

theorem fst_succ (n m : Nat) (wt : Int) (i : Nat) : fst n m wt (i + 1) = insSt (fst n m wt i) i ((i % n : Nat) : Int) (((i + 1) % n : Nat) : Int) wt := rfl
theorem full_in (n m : Nat) (wt : Int) (hn1 : 1 ≤ n) (hn : n ≤ 30) (hm : m ≤ 60) (h0 : -9223372036854775808 ≤ wt) (h1 : wt ≤ 9223372036854775807) (k : Nat) (hk : k < m) (w : World) (xb : Nat) (hx : XG w xb (fst n m wt k)) :
    Calls Try.prog 20 #[P0 xb, .int .i64 k, .int .i64 ((k : Int) % n), .int .i64 (((k : Int) + 1) % n), .int .i64 wt] w fun e w' => (∃ x y : Int, e = .returned (.tuple #[.agg #[.int .i64 x, .int .i64 y], .int .i64 0])) ∧ XG w' xb (fst n m wt (k + 1)) ∧ Fr (fun k => k = xb) w w' := by
  have h := fst_ok n m wt hn1 hn hm h0 h1 k (by omega)
  have a1 := Nat.mod_lt k (show n > 0 by omega)
  have a2 := Nat.mod_lt (k + 1) (show n > 0 by omega)
  have e1 : (k : Int) % n = ((k % n : Nat) : Int) := by omega
  have e2 : ((k : Int) + 1) % n = (((k + 1) % n : Nat) : Int) := by simp
  rw [e1, e2, fst_succ]
  refine (insX_ok h.ok k _ _ wt (Pl.numB_true.2 (by omega)) (Pl.verB_true.2 (by rw [h.n]; omega)) (Pl.verB_true.2 (by rw [h.n]; omega)) (h.has k (Nat.le_refl _)) (by rw [h.len, h.most]; omega) w xb hx).mono ?_
  rintro e w' ⟨rfl, hx', hf⟩
  exact ⟨⟨_, _, rfl⟩, hx', hf⟩
theorem full_out (n m : Nat) (wt : Int) (hn1 : 1 ≤ n) (hn : n ≤ 30) (hm : m ≤ 60) (h0 : -9223372036854775808 ≤ wt) (h1 : wt ≤ 9223372036854775807) (k : Nat) (hk : m ≤ k) (hk2 : k ≤ m + 1) (w : World) (xb : Nat) (hx : XG w xb (fst n m wt m)) :
    Calls Try.prog 20 #[P0 xb, .int .i64 k, .int .i64 ((k : Int) % n), .int .i64 (((k : Int) + 1) % n), .int .i64 wt] w fun e w' => e = .returned (.tuple #[.agg #[.int .i64 0, .int .i64 0], .int .i64 5]) ∧ XG w' xb (fst n m wt m) ∧ Below w.heap.size w w' := by
  have h := fst_ok n m wt hn1 hn hm h0 h1 m (Nat.le_refl _)
  have a1 := Nat.mod_lt k (show n > 0 by omega)
  have a2 := Nat.mod_lt (k + 1) (show n > 0 by omega)
  have e1 : (k : Int) % n = ((k % n : Nat) : Int) := by omega
  have e2 : ((k : Int) + 1) % n = (((k + 1) % n : Nat) : Int) := by simp
  rw [e1, e2]
  exact insX_no h.ok k _ _ wt 5 (Or.inr (Or.inr (Or.inr (Or.inr ⟨Pl.numB_true.2 (by omega), Pl.verB_true.2 (by rw [h.n]; omega), Pl.verB_true.2 (by rw [h.n]; omega), h.has k hk, by rw [h.len, h.most]; omega, rfl⟩)))) w xb hx
/-- the state behind the Delete, and the one behind the last Insert -/
theorem full_end (n m : Nat) (wt : Int) (hn1 : 1 ≤ n) (hn : n ≤ 30) (hm1 : 1 ≤ m) (hm : m ≤ 60) (h0 : -9223372036854775808 ≤ wt) (h1 : wt ≤ 9223372036854775807) : ∃ s1 s2 : St, (∀ (w : World) (xb : Nat), XG w xb (fst n m wt m) → Calls Try.prog 21 #[P0 xb, .int .i64 0] w fun e w' => (∃ x y : Int, e = .returned (.tuple #[.agg #[.int .i64 x, .int .i64 y], .int .i64 0])) ∧ XG w' xb s1 ∧ Fr (fun k => k = xb) w w') ∧
    (∀ (w : World) (xb : Nat), XG w xb s1 → Calls Try.prog 20 #[P0 xb, .int .i64 m, .int .i64 0, .int .i64 0, .int .i64 wt] w fun e w' => (∃ x y : Int, e = .returned (.tuple #[.agg #[.int .i64 x, .int .i64 y], .int .i64 0])) ∧ XG w' xb s2 ∧ Fr (fun k => k = xb) w w') ∧
    (∀ (w : World) (xb : Nat), XG w xb s2 → Calls Try.prog 20 #[P0 xb, .int .i64 ((m : Int) + 1), .int .i64 0, .int .i64 0, .int .i64 wt] w fun e w' => e = .returned (.tuple #[.agg #[.int .i64 0, .int .i64 0], .int .i64 5]) ∧ XG w' xb s2 ∧ Below w.heap.size w w') := by
  have h := fst_ok n m wt hn1 hn hm h0 h1 m (Nat.le_refl _)
  have z := h.zero (by omega)
  have ok1 := h.ok.del 0 (Pl.numB_true.2 (by omega)) z
  obtain ⟨x, hx, hx0⟩ := Pl.has_iff.1 z
  have hl1 : (delSt (fst n m wt m) 0).L.length + 1 = m := by
    have := Pl.without_len_lt h.ok.gl.ids hx
    rw [hx0, h.len] at this
    exact this
  have hf1 : Pl.has (delSt (fst n m wt m) 0).L (m : Int) = false := by
    rw [Pl.has_false]
    intro e he h2
    have := h.ids e (Pl.mem_without.1 he).1
    omega
  have v0 : Pl.verB (delSt (fst n m wt m) 0).n 0 = true := Pl.verB_true.2 (by show _ ∧ (0 : Int) < ((fst n m wt m).n : Int); rw [h.n]; omega)
  have mm : (delSt (fst n m wt m) 0).most = m := h.most
  have hlt : (delSt (fst n m wt m) 0).L.length < (delSt (fst n m wt m) 0).most := by rw [mm]; omega
  have ok2 := ok1.ins m 0 0 wt (Pl.numB_true.2 (by omega)) v0 v0 hf1 hlt h0 h1
  refine ⟨delSt (fst n m wt m) 0, insSt (delSt (fst n m wt m) 0) m 0 0 wt, fun w xb hX => ?_, fun w xb hX => ?_, fun w xb hX => ?_⟩
  · refine (delX_ok h.ok 0 (Pl.numB_true.2 (by omega)) z w xb hX).mono ?_
    rintro e w' ⟨rfl, hx', hf⟩
    exact ⟨⟨_, _, rfl⟩, hx', hf⟩
  · refine (insX_ok ok1 m 0 0 wt (Pl.numB_true.2 (by omega)) v0 v0 hf1 hlt w xb hX).mono ?_
    rintro e w' ⟨rfl, hx', hf⟩
    exact ⟨⟨_, _, rfl⟩, hx', hf⟩
  · have hf2 : Pl.has (insSt (delSt (fst n m wt m) 0) m 0 0 wt).L ((m : Int) + 1) = false := by
      rw [Pl.has_false]
      intro e he h2
      rcases (Pl.mem_with hf1).1 he with rfl | he
      · simp at h2; omega
      · have := h.ids e (Pl.mem_without.1 he).1
        omega
    have hl2 : (insSt (delSt (fst n m wt m) 0) m 0 0 wt).L.length = m := by
      show (Pl.withI _ _).length = m
      rw [Pl.with_len_eq _ _ hf1]; exact hl1
    exact insX_no ok2 ((m : Int) + 1) 0 0 wt 5 (Or.inr (Or.inr (Or.inr (Or.inr ⟨Pl.numB_true.2 (by omega), v0, v0, hf2, by rw [hl2]; show (fst n m wt m).most ≤ m; rw [h.most]; omega, rfl⟩)))) w xb hX
end Go.Proofs.Ytnnnleckoinjoaa
