/- The forest as it was told, change by change. -/
import Derived.Test.YtnnnleckoinjoaaK5
namespace Go.Proofs.Ytnnnleckoinjoaa
open Go.RowKit
open Pl (It)

structure CSt where
  out : List Int
  put : Bool
  gone : Bool
def stepC (a r : Int) (s : CSt) (x : Int) : CSt :=
  if s.put = false ∧ a < x then (if x = r then ⟨s.out ++ [a], true, true⟩ else ⟨(s.out ++ [a]) ++ [x], true, s.gone⟩)
  else (if x = r then ⟨s.out, s.put, true⟩ else ⟨s.out ++ [x], s.put, s.gone⟩)
def CS (M : List Int) (a r : Int) (k : Nat) : CSt := (M.take k).foldl (stepC a r) ⟨[], a == -1, r == -1⟩
theorem CS_succ (M : List Int) (a r : Int) (k : Nat) (h : k < M.length) : CS M a r (k + 1) = stepC a r (CS M a r k) M[k] := by
  unfold CS
  rw [List.take_succ_eq_append_getElem h, List.foldl_append]; rfl
theorem CS_len (M : List Int) (a r : Int) : ∀ k, k ≤ M.length → (CS M a r k).out.length ≤ 2 * k := by
  intro k
  induction k with
  | zero => intro _; simp [CS]
  | succ k ih =>
    intro hk
    have := ih (by omega)
    rw [CS_succ M a r k (by omega)]
    unfold stepC
    split <;> split <;> simp <;> omega

theorem CS_inv {M : List Int} {a r : Int} (hM : M.Pairwise (· < ·)) (ha : a ∉ M) : ∀ k, k ≤ M.length →
    (CS M a r k).out.Pairwise (· < ·) ∧ (∀ y, y ∈ (CS M a r k).out ↔ (y ∈ M.take k ∧ y ≠ r) ∨ (y = a ∧ a ≠ -1 ∧ (CS M a r k).put = true)) ∧
    ((CS M a r k).put = true ↔ a = -1 ∨ ∃ x, x ∈ M.take k ∧ a < x) ∧ ((CS M a r k).gone = true ↔ r = -1 ∨ r ∈ M.take k) := by
  intro k
  induction k with
  | zero => intro _; simp [CS]
  | succ k ih =>
    intro hk
    have hk' : k < M.length := by omega
    obtain ⟨i1, i2, i3, i4⟩ := ih (by omega)
    have hmem : ∀ y, y ∈ M.take (k + 1) ↔ y ∈ M.take k ∨ y = M[k] := fun y => by rw [List.take_succ_eq_append_getElem hk', List.mem_append, List.mem_singleton]
    have hlt : ∀ y, y ∈ M.take k → y < M[k] := fun y hy => by
      obtain ⟨j, hj, rfl⟩ := List.getElem_of_mem hy
      have hjk : j < k := by simp at hj; omega
      rw [List.getElem_take]
      exact List.pairwise_iff_getElem.1 hM j k (by omega) hk' hjk
    have hxa : M[k] ≠ a := fun e => ha (e ▸ List.getElem_mem hk')
    rw [CS_succ M a r k hk']
    generalize CS M a r k = s at *
    generalize M[k] = x at *
    obtain ⟨o, p, g⟩ := s
    simp only at i1 i2 i3 i4
    have hox : ∀ y, y ∈ o → y < x ∨ y = a := fun y hy => by
      rcases (i2 y).1 hy with ⟨h1, _⟩ | ⟨h1, _⟩
      · exact Or.inl (hlt y h1)
      · exact Or.inr h1
    unfold stepC
    by_cases hc : p = false ∧ a < x
    · obtain ⟨rfl, hax⟩ := hc
      have ha1 : a ≠ -1 := fun e => by have := i3.2 (Or.inl e); cases this
      have hoa : ∀ y, y ∈ o → y < a := fun y hy => by
        rcases (i2 y).1 hy with ⟨h1, _⟩ | ⟨_, _, h1⟩
        · have h2 : ¬ a < y := fun h => by have := i3.2 (Or.inr ⟨y, h1, h⟩); cases this
          have h3 : y ≠ a := fun e => ha (e ▸ List.mem_of_mem_take h1)
          omega
        · cases h1
      have hs1 : (o ++ [a]).Pairwise (· < ·) := List.pairwise_append.2 ⟨i1, List.pairwise_singleton _ _, fun y hy z hz => by rw [List.mem_singleton.1 hz]; exact hoa y hy⟩
      rw [if_pos ⟨rfl, hax⟩]
      by_cases hr : x = r
      · subst hr
        rw [if_pos rfl]
        refine ⟨hs1, fun y => ?_, ?_, ?_⟩
        · rw [List.mem_append, i2, hmem, List.mem_singleton]
          constructor
          · rintro ((⟨h1, h2⟩ | ⟨_, _, h1⟩) | h1)
            · exact Or.inl ⟨Or.inl h1, h2⟩
            · cases h1
            · exact Or.inr ⟨h1, ha1, rfl⟩
          · rintro (⟨h1 | h1, h2⟩ | ⟨h1, _, _⟩)
            · exact Or.inl (Or.inl ⟨h1, h2⟩)
            · exact absurd h1 h2
            · exact Or.inr h1
        · exact ⟨fun _ => Or.inr ⟨x, (hmem x).2 (Or.inr rfl), hax⟩, fun _ => rfl⟩
        · exact ⟨fun _ => Or.inr ((hmem x).2 (Or.inr rfl)), fun _ => rfl⟩
      · rw [if_neg hr]
        refine ⟨List.pairwise_append.2 ⟨hs1, List.pairwise_singleton _ _, fun y hy z hz => ?_⟩, fun y => ?_, ?_, ?_⟩
        · rw [List.mem_singleton.1 hz]
          rcases List.mem_append.1 hy with h1 | h1
          · have := hoa y h1; omega
          · rw [List.mem_singleton.1 h1]; exact hax
        · rw [List.mem_append, List.mem_append, i2, hmem, List.mem_singleton, List.mem_singleton]
          constructor
          · rintro (((⟨h1, h2⟩ | ⟨_, _, h1⟩) | h1) | h1)
            · exact Or.inl ⟨Or.inl h1, h2⟩
            · cases h1
            · exact Or.inr ⟨h1, ha1, rfl⟩
            · exact Or.inl ⟨Or.inr h1, by rw [h1]; exact hr⟩
          · rintro (⟨h1 | h1, h2⟩ | ⟨h1, _, _⟩)
            · exact Or.inl (Or.inl (Or.inl ⟨h1, h2⟩))
            · exact Or.inr h1
            · exact Or.inl (Or.inr h1)
        · exact ⟨fun _ => Or.inr ⟨x, (hmem x).2 (Or.inr rfl), hax⟩, fun _ => rfl⟩
        · show g = true ↔ _
          rw [i4, hmem]
          constructor
          · rintro (h | h)
            · exact Or.inl h
            · exact Or.inr (Or.inl h)
          · rintro (h | h | h)
            · exact Or.inl h
            · exact Or.inr h
            · exact absurd h.symm hr
    · rw [if_neg hc]
      have hput : p = true ↔ a = -1 ∨ ∃ y, y ∈ M.take (k + 1) ∧ a < y := by
        constructor
        · intro h
          rcases i3.1 h with h | ⟨y, h1, h2⟩
          · exact Or.inl h
          · exact Or.inr ⟨y, (hmem y).2 (Or.inl h1), h2⟩
        · rintro (h | ⟨y, h1, h2⟩)
          · exact i3.2 (Or.inl h)
          · rcases (hmem y).1 h1 with h3 | h3
            · exact i3.2 (Or.inr ⟨y, h3, h2⟩)
            · cases hp : p with
              | true => rfl
              | false => exact absurd ⟨hp, by omega⟩ hc
      have hox2 : ∀ y, y ∈ o → y < x := fun y hy => by
        rcases (i2 y).1 hy with ⟨h1, _⟩ | ⟨h1, h2, h3⟩
        · exact hlt y h1
        · rcases i3.1 h3 with h | ⟨z, h4, h5⟩
          · exact absurd h h2
          · have := hlt z h4; omega
      by_cases hr : x = r
      · subst hr
        rw [if_pos rfl]
        refine ⟨i1, fun y => ?_, hput, ⟨fun _ => Or.inr ((hmem x).2 (Or.inr rfl)), fun _ => rfl⟩⟩
        show y ∈ o ↔ _
        rw [i2, hmem]
        constructor
        · rintro (⟨h1, h2⟩ | h)
          · exact Or.inl ⟨Or.inl h1, h2⟩
          · exact Or.inr h
        · rintro (⟨h1 | h1, h2⟩ | h)
          · exact Or.inl ⟨h1, h2⟩
          · exact absurd h1 h2
          · exact Or.inr h
      · rw [if_neg hr]
        refine ⟨List.pairwise_append.2 ⟨i1, List.pairwise_singleton _ _, fun y hy z hz => by rw [List.mem_singleton.1 hz]; exact hox2 y hy⟩, fun y => ?_, hput, ?_⟩
        · rw [List.mem_append, i2, hmem, List.mem_singleton]
          constructor
          · rintro ((⟨h1, h2⟩ | h) | h)
            · exact Or.inl ⟨Or.inl h1, h2⟩
            · exact Or.inr h
            · exact Or.inl ⟨Or.inr h, by rw [h]; exact hr⟩
          · rintro (⟨h1 | h1, h2⟩ | h)
            · exact Or.inl (Or.inl ⟨h1, h2⟩)
            · exact Or.inr h1
            · exact Or.inl (Or.inr h)
        · show g = true ↔ _
          rw [i4, hmem]
          constructor
          · rintro (h | h)
            · exact Or.inl h
            · exact Or.inr (Or.inl h)
          · rintro (h | h | h)
            · exact Or.inl h
            · exact Or.inr h
            · exact absurd h.symm hr

/-- the whole: what is told to go is gone, what is told to come has come -/
theorem CS_end {M : List Int} {a r : Int} (hM : M.Pairwise (· < ·)) (ha : a ∉ M) (hr : r = -1 ∨ r ∈ M) :
    (CS M a r M.length).gone = true ∧ ((CS M a r M.length).put = true → (CS M a r M.length).out.Pairwise (· < ·) ∧ ∀ y, y ∈ (CS M a r M.length).out ↔ (y ∈ M ∧ y ≠ r) ∨ (y = a ∧ a ≠ -1)) ∧
    ((CS M a r M.length).put = false → ((CS M a r M.length).out ++ [a]).Pairwise (· < ·) ∧ ∀ y, y ∈ (CS M a r M.length).out ++ [a] ↔ (y ∈ M ∧ y ≠ r) ∨ (y = a ∧ a ≠ -1)) := by
  obtain ⟨i1, i2, i3, i4⟩ := CS_inv (r := r) hM ha M.length (Nat.le_refl _)
  rw [List.take_length] at i2 i3 i4
  refine ⟨i4.2 hr, fun hp => ⟨i1, fun y => ?_⟩, fun hp => ⟨?_, fun y => ?_⟩⟩
  · rw [i2, hp]; simp
  · refine List.pairwise_append.2 ⟨i1, List.pairwise_singleton _ _, fun y hy z hz => ?_⟩
    rw [List.mem_singleton.1 hz]
    rcases (i2 y).1 hy with ⟨h1, _⟩ | ⟨_, _, h1⟩
    · have h2 : ¬ a < y := fun h => by have := i3.2 (Or.inr ⟨y, h1, h⟩); rw [hp] at this; cases this
      have h3 : y ≠ a := fun e => ha (e ▸ h1)
      omega
    · rw [hp] at h1; cases h1
  · have ha1 : a ≠ -1 := fun e => by have := i3.2 (Or.inl e); rw [hp] at this; cases this
    rw [List.mem_append, i2, hp, List.mem_singleton]
    simp [ha1]

end Go.Proofs.Ytnnnleckoinjoaa
