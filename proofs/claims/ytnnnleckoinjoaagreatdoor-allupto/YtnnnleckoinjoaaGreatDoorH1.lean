/- Plain mathematics: the heaviest edge on the way, as the reference finds it. -/
import Derived.Test.YtnnnleckoinjoaaGreatDoorRAll
import Derived.Test.YtnnnleckoinjoaaGreatDoorPlainAll
namespace Go.Proofs.YtnnnleckoinjoaaGreatDoor.Pl

theorem out_eq (l : List It) (id : Int) : outI l id = withoutI l id := by
  unfold outI withoutI
  refine List.filter_congr fun e _ => ?_
  by_cases h : e.id = id <;> simp [h]

theorem hbest_append (l : List It) (u v : Int) (F : List It) (x : It) : hbest l u v (F ++ [x]) = hstep l u v (hbest l u v F) x := by
  unfold hbest; rw [List.foldl_append]; rfl

/-- what the search has found in the edges that it has seen -/
theorem hbest_seen (l : List It) (u v : Int) : ∀ F : List It, Rng F → Ids F →
    ((hbest l u v F).id = -1 ∧ ∀ z, z ∈ F → Br l u v z = false) ∨
    (hbest l u v F ∈ F ∧ Br l u v (hbest l u v F) = true ∧ ∀ z, z ∈ F → Br l u v z = true → z = hbest l u v F ∨ lighter z (hbest l u v F) = true) := by
  intro F0
  have key : ∀ (n : Nat) (F : List It), F.length = n → Rng F → Ids F →
    ((hbest l u v F).id = -1 ∧ ∀ z, z ∈ F → Br l u v z = false) ∨
    (hbest l u v F ∈ F ∧ Br l u v (hbest l u v F) = true ∧ ∀ z, z ∈ F → Br l u v z = true → z = hbest l u v F ∨ lighter z (hbest l u v F) = true) := by
   intro n
   induction n with
   | zero =>
    intro F hF _ _
    obtain rfl := List.eq_nil_of_length_eq_zero hF
    exact Or.inl ⟨rfl, fun z h => by cases h⟩
   | succ n ih =>
    intro F0 hF0 hr hi
    obtain ⟨F, x, rfl⟩ : ∃ F x, F0 = F ++ [x] := ⟨F0.dropLast, F0.getLast (by intro e; subst e; cases hF0), (List.dropLast_concat_getLast _).symm⟩
    have hFn : F.length = n := by simpa using hF0
    have hrF : Rng F := fun e he => hr e (List.mem_append_left _ he)
    have hiF : Ids F := (List.pairwise_append.1 hi).1
    have hx0 := (hr x (by simp)).1
    have hlast : ∀ e, e ∈ F → e.id < x.id := fun e he => (List.pairwise_append.1 hi).2.2 e he x (by simp)
    rw [hbest_append]
    have ih := ih F hFn hrF hiF
    generalize hbest l u v F = b at *
    unfold hstep
    rw [out_eq]
    cases hc : conn (withoutI l x.id) u v with
    | true =>
      have hxb : Br l u v x = false := br_not.2 hc
      simp only [if_true]
      rcases ih with ⟨h1, h2⟩ | ⟨h1, h2, h3⟩
      · refine Or.inl ⟨h1, fun z hz => ?_⟩
        rcases List.mem_append.1 hz with h | h
        · exact h2 z h
        · obtain rfl : z = x := by simpa using h
          exact hxb
      · refine Or.inr ⟨List.mem_append_left _ h1, h2, fun z hz hzb => ?_⟩
        rcases List.mem_append.1 hz with h | h
        · exact h3 z h hzb
        · obtain rfl : z = x := by simpa using h
          rw [hxb] at hzb; cases hzb
    | false =>
      have hxb : Br l u v x = true := br_iff.2 hc
      simp only [Bool.false_eq_true, if_false]
      rcases ih with ⟨h1, h2⟩ | ⟨h1, h2, h3⟩
      · rw [if_pos h1]
        refine Or.inr ⟨by simp, hxb, fun z hz hzb => ?_⟩
        rcases List.mem_append.1 hz with h | h
        · rw [h2 z h] at hzb; cases hzb
        · exact Or.inl (by simpa using h)
      · have hb0 := (hrF b h1).1
        rw [if_neg (by omega)]
        have hne : b.id ≠ x.id := by have := hlast b h1; omega
        cases hl : lighter b x with
        | true =>
          rw [if_pos rfl]
          refine Or.inr ⟨by simp, hxb, fun z hz hzb => ?_⟩
          rcases List.mem_append.1 hz with h | h
          · rcases h3 z h hzb with rfl | h4
            · exact Or.inr hl
            · exact Or.inr (lighter_trans h4 hl)
          · exact Or.inl (by simpa using h)
        | false =>
          rw [if_neg (by simp)]
          refine Or.inr ⟨List.mem_append_left _ h1, h2, fun z hz hzb => ?_⟩
          rcases List.mem_append.1 hz with h | h
          · exact h3 z h hzb
          · obtain rfl : z = x := by simpa using h
            rcases lighter_total hne with h5 | h5
            · rw [hl] at h5; cases h5
            · exact Or.inr h5
  exact key _ F0 rfl

/-- the heaviest edge on the way from u to v in the forest -/
structure Top (L : List It) (u v : Int) (y : It) : Prop where
  mem : y ∈ forest L
  br : conn (withoutI (forest L) y.id) u v = false
  top : ∀ z, z ∈ forest L → Br (forest L) u v z = true → z = y ∨ lighter z y = true

theorem hbest_top {L : List It} {u v : Int} (hi : Ids L) (hr : Rng L) (h : conn L u v = true) (hn : u ≠ v) : Top L u v (hbest (forest L) u v (forest L)) := by
  rcases hbest_seen (forest L) u v (forest L) (forest_rng hr) (forest_ids hi) with ⟨_, h2⟩ | ⟨h1, h2, h3⟩
  · obtain ⟨z, hz, hzb⟩ := bridge_ex (forest_ids hi) (forest_acyc hi) (by rw [span_all]; exact h) hn
    rw [h2 z hz] at hzb; cases hzb
  · exact ⟨h1, br_iff.1 h2, h3⟩
theorem hbest_same {L : List It} {u : Int} (hi : Ids L) (hr : Rng L) : (hbest (forest L) u u (forest L)).id = -1 := by
  rcases hbest_seen (forest L) u u (forest L) (forest_rng hr) (forest_ids hi) with ⟨h1, _⟩ | ⟨_, h2, _⟩
  · exact h1
  · have := br_iff.1 h2; rw [conn_refl] at this; cases this

/-- nothing lighter joins them -/
theorem Top.apart {L : List It} {u v : Int} {y : It} (hi : Ids L) (h : Top L u v y) : conn (below L y) u v = false := by
  cases hc : conn (below L y) u v with
  | false => rfl
  | true =>
    have := conn_mono (m := withoutI (forest L) y.id) (fun e he => by
      obtain ⟨h1, h2⟩ := mem_below.1 he
      refine mem_without.2 ⟨h1, fun hid => ?_⟩
      have e1 := ids_inj (forest_ids hi) h1 h.mem hid
      subst e1
      rw [lighter_irr] at h2; cases h2) (span_below hc)
    rw [h.br] at this; cases this
/-- with it they are joined -/
theorem Top.joins {L : List It} {u v : Int} {y : It} (hi : Ids L) (h : Top L u v y) (hc : conn L u v = true) : conn (y :: below L y) u v = true := by
  have h1 := bridges_join u v _ (forest L) (Nat.le_refl _) (forest_ids hi) (forest_acyc hi) (by rw [span_all]; exact hc)
  refine conn_mono (fun e he => ?_) h1
  obtain ⟨h2, h3⟩ := List.mem_filter.1 he
  rcases h.top e h2 h3 with rfl | h4
  · exact List.mem_cons_self ..
  · exact List.mem_cons_of_mem _ (mem_below.2 ⟨(forest_mem.1 h2).1, h4⟩)
/-- an edge outside is heavier than all on its way -/
theorem Top.lighter {L : List It} {x y : It} (hi : Ids L) (h : Top L x.u x.v y) (hk : keeps L x = false) : Pl.lighter y x = true := by
  have hc : conn (below L x) x.u x.v = true := by unfold keeps at hk; simpa using hk
  have hc' := span_below hc
  cases hl : Pl.lighter y x with
  | true => rfl
  | false =>
    have := conn_mono (m := withoutI (forest L) y.id) (fun e he => by
      obtain ⟨h1, h2⟩ := mem_below.1 he
      refine mem_without.2 ⟨h1, fun hid => ?_⟩
      have e1 := ids_inj (forest_ids hi) h1 h.mem hid
      subst e1
      rw [hl] at h2; cases h2) hc'
    rw [h.br] at this; cases this

end Go.Proofs.YtnnnleckoinjoaaGreatDoor.Pl
