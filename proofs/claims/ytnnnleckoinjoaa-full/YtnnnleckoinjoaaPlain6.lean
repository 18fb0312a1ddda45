/- Plain mathematics: an edge goes; lists that lie one change apart. -/
import Derived.Test.YtnnnleckoinjoaaPlain5
namespace Go.Proofs.Ytnnnleckoinjoaa.Pl

/-- a list without the edge of a number -/
theorem mem_without {l : List It} {id : Int} {e : It} : e ∈ withoutI l id ↔ e ∈ l ∧ e.id ≠ id := by simp [withoutI]
theorem without_has (l : List It) (id : Int) : has (withoutI l id) id = false := by
  rw [has_false]; intro e he; exact (mem_without.1 he).2
theorem without_ids {l : List It} (h : Ids l) (id : Int) : Ids (withoutI l id) := h.filter _
theorem without_rng {l : List It} (h : Rng l) (id : Int) : Rng (withoutI l id) := fun e he => h e (mem_without.1 he).1
theorem without_ends {n : Nat} {l : List It} (h : Ends n l) (id : Int) : Ends n (withoutI l id) := fun e he => h e (mem_without.1 he).1
theorem without_len (l : List It) (id : Int) : (withoutI l id).length ≤ l.length := List.length_filter_le _ _

theorem ids_ext {l m : List It} (hl : Ids l) (hm : Ids m) (h : ∀ e, e ∈ l ↔ e ∈ m) : l = m := by
  induction l generalizing m with
  | nil =>
    cases m with
    | nil => rfl
    | cons y m => exact absurd ((h y).2 (List.mem_cons_self ..)) (by simp)
  | cons x l ih =>
    cases m with
    | nil => exact absurd ((h x).1 (List.mem_cons_self ..)) (by simp)
    | cons y m =>
      obtain ⟨hx, hl'⟩ := List.pairwise_cons.1 hl
      obtain ⟨hy, hm'⟩ := List.pairwise_cons.1 hm
      have exy : x = y := by
        rcases List.mem_cons.1 ((h x).1 (List.mem_cons_self ..)) with e | e
        · exact e
        · rcases List.mem_cons.1 ((h y).2 (List.mem_cons_self ..)) with e' | e'
          · exact e'.symm
          · have h1 := hy x e
            have h2 := hx y e'
            omega
      subst exy
      rw [ih hl' hm' fun e => ?_]
      constructor
      · intro he
        rcases List.mem_cons.1 ((h e).1 (List.mem_cons_of_mem _ he)) with e1 | e1
        · subst e1; exact absurd (hx _ he) (by omega)
        · exact e1
      · intro he
        rcases List.mem_cons.1 ((h e).2 (List.mem_cons_of_mem _ he)) with e1 | e1
        · subst e1; exact absurd (hy _ he) (by omega)
        · exact e1

/-- what went, put in again -/
theorem with_without {l : List It} {x : It} (h : Ids l) (hx : x ∈ l) : withI (withoutI l x.id) x = l := by
  refine ids_ext (with_ids (without_ids h _)) h fun e => ?_
  rw [mem_with (without_has l x.id), mem_without]
  constructor
  · rintro (rfl | ⟨h1, _⟩)
    · exact hx
    · exact h1
  · intro he
    by_cases hid : e.id = x.id
    · exact Or.inl (ids_inj h he hx hid)
    · exact Or.inr ⟨he, hid⟩
theorem without_with {l : List It} {x : It} (h : Ids l) (hx : has l x.id = false) : withoutI (withI l x) x.id = l := by
  refine ids_ext (without_ids (with_ids h) _) h fun e => ?_
  rw [mem_without, mem_with hx]
  constructor
  · rintro ⟨rfl | h1, h2⟩
    · exact absurd rfl h2
    · exact h1
  · intro he
    exact ⟨Or.inr he, has_false.1 hx e he⟩
theorem without_len_lt {l : List It} {x : It} (h : Ids l) (hx : x ∈ l) : (withoutI l x.id).length + 1 = l.length := by
  have := with_len_eq (withoutI l x.id) x (without_has l x.id)
  rw [with_without h hx] at this
  omega

/-- two lists one change apart -/
def Adj (l m : List It) : Prop := (∃ x : It, has l x.id = false ∧ m = withI l x) ∨ ∃ x : It, has m x.id = false ∧ l = withI m x
theorem Adj.symm {l m : List It} (h : Adj l m) : Adj m l := h.elim Or.inr Or.inl
theorem adj_with {l : List It} {x : It} (h : has l x.id = false) : Adj l (withI l x) := Or.inl ⟨x, h, rfl⟩
theorem adj_without {l : List It} {x : It} (h : Ids l) (hx : x ∈ l) : Adj l (withoutI l x.id) := Or.inr ⟨x, without_has l x.id, (with_without h hx).symm⟩
/-- at most one comes -/
theorem Adj.uniq {l m : List It} (h : Adj l m) : ∀ a b, a ∈ forest m → b ∈ forest m → has (forest l) a.id = false → has (forest l) b.id = false → a.id = b.id := by
  rcases h with ⟨x, hx, rfl⟩ | ⟨x, hx, rfl⟩
  · exact uniq_added hx
  · exact uniq_removed hx
theorem Adj.last {l m : List It} (h : Adj l m) (hr : Rng m) : lastOnly (bits (forest m)) (bits (forest l)) 100 = only (forest m) (forest l) := lastOnly_only (forest_rng hr) h.uniq

theorem only_spec (a b : List It) : (only a b = -1 ∧ ∀ e, e ∈ a → has b e.id = true) ∨ ∃ e, e ∈ a ∧ has b e.id = false ∧ only a b = e.id := by
  unfold only
  cases hf : a.filter (fun x => !has b x.id) with
  | nil =>
    refine Or.inl ⟨rfl, fun e he => ?_⟩
    cases hh : has b e.id with
    | true => rfl
    | false =>
      have : e ∈ a.filter (fun x => !has b x.id) := List.mem_filter.2 ⟨he, by rw [hh]; rfl⟩
      rw [hf] at this; cases this
  | cons y r =>
    have : y ∈ a.filter (fun x => !has b x.id) := by rw [hf]; exact List.mem_cons_self ..
    obtain ⟨h1, h2⟩ := List.mem_filter.1 this
    exact Or.inr ⟨y, h1, by simpa using h2, rfl⟩

/-- the forest behind a change, by the change that is told -/
theorem Adj.told {l m : List It} (h : Adj l m) (hm : Rng m) (i : Int) :
    has (forest m) i = true ↔ (has (forest l) i = true ∧ i ≠ only (forest l) (forest m)) ∨ (i = only (forest m) (forest l) ∧ i ≠ -1) := by
  constructor
  · intro hi
    cases hh : has (forest l) i with
    | true =>
      refine Or.inl ⟨rfl, ?_⟩
      rintro rfl
      rcases only_spec (forest l) (forest m) with ⟨h1, _⟩ | ⟨e, he, h2, h3⟩
      · obtain ⟨e, he, h4⟩ := has_iff.1 hi
        have := (forest_rng hm e he).1
        omega
      · rw [h3] at hi; rw [hi] at h2; cases h2
    | false =>
      right
      obtain ⟨e, he, rfl⟩ := has_iff.1 hi
      rcases only_spec (forest m) (forest l) with ⟨_, h1⟩ | ⟨e', he', h2, h3⟩
      · rw [h1 e he] at hh; cases hh
      · refine ⟨by rw [h3]; exact h.uniq e e' he he' hh h2, ?_⟩
        have := (forest_rng hm e he).1
        omega
  · rintro (⟨h1, h2⟩ | ⟨rfl, h2⟩)
    · cases hh : has (forest m) i with
      | true => rfl
      | false =>
        exfalso
        obtain ⟨e, he, rfl⟩ := has_iff.1 h1
        rcases only_spec (forest l) (forest m) with ⟨_, h3⟩ | ⟨e', he', h4, h5⟩
        · rw [h3 e he] at hh; cases hh
        · exact h2 (by rw [h5]; exact h.symm.uniq e e' he he' hh h4)
    · rcases only_spec (forest m) (forest l) with ⟨h1, _⟩ | ⟨e, he, _, h3⟩
      · exact absurd h1 h2
      · rw [h3]; exact has_iff.2 ⟨e, he, rfl⟩
/-- what is told to come was not there; what is told to go was -/
theorem only_not (a b : List It) : only a b = -1 ∨ (has a (only a b) = true ∧ has b (only a b) = false) := by
  rcases only_spec a b with ⟨h, _⟩ | ⟨e, he, h1, h2⟩
  · exact Or.inl h
  · right; rw [h2]; exact ⟨has_iff.2 ⟨e, he, rfl⟩, h1⟩

/-- an edge of the forest that goes is told to go -/
theorem goes_told {l : List It} {x : It} (hi : Ids l) (hx : x ∈ l) (hk : keeps l x = true) : only (forest l) (forest (withoutI l x.id)) = x.id := by
  have hxf : x ∈ forest l := List.mem_filter.2 ⟨hx, hk⟩
  have hno : has (forest (withoutI l x.id)) x.id = false := by
    rw [has_false]; intro e he; exact (mem_without.1 (List.mem_filter.1 he).1).2
  rcases only_spec (forest l) (forest (withoutI l x.id)) with ⟨_, h⟩ | ⟨e, he, h1, h2⟩
  · rw [h x hxf] at hno; cases hno
  · rw [h2]; exact (adj_without hi hx).symm.uniq e x he hxf h1 hno
/-- an edge outside goes and comes without a change -/
theorem outside_told {l : List It} {x : It} (hi : Ids l) (hx : x ∈ l) (hk : keeps l x = false) : forest (withoutI l x.id) = forest l := by
  have hkk : ∀ e, e ∈ withoutI l x.id → keeps (withoutI l x.id) e = keeps l e := by
    intro e he
    have hel := (mem_without.1 he).1
    unfold keeps
    congr 1
    rw [Bool.eq_iff_iff]
    constructor
    · exact conn_mono fun y hy => by rw [mem_below] at *; exact ⟨(mem_without.1 hy.1).1, hy.2⟩
    · refine conn_le fun y hy => ?_
      rw [mem_below] at hy
      by_cases hyx : y.id = x.id
      · have hyx' := ids_inj hi hy.1 hx hyx
        subst hyx'
        unfold keeps at hk
        simp only [Bool.not_eq_false'] at hk
        refine conn_mono (fun z hz => ?_) hk
        rw [mem_below] at *
        refine ⟨mem_without.2 ⟨hz.1, fun hzx => ?_⟩, lighter_trans hz.2 hy.2⟩
        have hzx' := ids_inj hi hz.1 hx hzx
        subst hzx'
        have := hz.2
        rw [lighter_irr] at this; cases this
      · exact conn_edge (mem_below.2 ⟨mem_without.2 ⟨hy.1, hyx⟩, hy.2⟩)
  refine ids_ext (forest_ids (without_ids hi _)) (forest_ids hi) fun e => ?_
  unfold forest
  rw [List.mem_filter, List.mem_filter]
  constructor
  · rintro ⟨h1, h2⟩
    exact ⟨(mem_without.1 h1).1, by rw [← hkk e h1]; exact h2⟩
  · rintro ⟨h1, h2⟩
    have hne : e.id ≠ x.id := by
      intro hid
      have := ids_inj hi h1 hx hid
      subst this
      rw [hk] at h2; cases h2
    have hm := mem_without.2 ⟨h1, hne⟩
    exact ⟨hm, by rw [hkk e hm]; exact h2⟩

end Go.Proofs.Ytnnnleckoinjoaa.Pl
