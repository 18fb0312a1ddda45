/- Plain mathematics: the program's arrays and the list of edges. -/
import Derived.Test.YtnnnleckoinjoaaPlain4
namespace Go.Proofs.Ytnnnleckoinjoaa.Pl

/-- the numbers that are marked, below k -/
def marks (l : List Bool) (k : Nat) : List Int := ((List.range k).filter (fun (i : Nat) => l.getD i false)).map (fun (i : Nat) => (i : Int))
theorem marks_snoc (l : List Bool) (k : Nat) : marks l (k + 1) = marks l k ++ (if l.getD k false then [(k : Int)] else []) := by
  unfold marks
  rw [List.range_succ, List.filter_append, List.map_append]
  congr 1
  rw [List.filter_cons, List.filter_nil]
  cases h : l.getD k false <;> simp
theorem marks_len (l : List Bool) (k : Nat) : (marks l k).length ≤ k := by
  unfold marks
  rw [List.length_map]
  exact Nat.le_trans (List.length_filter_le _ _) (by simp)
theorem mem_marks {l : List Bool} {k : Nat} {x : Int} : x ∈ marks l k ↔ ∃ i : Nat, i < k ∧ l.getD i false = true ∧ x = i := by
  unfold marks
  rw [List.mem_map]
  constructor
  · rintro ⟨i, hi, rfl⟩
    rw [List.mem_filter, List.mem_range] at hi
    exact ⟨i, hi.1, hi.2, rfl⟩
  · rintro ⟨i, h1, h2, rfl⟩
    exact ⟨i, List.mem_filter.2 ⟨List.mem_range.2 h1, h2⟩, rfl⟩
theorem marks_rising (l : List Bool) (k : Nat) : (marks l k).Pairwise (· < ·) := by
  unfold marks
  rw [List.pairwise_map]
  refine (List.pairwise_lt_range.filter _).imp ?_
  intro a b h; omega

theorem sorted_ext : ∀ (l m : List Int), l.Pairwise (· < ·) → m.Pairwise (· < ·) → (∀ x, x ∈ l ↔ x ∈ m) → l = m := by
  intro l
  induction l with
  | nil =>
    intro m _ _ h
    cases m with
    | nil => rfl
    | cons b m => exact absurd ((h b).2 (List.mem_cons_self ..)) (by simp)
  | cons a l ih =>
    intro m hl hm h
    cases m with
    | nil => exact absurd ((h a).1 (List.mem_cons_self ..)) (by simp)
    | cons b m =>
      rw [List.pairwise_cons] at hl hm
      have hab : a = b := by
        rcases List.mem_cons.1 ((h a).1 (List.mem_cons_self ..)) with e | e
        · exact e
        · rcases List.mem_cons.1 ((h b).2 (List.mem_cons_self ..)) with e' | e'
          · exact e'.symm
          · have := hm.1 a e; have := hl.1 b e'; omega
      subst hab
      rw [ih m hl.2 hm.2 fun x => ?_]
      constructor
      · intro hx
        rcases List.mem_cons.1 ((h x).1 (List.mem_cons_of_mem _ hx)) with e | e
        · have := hl.1 x hx; omega
        · exact e
      · intro hx
        rcases List.mem_cons.1 ((h x).2 (List.mem_cons_of_mem _ hx)) with e | e
        · have := hm.1 x hx; omega
        · exact e

/-- all numbers of edges are numbers -/
def Rng (l : List It) : Prop := ∀ e, e ∈ l → 0 ≤ e.id ∧ e.id < 100
/-- the bits of a list of edges -/
def bits (l : List It) : List Bool := (List.range 100).map fun (i : Nat) => has l i
theorem bits_len (l : List It) : (bits l).length = 100 := by simp [bits]
theorem bits_get (l : List It) (i : Nat) (h : i < 100) : (bits l).getD i false = has l i := by simp [bits, List.getD, h]
theorem marks_bits {l : List It} (hi : Ids l) (hr : Rng l) (b : List Bool) (hb : ∀ i, i < 100 → b.getD i false = has l i) : marks b 100 = l.map It.id := by
  refine sorted_ext _ _ (marks_rising _ _) ?_ ?_
  · rw [List.pairwise_map]; exact hi
  · intro x
    rw [mem_marks, List.mem_map]
    constructor
    · rintro ⟨i, h1, h2, rfl⟩
      rw [hb i h1] at h2
      obtain ⟨e, he, h3⟩ := has_iff.1 h2
      exact ⟨e, he, h3⟩
    · rintro ⟨e, he, rfl⟩
      obtain ⟨h1, h2⟩ := hr e he
      refine ⟨e.id.toNat, by omega, ?_, by omega⟩
      rw [hb _ (by omega)]
      exact has_iff.2 ⟨e, he, by omega⟩

theorem forest_ids {l : List It} (h : Ids l) : Ids (forest l) := h.filter _
theorem forest_rng {l : List It} (h : Rng l) : Rng (forest l) := fun e he => h e (List.mem_filter.1 he).1
theorem ids_inj {l : List It} (h : Ids l) {a b : It} (ha : a ∈ l) (hb : b ∈ l) (e : a.id = b.id) : a = b := by
  unfold Ids at h
  obtain ⟨i, hi, rfl⟩ := List.mem_iff_getElem.1 ha
  obtain ⟨j, hj, rfl⟩ := List.mem_iff_getElem.1 hb
  rcases Nat.lt_trichotomy i j with h1 | h1 | h1
  · have := List.pairwise_iff_getElem.1 h i j hi hj h1; omega
  · subst h1; rfl
  · have := List.pairwise_iff_getElem.1 h j i hj hi h1; omega

/-- the last number that is marked in x and not in y, below k -/
def lastOnly (x y : List Bool) : Nat → Int
  | 0 => -1
  | k + 1 => if (x.getD k false && !y.getD k false) = true then (k : Int) else lastOnly x y k
theorem lastOnly_succ (x y : List Bool) (k : Nat) : lastOnly x y (k + 1) = if (x.getD k false && !y.getD k false) = true then (k : Int) else lastOnly x y k := rfl
theorem lastOnly_none (x y : List Bool) : ∀ k, (∀ i, i < k → (x.getD i false && !y.getD i false) = false) → lastOnly x y k = -1 := by
  intro k
  induction k with
  | zero => intro _; rfl
  | succ k ih =>
    intro h
    rw [lastOnly_succ, h k (by omega)]
    simp only [Bool.false_eq_true, if_false]
    exact ih fun i hi => h i (by omega)
theorem lastOnly_some (x y : List Bool) (i : Nat) : ∀ k, i < k → (x.getD i false && !y.getD i false) = true → (∀ j, j < k → (x.getD j false && !y.getD j false) = true → j = i) → lastOnly x y k = i := by
  intro k
  induction k with
  | zero => intro h; omega
  | succ k ih =>
    intro h h1 h2
    rw [lastOnly_succ]
    by_cases hk : (x.getD k false && !y.getD k false) = true
    · rw [if_pos hk, h2 k (by omega) hk]
    · rw [if_neg hk]
      have : i ≠ k := fun e => hk (e ▸ h1)
      exact ih (by omega) h1 fun j hj => h2 j (by omega)

theorem lastOnly_only {m l : List It} (hr : Rng m) (hu : ∀ a b, a ∈ m → b ∈ m → has l a.id = false → has l b.id = false → a.id = b.id) : lastOnly (bits m) (bits l) 100 = only m l := by
  unfold only
  cases hf : m.filter (fun x => !has l x.id) with
  | nil =>
    rw [lastOnly_none]
    · rfl
    · intro i hi
      rw [bits_get _ _ hi, bits_get _ _ hi]
      cases h1 : has m i with
      | false => rfl
      | true =>
        obtain ⟨e, he, h2⟩ := has_iff.1 h1
        have := List.filter_eq_nil_iff.1 hf e he
        rw [h2] at this
        simpa using this
  | cons e t =>
    have he : e ∈ m.filter (fun x => !has l x.id) := by rw [hf]; exact List.mem_cons_self ..
    rw [List.mem_filter] at he
    obtain ⟨h1, h2⟩ := he
    have h2' : has l e.id = false := by simpa using h2
    obtain ⟨r0, r1⟩ := hr e h1
    have ei : e.id = ((e.id.toNat : Nat) : Int) := by omega
    rw [lastOnly_some (bits m) (bits l) e.id.toNat 100 (by omega)]
    · simp; omega
    · rw [bits_get _ _ (by omega), bits_get _ _ (by omega), ← ei, h2', has_iff.2 ⟨e, h1, rfl⟩]; rfl
    · intro j hj hh
      rw [bits_get _ _ hj, bits_get _ _ hj, Bool.and_eq_true, Bool.not_eq_true'] at hh
      obtain ⟨d, hd, h3⟩ := has_iff.1 hh.1
      have := hu d e hd h1 (by rw [h3]; exact hh.2) h2'
      omega

/-- the change by an edge that comes: at most one comes, at most one goes -/
theorem uniq_added {l : List It} {x : It} (hx : has l x.id = false) : ∀ a b, a ∈ forest (withI l x) → b ∈ forest (withI l x) → has (forest l) a.id = false → has (forest l) b.id = false → a.id = b.id := by
  have key : ∀ a, a ∈ forest (withI l x) → has (forest l) a.id = false → a = x := by
    intro a ha hn
    have ham : a ∈ withI l x := (List.mem_filter.1 ha).1
    rcases (mem_with hx).1 ham with e | e
    · exact e
    · exfalso
      have hk := (List.mem_filter.1 ha).2
      have : a ∈ forest l := List.mem_filter.2 ⟨e, keeps_anti (fun d hd => (mem_with hx).2 (Or.inr hd)) hk⟩
      exact has_false.1 hn a this rfl
  intro a b ha hb h1 h2
  rw [key a ha h1, key b hb h2]
theorem uniq_removed {l : List It} {x : It} (hx : has l x.id = false) : ∀ a b, a ∈ forest l → b ∈ forest l → has (forest (withI l x)) a.id = false → has (forest (withI l x)) b.id = false → a.id = b.id := by
  intro a b ha hb h1 h2
  have ha' := List.mem_filter.1 ha
  have hb' := List.mem_filter.1 hb
  have na : keeps (withI l x) a = false := by
    cases h : keeps (withI l x) a with
    | false => rfl
    | true => exact absurd rfl (has_false.1 h1 a (List.mem_filter.2 ⟨(mem_with hx).2 (Or.inr ha'.1), h⟩))
  have nb : keeps (withI l x) b = false := by
    cases h : keeps (withI l x) b with
    | false => rfl
    | true => exact absurd rfl (has_false.1 h2 b (List.mem_filter.2 ⟨(mem_with hx).2 (Or.inr hb'.1), h⟩))
  apply Classical.byContradiction
  intro hne
  rcases lighter_total hne with h | h
  · have := one_leaves (fun e => mem_with hx) ha'.1 hb'.1 h ha'.2 na hb'.2
    rw [nb] at this; cases this
  · have := one_leaves (fun e => mem_with hx) hb'.1 ha'.1 h hb'.2 nb ha'.2
    rw [na] at this; cases this
theorem with_rng {l : List It} {x : It} (h : Rng l) (hx : 0 ≤ x.id ∧ x.id < 100) : Rng (withI l x) := by
  intro e he
  simp only [withI, List.mem_append, List.mem_cons, List.mem_filter] at he
  rcases he with ⟨h1, _⟩ | rfl | ⟨h1, _⟩
  · exact h e h1
  · exact hx
  · exact h e h1

/-- the program's arrays hold the list of edges -/
structure GL (L : List It) (live : List Bool) (ed : List It) : Prop where
  ids : Ids L
  rng : Rng L
  live : ∀ i, i < 100 → live.getD i false = has L i
  ed : ∀ e, e ∈ L → ed[e.id.toNat]? = some e

theorem GL.marks {L : List It} {live : List Bool} {ed : List It} (h : GL L live ed) : Pl.marks live 100 = L.map It.id := marks_bits h.ids h.rng live h.live
theorem GL.with {L : List It} {live : List Bool} {ed : List It} (h : GL L live ed) (x : It) (hx : has L x.id = false) (h0 : 0 ≤ x.id) (h1 : x.id < 100) (hl : live.length = 100) (he : ed.length = 100) :
    GL (withI L x) (live.set x.id.toNat true) (ed.set x.id.toNat x) := by
  refine ⟨with_ids h.ids, with_rng h.rng ⟨h0, h1⟩, ?_, ?_⟩
  · intro i hi
    by_cases e : x.id.toNat = i
    · have hh : has (withI L x) i = true := has_iff.2 ⟨x, (mem_with hx).2 (Or.inl rfl), by omega⟩
      rw [hh]
      simp [List.getD, e, hl, hi]
    · have e2 : (live.set x.id.toNat true).getD i false = live.getD i false := by simp [List.getD, e]
      rw [e2, h.live i hi, Bool.eq_iff_iff, has_iff, has_iff]
      constructor
      · rintro ⟨d, hd, h2⟩; exact ⟨d, (mem_with hx).2 (Or.inr hd), h2⟩
      · rintro ⟨d, hd, h2⟩
        rcases (mem_with hx).1 hd with h3 | h3
        · subst h3; omega
        · exact ⟨d, h3, h2⟩
  · intro e hee
    rcases (mem_with hx).1 hee with h3 | h3
    · subst h3
      rw [List.getElem?_set_self (by omega)]
    · have hne := has_false.1 hx e h3
      have := h.rng e h3
      rw [List.getElem?_set_ne (by omega)]
      exact h.ed e h3
theorem GL.nil (d : List It) : GL [] (List.replicate 100 false) d := by
  refine ⟨List.Pairwise.nil, (fun e h => by cases h), ?_, (fun e h => by cases h)⟩
  intro i hi
  rw [List.getD_eq_getElem?_getD, List.getElem?_replicate, if_pos hi]; rfl

/- the sorting -/
def Srt (l : List It) : Prop := l.Pairwise (fun a b => lighter a b = true)
theorem srt_insert {pre post : List It} {x : It} (h : Srt (pre ++ post)) (hp : ∀ y, y ∈ post → lighter x y = true) (hl : ∀ y, y ∈ pre.getLast? → lighter y x = true) : Srt (pre ++ x :: post) := by
  unfold Srt at *
  rw [List.pairwise_append] at h ⊢
  refine ⟨h.1, List.pairwise_cons.2 ⟨hp, h.2.1⟩, ?_⟩
  intro a ha b hb
  rcases List.mem_cons.1 hb with e | hb
  · subst e
    rcases List.eq_nil_or_concat pre with e | ⟨q, y, e⟩
    · subst e; cases ha
    · rw [List.concat_eq_append] at e
      subst e
      have hy : lighter y b = true := hl y (by simp)
      rcases List.mem_append.1 ha with h1 | h1
      · have := (List.pairwise_append.1 h.1).2.2 a h1 y (by simp)
        exact lighter_trans this hy
      · rw [List.mem_singleton.1 h1]; exact hy
  · exact h.2.2 a ha b hb

end Go.Proofs.Ytnnnleckoinjoaa.Pl
