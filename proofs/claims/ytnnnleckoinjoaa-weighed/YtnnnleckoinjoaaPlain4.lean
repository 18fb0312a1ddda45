/- Plain mathematics: the reference's small functions on lists of edges. -/
import Derived.Test.YtnnnleckoinjoaaPlain3
namespace Go.Proofs.Ytnnnleckoinjoaa.Pl

/-- may an edge have this number? is there such a vertex? -/
def numB (id : Int) : Bool := decide (0 ≤ id ∧ id < 100)
def verB (n : Nat) (u : Int) : Bool := decide (0 ≤ u ∧ u < n)
theorem numB_true {id : Int} : numB id = true ↔ 0 ≤ id ∧ id < 100 := by simp [numB]
theorem verB_true {n : Nat} {u : Int} : verB n u = true ↔ 0 ≤ u ∧ u < n := by simp [verB]

/-- what 'find' answers -/
def FindIs (l : List It) (id : Int) (r : Int) : Prop := (r = -1 ∧ ∀ e, e ∈ l → e.id ≠ id) ∨ ∃ (k : Nat) (h : k < l.length), r = k ∧ l[k].id = id

def has (l : List It) (id : Int) : Bool := l.any (fun e => e.id == id)
theorem has_iff {l : List It} {id : Int} : has l id = true ↔ ∃ e, e ∈ l ∧ e.id = id := by simp [has]
theorem has_false {l : List It} {id : Int} : has l id = false ↔ ∀ e, e ∈ l → e.id ≠ id := by
  rw [← Bool.not_eq_true, has_iff]; constructor
  · intro h e he h2; exact h ⟨e, he, h2⟩
  · rintro h ⟨e, he, h2⟩; exact h e he h2
theorem findIs_has {l : List It} {id r : Int} (h : FindIs l id r) : (has l id = true ↔ 0 ≤ r) ∧ (has l id = false ↔ r < 0) := by
  rcases h with ⟨rfl, h⟩ | ⟨k, hk, rfl, h⟩
  · rw [has_false.2 h]; simp
  · have : has l id = true := has_iff.2 ⟨_, List.getElem_mem hk, h⟩
    rw [this]; simp

/-- the one edge of a that is not in b -/
def only (a b : List It) : Int := ((a.filter (fun x => !has b x.id)).map It.id).headD (-1)

theorem only_hit {a b : List It} {k : Nat} (hk : k < a.length) (h0 : ∀ e, e ∈ a.take k → has b e.id = true) (h1 : has b a[k].id = false) : only a b = a[k].id := by
  unfold only
  conv => lhs; rw [← List.take_append_drop k a, List.filter_append]
  have e0 : (a.take k).filter (fun x => !has b x.id) = [] := List.filter_eq_nil_iff.2 fun e he => by simp [h0 e he]
  rw [e0, List.drop_eq_getElem_cons hk, List.filter_cons]
  simp [h1]
theorem only_miss {a b : List It} (h0 : ∀ e, e ∈ a → has b e.id = true) : only a b = -1 := by
  unfold only
  have e0 : a.filter (fun x => !has b x.id) = [] := List.filter_eq_nil_iff.2 fun e he => by simp [h0 e he]
  rw [e0]; rfl
theorem all_snoc {a b : List It} {k : Nat} (hk : k < a.length) (h0 : ∀ e, e ∈ a.take k → has b e.id = true) (h1 : has b a[k].id = true) : ∀ e, e ∈ a.take (k + 1) → has b e.id = true := by
  intro e he
  rw [List.take_succ_eq_append_getElem hk] at he
  rcases List.mem_append.1 he with h | h
  · exact h0 e h
  · rw [List.mem_singleton.1 h]; exact h1
theorem none_snoc {a : List It} {id : Int} {k : Nat} (hk : k < a.length) (h0 : ∀ e, e ∈ a.take k → e.id ≠ id) (h1 : a[k].id ≠ id) : ∀ e, e ∈ a.take (k + 1) → e.id ≠ id := by
  intro e he
  rw [List.take_succ_eq_append_getElem hk] at he
  rcases List.mem_append.1 he with h | h
  · exact h0 e h
  · rw [List.mem_singleton.1 h]; exact h1

def withI (l : List It) (x : It) : List It := l.filter (fun e => decide (e.id < x.id)) ++ x :: l.filter (fun e => decide (x.id < e.id))
def withoutI (l : List It) (id : Int) : List It := l.filter (fun e => !(e.id == id))

theorem filter_snoc (p : It → Bool) (l : List It) (k : Nat) (hk : k < l.length) : (l.take (k + 1)).filter p = (l.take k).filter p ++ (if p l[k] then [l[k]] else []) := by
  rw [List.take_succ_eq_append_getElem hk, List.filter_append, List.filter_cons, List.filter_nil]

theorem mem_with {l : List It} {x e : It} (h : has l x.id = false) : e ∈ withI l x ↔ e = x ∨ e ∈ l := by
  simp only [withI, List.mem_append, List.mem_cons, List.mem_filter, decide_eq_true_eq]
  constructor
  · rintro (⟨h1, _⟩ | rfl | ⟨h1, _⟩)
    · exact Or.inr h1
    · exact Or.inl rfl
    · exact Or.inr h1
  · rintro (rfl | h1)
    · exact Or.inr (Or.inl rfl)
    · have := has_false.1 h e h1
      rcases Int.lt_or_gt_of_ne this with h2 | h2
      · exact Or.inl ⟨h1, h2⟩
      · exact Or.inr (Or.inr ⟨h1, h2⟩)
theorem with_ids {l : List It} {x : It} (hi : Ids l) : Ids (withI l x) := by
  unfold Ids withI
  refine List.pairwise_append.2 ⟨hi.filter _, List.pairwise_cons.2 ⟨?_, hi.filter _⟩, ?_⟩
  · intro e he; simp only [List.mem_filter, decide_eq_true_eq] at he; exact he.2
  · intro a ha b hb
    simp only [List.mem_filter, decide_eq_true_eq, List.mem_cons] at ha hb
    rcases hb with rfl | hb
    · exact ha.2
    · omega
theorem filter_split (l : List It) (t : Int) : (l.filter (fun e => decide (e.id < t))).length + (l.filter (fun e => decide (t < e.id))).length ≤ l.length := by
  induction l with
  | nil => simp
  | cons e l ih =>
    simp only [List.filter_cons, List.length_cons]
    by_cases h1 : e.id < t <;> by_cases h2 : t < e.id <;> simp [h1, h2] <;> omega
theorem with_len (l : List It) (x : It) : (withI l x).length ≤ l.length + 1 := by
  have := filter_split l x.id
  simp only [withI, List.length_append, List.length_cons]; omega
theorem filter_split_eq (l : List It) (t : Int) (h : has l t = false) : (l.filter (fun e => decide (e.id < t))).length + (l.filter (fun e => decide (t < e.id))).length = l.length := by
  induction l with
  | nil => simp
  | cons e l ih =>
    have h0 := has_false.1 h
    have := ih (has_false.2 fun d hd => h0 d (List.mem_cons_of_mem _ hd))
    have he := h0 e (List.mem_cons_self ..)
    simp only [List.filter_cons, List.length_cons]
    by_cases h1 : e.id < t <;> by_cases h2 : t < e.id <;> simp [h1, h2] <;> omega
theorem with_len_eq (l : List It) (x : It) (h : has l x.id = false) : (withI l x).length = l.length + 1 := by
  have := filter_split_eq l x.id h
  simp only [withI, List.length_append, List.length_cons]; omega
theorem with_ends {n : Nat} {l : List It} {x : It} (hl : Ends n l) (hx : 0 ≤ x.u ∧ x.u < n ∧ 0 ≤ x.v ∧ x.v < n) : Ends n (withI l x) := by
  intro e he
  simp only [withI, List.mem_append, List.mem_cons, List.mem_filter] at he
  rcases he with ⟨h, _⟩ | rfl | ⟨h, _⟩
  · exact hl e h
  · exact hx
  · exact hl e h

theorem parts_snoc (l : List It) (u : Nat) : ((List.range (u + 1)).filter (first l)).length = ((List.range u).filter (first l)).length + (if first l u then 1 else 0) := by
  rw [List.range_succ, List.filter_append, List.length_append]
  congr 1
  cases h : first l u <;> simp [h]
/-- no vertex ahead of v is joined with u -/
def firstTo (l : List It) (u : Nat) (v : Nat) : Bool := (List.range v).all (fun x => !conn l u x)
theorem firstTo_succ (l : List It) (u v : Nat) : firstTo l u (v + 1) = (firstTo l u v && !conn l u v) := by
  simp [firstTo, List.range_succ]
theorem firstTo_all (l : List It) (u : Nat) : firstTo l u u = first l u := rfl
theorem parts_le (n : Nat) (l : List It) : parts n l ≤ n := by
  unfold parts; exact Nat.le_trans (List.length_filter_le _ _) (by simp)
theorem ids_snoc (l : List It) (k : Nat) (hk : k < l.length) : (l.take (k + 1)).map It.id = (l.take k).map It.id ++ [l[k].id] := by
  rw [List.take_succ_eq_append_getElem hk, List.map_append]; rfl

end Go.Proofs.Ytnnnleckoinjoaa.Pl
