/- Plain mathematics of the cheapest forest: nothing of Go stands here. -/
namespace Go.Proofs.Ytnnnleckoinjoaa.Pl

structure It where
  id : Int
  u : Int
  v : Int
  w : Int

/-- the parts: which number a vertex bears behind joining all edges (the last one stands first) -/
def lab : List It → Int → Int
  | [], x => x
  | e :: l, x => if lab l x = lab l e.v then lab l e.u else lab l x

def conn (l : List It) (a b : Int) : Bool := lab l a == lab l b

theorem lab_edge (l : List It) : ∀ e, e ∈ l → lab l e.u = lab l e.v := by
  induction l with
  | nil => intro e h; cases h
  | cons d l ih =>
    intro e h
    simp only [lab]
    cases List.mem_cons.1 h with
    | inl h => subst h; simp
    | inr h => rw [ih e h]

theorem lab_sound (l : List It) (f : Int → Int) : (∀ e, e ∈ l → f e.u = f e.v) → ∀ x, f (lab l x) = f x := by
  induction l with
  | nil => intro _ x; rfl
  | cons d l ih =>
    intro h x
    have ih' := ih (fun e he => h e (List.mem_cons_of_mem _ he))
    simp only [lab]
    split
    · rename_i hx
      have h1 := ih' x; rw [hx, ih' d.v] at h1
      rw [ih' d.u, h d (List.mem_cons_self ..), h1]
    · exact ih' x

theorem conn_iff (l : List It) (a b : Int) : conn l a b = true ↔ ∀ f : Int → Int, (∀ e, e ∈ l → f e.u = f e.v) → f a = f b := by
  unfold conn
  rw [beq_iff_eq]
  constructor
  · intro h f hf
    rw [← lab_sound l f hf a, ← lab_sound l f hf b, h]
  · intro h
    exact h (lab l) (lab_edge l)

theorem conn_refl (l : List It) (a : Int) : conn l a a = true := by simp [conn]
theorem conn_symm (l : List It) (a b : Int) : conn l a b = conn l b a := by
  unfold conn; rw [Bool.eq_iff_iff]; simp only [beq_iff_eq]; exact ⟨Eq.symm, Eq.symm⟩
theorem conn_trans {l : List It} {a b c : Int} (h1 : conn l a b = true) (h2 : conn l b c = true) : conn l a c = true := by
  simp only [conn, beq_iff_eq] at *; rw [h1, h2]
theorem conn_edge {l : List It} {e : It} (h : e ∈ l) : conn l e.u e.v = true := by
  simp only [conn, beq_iff_eq]; exact lab_edge l e h

/-- what joins by some edges is joined by all that are joined through others -/
theorem conn_le {l m : List It} {a b : Int} (h : ∀ e, e ∈ l → conn m e.u e.v = true) (hc : conn l a b = true) : conn m a b = true := by
  have := (conn_iff l a b).1 hc (lab m) (fun e he => by simpa [conn] using h e he)
  simpa [conn] using this
theorem conn_mono {l m : List It} {a b : Int} (h : ∀ e, e ∈ l → e ∈ m) (hc : conn l a b = true) : conn m a b = true :=
  conn_le (fun e he => conn_edge (h e he)) hc
theorem conn_congr {l m : List It} (a b : Int) (h : ∀ e, e ∈ l ↔ e ∈ m) : conn l a b = conn m a b := by
  rw [Bool.eq_iff_iff]
  exact ⟨conn_mono fun e => (h e).1, conn_mono fun e => (h e).2⟩

theorem conn_cons (x : It) (l : List It) (a b : Int) : conn (x :: l) a b = true ↔
    conn l a b = true ∨ (conn l a x.u = true ∧ conn l x.v b = true) ∨ (conn l a x.v = true ∧ conn l x.u b = true) := by
  simp only [conn, lab, beq_iff_eq]
  by_cases h1 : lab l a = lab l x.v <;> by_cases h2 : lab l b = lab l x.v
  · rw [if_pos h1, if_pos h2]; simp [h1, h2]
  · rw [if_pos h1, if_neg h2]
    constructor
    · intro h; right; right; exact ⟨h1, h⟩
    · rintro (h | ⟨h, h'⟩ | ⟨h, h'⟩)
      · exact absurd (h ▸ h1) h2
      · exact absurd h'.symm h2
      · exact h'
  · rw [if_neg h1, if_pos h2]
    constructor
    · intro h; right; left; exact ⟨h, h2.symm⟩
    · rintro (h | ⟨h, h'⟩ | ⟨h, h'⟩)
      · exact absurd (h.trans h2) h1
      · exact h
      · exact absurd h h1
  · rw [if_neg h1, if_neg h2]
    constructor
    · intro h; left; exact h
    · rintro (h | ⟨h, h'⟩ | ⟨h, h'⟩)
      · exact h
      · exact absurd h'.symm h2
      · exact absurd h h1

/-- an edge that joins what was not joined can take the other's place -/
theorem exchange {x y : It} {l : List It} (h : conn (x :: l) y.u y.v = true) (hn : conn l y.u y.v = false) : conn (y :: l) x.u x.v = true := by
  rcases (conn_cons x l y.u y.v).1 h with h | ⟨h1, h2⟩ | ⟨h1, h2⟩
  · rw [h] at hn; cases hn
  · refine (conn_cons y l _ _).2 (Or.inr (Or.inl ⟨?_, ?_⟩))
    · rw [conn_symm]; exact h1
    · rw [conn_symm]; exact h2
  · refine (conn_cons y l _ _).2 (Or.inr (Or.inr ⟨h2, h1⟩))

def lighter (a b : It) : Bool := decide (a.w < b.w) || (a.w == b.w && decide (a.id < b.id))

theorem lighter_iff (a b : It) : lighter a b = true ↔ a.w < b.w ∨ (a.w = b.w ∧ a.id < b.id) := by
  simp [lighter]
theorem lighter_irr (a : It) : lighter a a = false := by
  rw [← Bool.not_eq_true, lighter_iff]; omega
theorem lighter_trans {a b c : It} (h1 : lighter a b = true) (h2 : lighter b c = true) : lighter a c = true := by
  rw [lighter_iff] at *; omega
theorem lighter_asymm {a b : It} (h1 : lighter a b = true) : lighter b a = false := by
  rw [← Bool.not_eq_true, lighter_iff]; rw [lighter_iff] at h1; omega
theorem lighter_total {a b : It} (h : a.id ≠ b.id) : lighter a b = true ∨ lighter b a = true := by
  rw [lighter_iff, lighter_iff]; omega

def below (l : List It) (x : It) : List It := l.filter (lighter · x)
def keeps (l : List It) (x : It) : Bool := !conn (below l x) x.u x.v
def forest (l : List It) : List It := l.filter (keeps l)

theorem mem_below {l : List It} {x y : It} : y ∈ below l x ↔ y ∈ l ∧ lighter y x = true := by
  simp [below, List.mem_filter]

theorem below_mono {l : List It} {x y z : It} (h : lighter x y = true) (hz : z ∈ below l x) : z ∈ below l y := by
  rw [mem_below] at *; exact ⟨hz.1, lighter_trans hz.2 h⟩

theorem keeps_congr {l m : List It} (x : It) (h : ∀ e, e ∈ l ↔ e ∈ m) : keeps l x = keeps m x := by
  unfold keeps
  rw [conn_congr x.u x.v (l := below l x) (m := below m x) (fun e => by rw [mem_below, mem_below, h e])]

/-- with more edges fewer are kept -/
theorem keeps_anti {l m : List It} {x : It} (h : ∀ e, e ∈ l → e ∈ m) (hk : keeps m x = true) : keeps l x = true := by
  unfold keeps at *
  cases hc : conn (below l x) x.u x.v with
  | false => rfl
  | true =>
    rw [conn_mono (m := below m x) (fun e he => by rw [mem_below] at *; exact ⟨h e he.1, he.2⟩) hc] at hk
    cases hk

/-- at most one leaves when an edge comes -/
theorem one_leaves {l m : List It} {x y z : It} (hm : ∀ e, e ∈ m ↔ e = x ∨ e ∈ l) (hy : y ∈ l) (_hz : z ∈ l)
    (hyz : lighter y z = true) (hky : keeps l y = true) (hny : keeps m y = false) (hkz : keeps l z = true) : keeps m z = true := by
  cases hc : keeps m z with
  | true => rfl
  | false =>
    exfalso
    have hxy : lighter x y = true := by
      cases hl : lighter x y with
      | true => rfl
      | false =>
        have : keeps m y = keeps l y := by
          unfold keeps
          rw [conn_congr (l := below m y) (m := below l y)]
          intro e
          rw [mem_below, mem_below, hm]
          constructor
          · rintro ⟨rfl | h, h'⟩
            · rw [hl] at h'; cases h'
            · exact ⟨h, h'⟩
          · rintro ⟨h, h'⟩; exact ⟨Or.inr h, h'⟩
        rw [this, hky] at hny; cases hny
    unfold keeps at hny hky hc hkz
    simp only [Bool.not_eq_false', Bool.not_eq_true'] at hny hky hc hkz
    have h1 : conn (x :: below l y) y.u y.v = true := by
      refine conn_mono (fun e he => ?_) hny
      rw [mem_below, hm] at he
      rcases he with ⟨rfl | h, h'⟩
      · exact List.mem_cons_self ..
      · exact List.mem_cons_of_mem _ (mem_below.2 ⟨h, h'⟩)
    have h2 := exchange h1 hky
    have h3 : conn (below l z) x.u x.v = true := by
      refine conn_mono (fun e he => ?_) h2
      cases List.mem_cons.1 he with
      | inl h => subst h; exact mem_below.2 ⟨hy, hyz⟩
      | inr h => exact below_mono hyz h
    have h4 : conn (below l z) z.u z.v = true := by
      refine conn_le (fun e he => ?_) hc
      rw [mem_below, hm] at he
      rcases he with ⟨rfl | h, h'⟩
      · exact h3
      · exact conn_edge (mem_below.2 ⟨h, h'⟩)
    rw [h4] at hkz; cases hkz

end Go.Proofs.Ytnnnleckoinjoaa.Pl
