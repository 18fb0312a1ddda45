
/- Plain mathematics of the cheapest forest: nothing of Go stands here. -/
namespace Go.Proofs.YtnnnleckoinjoaaGreatDoor.Pl

structure It where
  id : Int
  u : Int
  v : Int
  w : Int

/-- the parts: which number a vertex bears behind joining all edges (the last one stands first) -/
def lab : List It → Int → Int
  | [], x => x
  | e :: l, x => if lab l x = lab l e.v then lab l e.u else lab l x

def conn (l : List It) (a b : Int) : Bool := lab l a == lab l b

theorem lab_edge (l : List It) : ∀ e, e ∈ l → lab l e.u = lab l e.v := by
  induction l with
  | nil => intro e h; cases h
  | cons d l ih =>
    intro e h
    simp only [lab]
    cases List.mem_cons.1 h with
    | inl h => subst h; simp
    | inr h => rw [ih e h]

theorem lab_sound (l : List It) (f : Int → Int) : (∀ e, e ∈ l → f e.u = f e.v) → ∀ x, f (lab l x) = f x := by
  induction l with
  | nil => intro _ x; rfl
  | cons d l ih =>
    intro h x
    have ih' := ih (fun e he => h e (List.mem_cons_of_mem _ he))
    simp only [lab]
    split
    · rename_i hx
      have h1 := ih' x; rw [hx, ih' d.v] at h1
      rw [ih' d.u, h d (List.mem_cons_self ..), h1]
    · exact ih' x

theorem conn_iff (l : List It) (a b : Int) : conn l a b = true ↔ ∀ f : Int → Int, (∀ e, e ∈ l → f e.u = f e.v) → f a = f b := by
  unfold conn
  rw [beq_iff_eq]
  constructor
  · intro h f hf
    rw [← lab_sound l f hf a, ← lab_sound l f hf b, h]
  · intro h
    exact h (lab l) (lab_edge l)

theorem conn_refl (l : List It) (a : Int) : conn l a a = true := by simp [conn]
theorem conn_symm (l : List It) (a b : Int) : conn l a b = conn l b a := by
  unfold conn; rw [Bool.eq_iff_iff]; simp only [beq_iff_eq]; exact ⟨Eq.symm, Eq.symm⟩
theorem conn_trans {l : List It} {a b c : Int} (h1 : conn l a b = true) (h2 : conn l b c = true) : conn l a c = true := by
  simp only [conn, beq_iff_eq] at *; rw [h1, h2]
theorem conn_edge {l : List It} {e : It} (h : e ∈ l) : conn l e.u e.v = true := by
  simp only [conn, beq_iff_eq]; exact lab_edge l e h

/-- what joins by some edges is joined by all that are joined through others -/
theorem conn_le {l m : List It} {a b : Int} (h : ∀ e, e ∈ l → conn m e.u e.v = true) (hc : conn l a b = true) : conn m a b = true := by
  have := (conn_iff l a b).1 hc (lab m) (fun e he => by simpa [conn] using h e he)
  simpa [conn] using this
theorem conn_mono {l m : List It} {a b : Int} (h : ∀ e, e ∈ l → e ∈ m) (hc : conn l a b = true) : conn m a b = true :=
  conn_le (fun e he => conn_edge (h e he)) hc
theorem conn_congr {l m : List It} (a b : Int) (h : ∀ e, e ∈ l ↔ e ∈ m) : conn l a b = conn m a b := by
  rw [Bool.eq_iff_iff]
  exact ⟨conn_mono fun e => (h e).1, conn_mono fun e => (h e).2⟩

theorem conn_cons (x : It) (l : List It) (a b : Int) : conn (x :: l) a b = true ↔
    conn l a b = true ∨ (conn l a x.u = true ∧ conn l x.v b = true) ∨ (conn l a x.v = true ∧ conn l x.u b = true) := by
  simp only [conn, lab, beq_iff_eq]
  by_cases h1 : lab l a = lab l x.v <;> by_cases h2 : lab l b = lab l x.v
  · rw [if_pos h1, if_pos h2]; simp [h1, h2]
  · rw [if_pos h1, if_neg h2]
    constructor
    · intro h; right; right; exact ⟨h1, h⟩
    · rintro (h | ⟨h, h'⟩ | ⟨h, h'⟩)
      · exact absurd (h ▸ h1) h2
      · exact absurd h'.symm h2
      · exact h'
  · rw [if_neg h1, if_pos h2]
    constructor
    · intro h; right; left; exact ⟨h, h2.symm⟩
    · rintro (h | ⟨h, h'⟩ | ⟨h, h'⟩)
      · exact absurd (h.trans h2) h1
      · exact h
      · exact absurd h h1
  · rw [if_neg h1, if_neg h2]
    constructor
    · intro h; left; exact h
    · rintro (h | ⟨h, h'⟩ | ⟨h, h'⟩)
      · exact h
      · exact absurd h'.symm h2
      · exact absurd h h1

/-- an edge that joins what was not joined can take the other's place -/
theorem exchange {x y : It} {l : List It} (h : conn (x :: l) y.u y.v = true) (hn : conn l y.u y.v = false) : conn (y :: l) x.u x.v = true := by
  rcases (conn_cons x l y.u y.v).1 h with h | ⟨h1, h2⟩ | ⟨h1, h2⟩
  · rw [h] at hn; cases hn
  · refine (conn_cons y l _ _).2 (Or.inr (Or.inl ⟨?_, ?_⟩))
    · rw [conn_symm]; exact h1
    · rw [conn_symm]; exact h2
  · refine (conn_cons y l _ _).2 (Or.inr (Or.inr ⟨h2, h1⟩))

def lighter (a b : It) : Bool := decide (a.w < b.w) || (a.w == b.w && decide (a.id < b.id))

theorem lighter_iff (a b : It) : lighter a b = true ↔ a.w < b.w ∨ (a.w = b.w ∧ a.id < b.id) := by
  simp [lighter]
theorem lighter_irr (a : It) : lighter a a = false := by
  rw [← Bool.not_eq_true, lighter_iff]; omega
theorem lighter_trans {a b c : It} (h1 : lighter a b = true) (h2 : lighter b c = true) : lighter a c = true := by
  rw [lighter_iff] at *; omega
theorem lighter_asymm {a b : It} (h1 : lighter a b = true) : lighter b a = false := by
  rw [← Bool.not_eq_true, lighter_iff]; rw [lighter_iff] at h1; omega
theorem lighter_total {a b : It} (h : a.id ≠ b.id) : lighter a b = true ∨ lighter b a = true := by
  rw [lighter_iff, lighter_iff]; omega

def below (l : List It) (x : It) : List It := l.filter (lighter · x)
def keeps (l : List It) (x : It) : Bool := !conn (below l x) x.u x.v
def forest (l : List It) : List It := l.filter (keeps l)

theorem mem_below {l : List It} {x y : It} : y ∈ below l x ↔ y ∈ l ∧ lighter y x = true := by
  simp [below, List.mem_filter]

theorem below_mono {l : List It} {x y z : It} (h : lighter x y = true) (hz : z ∈ below l x) : z ∈ below l y := by
  rw [mem_below] at *; exact ⟨hz.1, lighter_trans hz.2 h⟩

theorem keeps_congr {l m : List It} (x : It) (h : ∀ e, e ∈ l ↔ e ∈ m) : keeps l x = keeps m x := by
  unfold keeps
  rw [conn_congr x.u x.v (l := below l x) (m := below m x) (fun e => by rw [mem_below, mem_below, h e])]

/-- with more edges fewer are kept -/
theorem keeps_anti {l m : List It} {x : It} (h : ∀ e, e ∈ l → e ∈ m) (hk : keeps m x = true) : keeps l x = true := by
  unfold keeps at *
  cases hc : conn (below l x) x.u x.v with
  | false => rfl
  | true =>
    rw [conn_mono (m := below m x) (fun e he => by rw [mem_below] at *; exact ⟨h e he.1, he.2⟩) hc] at hk
    cases hk

/-- at most one leaves when an edge comes -/
theorem one_leaves {l m : List It} {x y z : It} (hm : ∀ e, e ∈ m ↔ e = x ∨ e ∈ l) (hy : y ∈ l) (_hz : z ∈ l)
    (hyz : lighter y z = true) (hky : keeps l y = true) (hny : keeps m y = false) (hkz : keeps l z = true) : keeps m z = true := by
  cases hc : keeps m z with
  | true => rfl
  | false =>
    exfalso
    have hxy : lighter x y = true := by
      cases hl : lighter x y with
      | true => rfl
      | false =>
        have : keeps m y = keeps l y := by
          unfold keeps
          rw [conn_congr (l := below m y) (m := below l y)]
          intro e
          rw [mem_below, mem_below, hm]
          constructor
          · rintro ⟨rfl | h, h'⟩
            · rw [hl] at h'; cases h'
            · exact ⟨h, h'⟩
          · rintro ⟨h, h'⟩; exact ⟨Or.inr h, h'⟩
        rw [this, hky] at hny; cases hny
    unfold keeps at hny hky hc hkz
    simp only [Bool.not_eq_false', Bool.not_eq_true'] at hny hky hc hkz
    have h1 : conn (x :: below l y) y.u y.v = true := by
      refine conn_mono (fun e he => ?_) hny
      rw [mem_below, hm] at he
      rcases he with ⟨rfl | h, h'⟩
      · exact List.mem_cons_self ..
      · exact List.mem_cons_of_mem _ (mem_below.2 ⟨h, h'⟩)
    have h2 := exchange h1 hky
    have h3 : conn (below l z) x.u x.v = true := by
      refine conn_mono (fun e he => ?_) h2
      cases List.mem_cons.1 he with
      | inl h => subst h; exact mem_below.2 ⟨hy, hyz⟩
      | inr h => exact below_mono hyz h
    have h4 : conn (below l z) z.u z.v = true := by
      refine conn_le (fun e he => ?_) hc
      rw [mem_below, hm] at he
      rcases he with ⟨rfl | h, h'⟩
      · exact h3
      · exact conn_edge (mem_below.2 ⟨h, h'⟩)
    rw [h4] at hkz; cases hkz

end Go.Proofs.YtnnnleckoinjoaaGreatDoor.Pl

/- Plain mathematics: into how many parts the edges leave the vertices; the forest's edges are that many fewer. -/
namespace Go.Proofs.YtnnnleckoinjoaaGreatDoor.Pl

def first (l : List It) (u : Nat) : Bool := (List.range u).all (fun v => !conn l u v)
def parts (n : Nat) (l : List It) : Nat := ((List.range n).filter (first l)).length

theorem first_iff {l : List It} {u : Nat} : first l u = true ↔ ∀ v : Nat, v < u → conn l u v = false := by
  simp [first, List.all_eq_true]

theorem rep (l : List It) (a : Int) : ∀ k : Nat, conn l k a = true → ∃ r : Nat, r ≤ k ∧ conn l r a = true ∧ first l r = true := by
  intro k
  induction k using Nat.strongRecOn with
  | ind k ih =>
    intro h
    cases hf : first l k with
    | true => exact ⟨k, Nat.le_refl _, h, hf⟩
    | false =>
      have : ∃ v : Nat, v < k ∧ conn l k v = true := by
        apply Classical.byContradiction
        intro hn
        have : first l k = true := first_iff.2 fun v hv => by
          cases hc : conn l k v with
          | false => rfl
          | true => exact absurd ⟨v, hv, hc⟩ hn
        rw [hf] at this; cases this
      obtain ⟨v, hv, hc⟩ := this
      obtain ⟨r, h1, h2, h3⟩ := ih v hv (conn_trans (by rw [conn_symm]; exact hc) h)
      exact ⟨r, by omega, h2, h3⟩

theorem rep_le {l : List It} {r v : Nat} (hf : first l r = true) (hc : conn l r v = true) : r ≤ v := by
  apply Classical.byContradiction
  intro hn
  have := first_iff.1 hf v (by omega)
  rw [hc] at this; cases this

theorem filter_ne_length (n m : Nat) (p q : Nat → Bool) (hm : m < n) (hp : p m = true) (hq : ∀ t, t < n → q t = (p t && !(t == m))) :
    ((List.range n).filter q).length + 1 = ((List.range n).filter p).length := by
  induction n with
  | zero => omega
  | succ n ih =>
    rw [List.range_succ, List.filter_append, List.filter_append, List.length_append, List.length_append]
    by_cases h : m = n
    · subst h
      have e : (List.range m).filter q = (List.range m).filter p := List.filter_congr fun t ht => by
        rw [hq t (by have := List.mem_range.1 ht; omega)]
        have : (t == m) = false := by have := List.mem_range.1 ht; rw [beq_eq_false_iff_ne]; omega
        rw [this]; simp
      have hqm : q m = false := by rw [hq m (by omega)]; simp
      rw [e]; simp [hp, hqm]
    · have := ih (by omega) (fun t ht => hq t (by omega))
      have hqn : q n = p n := by
        rw [hq n (by omega)]
        have : (n == m) = false := by rw [beq_eq_false_iff_ne]; omega
        rw [this]; simp
      have : ([n].filter q).length = ([n].filter p).length := by simp [List.filter_cons, hqn]
      omega

theorem parts_joined {n : Nat} {x : It} {l : List It} (h : conn l x.u x.v = true) : parts n (x :: l) = parts n l := by
  have hc : ∀ a b, conn (x :: l) a b = conn l a b := fun a b => by
    rw [Bool.eq_iff_iff]
    refine ⟨conn_le fun e he => ?_, conn_mono fun e he => List.mem_cons_of_mem _ he⟩
    cases List.mem_cons.1 he with
    | inl h' => subst h'; exact h
    | inr h' => exact conn_edge h'
  have : first (x :: l) = first l := by funext u; simp [first, hc]
  simp [parts, this]

theorem parts_apart {n : Nat} {x : It} {l : List It} (hu : 0 ≤ x.u) (hun : x.u < n) (hv : 0 ≤ x.v) (hvn : x.v < n) (h : conn l x.u x.v = false) :
    parts n (x :: l) + 1 = parts n l := by
  obtain ⟨a, ha⟩ := Int.eq_ofNat_of_zero_le hu
  obtain ⟨b, hb⟩ := Int.eq_ofNat_of_zero_le hv
  obtain ⟨r1, h11, h12, h13⟩ := rep l x.u a (by rw [ha]; exact conn_refl _ _)
  obtain ⟨r2, h21, h22, h23⟩ := rep l x.v b (by rw [hb]; exact conn_refl _ _)
  have hne : r1 ≠ r2 := by
    rintro rfl
    have : conn l x.u x.v = true := conn_trans (by rw [conn_symm]; exact h12) h22
    rw [h] at this; cases this
  have hj : conn (x :: l) r1 r2 = true := (conn_cons x l _ _).2 (Or.inr (Or.inl ⟨h12, by rw [conn_symm]; exact h22⟩))
  have hsub : ∀ {p q : Int}, conn l p q = true → conn (x :: l) p q = true := fun hc => conn_mono (fun e he => List.mem_cons_of_mem _ he) hc
  have uniq : ∀ {t r : Nat}, first l t = true → first l r = true → conn l t r = true → t = r := fun ht hr hc => by
    have := rep_le ht hc
    have := rep_le hr (by rw [conn_symm]; exact hc)
    omega
  unfold parts
  refine filter_ne_length n (max r1 r2) (first l) (first (x :: l)) (by omega) ?_ ?_
  · by_cases hh : r1 ≤ r2
    · rw [Nat.max_eq_right hh]; exact h23
    · rw [Nat.max_eq_left (by omega)]; exact h13
  · intro t _
    rw [Bool.eq_iff_iff, Bool.and_eq_true, Bool.not_eq_true', beq_eq_false_iff_ne]
    constructor
    · intro hf
      have hfl : first l t = true := first_iff.2 fun v hvt => by
        cases hc : conn l t v with
        | false => rfl
        | true => have := first_iff.1 hf v hvt; rw [hsub hc] at this; cases this
      refine ⟨hfl, ?_⟩
      rintro rfl
      by_cases hh : r1 ≤ r2
      · rw [Nat.max_eq_right hh] at hf
        have := first_iff.1 hf r1 (by omega)
        rw [conn_symm, hj] at this; cases this
      · rw [Nat.max_eq_left (by omega)] at hf
        have := first_iff.1 hf r2 (by omega)
        rw [hj] at this; cases this
    · rintro ⟨hf, htm⟩
      refine first_iff.2 fun v hvt => ?_
      cases hc : conn (x :: l) t v with
      | false => rfl
      | true =>
        exfalso
        rcases (conn_cons x l _ _).1 hc with h1 | ⟨h1, h2⟩ | ⟨h1, h2⟩
        · have := first_iff.1 hf v hvt; rw [h1] at this; cases this
        · have e := uniq hf h13 (conn_trans h1 (by rw [conn_symm]; exact h12))
          have := rep_le h23 (conn_trans h22 h2)
          omega
        · have e := uniq hf h23 (conn_trans h1 (by rw [conn_symm]; exact h22))
          have := rep_le h13 (conn_trans h12 h2)
          omega

theorem parts_nil (n : Nat) : parts n [] = n := by
  have : ∀ u, first [] u = true := fun u => first_iff.2 fun v hv => by simp [conn, lab]; omega
  unfold parts
  rw [List.filter_eq_self.2 (fun a _ => this a), List.length_range]

theorem parts_congr (n : Nat) {l m : List It} (h : ∀ e, e ∈ l ↔ e ∈ m) : parts n l = parts n m := by
  have : first l = first m := by funext u; simp [first, conn_congr _ _ h]
  simp [parts, this]

/-- what has been kept of the first k edges of a list in which each is ahead of the heavier ones -/
def kept (s : List It) (k : Nat) (x : It) : Bool := !conn (s.take k) x.u x.v

def Ends (n : Nat) (l : List It) : Prop := ∀ e, e ∈ l → 0 ≤ e.u ∧ e.u < n ∧ 0 ≤ e.v ∧ e.v < n

theorem mem_take_sorted {l s : List It} (hp : ∀ e, e ∈ s ↔ e ∈ l) (hs : s.Pairwise (fun a b => lighter a b = true)) (k : Nat) (hk : k < s.length) (e : It) :
    e ∈ s.take k ↔ e ∈ below l s[k] := by
  rw [mem_below, ← hp]
  constructor
  · intro h
    refine ⟨List.mem_of_mem_take h, ?_⟩
    obtain ⟨i, hi, rfl⟩ := List.mem_iff_getElem.1 h
    rw [List.getElem_take]
    rw [List.length_take] at hi
    exact (List.pairwise_iff_getElem.1 hs) i k (by omega) hk (by omega)
  · rintro ⟨h, hl⟩
    obtain ⟨i, hi, rfl⟩ := List.mem_iff_getElem.1 h
    by_cases hik : i < k
    · refine List.mem_iff_getElem.2 ⟨i, by rw [List.length_take]; omega, by rw [List.getElem_take]⟩
    · exfalso
      by_cases he : i = k
      · subst he; rw [lighter_irr] at hl; cases hl
      · have := (List.pairwise_iff_getElem.1 hs) k i hk hi (by omega)
        rw [lighter_asymm this] at hl; cases hl

theorem kept_eq {l s : List It} (hp : ∀ e, e ∈ s ↔ e ∈ l) (hs : s.Pairwise (fun a b => lighter a b = true)) (k : Nat) (hk : k < s.length) :
    kept s k s[k] = keeps l s[k] := by
  unfold kept keeps
  rw [conn_congr _ _ (mem_take_sorted hp hs k hk)]

theorem take_snoc' (s : List It) (k : Nat) (h : k < s.length) : s.take (k + 1) = s.take k ++ [s[k]] := by
  rw [List.take_succ_eq_append_getElem h]

theorem comps_sorted {n : Nat} {l s : List It} (hp : ∀ e, e ∈ s ↔ e ∈ l) (hs : s.Pairwise (fun a b => lighter a b = true)) (he : Ends n s) :
    ∀ k, k ≤ s.length → parts n (s.take k) + ((s.take k).filter (keeps l)).length = n := by
  intro k
  induction k with
  | zero => intro _; simp [parts_nil]
  | succ k ih =>
    intro hk
    have hk' : k < s.length := by omega
    have ih := ih (by omega)
    rw [take_snoc' s k hk', List.filter_append, List.length_append]
    have e1 : parts n (s.take k ++ [s[k]]) = parts n (s[k] :: s.take k) := parts_congr n fun e => by rw [List.mem_append, List.mem_singleton, or_comm, List.mem_cons]
    rw [e1]
    have hm := he s[k] (List.getElem_mem hk')
    have hkk := kept_eq hp hs k hk'
    unfold kept at hkk
    cases hc : conn (s.take k) s[k].u s[k].v with
    | true =>
      rw [hc] at hkk
      rw [parts_joined hc]
      simp [← hkk]; omega
    | false =>
      rw [hc] at hkk
      have := parts_apart hm.1 hm.2.1 hm.2.2.1 hm.2.2.2 hc
      simp [← hkk]; omega

def Ids (l : List It) : Prop := l.Pairwise (fun a b => a.id < b.id)

def sorted (l : List It) : List It := l.mergeSort (fun a b => !lighter b a)

theorem sorted_perm (l : List It) : (sorted l).Perm l := List.mergeSort_perm ..
theorem sorted_sorted {l : List It} (h : l.Pairwise (fun a b => a.id ≠ b.id)) : (sorted l).Pairwise (fun a b => lighter a b = true) := by
  have h1 : (sorted l).Pairwise (fun a b => (!lighter b a) = true) := by
    refine List.pairwise_mergeSort ?_ ?_ l
    · intro a b c h1 h2
      simp only [Bool.not_eq_true'] at *
      rw [← Bool.not_eq_true, lighter_iff] at *; omega
    · intro a b
      cases h : lighter b a with
      | false => simp
      | true => simp [lighter_asymm h]
  have h2 : (sorted l).Pairwise (fun a b => a.id ≠ b.id) := (sorted_perm l).symm.pairwise h (fun h => h.symm)
  refine (h1.and h2).imp ?_
  intro a b ⟨h3, h4⟩
  cases lighter_total h4 with
  | inl h => exact h
  | inr h => rw [h] at h3; cases h3

theorem comps {n : Nat} {l : List It} (hi : Ids l) (he : Ends n l) : parts n l + (forest l).length = n := by
  have hne : l.Pairwise (fun a b => a.id ≠ b.id) := hi.imp (fun h => by omega)
  have hp := sorted_perm l
  have hm : ∀ e, e ∈ sorted l ↔ e ∈ l := fun e => hp.mem_iff
  have := comps_sorted (n := n) hm (sorted_sorted hne) (fun e h => he e ((hm e).1 h)) (sorted l).length (Nat.le_refl _)
  rw [List.take_length, parts_congr n hm, (hp.filter _).length_eq] at this
  exact this

end Go.Proofs.YtnnnleckoinjoaaGreatDoor.Pl

/- Plain mathematics: spreading over edges again and again comes to what is joined. -/
namespace Go.Proofs.YtnnnleckoinjoaaGreatDoor.Pl

def falses (l : List Bool) : Nat := (l.filter (fun b => !b)).length

theorem falses_set_le (l : List Bool) : ∀ a, falses (l.set a true) ≤ falses l := by
  induction l with
  | nil => intro a; simp [falses]
  | cons b l ih =>
    intro a
    cases a with
    | zero => cases b <;> simp [falses]
    | succ a =>
      have := ih a
      cases b <;> simp [falses] at * <;> omega
theorem falses_set_lt (l : List Bool) : ∀ a, l[a]? = some false → falses (l.set a true) < falses l := by
  induction l with
  | nil => intro a h; simp at h
  | cons b l ih =>
    intro a h
    cases a with
    | zero => simp at h; subst h; simp [falses]
    | succ a =>
      have := ih a (by simpa using h)
      cases b <;> simp [falses] at * <;> omega
theorem falses_le (l : List Bool) : falses l ≤ l.length := List.length_filter_le _ _

/-- which bit a vertex bears -/
def bit (l : List Bool) (x : Int) : Bool := l.getD x.toNat false

/-- no edge parts what is marked from what is not -/
def Cl (l : List It) (ins : List Bool) : Prop := ∀ e, e ∈ l → bit ins e.u = bit ins e.v
/-- what is marked is joined with u -/
def Snd (l : List It) (u : Int) (ins : List Bool) : Prop := ∀ x : Nat, ins.getD x false = true → conn l u x = true

def conns (n : Nat) (l : List It) (u : Int) : List Bool := (List.range n).map fun (x : Nat) => conn l u x
theorem conns_length (n : Nat) (l : List It) (u : Int) : (conns n l u).length = n := by simp [conns]
theorem conns_get (n : Nat) (l : List It) (u : Int) (x : Nat) (h : x < n) : (conns n l u)[x]'(by simpa [conns] using h) = conn l u x := by simp [conns]
theorem conns_bit (n : Nat) (l : List It) (u : Int) (x : Int) (h0 : 0 ≤ x) (h : x < n) : bit (conns n l u) x = conn l u x := by
  obtain ⟨y, rfl⟩ := Int.eq_ofNat_of_zero_le h0
  have hy : y < n := by omega
  simp [bit, conns, List.getD, hy]

theorem done {n : Nat} {l : List It} {u : Int} {ins : List Bool} (hl : ins.length = n) (hu : bit ins u = true) (hs : Snd l u ins) (hc : Cl l ins) : ins = conns n l u := by
  apply List.ext_getElem (by rw [hl, conns_length])
  intro x h1 h2
  rw [conns_get n l u x (by omega)]
  have hx : ins.getD x false = ins[x] := by simp [List.getD, h1]
  cases hb : ins[x] with
  | true => exact (hs x (by rw [hx, hb])).symm
  | false =>
    cases hcx : conn l u x with
    | false => rfl
    | true =>
      have := (conn_iff l u x).1 hcx (fun y => if bit ins y then 1 else 0) (fun e he => by simp [hc e he])
      simp only [hu, if_true] at this
      have hbx : bit ins x = ins[x] := by simp [bit, h1]
      rw [hbx, hb] at this
      simp at this

theorem bit_set (ins : List Bool) (a : Nat) (ha : a < ins.length) (x : Nat) : (ins.set a true).getD x false = (ins.getD x false || decide (x = a)) := by
  by_cases h : x = a
  · subst h; simp [List.getD, ha]
  · have : ¬ a = x := fun e => h e.symm
    simp [List.getD, this, h]

/-- an edge with one end marked brings the other -/
theorem brings {l : List It} {u : Int} {ins : List Bool} {e : It} {a b : Nat} (he : e ∈ l) (hea : e.u = a) (heb : e.v = b) (ha : a < ins.length) (hb : b < ins.length)
    (hs : Snd l u ins) (hne : ins[a] ≠ ins[b]) : Snd l u ((ins.set a true).set b true) ∧ falses ((ins.set a true).set b true) < falses ins := by
  have hab : a ≠ b := fun e => hne (by subst e; rfl)
  have hec : conn l (a : Int) (b : Int) = true := by rw [← hea, ← heb]; exact conn_edge he
  constructor
  · intro x hx
    rw [bit_set _ b (by simpa using hb), bit_set _ a ha] at hx
    simp only [Bool.or_eq_true, decide_eq_true_eq] at hx
    have key : conn l u a = true ∨ conn l u b = true := by
      cases h1 : ins[a] with
      | true => exact Or.inl (hs a (by simp [List.getD, ha, h1]))
      | false =>
        refine Or.inr (hs b ?_)
        have : ins[b] = true := by cases h2 : ins[b] with
          | true => rfl
          | false => exact absurd (h1.trans h2.symm) hne
        simp [List.getD, hb, this]
    rcases hx with (hx | rfl) | rfl
    · exact hs x hx
    · rcases key with h | h
      · exact h
      · exact conn_trans h (by rw [conn_symm]; exact hec)
    · rcases key with h | h
      · exact conn_trans h hec
      · exact h
  · cases h1 : ins[a] with
    | false =>
      have h3 := falses_set_lt ins a (by simp [ha, h1])
      have h4 := falses_set_le (ins.set a true) b
      omega
    | true =>
      have h2 : ins[b] = false := by cases h2 : ins[b] with
        | false => rfl
        | true => exact absurd (h1.trans h2.symm) hne
      have h3 := falses_set_le ins a
      have h4 := falses_set_lt (ins.set a true) b (by rw [List.getElem?_set_ne hab]; simp [hb, h2])
      omega

theorem bit_keeps {ins : List Bool} {u : Int} (a : Nat) (ha : a < ins.length) (h : bit ins u = true) : bit (ins.set a true) u = true := by
  unfold bit at *
  rw [bit_set _ a ha, h]; rfl

theorem cl_snoc {l : List It} {ins : List Bool} {k : Nat} {e : It} (hk : k < l.length) (he : l[k] = e) (h : Cl (l.take k) ins) (hb : bit ins e.u = bit ins e.v) : Cl (l.take (k + 1)) ins := by
  intro d hd
  rw [List.take_succ_eq_append_getElem hk] at hd
  rcases List.mem_append.1 hd with hd | hd
  · exact h d hd
  · rw [List.mem_singleton.1 hd, he]; exact hb
theorem cl_nil (ins : List Bool) : Cl [] ins := by intro e h; cases h

end Go.Proofs.YtnnnleckoinjoaaGreatDoor.Pl

/- Plain mathematics: the reference's small functions on lists of edges. -/
namespace Go.Proofs.YtnnnleckoinjoaaGreatDoor.Pl

/-- may an edge have this number? is there such a vertex? -/
def numB (id : Int) : Bool := decide (0 ≤ id ∧ id < 100)
def verB (n : Nat) (u : Int) : Bool := decide (0 ≤ u ∧ u < n)
theorem numB_true {id : Int} : numB id = true ↔ 0 ≤ id ∧ id < 100 := by simp [numB]
theorem verB_true {n : Nat} {u : Int} : verB n u = true ↔ 0 ≤ u ∧ u < n := by simp [verB]

/-- what 'find' answers -/
def FindIs (l : List It) (id : Int) (r : Int) : Prop := (r = -1 ∧ ∀ e, e ∈ l → e.id ≠ id) ∨ ∃ (k : Nat) (h : k < l.length), r = k ∧ l[k].id = id

def has (l : List It) (id : Int) : Bool := l.any (fun e => e.id == id)
theorem has_iff {l : List It} {id : Int} : has l id = true ↔ ∃ e, e ∈ l ∧ e.id = id := by simp [has]
theorem has_false {l : List It} {id : Int} : has l id = false ↔ ∀ e, e ∈ l → e.id ≠ id := by
  rw [← Bool.not_eq_true, has_iff]; constructor
  · intro h e he h2; exact h ⟨e, he, h2⟩
  · rintro h ⟨e, he, h2⟩; exact h e he h2
theorem findIs_has {l : List It} {id r : Int} (h : FindIs l id r) : (has l id = true ↔ 0 ≤ r) ∧ (has l id = false ↔ r < 0) := by
  rcases h with ⟨rfl, h⟩ | ⟨k, hk, rfl, h⟩
  · rw [has_false.2 h]; simp
  · have : has l id = true := has_iff.2 ⟨_, List.getElem_mem hk, h⟩
    rw [this]; simp

/-- the one edge of a that is not in b -/
def only (a b : List It) : Int := ((a.filter (fun x => !has b x.id)).map It.id).headD (-1)

theorem only_hit {a b : List It} {k : Nat} (hk : k < a.length) (h0 : ∀ e, e ∈ a.take k → has b e.id = true) (h1 : has b a[k].id = false) : only a b = a[k].id := by
  unfold only
  conv => lhs; rw [← List.take_append_drop k a, List.filter_append]
  have e0 : (a.take k).filter (fun x => !has b x.id) = [] := List.filter_eq_nil_iff.2 fun e he => by simp [h0 e he]
  rw [e0, List.drop_eq_getElem_cons hk, List.filter_cons]
  simp [h1]
theorem only_miss {a b : List It} (h0 : ∀ e, e ∈ a → has b e.id = true) : only a b = -1 := by
  unfold only
  have e0 : a.filter (fun x => !has b x.id) = [] := List.filter_eq_nil_iff.2 fun e he => by simp [h0 e he]
  rw [e0]; rfl
theorem all_snoc {a b : List It} {k : Nat} (hk : k < a.length) (h0 : ∀ e, e ∈ a.take k → has b e.id = true) (h1 : has b a[k].id = true) : ∀ e, e ∈ a.take (k + 1) → has b e.id = true := by
  intro e he
  rw [List.take_succ_eq_append_getElem hk] at he
  rcases List.mem_append.1 he with h | h
  · exact h0 e h
  · rw [List.mem_singleton.1 h]; exact h1
theorem none_snoc {a : List It} {id : Int} {k : Nat} (hk : k < a.length) (h0 : ∀ e, e ∈ a.take k → e.id ≠ id) (h1 : a[k].id ≠ id) : ∀ e, e ∈ a.take (k + 1) → e.id ≠ id := by
  intro e he
  rw [List.take_succ_eq_append_getElem hk] at he
  rcases List.mem_append.1 he with h | h
  · exact h0 e h
  · rw [List.mem_singleton.1 h]; exact h1

def withI (l : List It) (x : It) : List It := l.filter (fun e => decide (e.id < x.id)) ++ x :: l.filter (fun e => decide (x.id < e.id))
def withoutI (l : List It) (id : Int) : List It := l.filter (fun e => !(e.id == id))

theorem filter_snoc (p : It → Bool) (l : List It) (k : Nat) (hk : k < l.length) : (l.take (k + 1)).filter p = (l.take k).filter p ++ (if p l[k] then [l[k]] else []) := by
  rw [List.take_succ_eq_append_getElem hk, List.filter_append, List.filter_cons, List.filter_nil]

theorem mem_with {l : List It} {x e : It} (h : has l x.id = false) : e ∈ withI l x ↔ e = x ∨ e ∈ l := by
  simp only [withI, List.mem_append, List.mem_cons, List.mem_filter, decide_eq_true_eq]
  constructor
  · rintro (⟨h1, _⟩ | rfl | ⟨h1, _⟩)
    · exact Or.inr h1
    · exact Or.inl rfl
    · exact Or.inr h1
  · rintro (rfl | h1)
    · exact Or.inr (Or.inl rfl)
    · have := has_false.1 h e h1
      rcases Int.lt_or_gt_of_ne this with h2 | h2
      · exact Or.inl ⟨h1, h2⟩
      · exact Or.inr (Or.inr ⟨h1, h2⟩)
theorem with_ids {l : List It} {x : It} (hi : Ids l) : Ids (withI l x) := by
  unfold Ids withI
  refine List.pairwise_append.2 ⟨hi.filter _, List.pairwise_cons.2 ⟨?_, hi.filter _⟩, ?_⟩
  · intro e he; simp only [List.mem_filter, decide_eq_true_eq] at he; exact he.2
  · intro a ha b hb
    simp only [List.mem_filter, decide_eq_true_eq, List.mem_cons] at ha hb
    rcases hb with rfl | hb
    · exact ha.2
    · omega
theorem filter_split (l : List It) (t : Int) : (l.filter (fun e => decide (e.id < t))).length + (l.filter (fun e => decide (t < e.id))).length ≤ l.length := by
  induction l with
  | nil => simp
  | cons e l ih =>
    simp only [List.filter_cons, List.length_cons]
    by_cases h1 : e.id < t <;> by_cases h2 : t < e.id <;> simp [h1, h2] <;> omega
theorem with_len (l : List It) (x : It) : (withI l x).length ≤ l.length + 1 := by
  have := filter_split l x.id
  simp only [withI, List.length_append, List.length_cons]; omega
theorem filter_split_eq (l : List It) (t : Int) (h : has l t = false) : (l.filter (fun e => decide (e.id < t))).length + (l.filter (fun e => decide (t < e.id))).length = l.length := by
  induction l with
  | nil => simp
  | cons e l ih =>
    have h0 := has_false.1 h
    have := ih (has_false.2 fun d hd => h0 d (List.mem_cons_of_mem _ hd))
    have he := h0 e (List.mem_cons_self ..)
    simp only [List.filter_cons, List.length_cons]
    by_cases h1 : e.id < t <;> by_cases h2 : t < e.id <;> simp [h1, h2] <;> omega
theorem with_len_eq (l : List It) (x : It) (h : has l x.id = false) : (withI l x).length = l.length + 1 := by
  have := filter_split_eq l x.id h
  simp only [withI, List.length_append, List.length_cons]; omega
theorem with_ends {n : Nat} {l : List It} {x : It} (hl : Ends n l) (hx : 0 ≤ x.u ∧ x.u < n ∧ 0 ≤ x.v ∧ x.v < n) : Ends n (withI l x) := by
  intro e he
  simp only [withI, List.mem_append, List.mem_cons, List.mem_filter] at he
  rcases he with ⟨h, _⟩ | rfl | ⟨h, _⟩
  · exact hl e h
  · exact hx
  · exact hl e h

theorem parts_snoc (l : List It) (u : Nat) : ((List.range (u + 1)).filter (first l)).length = ((List.range u).filter (first l)).length + (if first l u then 1 else 0) := by
  rw [List.range_succ, List.filter_append, List.length_append]
  congr 1
  cases h : first l u <;> simp [h]
/-- no vertex ahead of v is joined with u -/
def firstTo (l : List It) (u : Nat) (v : Nat) : Bool := (List.range v).all (fun x => !conn l u x)
theorem firstTo_succ (l : List It) (u v : Nat) : firstTo l u (v + 1) = (firstTo l u v && !conn l u v) := by
  simp [firstTo, List.range_succ]
theorem firstTo_all (l : List It) (u : Nat) : firstTo l u u = first l u := rfl
theorem parts_le (n : Nat) (l : List It) : parts n l ≤ n := by
  unfold parts; exact Nat.le_trans (List.length_filter_le _ _) (by simp)
theorem ids_snoc (l : List It) (k : Nat) (hk : k < l.length) : (l.take (k + 1)).map It.id = (l.take k).map It.id ++ [l[k].id] := by
  rw [List.take_succ_eq_append_getElem hk, List.map_append]; rfl

end Go.Proofs.YtnnnleckoinjoaaGreatDoor.Pl

/- Plain mathematics: the program's arrays and the list of edges. -/
namespace Go.Proofs.YtnnnleckoinjoaaGreatDoor.Pl

/-- the numbers that are marked, below k -/
def marks (l : List Bool) (k : Nat) : List Int := ((List.range k).filter (fun (i : Nat) => l.getD i false)).map (fun (i : Nat) => (i : Int))
theorem marks_snoc (l : List Bool) (k : Nat) : marks l (k + 1) = marks l k ++ (if l.getD k false then [(k : Int)] else []) := by
  unfold marks
  rw [List.range_succ, List.filter_append, List.map_append]
  congr 1
  rw [List.filter_cons, List.filter_nil]
  cases h : l.getD k false <;> simp
theorem marks_len (l : List Bool) (k : Nat) : (marks l k).length ≤ k := by
  unfold marks
  rw [List.length_map]
  exact Nat.le_trans (List.length_filter_le _ _) (by simp)
theorem mem_marks {l : List Bool} {k : Nat} {x : Int} : x ∈ marks l k ↔ ∃ i : Nat, i < k ∧ l.getD i false = true ∧ x = i := by
  unfold marks
  rw [List.mem_map]
  constructor
  · rintro ⟨i, hi, rfl⟩
    rw [List.mem_filter, List.mem_range] at hi
    exact ⟨i, hi.1, hi.2, rfl⟩
  · rintro ⟨i, h1, h2, rfl⟩
    exact ⟨i, List.mem_filter.2 ⟨List.mem_range.2 h1, h2⟩, rfl⟩
theorem marks_rising (l : List Bool) (k : Nat) : (marks l k).Pairwise (· < ·) := by
  unfold marks
  rw [List.pairwise_map]
  refine (List.pairwise_lt_range.filter _).imp ?_
  intro a b h; omega

theorem sorted_ext : ∀ (l m : List Int), l.Pairwise (· < ·) → m.Pairwise (· < ·) → (∀ x, x ∈ l ↔ x ∈ m) → l = m := by
  intro l
  induction l with
  | nil =>
    intro m _ _ h
    cases m with
    | nil => rfl
    | cons b m => exact absurd ((h b).2 (List.mem_cons_self ..)) (by simp)
  | cons a l ih =>
    intro m hl hm h
    cases m with
    | nil => exact absurd ((h a).1 (List.mem_cons_self ..)) (by simp)
    | cons b m =>
      rw [List.pairwise_cons] at hl hm
      have hab : a = b := by
        rcases List.mem_cons.1 ((h a).1 (List.mem_cons_self ..)) with e | e
        · exact e
        · rcases List.mem_cons.1 ((h b).2 (List.mem_cons_self ..)) with e' | e'
          · exact e'.symm
          · have := hm.1 a e; have := hl.1 b e'; omega
      subst hab
      rw [ih m hl.2 hm.2 fun x => ?_]
      constructor
      · intro hx
        rcases List.mem_cons.1 ((h x).1 (List.mem_cons_of_mem _ hx)) with e | e
        · have := hl.1 x hx; omega
        · exact e
      · intro hx
        rcases List.mem_cons.1 ((h x).2 (List.mem_cons_of_mem _ hx)) with e | e
        · have := hm.1 x hx; omega
        · exact e

/-- all numbers of edges are numbers -/
def Rng (l : List It) : Prop := ∀ e, e ∈ l → 0 ≤ e.id ∧ e.id < 100
/-- the bits of a list of edges -/
def bits (l : List It) : List Bool := (List.range 100).map fun (i : Nat) => has l i
theorem bits_len (l : List It) : (bits l).length = 100 := by simp [bits]
theorem bits_get (l : List It) (i : Nat) (h : i < 100) : (bits l).getD i false = has l i := by simp [bits, List.getD, h]
theorem marks_bits {l : List It} (hi : Ids l) (hr : Rng l) (b : List Bool) (hb : ∀ i, i < 100 → b.getD i false = has l i) : marks b 100 = l.map It.id := by
  refine sorted_ext _ _ (marks_rising _ _) ?_ ?_
  · rw [List.pairwise_map]; exact hi
  · intro x
    rw [mem_marks, List.mem_map]
    constructor
    · rintro ⟨i, h1, h2, rfl⟩
      rw [hb i h1] at h2
      obtain ⟨e, he, h3⟩ := has_iff.1 h2
      exact ⟨e, he, h3⟩
    · rintro ⟨e, he, rfl⟩
      obtain ⟨h1, h2⟩ := hr e he
      refine ⟨e.id.toNat, by omega, ?_, by omega⟩
      rw [hb _ (by omega)]
      exact has_iff.2 ⟨e, he, by omega⟩

theorem forest_ids {l : List It} (h : Ids l) : Ids (forest l) := h.filter _
theorem forest_rng {l : List It} (h : Rng l) : Rng (forest l) := fun e he => h e (List.mem_filter.1 he).1
theorem ids_inj {l : List It} (h : Ids l) {a b : It} (ha : a ∈ l) (hb : b ∈ l) (e : a.id = b.id) : a = b := by
  unfold Ids at h
  obtain ⟨i, hi, rfl⟩ := List.mem_iff_getElem.1 ha
  obtain ⟨j, hj, rfl⟩ := List.mem_iff_getElem.1 hb
  rcases Nat.lt_trichotomy i j with h1 | h1 | h1
  · have := List.pairwise_iff_getElem.1 h i j hi hj h1; omega
  · subst h1; rfl
  · have := List.pairwise_iff_getElem.1 h j i hj hi h1; omega

/-- the last number that is marked in x and not in y, below k -/
def lastOnly (x y : List Bool) : Nat → Int
  | 0 => -1
  | k + 1 => if (x.getD k false && !y.getD k false) = true then (k : Int) else lastOnly x y k
theorem lastOnly_succ (x y : List Bool) (k : Nat) : lastOnly x y (k + 1) = if (x.getD k false && !y.getD k false) = true then (k : Int) else lastOnly x y k := rfl
theorem lastOnly_none (x y : List Bool) : ∀ k, (∀ i, i < k → (x.getD i false && !y.getD i false) = false) → lastOnly x y k = -1 := by
  intro k
  induction k with
  | zero => intro _; rfl
  | succ k ih =>
    intro h
    rw [lastOnly_succ, h k (by omega)]
    simp only [Bool.false_eq_true, if_false]
    exact ih fun i hi => h i (by omega)
theorem lastOnly_some (x y : List Bool) (i : Nat) : ∀ k, i < k → (x.getD i false && !y.getD i false) = true → (∀ j, j < k → (x.getD j false && !y.getD j false) = true → j = i) → lastOnly x y k = i := by
  intro k
  induction k with
  | zero => intro h; omega
  | succ k ih =>
    intro h h1 h2
    rw [lastOnly_succ]
    by_cases hk : (x.getD k false && !y.getD k false) = true
    · rw [if_pos hk, h2 k (by omega) hk]
    · rw [if_neg hk]
      have : i ≠ k := fun e => hk (e ▸ h1)
      exact ih (by omega) h1 fun j hj => h2 j (by omega)

theorem lastOnly_only {m l : List It} (hr : Rng m) (hu : ∀ a b, a ∈ m → b ∈ m → has l a.id = false → has l b.id = false → a.id = b.id) : lastOnly (bits m) (bits l) 100 = only m l := by
  unfold only
  cases hf : m.filter (fun x => !has l x.id) with
  | nil =>
    rw [lastOnly_none]
    · rfl
    · intro i hi
      rw [bits_get _ _ hi, bits_get _ _ hi]
      cases h1 : has m i with
      | false => rfl
      | true =>
        obtain ⟨e, he, h2⟩ := has_iff.1 h1
        have := List.filter_eq_nil_iff.1 hf e he
        rw [h2] at this
        simpa using this
  | cons e t =>
    have he : e ∈ m.filter (fun x => !has l x.id) := by rw [hf]; exact List.mem_cons_self ..
    rw [List.mem_filter] at he
    obtain ⟨h1, h2⟩ := he
    have h2' : has l e.id = false := by simpa using h2
    obtain ⟨r0, r1⟩ := hr e h1
    have ei : e.id = ((e.id.toNat : Nat) : Int) := by omega
    rw [lastOnly_some (bits m) (bits l) e.id.toNat 100 (by omega)]
    · simp; omega
    · rw [bits_get _ _ (by omega), bits_get _ _ (by omega), ← ei, h2', has_iff.2 ⟨e, h1, rfl⟩]; rfl
    · intro j hj hh
      rw [bits_get _ _ hj, bits_get _ _ hj, Bool.and_eq_true, Bool.not_eq_true'] at hh
      obtain ⟨d, hd, h3⟩ := has_iff.1 hh.1
      have := hu d e hd h1 (by rw [h3]; exact hh.2) h2'
      omega

/-- the change by an edge that comes: at most one comes, at most one goes -/
theorem uniq_added {l : List It} {x : It} (hx : has l x.id = false) : ∀ a b, a ∈ forest (withI l x) → b ∈ forest (withI l x) → has (forest l) a.id = false → has (forest l) b.id = false → a.id = b.id := by
  have key : ∀ a, a ∈ forest (withI l x) → has (forest l) a.id = false → a = x := by
    intro a ha hn
    have ham : a ∈ withI l x := (List.mem_filter.1 ha).1
    rcases (mem_with hx).1 ham with e | e
    · exact e
    · exfalso
      have hk := (List.mem_filter.1 ha).2
      have : a ∈ forest l := List.mem_filter.2 ⟨e, keeps_anti (fun d hd => (mem_with hx).2 (Or.inr hd)) hk⟩
      exact has_false.1 hn a this rfl
  intro a b ha hb h1 h2
  rw [key a ha h1, key b hb h2]
theorem uniq_removed {l : List It} {x : It} (hx : has l x.id = false) : ∀ a b, a ∈ forest l → b ∈ forest l → has (forest (withI l x)) a.id = false → has (forest (withI l x)) b.id = false → a.id = b.id := by
  intro a b ha hb h1 h2
  have ha' := List.mem_filter.1 ha
  have hb' := List.mem_filter.1 hb
  have na : keeps (withI l x) a = false := by
    cases h : keeps (withI l x) a with
    | false => rfl
    | true => exact absurd rfl (has_false.1 h1 a (List.mem_filter.2 ⟨(mem_with hx).2 (Or.inr ha'.1), h⟩))
  have nb : keeps (withI l x) b = false := by
    cases h : keeps (withI l x) b with
    | false => rfl
    | true => exact absurd rfl (has_false.1 h2 b (List.mem_filter.2 ⟨(mem_with hx).2 (Or.inr hb'.1), h⟩))
  apply Classical.byContradiction
  intro hne
  rcases lighter_total hne with h | h
  · have := one_leaves (fun e => mem_with hx) ha'.1 hb'.1 h ha'.2 na hb'.2
    rw [nb] at this; cases this
  · have := one_leaves (fun e => mem_with hx) hb'.1 ha'.1 h hb'.2 nb ha'.2
    rw [na] at this; cases this
theorem with_rng {l : List It} {x : It} (h : Rng l) (hx : 0 ≤ x.id ∧ x.id < 100) : Rng (withI l x) := by
  intro e he
  simp only [withI, List.mem_append, List.mem_cons, List.mem_filter] at he
  rcases he with ⟨h1, _⟩ | rfl | ⟨h1, _⟩
  · exact h e h1
  · exact hx
  · exact h e h1

/-- the program's arrays hold the list of edges -/
structure GL (L : List It) (live : List Bool) (ed : List It) : Prop where
  ids : Ids L
  rng : Rng L
  live : ∀ i, i < 100 → live.getD i false = has L i
  ed : ∀ e, e ∈ L → ed[e.id.toNat]? = some e

theorem GL.marks {L : List It} {live : List Bool} {ed : List It} (h : GL L live ed) : Pl.marks live 100 = L.map It.id := marks_bits h.ids h.rng live h.live
theorem GL.with {L : List It} {live : List Bool} {ed : List It} (h : GL L live ed) (x : It) (hx : has L x.id = false) (h0 : 0 ≤ x.id) (h1 : x.id < 100) (hl : live.length = 100) (he : ed.length = 100) :
    GL (withI L x) (live.set x.id.toNat true) (ed.set x.id.toNat x) := by
  refine ⟨with_ids h.ids, with_rng h.rng ⟨h0, h1⟩, ?_, ?_⟩
  · intro i hi
    by_cases e : x.id.toNat = i
    · have hh : has (withI L x) i = true := has_iff.2 ⟨x, (mem_with hx).2 (Or.inl rfl), by omega⟩
      rw [hh]
      simp [List.getD, e, hl, hi]
    · have e2 : (live.set x.id.toNat true).getD i false = live.getD i false := by simp [List.getD, e]
      rw [e2, h.live i hi, Bool.eq_iff_iff, has_iff, has_iff]
      constructor
      · rintro ⟨d, hd, h2⟩; exact ⟨d, (mem_with hx).2 (Or.inr hd), h2⟩
      · rintro ⟨d, hd, h2⟩
        rcases (mem_with hx).1 hd with h3 | h3
        · subst h3; omega
        · exact ⟨d, h3, h2⟩
  · intro e hee
    rcases (mem_with hx).1 hee with h3 | h3
    · subst h3
      rw [List.getElem?_set_self (by omega)]
    · have hne := has_false.1 hx e h3
      have := h.rng e h3
      rw [List.getElem?_set_ne (by omega)]
      exact h.ed e h3
theorem GL.nil (d : List It) : GL [] (List.replicate 100 false) d := by
  refine ⟨List.Pairwise.nil, (fun e h => by cases h), ?_, (fun e h => by cases h)⟩
  intro i hi
  rw [List.getD_eq_getElem?_getD, List.getElem?_replicate, if_pos hi]; rfl

/- the sorting -/
def Srt (l : List It) : Prop := l.Pairwise (fun a b => lighter a b = true)
theorem srt_insert {pre post : List It} {x : It} (h : Srt (pre ++ post)) (hp : ∀ y, y ∈ post → lighter x y = true) (hl : ∀ y, y ∈ pre.getLast? → lighter y x = true) : Srt (pre ++ x :: post) := by
  unfold Srt at *
  rw [List.pairwise_append] at h ⊢
  refine ⟨h.1, List.pairwise_cons.2 ⟨hp, h.2.1⟩, ?_⟩
  intro a ha b hb
  rcases List.mem_cons.1 hb with e | hb
  · subst e
    rcases List.eq_nil_or_concat pre with e | ⟨q, y, e⟩
    · subst e; cases ha
    · rw [List.concat_eq_append] at e
      subst e
      have hy : lighter y b = true := hl y (by simp)
      rcases List.mem_append.1 ha with h1 | h1
      · have := (List.pairwise_append.1 h.1).2.2 a h1 y (by simp)
        exact lighter_trans this hy
      · rw [List.mem_singleton.1 h1]; exact hy
  · exact h.2.2 a ha b hb

end Go.Proofs.YtnnnleckoinjoaaGreatDoor.Pl

/- Plain mathematics: an edge goes; lists that lie one change apart. -/
namespace Go.Proofs.YtnnnleckoinjoaaGreatDoor.Pl

/-- a list without the edge of a number -/
theorem mem_without {l : List It} {id : Int} {e : It} : e ∈ withoutI l id ↔ e ∈ l ∧ e.id ≠ id := by simp [withoutI]
theorem without_has (l : List It) (id : Int) : has (withoutI l id) id = false := by
  rw [has_false]; intro e he; exact (mem_without.1 he).2
theorem without_ids {l : List It} (h : Ids l) (id : Int) : Ids (withoutI l id) := h.filter _
theorem without_rng {l : List It} (h : Rng l) (id : Int) : Rng (withoutI l id) := fun e he => h e (mem_without.1 he).1
theorem without_ends {n : Nat} {l : List It} (h : Ends n l) (id : Int) : Ends n (withoutI l id) := fun e he => h e (mem_without.1 he).1
theorem without_len (l : List It) (id : Int) : (withoutI l id).length ≤ l.length := List.length_filter_le _ _

theorem ids_ext {l m : List It} (hl : Ids l) (hm : Ids m) (h : ∀ e, e ∈ l ↔ e ∈ m) : l = m := by
  induction l generalizing m with
  | nil =>
    cases m with
    | nil => rfl
    | cons y m => exact absurd ((h y).2 (List.mem_cons_self ..)) (by simp)
  | cons x l ih =>
    cases m with
    | nil => exact absurd ((h x).1 (List.mem_cons_self ..)) (by simp)
    | cons y m =>
      obtain ⟨hx, hl'⟩ := List.pairwise_cons.1 hl
      obtain ⟨hy, hm'⟩ := List.pairwise_cons.1 hm
      have exy : x = y := by
        rcases List.mem_cons.1 ((h x).1 (List.mem_cons_self ..)) with e | e
        · exact e
        · rcases List.mem_cons.1 ((h y).2 (List.mem_cons_self ..)) with e' | e'
          · exact e'.symm
          · have h1 := hy x e
            have h2 := hx y e'
            omega
      subst exy
      rw [ih hl' hm' fun e => ?_]
      constructor
      · intro he
        rcases List.mem_cons.1 ((h e).1 (List.mem_cons_of_mem _ he)) with e1 | e1
        · subst e1; exact absurd (hx _ he) (by omega)
        · exact e1
      · intro he
        rcases List.mem_cons.1 ((h e).2 (List.mem_cons_of_mem _ he)) with e1 | e1
        · subst e1; exact absurd (hy _ he) (by omega)
        · exact e1

/-- what went, put in again -/
theorem with_without {l : List It} {x : It} (h : Ids l) (hx : x ∈ l) : withI (withoutI l x.id) x = l := by
  refine ids_ext (with_ids (without_ids h _)) h fun e => ?_
  rw [mem_with (without_has l x.id), mem_without]
  constructor
  · rintro (rfl | ⟨h1, _⟩)
    · exact hx
    · exact h1
  · intro he
    by_cases hid : e.id = x.id
    · exact Or.inl (ids_inj h he hx hid)
    · exact Or.inr ⟨he, hid⟩
theorem without_with {l : List It} {x : It} (h : Ids l) (hx : has l x.id = false) : withoutI (withI l x) x.id = l := by
  refine ids_ext (without_ids (with_ids h) _) h fun e => ?_
  rw [mem_without, mem_with hx]
  constructor
  · rintro ⟨rfl | h1, h2⟩
    · exact absurd rfl h2
    · exact h1
  · intro he
    exact ⟨Or.inr he, has_false.1 hx e he⟩
theorem without_len_lt {l : List It} {x : It} (h : Ids l) (hx : x ∈ l) : (withoutI l x.id).length + 1 = l.length := by
  have := with_len_eq (withoutI l x.id) x (without_has l x.id)
  rw [with_without h hx] at this
  omega

/-- two lists one change apart -/
def Adj (l m : List It) : Prop := (∃ x : It, has l x.id = false ∧ m = withI l x) ∨ ∃ x : It, has m x.id = false ∧ l = withI m x
theorem Adj.symm {l m : List It} (h : Adj l m) : Adj m l := h.elim Or.inr Or.inl
theorem adj_with {l : List It} {x : It} (h : has l x.id = false) : Adj l (withI l x) := Or.inl ⟨x, h, rfl⟩
theorem adj_without {l : List It} {x : It} (h : Ids l) (hx : x ∈ l) : Adj l (withoutI l x.id) := Or.inr ⟨x, without_has l x.id, (with_without h hx).symm⟩
/-- at most one comes -/
theorem Adj.uniq {l m : List It} (h : Adj l m) : ∀ a b, a ∈ forest m → b ∈ forest m → has (forest l) a.id = false → has (forest l) b.id = false → a.id = b.id := by
  rcases h with ⟨x, hx, rfl⟩ | ⟨x, hx, rfl⟩
  · exact uniq_added hx
  · exact uniq_removed hx
theorem Adj.last {l m : List It} (h : Adj l m) (hr : Rng m) : lastOnly (bits (forest m)) (bits (forest l)) 100 = only (forest m) (forest l) := lastOnly_only (forest_rng hr) h.uniq

theorem only_spec (a b : List It) : (only a b = -1 ∧ ∀ e, e ∈ a → has b e.id = true) ∨ ∃ e, e ∈ a ∧ has b e.id = false ∧ only a b = e.id := by
  unfold only
  cases hf : a.filter (fun x => !has b x.id) with
  | nil =>
    refine Or.inl ⟨rfl, fun e he => ?_⟩
    cases hh : has b e.id with
    | true => rfl
    | false =>
      have : e ∈ a.filter (fun x => !has b x.id) := List.mem_filter.2 ⟨he, by rw [hh]; rfl⟩
      rw [hf] at this; cases this
  | cons y r =>
    have : y ∈ a.filter (fun x => !has b x.id) := by rw [hf]; exact List.mem_cons_self ..
    obtain ⟨h1, h2⟩ := List.mem_filter.1 this
    exact Or.inr ⟨y, h1, by simpa using h2, rfl⟩

/-- the forest behind a change, by the change that is told -/
theorem Adj.told {l m : List It} (h : Adj l m) (hm : Rng m) (i : Int) :
    has (forest m) i = true ↔ (has (forest l) i = true ∧ i ≠ only (forest l) (forest m)) ∨ (i = only (forest m) (forest l) ∧ i ≠ -1) := by
  constructor
  · intro hi
    cases hh : has (forest l) i with
    | true =>
      refine Or.inl ⟨rfl, ?_⟩
      rintro rfl
      rcases only_spec (forest l) (forest m) with ⟨h1, _⟩ | ⟨e, he, h2, h3⟩
      · obtain ⟨e, he, h4⟩ := has_iff.1 hi
        have := (forest_rng hm e he).1
        omega
      · rw [h3] at hi; rw [hi] at h2; cases h2
    | false =>
      right
      obtain ⟨e, he, rfl⟩ := has_iff.1 hi
      rcases only_spec (forest m) (forest l) with ⟨_, h1⟩ | ⟨e', he', h2, h3⟩
      · rw [h1 e he] at hh; cases hh
      · refine ⟨by rw [h3]; exact h.uniq e e' he he' hh h2, ?_⟩
        have := (forest_rng hm e he).1
        omega
  · rintro (⟨h1, h2⟩ | ⟨rfl, h2⟩)
    · cases hh : has (forest m) i with
      | true => rfl
      | false =>
        exfalso
        obtain ⟨e, he, rfl⟩ := has_iff.1 h1
        rcases only_spec (forest l) (forest m) with ⟨_, h3⟩ | ⟨e', he', h4, h5⟩
        · rw [h3 e he] at hh; cases hh
        · exact h2 (by rw [h5]; exact h.symm.uniq e e' he he' hh h4)
    · rcases only_spec (forest m) (forest l) with ⟨h1, _⟩ | ⟨e, he, _, h3⟩
      · exact absurd h1 h2
      · rw [h3]; exact has_iff.2 ⟨e, he, rfl⟩
/-- what is told to come was not there; what is told to go was -/
theorem only_not (a b : List It) : only a b = -1 ∨ (has a (only a b) = true ∧ has b (only a b) = false) := by
  rcases only_spec a b with ⟨h, _⟩ | ⟨e, he, h1, h2⟩
  · exact Or.inl h
  · right; rw [h2]; exact ⟨has_iff.2 ⟨e, he, rfl⟩, h1⟩

/-- an edge of the forest that goes is told to go -/
theorem goes_told {l : List It} {x : It} (hi : Ids l) (hx : x ∈ l) (hk : keeps l x = true) : only (forest l) (forest (withoutI l x.id)) = x.id := by
  have hxf : x ∈ forest l := List.mem_filter.2 ⟨hx, hk⟩
  have hno : has (forest (withoutI l x.id)) x.id = false := by
    rw [has_false]; intro e he; exact (mem_without.1 (List.mem_filter.1 he).1).2
  rcases only_spec (forest l) (forest (withoutI l x.id)) with ⟨_, h⟩ | ⟨e, he, h1, h2⟩
  · rw [h x hxf] at hno; cases hno
  · rw [h2]; exact (adj_without hi hx).symm.uniq e x he hxf h1 hno
/-- an edge outside goes and comes without a change -/
theorem outside_told {l : List It} {x : It} (hi : Ids l) (hx : x ∈ l) (hk : keeps l x = false) : forest (withoutI l x.id) = forest l := by
  have hkk : ∀ e, e ∈ withoutI l x.id → keeps (withoutI l x.id) e = keeps l e := by
    intro e he
    have hel := (mem_without.1 he).1
    unfold keeps
    congr 1
    rw [Bool.eq_iff_iff]
    constructor
    · exact conn_mono fun y hy => by rw [mem_below] at *; exact ⟨(mem_without.1 hy.1).1, hy.2⟩
    · refine conn_le fun y hy => ?_
      rw [mem_below] at hy
      by_cases hyx : y.id = x.id
      · have hyx' := ids_inj hi hy.1 hx hyx
        subst hyx'
        unfold keeps at hk
        simp only [Bool.not_eq_false'] at hk
        refine conn_mono (fun z hz => ?_) hk
        rw [mem_below] at *
        refine ⟨mem_without.2 ⟨hz.1, fun hzx => ?_⟩, lighter_trans hz.2 hy.2⟩
        have hzx' := ids_inj hi hz.1 hx hzx
        subst hzx'
        have := hz.2
        rw [lighter_irr] at this; cases this
      · exact conn_edge (mem_below.2 ⟨mem_without.2 ⟨hy.1, hyx⟩, hy.2⟩)
  refine ids_ext (forest_ids (without_ids hi _)) (forest_ids hi) fun e => ?_
  unfold forest
  rw [List.mem_filter, List.mem_filter]
  constructor
  · rintro ⟨h1, h2⟩
    exact ⟨(mem_without.1 h1).1, by rw [← hkk e h1]; exact h2⟩
  · rintro ⟨h1, h2⟩
    have hne : e.id ≠ x.id := by
      intro hid
      have := ids_inj hi h1 hx hid
      subst this
      rw [hk] at h2; cases h2
    have hm := mem_without.2 ⟨h1, hne⟩
    exact ⟨hm, by rw [hkk e hm]; exact h2⟩

end Go.Proofs.YtnnnleckoinjoaaGreatDoor.Pl

/- Plain mathematics: ways in the forest. -/
namespace Go.Proofs.YtnnnleckoinjoaaGreatDoor.Pl

theorem conn_nil (u v : Int) : conn [] u v = true ↔ u = v := by simp [conn, lab]

/-- where two vertices are joined first -/
theorem critical {s : List It} {u v : Int} (h : conn s u v = true) (hn : u ≠ v) : ∃ (k : Nat) (hk : k < s.length), conn (s.take k) u v = false ∧ conn (s[k] :: s.take k) u v = true := by
  have key : ∀ j, j ≤ s.length → conn (s.take j) u v = true → ∃ (k : Nat) (hk : k < s.length), conn (s.take k) u v = false ∧ conn (s[k] :: s.take k) u v = true := by
    intro j
    induction j with
    | zero => intro _ h0; rw [List.take_zero] at h0; exact absurd ((conn_nil u v).1 h0) hn
    | succ j ih =>
      intro hj hc
      cases hcj : conn (s.take j) u v with
      | true => exact ih (by omega) hcj
      | false =>
        refine ⟨j, by omega, hcj, ?_⟩
        rw [← hc]
        refine conn_congr _ _ fun e => ?_
        rw [take_snoc' s j (by omega), List.mem_append, List.mem_cons]
        simp
        constructor
        · rintro (h | h) <;> simp [h]
        · rintro (h | h) <;> simp [h]
  exact key s.length (Nat.le_refl _) (by rw [List.take_length]; exact h)

theorem forest_mem {l : List It} {x : It} : x ∈ forest l ↔ x ∈ l ∧ keeps l x = true := List.mem_filter
theorem keeps_not {l : List It} {x : It} (h : keeps l x = true) : conn (below l x) x.u x.v = false := by unfold keeps at h; simpa using h
theorem ids_ne {l : List It} (h : Ids l) : l.Pairwise (fun a b => a.id ≠ b.id) := h.imp fun h => by omega

/-- no ring in it -/
def Acyc (F : List It) : Prop := ∀ x, x ∈ F → conn (withoutI F x.id) x.u x.v = false
theorem forest_acyc {l : List It} (hi : Ids l) : Acyc (forest l) := by
  intro x hx
  cases hc : conn (withoutI (forest l) x.id) x.u x.v with
  | false => rfl
  | true =>
    exfalso
    obtain ⟨hxl, hkx⟩ := forest_mem.1 hx
    have hn : x.u ≠ x.v := by
      intro e
      have := keeps_not hkx
      rw [e, conn_refl] at this; cases this
    have hI := without_ids (forest_ids hi) x.id
    have hp : ∀ e, e ∈ sorted (withoutI (forest l) x.id) ↔ e ∈ withoutI (forest l) x.id := fun e => (sorted_perm _).mem_iff
    have hs := sorted_sorted (ids_ne hI)
    have hc' : conn (sorted (withoutI (forest l) x.id)) x.u x.v = true := by rw [conn_congr _ _ hp]; exact hc
    obtain ⟨k, hk, h1, h2⟩ := critical hc' hn
    have hT := mem_take_sorted hp hs k hk
    have hy : (sorted (withoutI (forest l) x.id))[k] ∈ withoutI (forest l) x.id := (hp _).1 (List.getElem_mem hk)
    generalize (sorted (withoutI (forest l) x.id))[k] = y at *
    obtain ⟨hyF, hyx⟩ := mem_without.1 hy
    obtain ⟨hyl, hky⟩ := forest_mem.1 hyF
    have hsub : ∀ e, e ∈ (sorted (withoutI (forest l) x.id)).take k → e ∈ l ∧ lighter e y = true := by
      intro e he
      obtain ⟨h3, h4⟩ := mem_below.1 ((hT e).1 he)
      exact ⟨(forest_mem.1 (mem_without.1 h3).1).1, h4⟩
    rcases lighter_total (a := y) (b := x) hyx with hl | hl
    · have : conn (below l x) x.u x.v = true := by
        refine conn_mono (fun e he => ?_) h2
        rcases List.mem_cons.1 he with e1 | e1
        · subst e1; exact mem_below.2 ⟨hyl, hl⟩
        · exact mem_below.2 ⟨(hsub e e1).1, lighter_trans (hsub e e1).2 hl⟩
      rw [keeps_not hkx] at this; cases this
    · have h3 := exchange h2 h1
      have : conn (below l y) y.u y.v = true := by
        refine conn_mono (fun e he => ?_) h3
        rcases List.mem_cons.1 he with e1 | e1
        · subst e1; exact mem_below.2 ⟨hxl, hl⟩
        · exact mem_below.2 (hsub e e1)
      rw [keeps_not hky] at this; cases this

/-- the forest's lighter edges join what the lighter edges join -/
theorem span (l : List It) : ∀ (n : Nat) (x : It) (a b : Int), (below l x).length ≤ n → conn (below l x) a b = true → conn (below (forest l) x) a b = true := by
  intro n
  induction n with
  | zero =>
    intro x a b hn h
    have : below l x = [] := List.eq_nil_of_length_eq_zero (by omega)
    rw [this] at h
    exact conn_mono (fun e he => by cases he) h
  | succ n ih =>
    intro x a b hn h
    refine conn_le (fun e he => ?_) h
    obtain ⟨hel, hex⟩ := mem_below.1 he
    cases hk : keeps l e with
    | true => exact conn_edge (mem_below.2 ⟨forest_mem.2 ⟨hel, hk⟩, hex⟩)
    | false =>
      have hc : conn (below l e) e.u e.v = true := by unfold keeps at hk; simpa using hk
      have hlt : (below l e).length ≤ n := by
        have h1 : below l e = (below l x).filter (lighter · e) := by
          unfold below
          rw [List.filter_filter]
          refine List.filter_congr fun y _ => ?_
          cases hy : lighter y e with
          | false => simp
          | true => simp [lighter_trans hy hex]
        have h2 : ((below l x).filter (lighter · e)).length < (below l x).length := List.length_filter_lt_length_iff_exists.2 ⟨e, he, by rw [lighter_irr]; simp⟩
        rw [h1]; omega
      have h3 := ih e e.u e.v hlt hc
      exact conn_mono (fun y hy => by
        obtain ⟨h4, h5⟩ := mem_below.1 hy
        exact mem_below.2 ⟨h4, lighter_trans h5 hex⟩) h3
theorem span_below {l : List It} {x : It} {a b : Int} (h : conn (below l x) a b = true) : conn (below (forest l) x) a b = true := span l _ x a b (Nat.le_refl _) h
theorem span_all (l : List It) (a b : Int) : conn (forest l) a b = conn l a b := by
  rw [Bool.eq_iff_iff]
  constructor
  · exact conn_mono fun e he => (forest_mem.1 he).1
  · refine conn_le fun e he => ?_
    cases hk : keeps l e with
    | true => exact conn_edge (forest_mem.2 ⟨he, hk⟩)
    | false =>
      have hc : conn (below l e) e.u e.v = true := by unfold keeps at hk; simpa using hk
      exact conn_mono (fun y hy => (mem_below.1 hy).1) (span_below hc)

/-- its going parts u and v -/
def Br (F : List It) (u v : Int) (z : It) : Bool := !conn (withoutI F z.id) u v
theorem br_iff {F : List It} {u v : Int} {z : It} : Br F u v z = true ↔ conn (withoutI F z.id) u v = false := by simp [Br]
theorem br_not {F : List It} {u v : Int} {z : It} : Br F u v z = false ↔ conn (withoutI F z.id) u v = true := by simp [Br]

theorem with_cons {F : List It} {z : It} (hi : Ids F) (hz : z ∈ F) (e : It) : e ∈ F ↔ e ∈ z :: withoutI F z.id := by
  rw [List.mem_cons, mem_without]
  constructor
  · intro he
    by_cases hid : e.id = z.id
    · exact Or.inl (ids_inj hi he hz hid)
    · exact Or.inr ⟨he, hid⟩
  · rintro (rfl | ⟨h, _⟩)
    · exact hz
    · exact h

theorem acyc_without {F : List It} (ha : Acyc F) (id : Int) : Acyc (withoutI F id) := by
  intro x hx
  cases hc : conn (withoutI (withoutI F id) x.id) x.u x.v with
  | false => rfl
  | true =>
    have := conn_mono (m := withoutI F x.id) (fun e he => by
      obtain ⟨h1, h2⟩ := mem_without.1 he
      exact mem_without.2 ⟨(mem_without.1 h1).1, h2⟩) hc
    rw [ha x (mem_without.1 hx).1] at this; cases this

/-- a bridge of what is left was one ahead -/
theorem br_back {F : List It} {u v : Int} {y z : It} (hi : Ids F) (ha : Acyc F) (hz : z ∈ F) (hy : y ∈ withoutI F z.id) (hzn : conn (withoutI F z.id) u v = true) (hb : conn (withoutI (withoutI F z.id) y.id) u v = false) : conn (withoutI F y.id) u v = false := by
  cases hc : conn (withoutI F y.id) u v with
  | false => rfl
  | true =>
    exfalso
    obtain ⟨hyF, hyz⟩ := mem_without.1 hy
    have hzy : z ∈ withoutI F y.id := mem_without.2 ⟨hz, fun e => hyz e.symm⟩
    have c1 : conn (z :: withoutI (withoutI F z.id) y.id) u v = true := by
      refine conn_mono (fun e he => ?_) hc
      rcases List.mem_cons.1 ((with_cons (without_ids hi _) hzy e).1 he) with h | h
      · exact h ▸ List.mem_cons_self ..
      · obtain ⟨h1, h2⟩ := mem_without.1 h
        obtain ⟨h3, h4⟩ := mem_without.1 h1
        exact List.mem_cons_of_mem _ (mem_without.2 ⟨mem_without.2 ⟨h3, h2⟩, h4⟩)
    have c2 : conn (y :: withoutI (withoutI F z.id) y.id) u v = true := by
      refine conn_mono (fun e he => ?_) hzn
      exact (with_cons (without_ids hi _) hy e).1 he
    have hG : ∀ {a b}, conn (withoutI (withoutI F z.id) y.id) a b = true → conn (withoutI F z.id) a b = true := fun h => conn_mono (fun e he => (mem_without.1 he).1) h
    have hcz : conn (withoutI F z.id) z.u z.v = true := by
      rcases (conn_cons _ _ _ _).1 c1 with h | ⟨h1, h2⟩ | ⟨h1, h2⟩
      · rw [h] at hb; cases hb
      · have h3 := hG h1
        have h4 := hG h2
        exact conn_trans (by rw [conn_symm]; exact h3) (conn_trans hzn (by rw [conn_symm]; exact h4))
      · have h3 := hG h1
        have h4 := hG h2
        exact conn_trans h4 (conn_trans (by rw [conn_symm]; exact hzn) h3)
    rw [ha z hz] at hcz; cases hcz

/-- the bridges join what is joined -/
theorem bridges_join (u v : Int) : ∀ (n : Nat) (F : List It), F.length ≤ n → Ids F → Acyc F → conn F u v = true → conn (F.filter (Br F u v)) u v = true := by
  intro n
  induction n with
  | zero =>
    intro F hn _ _ h
    have : F = [] := List.eq_nil_of_length_eq_zero (by omega)
    subst this; exact h
  | succ n ih =>
    intro F hn hi ha h
    by_cases hall : ∀ z, z ∈ F → Br F u v z = true
    · rw [List.filter_eq_self.2 hall]; exact h
    · obtain ⟨z, hz, hzb⟩ : ∃ z, z ∈ F ∧ Br F u v z = false := by
        refine Classical.byContradiction fun hno => hall fun z hz => ?_
        cases hb : Br F u v z with
        | true => rfl
        | false => exact absurd ⟨z, hz, hb⟩ hno
      have hzc := br_not.1 hzb
      have hlen := without_len_lt hi hz
      have h1 := ih (withoutI F z.id) (by omega) (without_ids hi _) (acyc_without ha _) hzc
      refine conn_mono (fun e he => ?_) h1
      obtain ⟨h2, h3⟩ := List.mem_filter.1 he
      exact List.mem_filter.2 ⟨(mem_without.1 h2).1, br_iff.2 (br_back hi ha hz h2 hzc (br_iff.1 h3))⟩
theorem bridge_ex {F : List It} {u v : Int} (hi : Ids F) (ha : Acyc F) (h : conn F u v = true) (hn : u ≠ v) : ∃ z, z ∈ F ∧ Br F u v z = true := by
  have h1 := bridges_join u v _ F (Nat.le_refl _) hi ha h
  cases hf : F.filter (Br F u v) with
  | nil => rw [hf] at h1; exact absurd ((conn_nil u v).1 h1) hn
  | cons z r =>
    have : z ∈ F.filter (Br F u v) := by rw [hf]; exact List.mem_cons_self ..
    exact ⟨z, List.mem_filter.1 this⟩

end Go.Proofs.YtnnnleckoinjoaaGreatDoor.Pl

/- Plain mathematics: the edge with which two vertices come to be joined; parts by the light edges. -/
namespace Go.Proofs.YtnnnleckoinjoaaGreatDoor.Pl

/-- the edge with which u and v come to be joined, the lightest first -/
structure Mid (L : List It) (u v : Int) (y : It) : Prop where
  mem : y ∈ L
  apart : conn (below L y) u v = false
  joins : conn (y :: below L y) u v = true

theorem mid_at {L s : List It} {u v : Int} (hp : s.Perm L) (hs : Srt s) (k : Nat) (hk : k < s.length) (h1 : conn (s.take k) u v = false) (h2 : conn (s[k] :: s.take k) u v = true) : Mid L u v s[k] := by
  have hT := mem_take_sorted (fun e => hp.mem_iff) hs k hk
  refine ⟨hp.mem_iff.1 (List.getElem_mem hk), ?_, ?_⟩
  · rw [← h1]; exact (conn_congr _ _ hT).symm
  · rw [← h2]
    refine conn_congr _ _ fun e => ?_
    rw [List.mem_cons, List.mem_cons, hT e]

theorem Mid.keeps {L : List It} {u v : Int} {y : It} (h : Mid L u v y) : keeps L y = true := by
  unfold Pl.keeps
  cases hc : conn (below L y) y.u y.v with
  | false => rfl
  | true =>
    have := conn_le (m := below L y) (fun e he => by
      rcases List.mem_cons.1 he with e1 | e1
      · subst e1; exact hc
      · exact conn_edge e1) h.joins
    rw [h.apart] at this; cases this
theorem Mid.ne {L : List It} {u v : Int} {y : It} (h : Mid L u v y) : u ≠ v := by
  rintro rfl
  have := h.apart
  rw [conn_refl] at this; cases this
/-- an edge outside is heavier than the one with which its ends come to be joined -/
theorem Mid.lighter {L : List It} {x y : It} (hi : Ids L) (hx : x ∈ L) (hk : Pl.keeps L x = false) (h : Mid L x.u x.v y) : Pl.lighter y x = true := by
  have hc : conn (below L x) x.u x.v = true := by unfold Pl.keeps at hk; simpa using hk
  by_cases hid : y.id = x.id
  · have := ids_inj hi h.mem hx hid
    subst this
    have h1 := h.apart
    rw [hc] at h1; cases h1
  · rcases lighter_total hid with h1 | h1
    · exact h1
    · have h2 := conn_edge (l := below L y) (mem_below.2 ⟨hx, h1⟩)
      rw [h.apart] at h2; cases h2

/-- that edge's number, -1 where there is none -/
def midB (L : List It) (u v : Int) (y : It) : Bool := !conn (below L y) u v && conn (y :: below L y) u v
def midI (L : List It) (u v : Int) : Int := ((L.filter (midB L u v)).map It.id).headD (-1)
theorem mid_iff {L : List It} {u v : Int} {y : It} : Mid L u v y ↔ y ∈ L ∧ midB L u v y = true := by
  unfold midB
  rw [Bool.and_eq_true, Bool.not_eq_true']
  exact ⟨fun h => ⟨h.mem, h.apart, h.joins⟩, fun h => ⟨h.1, h.2.1, h.2.2⟩⟩
theorem Mid.notl {L : List It} {u v : Int} {y z : It} (h : Mid L u v y) (h2 : Mid L u v z) : Pl.lighter y z = false := by
  cases hl : Pl.lighter y z with
  | false => rfl
  | true =>
    have := conn_mono (m := below L z) (fun e he => by
      rcases List.mem_cons.1 he with e1 | e1
      · subst e1; exact mem_below.2 ⟨h.mem, hl⟩
      · exact below_mono hl e1) h.joins
    rw [h2.apart] at this; cases this
theorem Mid.uniq {L : List It} {u v : Int} {y z : It} (h : Mid L u v y) (h2 : Mid L u v z) : y.id = z.id := by
  apply Classical.byContradiction
  intro hne
  rcases lighter_total hne with h3 | h3
  · rw [h.notl h2] at h3; cases h3
  · rw [h2.notl h] at h3; cases h3
theorem Mid.is {L : List It} {u v : Int} {y : It} (h : Mid L u v y) : midI L u v = y.id := by
  unfold midI
  have hy : y ∈ L.filter (midB L u v) := List.mem_filter.2 (mid_iff.1 h)
  cases hf : L.filter (midB L u v) with
  | nil => rw [hf] at hy; cases hy
  | cons z r =>
    have hz : z ∈ L.filter (midB L u v) := by rw [hf]; exact List.mem_cons_self ..
    exact (mid_iff.2 (List.mem_filter.1 hz)).uniq h
theorem mid_none {L : List It} {u v : Int} (h : ∀ y, ¬ Mid L u v y) : midI L u v = -1 := by
  unfold midI
  have : L.filter (midB L u v) = [] := List.filter_eq_nil_iff.2 fun y hy hb => h y (mid_iff.2 ⟨hy, hb⟩)
  rw [this]; rfl
theorem mid_same (L : List It) (u : Int) : midI L u u = -1 := mid_none fun _ h => h.ne rfl
theorem mid_apart {L : List It} {u v : Int} (h : conn L u v = false) : midI L u v = -1 := mid_none fun y hm => by
  have := conn_mono (m := L) (fun e he => by
    rcases List.mem_cons.1 he with e1 | e1
    · subst e1; exact hm.mem
    · exact (mem_below.1 e1).1) hm.joins
  rw [h] at this; cases this
theorem mid_ex {L : List It} {u v : Int} (hi : Ids L) (h : conn L u v = true) (hn : u ≠ v) : ∃ y, Mid L u v y := by
  have hp := sorted_perm L
  have hs := sorted_sorted (ids_ne hi)
  have h' : conn (sorted L) u v = true := by rw [conn_congr _ _ (fun e => hp.mem_iff)]; exact h
  obtain ⟨k, hk, h1, h2⟩ := critical h' hn
  exact ⟨_, mid_at hp hs k hk h1 h2⟩

theorem only_self (a : List It) : only a a = -1 := by
  rcases only_spec a a with ⟨h, _⟩ | ⟨e, he, h1, _⟩
  · exact h
  · rw [has_iff.2 ⟨e, he, rfl⟩] at h1; cases h1

section
variable {L : List It} {x y : It}

theorem swap_mem (hi : Ids L) (hx : x ∈ L) (hk : keeps L x = false) (h : Mid L x.u x.v y) : y ∈ withoutI L x.id ∧ (∀ e, e ∈ below L y → e ∈ withoutI L x.id) := by
  have hl := Mid.lighter hi hx hk h
  have hne : y.id ≠ x.id := by
    intro e
    have := ids_inj hi h.mem hx e
    subst this
    rw [lighter_irr] at hl; cases hl
  refine ⟨mem_without.2 ⟨h.mem, hne⟩, fun e he => ?_⟩
  obtain ⟨h1, h2⟩ := mem_below.1 he
  refine mem_without.2 ⟨h1, fun e3 => ?_⟩
  have e4 := ids_inj hi h1 hx e3
  subst e4
  have := lighter_trans h2 hl
  rw [lighter_irr] at this; cases this

/-- it stays outside where it is still the heavier one -/
theorem swap_stays (hi : Ids L) (hx : x ∈ L) (hk : keeps L x = false) (h : Mid L x.u x.v y) (hid : y.id < x.id) :
    forest (withI (withoutI L x.id) ⟨x.id, x.u, x.v, y.w⟩) = forest (withoutI L x.id) := by
  obtain ⟨hy, hb⟩ := swap_mem hi hx hk h
  have hno := without_has L x.id
  have hl : lighter y ⟨x.id, x.u, x.v, y.w⟩ = true := by rw [lighter_iff]; right; exact ⟨rfl, hid⟩
  have hm : ∀ e, e ∈ withI (withoutI L x.id) ⟨x.id, x.u, x.v, y.w⟩ ↔ e = ⟨x.id, x.u, x.v, y.w⟩ ∨ e ∈ withoutI L x.id := fun e => mem_with (x := ⟨x.id, x.u, x.v, y.w⟩) hno
  have hkn : keeps (withI (withoutI L x.id) ⟨x.id, x.u, x.v, y.w⟩) ⟨x.id, x.u, x.v, y.w⟩ = false := by
    unfold keeps
    have : conn (below (withI (withoutI L x.id) ⟨x.id, x.u, x.v, y.w⟩) ⟨x.id, x.u, x.v, y.w⟩) x.u x.v = true := by
      refine conn_mono (fun e he => ?_) h.joins
      rcases List.mem_cons.1 he with e1 | e1
      · subst e1; exact mem_below.2 ⟨(hm _).2 (Or.inr hy), hl⟩
      · exact mem_below.2 ⟨(hm _).2 (Or.inr (hb _ e1)), lighter_trans (mem_below.1 e1).2 hl⟩
    simp only [this]; rfl
  have h1 := outside_told (x := ⟨x.id, x.u, x.v, y.w⟩) (with_ids (without_ids hi _)) ((hm _).2 (Or.inl rfl)) hkn
  have h2 := without_with (x := ⟨x.id, x.u, x.v, y.w⟩) (without_ids hi x.id) hno
  rw [← h1]
  simp only at h2 ⊢
  rw [h2]

/-- it comes for the other where it is the lighter one now -/
theorem swap_comes (hi : Ids L) (hx : x ∈ L) (hk : keeps L x = false) (h : Mid L x.u x.v y) (hid : x.id < y.id) :
    only (forest (withI (withoutI L x.id) ⟨x.id, x.u, x.v, y.w⟩)) (forest (withoutI L x.id)) = x.id ∧ only (forest (withoutI L x.id)) (forest (withI (withoutI L x.id) ⟨x.id, x.u, x.v, y.w⟩)) = y.id := by
  obtain ⟨hy, hb⟩ := swap_mem hi hx hk h
  have hno := without_has L x.id
  have hl : lighter ⟨x.id, x.u, x.v, y.w⟩ y = true := by rw [lighter_iff]; right; exact ⟨rfl, hid⟩
  have hm : ∀ e, e ∈ withI (withoutI L x.id) ⟨x.id, x.u, x.v, y.w⟩ ↔ e = ⟨x.id, x.u, x.v, y.w⟩ ∨ e ∈ withoutI L x.id := fun e => mem_with (x := ⟨x.id, x.u, x.v, y.w⟩) hno
  have hadj : Adj (withoutI L x.id) (withI (withoutI L x.id) ⟨x.id, x.u, x.v, y.w⟩) := adj_with (x := ⟨x.id, x.u, x.v, y.w⟩) hno
  have hfo := outside_told hi hx hk
  generalize hx' : (⟨x.id, x.u, x.v, y.w⟩ : It) = x' at *
  have e1 : x'.id = x.id := by rw [← hx']
  have e2 : x'.u = x.u := by rw [← hx']
  have e3 : x'.v = x.v := by rw [← hx']
  clear hx'
  have hk1 : keeps (withI (withoutI L x.id) x') x' = true := by
    unfold keeps
    cases hc : conn (below (withI (withoutI L x.id) x') x') x'.u x'.v with
    | false => rfl
    | true =>
      have := conn_mono (m := below L y) (fun e he => by
        obtain ⟨h1, h2⟩ := mem_below.1 he
        rcases (hm e).1 h1 with h3 | h3
        · subst h3; rw [lighter_irr] at h2; cases h2
        · exact mem_below.2 ⟨(mem_without.1 h3).1, lighter_trans h2 hl⟩) hc
      rw [e2, e3, h.apart] at this; cases this
  have hk2 : keeps (withI (withoutI L x.id) x') y = false := by
    unfold keeps
    have h1 := exchange (x := y) (y := x') (l := below L y) (by rw [e2, e3]; exact h.joins) (by rw [e2, e3]; exact h.apart)
    have : conn (below (withI (withoutI L x.id) x') y) y.u y.v = true := by
      refine conn_mono (fun e he => ?_) h1
      rcases List.mem_cons.1 he with e4 | e4
      · subst e4; exact mem_below.2 ⟨(hm _).2 (Or.inl rfl), hl⟩
      · exact mem_below.2 ⟨(hm _).2 (Or.inr (hb _ e4)), (mem_below.1 e4).2⟩
    simp only [this]; rfl
  have hin : x' ∈ forest (withI (withoutI L x.id) x') := forest_mem.2 ⟨(hm _).2 (Or.inl rfl), hk1⟩
  have hout : has (forest (withoutI L x.id)) x'.id = false := by
    rw [has_false]; intro e he; rw [e1]; exact (mem_without.1 (forest_mem.1 he).1).2
  have hyin : y ∈ forest (withoutI L x.id) := by rw [hfo]; exact forest_mem.2 ⟨h.mem, h.keeps⟩
  have hyout : has (forest (withI (withoutI L x.id) x')) y.id = false := by
    rw [has_false]
    intro e he hid2
    obtain ⟨h1, h2⟩ := forest_mem.1 he
    have h3 := ids_inj (with_ids (without_ids hi _)) h1 ((hm y).2 (Or.inr hy)) hid2
    rw [h3, hk2] at h2; cases h2
  constructor
  · rcases only_spec (forest (withI (withoutI L x.id) x')) (forest (withoutI L x.id)) with ⟨_, h1⟩ | ⟨e, he, h1, h2⟩
    · rw [h1 _ hin] at hout; cases hout
    · rw [h2, hadj.uniq e x' he hin h1 hout, e1]
  · rcases only_spec (forest (withoutI L x.id)) (forest (withI (withoutI L x.id) x')) with ⟨_, h1⟩ | ⟨e, he, h1, h2⟩
    · rw [h1 _ hyin] at hyout; cases hyout
    · rw [h2, hadj.symm.uniq e y he hyin h1 hyout]
end

/-- the edges up to a weight -/
def upI (l : List It) (x : Int) : List It := l.filter (fun e => decide (e.w ≤ x))
theorem up_len (l : List It) (x : Int) : (upI l x).length ≤ l.length := List.length_filter_le _ _
theorem up_ends {n : Nat} {l : List It} (h : Ends n l) (x : Int) : Ends n (upI l x) := fun e he => h e (List.mem_filter.1 he).1
theorem up_ids {l : List It} (h : Ids l) (x : Int) : Ids (upI l x) := h.filter _
theorem up_rng {l : List It} (h : Rng l) (x : Int) : Rng (upI l x) := fun e he => h e (List.mem_filter.1 he).1
theorem up_all {l : List It} {x : Int} (h : ∀ e, e ∈ l → e.w ≤ x) : upI l x = l := List.filter_eq_self.2 fun e he => by simpa using h e he

/-- how many vertices are joined with u -/
def joinN (n : Nat) (l : List It) (u : Int) : Nat := ((List.range n).filter fun (v : Nat) => conn l u v).length
theorem join_snoc (l : List It) (u : Int) (k : Nat) : joinN (k + 1) l u = joinN k l u + if conn l u k then 1 else 0 := by
  unfold joinN
  rw [List.range_succ, List.filter_append, List.length_append, List.filter_cons, List.filter_nil]
  split <;> simp
theorem join_le (l : List It) (u : Int) (k : Nat) : joinN k l u ≤ k := Nat.le_trans (List.length_filter_le _ _) (by simp)
theorem far_apart {n : Nat} {l : List It} (he : Ends n l) {u v : Int} (hu : u < n) (hv : (n : Int) ≤ v) : conn l u v = false := by
  cases hc : conn l u v with
  | false => rfl
  | true =>
    have := (conn_iff l u v).1 hc (fun x => if x < n then 0 else 1) (fun e hel => by
      obtain ⟨_, h1, _, h2⟩ := he e hel
      simp only [if_pos h1, if_pos h2])
    simp only [if_pos hu, if_neg (show ¬ v < n by omega)] at this
    cases this
theorem join_more {n : Nat} {l : List It} (he : Ends n l) {u : Int} (hu : u < n) : ∀ d : Nat, joinN (n + d) l u = joinN n l u := by
  intro d
  induction d with
  | zero => rfl
  | succ d ih =>
    rw [← Nat.add_assoc, join_snoc, ih, far_apart he hu (by omega)]; rfl
theorem join30 {n : Nat} {l : List It} (he : Ends n l) {u : Int} (hu : u < n) (hn : n ≤ 30) : joinN 30 l u = joinN n l u := by
  have := join_more he hu (30 - n)
  rw [show n + (30 - n) = 30 by omega] at this
  exact this

/-- how many vertices bear their own number -/
def ownN (n : Nat) (l : List It) : Nat := ((List.range n).filter fun (v : Nat) => lab l v == (v : Int)).length
theorem own_snoc (l : List It) (k : Nat) : ownN (k + 1) l = ownN k l + if lab l k = (k : Int) then 1 else 0 := by
  unfold ownN
  rw [List.range_succ, List.filter_append, List.length_append, List.filter_cons, List.filter_nil]
  by_cases h : lab l k = (k : Int)
  · simp [h]
  · simp [h]
theorem own_le (l : List It) (k : Nat) : ownN k l ≤ k := Nat.le_trans (List.length_filter_le _ _) (by simp)
theorem lab_idem (l : List It) (x : Int) : lab l (lab l x) = lab l x := lab_sound l (lab l) (lab_edge l) x
theorem lab_rng {n : Nat} : ∀ {l : List It}, Ends n l → ∀ x : Int, 0 ≤ x → x < n → 0 ≤ lab l x ∧ lab l x < n := by
  intro l
  induction l with
  | nil => intro _ x h1 h2; exact ⟨h1, h2⟩
  | cons d l ih =>
    intro he x h1 h2
    have ih' := ih (fun e h => he e (List.mem_cons_of_mem _ h))
    obtain ⟨a, b, c, e⟩ := he d (List.mem_cons_self ..)
    simp only [lab]
    split
    · exact ih' _ a b
    · exact ih' _ h1 h2
theorem own_parts {n : Nat} : ∀ {l : List It}, Ends n l → ownN n l = parts n l := by
  intro l
  induction l with
  | nil =>
    intro _
    rw [parts_nil]
    unfold ownN
    rw [List.filter_eq_self.2 (fun a _ => by simp [lab]), List.length_range]
  | cons x l ih =>
    intro he
    have hel : Ends n l := fun e h => he e (List.mem_cons_of_mem _ h)
    have ih' := ih hel
    obtain ⟨u0, u1, v0, v1⟩ := he x (List.mem_cons_self ..)
    cases hc : conn l x.u x.v with
    | true =>
      rw [parts_joined hc, ← ih']
      have hl : lab l x.u = lab l x.v := by simpa [conn] using hc
      unfold ownN
      congr 1
      refine List.filter_congr fun v _ => ?_
      simp only [lab]
      split
      · rename_i h; rw [hl, h]
      · rfl
    | false =>
      have hl : lab l x.u ≠ lab l x.v := by simpa [conn] using hc
      have h1 := parts_apart u0 u1 v0 v1 hc
      obtain ⟨m0, m1⟩ := lab_rng hel x.v v0 v1
      obtain ⟨m, hm⟩ := Int.eq_ofNat_of_zero_le m0
      have h2 := filter_ne_length n m (fun v => lab l v == (v : Int)) (fun v => lab (x :: l) v == (v : Int)) (by omega) (by
        simp only [beq_iff_eq]; rw [← hm]; exact lab_idem l x.v) (fun t ht => by
        simp only [lab]
        rw [Bool.eq_iff_iff, Bool.and_eq_true, beq_iff_eq, beq_iff_eq]
        by_cases h3 : lab l t = lab l x.v
        · rw [if_pos h3]
          constructor
          · intro h4
            exfalso
            rw [← h4, lab_idem] at h3
            exact hl h3
          · rintro ⟨h4, h5⟩
            exfalso
            rw [h4, hm] at h3
            have h3' : t = m := by omega
            rw [h3'] at h5
            simp at h5
        · rw [if_neg h3]
          constructor
          · intro h4
            refine ⟨h4, ?_⟩
            have : t ≠ m := by
              rintro rfl
              rw [h4, hm] at h3
              exact h3 rfl
            simpa using this
          · rintro ⟨h4, _⟩; exact h4)
      unfold ownN at ih' ⊢
      omega

end Go.Proofs.YtnnnleckoinjoaaGreatDoor.Pl
