/- Plain mathematics: into how many parts the edges leave the vertices; the forest's edges are that many fewer. -/
import Derived.Test.YtnnnleckoinjoaaPlain1
namespace Go.Proofs.Ytnnnleckoinjoaa.Pl

def first (l : List It) (u : Nat) : Bool := (List.range u).all (fun v => !conn l u v)
def parts (n : Nat) (l : List It) : Nat := ((List.range n).filter (first l)).length

theorem first_iff {l : List It} {u : Nat} : first l u = true ↔ ∀ v : Nat, v < u → conn l u v = false := by
  simp [first, List.all_eq_true]

theorem rep (l : List It) (a : Int) : ∀ k : Nat, conn l k a = true → ∃ r : Nat, r ≤ k ∧ conn l r a = true ∧ first l r = true := by
  intro k
  induction k using Nat.strongRecOn with
  | ind k ih =>
    intro h
    cases hf : first l k with
    | true => exact ⟨k, Nat.le_refl _, h, hf⟩
    | false =>
      have : ∃ v : Nat, v < k ∧ conn l k v = true := by
        apply Classical.byContradiction
        intro hn
        have : first l k = true := first_iff.2 fun v hv => by
          cases hc : conn l k v with
          | false => rfl
          | true => exact absurd ⟨v, hv, hc⟩ hn
        rw [hf] at this; cases this
      obtain ⟨v, hv, hc⟩ := this
      obtain ⟨r, h1, h2, h3⟩ := ih v hv (conn_trans (by rw [conn_symm]; exact hc) h)
      exact ⟨r, by omega, h2, h3⟩

theorem rep_le {l : List It} {r v : Nat} (hf : first l r = true) (hc : conn l r v = true) : r ≤ v := by
  apply Classical.byContradiction
  intro hn
  have := first_iff.1 hf v (by omega)
  rw [hc] at this; cases this

theorem filter_ne_length (n m : Nat) (p q : Nat → Bool) (hm : m < n) (hp : p m = true) (hq : ∀ t, t < n → q t = (p t && !(t == m))) :
    ((List.range n).filter q).length + 1 = ((List.range n).filter p).length := by
  induction n with
  | zero => omega
  | succ n ih =>
    rw [List.range_succ, List.filter_append, List.filter_append, List.length_append, List.length_append]
    by_cases h : m = n
    · subst h
      have e : (List.range m).filter q = (List.range m).filter p := List.filter_congr fun t ht => by
        rw [hq t (by have := List.mem_range.1 ht; omega)]
        have : (t == m) = false := by have := List.mem_range.1 ht; rw [beq_eq_false_iff_ne]; omega
        rw [this]; simp
      have hqm : q m = false := by rw [hq m (by omega)]; simp
      rw [e]; simp [hp, hqm]
    · have := ih (by omega) (fun t ht => hq t (by omega))
      have hqn : q n = p n := by
        rw [hq n (by omega)]
        have : (n == m) = false := by rw [beq_eq_false_iff_ne]; omega
        rw [this]; simp
      have : ([n].filter q).length = ([n].filter p).length := by simp [List.filter_cons, hqn]
      omega

theorem parts_joined {n : Nat} {x : It} {l : List It} (h : conn l x.u x.v = true) : parts n (x :: l) = parts n l := by
  have hc : ∀ a b, conn (x :: l) a b = conn l a b := fun a b => by
    rw [Bool.eq_iff_iff]
    refine ⟨conn_le fun e he => ?_, conn_mono fun e he => List.mem_cons_of_mem _ he⟩
    cases List.mem_cons.1 he with
    | inl h' => subst h'; exact h
    | inr h' => exact conn_edge h'
  have : first (x :: l) = first l := by funext u; simp [first, hc]
  simp [parts, this]

theorem parts_apart {n : Nat} {x : It} {l : List It} (hu : 0 ≤ x.u) (hun : x.u < n) (hv : 0 ≤ x.v) (hvn : x.v < n) (h : conn l x.u x.v = false) :
    parts n (x :: l) + 1 = parts n l := by
  obtain ⟨a, ha⟩ := Int.eq_ofNat_of_zero_le hu
  obtain ⟨b, hb⟩ := Int.eq_ofNat_of_zero_le hv
  obtain ⟨r1, h11, h12, h13⟩ := rep l x.u a (by rw [ha]; exact conn_refl _ _)
  obtain ⟨r2, h21, h22, h23⟩ := rep l x.v b (by rw [hb]; exact conn_refl _ _)
  have hne : r1 ≠ r2 := by
    rintro rfl
    have : conn l x.u x.v = true := conn_trans (by rw [conn_symm]; exact h12) h22
    rw [h] at this; cases this
  have hj : conn (x :: l) r1 r2 = true := (conn_cons x l _ _).2 (Or.inr (Or.inl ⟨h12, by rw [conn_symm]; exact h22⟩))
  have hsub : ∀ {p q : Int}, conn l p q = true → conn (x :: l) p q = true := fun hc => conn_mono (fun e he => List.mem_cons_of_mem _ he) hc
  have uniq : ∀ {t r : Nat}, first l t = true → first l r = true → conn l t r = true → t = r := fun ht hr hc => by
    have := rep_le ht hc
    have := rep_le hr (by rw [conn_symm]; exact hc)
    omega
  unfold parts
  refine filter_ne_length n (max r1 r2) (first l) (first (x :: l)) (by omega) ?_ ?_
  · by_cases hh : r1 ≤ r2
    · rw [Nat.max_eq_right hh]; exact h23
    · rw [Nat.max_eq_left (by omega)]; exact h13
  · intro t _
    rw [Bool.eq_iff_iff, Bool.and_eq_true, Bool.not_eq_true', beq_eq_false_iff_ne]
    constructor
    · intro hf
      have hfl : first l t = true := first_iff.2 fun v hvt => by
        cases hc : conn l t v with
        | false => rfl
        | true => have := first_iff.1 hf v hvt; rw [hsub hc] at this; cases this
      refine ⟨hfl, ?_⟩
      rintro rfl
      by_cases hh : r1 ≤ r2
      · rw [Nat.max_eq_right hh] at hf
        have := first_iff.1 hf r1 (by omega)
        rw [conn_symm, hj] at this; cases this
      · rw [Nat.max_eq_left (by omega)] at hf
        have := first_iff.1 hf r2 (by omega)
        rw [hj] at this; cases this
    · rintro ⟨hf, htm⟩
      refine first_iff.2 fun v hvt => ?_
      cases hc : conn (x :: l) t v with
      | false => rfl
      | true =>
        exfalso
        rcases (conn_cons x l _ _).1 hc with h1 | ⟨h1, h2⟩ | ⟨h1, h2⟩
        · have := first_iff.1 hf v hvt; rw [h1] at this; cases this
        · have e := uniq hf h13 (conn_trans h1 (by rw [conn_symm]; exact h12))
          have := rep_le h23 (conn_trans h22 h2)
          omega
        · have e := uniq hf h23 (conn_trans h1 (by rw [conn_symm]; exact h22))
          have := rep_le h13 (conn_trans h12 h2)
          omega

theorem parts_nil (n : Nat) : parts n [] = n := by
  have : ∀ u, first [] u = true := fun u => first_iff.2 fun v hv => by simp [conn, lab]; omega
  unfold parts
  rw [List.filter_eq_self.2 (fun a _ => this a), List.length_range]

theorem parts_congr (n : Nat) {l m : List It} (h : ∀ e, e ∈ l ↔ e ∈ m) : parts n l = parts n m := by
  have : first l = first m := by funext u; simp [first, conn_congr _ _ h]
  simp [parts, this]

/-- what has been kept of the first k edges of a list in which each is ahead of the heavier ones -/
def kept (s : List It) (k : Nat) (x : It) : Bool := !conn (s.take k) x.u x.v

def Ends (n : Nat) (l : List It) : Prop := ∀ e, e ∈ l → 0 ≤ e.u ∧ e.u < n ∧ 0 ≤ e.v ∧ e.v < n

theorem mem_take_sorted {l s : List It} (hp : ∀ e, e ∈ s ↔ e ∈ l) (hs : s.Pairwise (fun a b => lighter a b = true)) (k : Nat) (hk : k < s.length) (e : It) :
    e ∈ s.take k ↔ e ∈ below l s[k] := by
  rw [mem_below, ← hp]
  constructor
  · intro h
    refine ⟨List.mem_of_mem_take h, ?_⟩
    obtain ⟨i, hi, rfl⟩ := List.mem_iff_getElem.1 h
    rw [List.getElem_take]
    rw [List.length_take] at hi
    exact (List.pairwise_iff_getElem.1 hs) i k (by omega) hk (by omega)
  · rintro ⟨h, hl⟩
    obtain ⟨i, hi, rfl⟩ := List.mem_iff_getElem.1 h
    by_cases hik : i < k
    · refine List.mem_iff_getElem.2 ⟨i, by rw [List.length_take]; omega, by rw [List.getElem_take]⟩
    · exfalso
      by_cases he : i = k
      · subst he; rw [lighter_irr] at hl; cases hl
      · have := (List.pairwise_iff_getElem.1 hs) k i hk hi (by omega)
        rw [lighter_asymm this] at hl; cases hl

theorem kept_eq {l s : List It} (hp : ∀ e, e ∈ s ↔ e ∈ l) (hs : s.Pairwise (fun a b => lighter a b = true)) (k : Nat) (hk : k < s.length) :
    kept s k s[k] = keeps l s[k] := by
  unfold kept keeps
  rw [conn_congr _ _ (mem_take_sorted hp hs k hk)]

theorem take_snoc' (s : List It) (k : Nat) (h : k < s.length) : s.take (k + 1) = s.take k ++ [s[k]] := by
  rw [List.take_succ_eq_append_getElem h]

theorem comps_sorted {n : Nat} {l s : List It} (hp : ∀ e, e ∈ s ↔ e ∈ l) (hs : s.Pairwise (fun a b => lighter a b = true)) (he : Ends n s) :
    ∀ k, k ≤ s.length → parts n (s.take k) + ((s.take k).filter (keeps l)).length = n := by
  intro k
  induction k with
  | zero => intro _; simp [parts_nil]
  | succ k ih =>
    intro hk
    have hk' : k < s.length := by omega
    have ih := ih (by omega)
    rw [take_snoc' s k hk', List.filter_append, List.length_append]
    have e1 : parts n (s.take k ++ [s[k]]) = parts n (s[k] :: s.take k) := parts_congr n fun e => by rw [List.mem_append, List.mem_singleton, or_comm, List.mem_cons]
    rw [e1]
    have hm := he s[k] (List.getElem_mem hk')
    have hkk := kept_eq hp hs k hk'
    unfold kept at hkk
    cases hc : conn (s.take k) s[k].u s[k].v with
    | true =>
      rw [hc] at hkk
      rw [parts_joined hc]
      simp [← hkk]; omega
    | false =>
      rw [hc] at hkk
      have := parts_apart hm.1 hm.2.1 hm.2.2.1 hm.2.2.2 hc
      simp [← hkk]; omega

def Ids (l : List It) : Prop := l.Pairwise (fun a b => a.id < b.id)

def sorted (l : List It) : List It := l.mergeSort (fun a b => !lighter b a)

theorem sorted_perm (l : List It) : (sorted l).Perm l := List.mergeSort_perm ..
theorem sorted_sorted {l : List It} (h : l.Pairwise (fun a b => a.id ≠ b.id)) : (sorted l).Pairwise (fun a b => lighter a b = true) := by
  have h1 : (sorted l).Pairwise (fun a b => (!lighter b a) = true) := by
    refine List.pairwise_mergeSort ?_ ?_ l
    · intro a b c h1 h2
      simp only [Bool.not_eq_true'] at *
      rw [← Bool.not_eq_true, lighter_iff] at *; omega
    · intro a b
      cases h : lighter b a with
      | false => simp
      | true => simp [lighter_asymm h]
  have h2 : (sorted l).Pairwise (fun a b => a.id ≠ b.id) := (sorted_perm l).symm.pairwise h (fun h => h.symm)
  refine (h1.and h2).imp ?_
  intro a b ⟨h3, h4⟩
  cases lighter_total h4 with
  | inl h => exact h
  | inr h => rw [h] at h3; cases h3

theorem comps {n : Nat} {l : List It} (hi : Ids l) (he : Ends n l) : parts n l + (forest l).length = n := by
  have hne : l.Pairwise (fun a b => a.id ≠ b.id) := hi.imp (fun h => by omega)
  have hp := sorted_perm l
  have hm : ∀ e, e ∈ sorted l ↔ e ∈ l := fun e => hp.mem_iff
  have := comps_sorted (n := n) hm (sorted_sorted hne) (fun e h => he e ((hm e).1 h)) (sorted l).length (Nat.le_refl _)
  rw [List.take_length, parts_congr n hm, (hp.filter _).length_eq] at this
  exact this

end Go.Proofs.Ytnnnleckoinjoaa.Pl
