/- Plain mathematics: ways in the forest. -/
import Derived.Test.YtnnnleckoinjoaaPlain6
namespace Go.Proofs.Ytnnnleckoinjoaa.Pl

theorem conn_nil (u v : Int) : conn [] u v = true ↔ u = v := by simp [conn, lab]

/-- where two vertices are joined first -/
theorem critical {s : List It} {u v : Int} (h : conn s u v = true) (hn : u ≠ v) : ∃ (k : Nat) (hk : k < s.length), conn (s.take k) u v = false ∧ conn (s[k] :: s.take k) u v = true := by
  have key : ∀ j, j ≤ s.length → conn (s.take j) u v = true → ∃ (k : Nat) (hk : k < s.length), conn (s.take k) u v = false ∧ conn (s[k] :: s.take k) u v = true := by
    intro j
    induction j with
    | zero => intro _ h0; rw [List.take_zero] at h0; exact absurd ((conn_nil u v).1 h0) hn
    | succ j ih =>
      intro hj hc
      cases hcj : conn (s.take j) u v with
      | true => exact ih (by omega) hcj
      | false =>
        refine ⟨j, by omega, hcj, ?_⟩
        rw [← hc]
        refine conn_congr _ _ fun e => ?_
        rw [take_snoc' s j (by omega), List.mem_append, List.mem_cons]
        simp
        constructor
        · rintro (h | h) <;> simp [h]
        · rintro (h | h) <;> simp [h]
  exact key s.length (Nat.le_refl _) (by rw [List.take_length]; exact h)

theorem forest_mem {l : List It} {x : It} : x ∈ forest l ↔ x ∈ l ∧ keeps l x = true := List.mem_filter
theorem keeps_not {l : List It} {x : It} (h : keeps l x = true) : conn (below l x) x.u x.v = false := by unfold keeps at h; simpa using h
theorem ids_ne {l : List It} (h : Ids l) : l.Pairwise (fun a b => a.id ≠ b.id) := h.imp fun h => by omega

/-- no ring in it -/
def Acyc (F : List It) : Prop := ∀ x, x ∈ F → conn (withoutI F x.id) x.u x.v = false
theorem forest_acyc {l : List It} (hi : Ids l) : Acyc (forest l) := by
  intro x hx
  cases hc : conn (withoutI (forest l) x.id) x.u x.v with
  | false => rfl
  | true =>
    exfalso
    obtain ⟨hxl, hkx⟩ := forest_mem.1 hx
    have hn : x.u ≠ x.v := by
      intro e
      have := keeps_not hkx
      rw [e, conn_refl] at this; cases this
    have hI := without_ids (forest_ids hi) x.id
    have hp : ∀ e, e ∈ sorted (withoutI (forest l) x.id) ↔ e ∈ withoutI (forest l) x.id := fun e => (sorted_perm _).mem_iff
    have hs := sorted_sorted (ids_ne hI)
    have hc' : conn (sorted (withoutI (forest l) x.id)) x.u x.v = true := by rw [conn_congr _ _ hp]; exact hc
    obtain ⟨k, hk, h1, h2⟩ := critical hc' hn
    have hT := mem_take_sorted hp hs k hk
    have hy : (sorted (withoutI (forest l) x.id))[k] ∈ withoutI (forest l) x.id := (hp _).1 (List.getElem_mem hk)
    generalize (sorted (withoutI (forest l) x.id))[k] = y at *
    obtain ⟨hyF, hyx⟩ := mem_without.1 hy
    obtain ⟨hyl, hky⟩ := forest_mem.1 hyF
    have hsub : ∀ e, e ∈ (sorted (withoutI (forest l) x.id)).take k → e ∈ l ∧ lighter e y = true := by
      intro e he
      obtain ⟨h3, h4⟩ := mem_below.1 ((hT e).1 he)
      exact ⟨(forest_mem.1 (mem_without.1 h3).1).1, h4⟩
    rcases lighter_total (a := y) (b := x) hyx with hl | hl
    · have : conn (below l x) x.u x.v = true := by
        refine conn_mono (fun e he => ?_) h2
        rcases List.mem_cons.1 he with e1 | e1
        · subst e1; exact mem_below.2 ⟨hyl, hl⟩
        · exact mem_below.2 ⟨(hsub e e1).1, lighter_trans (hsub e e1).2 hl⟩
      rw [keeps_not hkx] at this; cases this
    · have h3 := exchange h2 h1
      have : conn (below l y) y.u y.v = true := by
        refine conn_mono (fun e he => ?_) h3
        rcases List.mem_cons.1 he with e1 | e1
        · subst e1; exact mem_below.2 ⟨hxl, hl⟩
        · exact mem_below.2 (hsub e e1)
      rw [keeps_not hky] at this; cases this

/-- the forest's lighter edges join what the lighter edges join -/
theorem span (l : List It) : ∀ (n : Nat) (x : It) (a b : Int), (below l x).length ≤ n → conn (below l x) a b = true → conn (below (forest l) x) a b = true := by
  intro n
  induction n with
  | zero =>
    intro x a b hn h
    have : below l x = [] := List.eq_nil_of_length_eq_zero (by omega)
    rw [this] at h
    exact conn_mono (fun e he => by cases he) h
  | succ n ih =>
    intro x a b hn h
    refine conn_le (fun e he => ?_) h
    obtain ⟨hel, hex⟩ := mem_below.1 he
    cases hk : keeps l e with
    | true => exact conn_edge (mem_below.2 ⟨forest_mem.2 ⟨hel, hk⟩, hex⟩)
    | false =>
      have hc : conn (below l e) e.u e.v = true := by unfold keeps at hk; simpa using hk
      have hlt : (below l e).length ≤ n := by
        have h1 : below l e = (below l x).filter (lighter · e) := by
          unfold below
          rw [List.filter_filter]
          refine List.filter_congr fun y _ => ?_
          cases hy : lighter y e with
          | false => simp
          | true => simp [lighter_trans hy hex]
        have h2 : ((below l x).filter (lighter · e)).length < (below l x).length := List.length_filter_lt_length_iff_exists.2 ⟨e, he, by rw [lighter_irr]; simp⟩
        rw [h1]; omega
      have h3 := ih e e.u e.v hlt hc
      exact conn_mono (fun y hy => by
        obtain ⟨h4, h5⟩ := mem_below.1 hy
        exact mem_below.2 ⟨h4, lighter_trans h5 hex⟩) h3
theorem span_below {l : List It} {x : It} {a b : Int} (h : conn (below l x) a b = true) : conn (below (forest l) x) a b = true := span l _ x a b (Nat.le_refl _) h
theorem span_all (l : List It) (a b : Int) : conn (forest l) a b = conn l a b := by
  rw [Bool.eq_iff_iff]
  constructor
  · exact conn_mono fun e he => (forest_mem.1 he).1
  · refine conn_le fun e he => ?_
    cases hk : keeps l e with
    | true => exact conn_edge (forest_mem.2 ⟨he, hk⟩)
    | false =>
      have hc : conn (below l e) e.u e.v = true := by unfold keeps at hk; simpa using hk
      exact conn_mono (fun y hy => (mem_below.1 hy).1) (span_below hc)

/-- its going parts u and v -/
def Br (F : List It) (u v : Int) (z : It) : Bool := !conn (withoutI F z.id) u v
theorem br_iff {F : List It} {u v : Int} {z : It} : Br F u v z = true ↔ conn (withoutI F z.id) u v = false := by simp [Br]
theorem br_not {F : List It} {u v : Int} {z : It} : Br F u v z = false ↔ conn (withoutI F z.id) u v = true := by simp [Br]

theorem with_cons {F : List It} {z : It} (hi : Ids F) (hz : z ∈ F) (e : It) : e ∈ F ↔ e ∈ z :: withoutI F z.id := by
  rw [List.mem_cons, mem_without]
  constructor
  · intro he
    by_cases hid : e.id = z.id
    · exact Or.inl (ids_inj hi he hz hid)
    · exact Or.inr ⟨he, hid⟩
  · rintro (rfl | ⟨h, _⟩)
    · exact hz
    · exact h

theorem acyc_without {F : List It} (ha : Acyc F) (id : Int) : Acyc (withoutI F id) := by
  intro x hx
  cases hc : conn (withoutI (withoutI F id) x.id) x.u x.v with
  | false => rfl
  | true =>
    have := conn_mono (m := withoutI F x.id) (fun e he => by
      obtain ⟨h1, h2⟩ := mem_without.1 he
      exact mem_without.2 ⟨(mem_without.1 h1).1, h2⟩) hc
    rw [ha x (mem_without.1 hx).1] at this; cases this

/-- a bridge of what is left was one ahead -/
theorem br_back {F : List It} {u v : Int} {y z : It} (hi : Ids F) (ha : Acyc F) (hz : z ∈ F) (hy : y ∈ withoutI F z.id) (hzn : conn (withoutI F z.id) u v = true) (hb : conn (withoutI (withoutI F z.id) y.id) u v = false) : conn (withoutI F y.id) u v = false := by
  cases hc : conn (withoutI F y.id) u v with
  | false => rfl
  | true =>
    exfalso
    obtain ⟨hyF, hyz⟩ := mem_without.1 hy
    have hzy : z ∈ withoutI F y.id := mem_without.2 ⟨hz, fun e => hyz e.symm⟩
    have c1 : conn (z :: withoutI (withoutI F z.id) y.id) u v = true := by
      refine conn_mono (fun e he => ?_) hc
      rcases List.mem_cons.1 ((with_cons (without_ids hi _) hzy e).1 he) with h | h
      · exact h ▸ List.mem_cons_self ..
      · obtain ⟨h1, h2⟩ := mem_without.1 h
        obtain ⟨h3, h4⟩ := mem_without.1 h1
        exact List.mem_cons_of_mem _ (mem_without.2 ⟨mem_without.2 ⟨h3, h2⟩, h4⟩)
    have c2 : conn (y :: withoutI (withoutI F z.id) y.id) u v = true := by
      refine conn_mono (fun e he => ?_) hzn
      exact (with_cons (without_ids hi _) hy e).1 he
    have hG : ∀ {a b}, conn (withoutI (withoutI F z.id) y.id) a b = true → conn (withoutI F z.id) a b = true := fun h => conn_mono (fun e he => (mem_without.1 he).1) h
    have hcz : conn (withoutI F z.id) z.u z.v = true := by
      rcases (conn_cons _ _ _ _).1 c1 with h | ⟨h1, h2⟩ | ⟨h1, h2⟩
      · rw [h] at hb; cases hb
      · have h3 := hG h1
        have h4 := hG h2
        exact conn_trans (by rw [conn_symm]; exact h3) (conn_trans hzn (by rw [conn_symm]; exact h4))
      · have h3 := hG h1
        have h4 := hG h2
        exact conn_trans h4 (conn_trans (by rw [conn_symm]; exact hzn) h3)
    rw [ha z hz] at hcz; cases hcz

/-- the bridges join what is joined -/
theorem bridges_join (u v : Int) : ∀ (n : Nat) (F : List It), F.length ≤ n → Ids F → Acyc F → conn F u v = true → conn (F.filter (Br F u v)) u v = true := by
  intro n
  induction n with
  | zero =>
    intro F hn _ _ h
    have : F = [] := List.eq_nil_of_length_eq_zero (by omega)
    subst this; exact h
  | succ n ih =>
    intro F hn hi ha h
    by_cases hall : ∀ z, z ∈ F → Br F u v z = true
    · rw [List.filter_eq_self.2 hall]; exact h
    · obtain ⟨z, hz, hzb⟩ : ∃ z, z ∈ F ∧ Br F u v z = false := by
        refine Classical.byContradiction fun hno => hall fun z hz => ?_
        cases hb : Br F u v z with
        | true => rfl
        | false => exact absurd ⟨z, hz, hb⟩ hno
      have hzc := br_not.1 hzb
      have hlen := without_len_lt hi hz
      have h1 := ih (withoutI F z.id) (by omega) (without_ids hi _) (acyc_without ha _) hzc
      refine conn_mono (fun e he => ?_) h1
      obtain ⟨h2, h3⟩ := List.mem_filter.1 he
      exact List.mem_filter.2 ⟨(mem_without.1 h2).1, br_iff.2 (br_back hi ha hz h2 hzc (br_iff.1 h3))⟩
theorem bridge_ex {F : List It} {u v : Int} (hi : Ids F) (ha : Acyc F) (h : conn F u v = true) (hn : u ≠ v) : ∃ z, z ∈ F ∧ Br F u v z = true := by
  have h1 := bridges_join u v _ F (Nat.le_refl _) hi ha h
  cases hf : F.filter (Br F u v) with
  | nil => rw [hf] at h1; exact absurd ((conn_nil u v).1 h1) hn
  | cons z r =>
    have : z ∈ F.filter (Br F u v) := by rw [hf]; exact List.mem_cons_self ..
    exact ⟨z, List.mem_filter.1 this⟩

end Go.Proofs.Ytnnnleckoinjoaa.Pl
