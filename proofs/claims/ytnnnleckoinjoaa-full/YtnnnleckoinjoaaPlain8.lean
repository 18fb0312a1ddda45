/- Plain mathematics: the edge with which two vertices come to be joined; parts by the light edges. -/
import Derived.Test.YtnnnleckoinjoaaPlain7
namespace Go.Proofs.Ytnnnleckoinjoaa.Pl

/-- the edge with which u and v come to be joined, the lightest first -/
structure Mid (L : List It) (u v : Int) (y : It) : Prop where
  mem : y ∈ L
  apart : conn (below L y) u v = false
  joins : conn (y :: below L y) u v = true

theorem mid_at {L s : List It} {u v : Int} (hp : s.Perm L) (hs : Srt s) (k : Nat) (hk : k < s.length) (h1 : conn (s.take k) u v = false) (h2 : conn (s[k] :: s.take k) u v = true) : Mid L u v s[k] := by
  have hT := mem_take_sorted (fun e => hp.mem_iff) hs k hk
  refine ⟨hp.mem_iff.1 (List.getElem_mem hk), ?_, ?_⟩
  · rw [← h1]; exact (conn_congr _ _ hT).symm
  · rw [← h2]
    refine conn_congr _ _ fun e => ?_
    rw [List.mem_cons, List.mem_cons, hT e]

theorem Mid.keeps {L : List It} {u v : Int} {y : It} (h : Mid L u v y) : keeps L y = true := by
  unfold Pl.keeps
  cases hc : conn (below L y) y.u y.v with
  | false => rfl
  | true =>
    have := conn_le (m := below L y) (fun e he => by
      rcases List.mem_cons.1 he with e1 | e1
      · subst e1; exact hc
      · exact conn_edge e1) h.joins
    rw [h.apart] at this; cases this
theorem Mid.ne {L : List It} {u v : Int} {y : It} (h : Mid L u v y) : u ≠ v := by
  rintro rfl
  have := h.apart
  rw [conn_refl] at this; cases this
/-- an edge outside is heavier than the one with which its ends come to be joined -/
theorem Mid.lighter {L : List It} {x y : It} (hi : Ids L) (hx : x ∈ L) (hk : Pl.keeps L x = false) (h : Mid L x.u x.v y) : Pl.lighter y x = true := by
  have hc : conn (below L x) x.u x.v = true := by unfold Pl.keeps at hk; simpa using hk
  by_cases hid : y.id = x.id
  · have := ids_inj hi h.mem hx hid
    subst this
    have h1 := h.apart
    rw [hc] at h1; cases h1
  · rcases lighter_total hid with h1 | h1
    · exact h1
    · have h2 := conn_edge (l := below L y) (mem_below.2 ⟨hx, h1⟩)
      rw [h.apart] at h2; cases h2

/-- that edge's number, -1 where there is none -/
def midB (L : List It) (u v : Int) (y : It) : Bool := !conn (below L y) u v && conn (y :: below L y) u v
def midI (L : List It) (u v : Int) : Int := ((L.filter (midB L u v)).map It.id).headD (-1)
theorem mid_iff {L : List It} {u v : Int} {y : It} : Mid L u v y ↔ y ∈ L ∧ midB L u v y = true := by
  unfold midB
  rw [Bool.and_eq_true, Bool.not_eq_true']
  exact ⟨fun h => ⟨h.mem, h.apart, h.joins⟩, fun h => ⟨h.1, h.2.1, h.2.2⟩⟩
theorem Mid.notl {L : List It} {u v : Int} {y z : It} (h : Mid L u v y) (h2 : Mid L u v z) : Pl.lighter y z = false := by
  cases hl : Pl.lighter y z with
  | false => rfl
  | true =>
    have := conn_mono (m := below L z) (fun e he => by
      rcases List.mem_cons.1 he with e1 | e1
      · subst e1; exact mem_below.2 ⟨h.mem, hl⟩
      · exact below_mono hl e1) h.joins
    rw [h2.apart] at this; cases this
theorem Mid.uniq {L : List It} {u v : Int} {y z : It} (h : Mid L u v y) (h2 : Mid L u v z) : y.id = z.id := by
  apply Classical.byContradiction
  intro hne
  rcases lighter_total hne with h3 | h3
  · rw [h.notl h2] at h3; cases h3
  · rw [h2.notl h] at h3; cases h3
theorem Mid.is {L : List It} {u v : Int} {y : It} (h : Mid L u v y) : midI L u v = y.id := by
  unfold midI
  have hy : y ∈ L.filter (midB L u v) := List.mem_filter.2 (mid_iff.1 h)
  cases hf : L.filter (midB L u v) with
  | nil => rw [hf] at hy; cases hy
  | cons z r =>
    have hz : z ∈ L.filter (midB L u v) := by rw [hf]; exact List.mem_cons_self ..
    exact (mid_iff.2 (List.mem_filter.1 hz)).uniq h
theorem mid_none {L : List It} {u v : Int} (h : ∀ y, ¬ Mid L u v y) : midI L u v = -1 := by
  unfold midI
  have : L.filter (midB L u v) = [] := List.filter_eq_nil_iff.2 fun y hy hb => h y (mid_iff.2 ⟨hy, hb⟩)
  rw [this]; rfl
theorem mid_same (L : List It) (u : Int) : midI L u u = -1 := mid_none fun _ h => h.ne rfl
theorem mid_apart {L : List It} {u v : Int} (h : conn L u v = false) : midI L u v = -1 := mid_none fun y hm => by
  have := conn_mono (m := L) (fun e he => by
    rcases List.mem_cons.1 he with e1 | e1
    · subst e1; exact hm.mem
    · exact (mem_below.1 e1).1) hm.joins
  rw [h] at this; cases this
theorem mid_ex {L : List It} {u v : Int} (hi : Ids L) (h : conn L u v = true) (hn : u ≠ v) : ∃ y, Mid L u v y := by
  have hp := sorted_perm L
  have hs := sorted_sorted (ids_ne hi)
  have h' : conn (sorted L) u v = true := by rw [conn_congr _ _ (fun e => hp.mem_iff)]; exact h
  obtain ⟨k, hk, h1, h2⟩ := critical h' hn
  exact ⟨_, mid_at hp hs k hk h1 h2⟩

theorem only_self (a : List It) : only a a = -1 := by
  rcases only_spec a a with ⟨h, _⟩ | ⟨e, he, h1, _⟩
  · exact h
  · rw [has_iff.2 ⟨e, he, rfl⟩] at h1; cases h1

section
variable {L : List It} {x y : It}

theorem swap_mem (hi : Ids L) (hx : x ∈ L) (hk : keeps L x = false) (h : Mid L x.u x.v y) : y ∈ withoutI L x.id ∧ (∀ e, e ∈ below L y → e ∈ withoutI L x.id) := by
  have hl := Mid.lighter hi hx hk h
  have hne : y.id ≠ x.id := by
    intro e
    have := ids_inj hi h.mem hx e
    subst this
    rw [lighter_irr] at hl; cases hl
  refine ⟨mem_without.2 ⟨h.mem, hne⟩, fun e he => ?_⟩
  obtain ⟨h1, h2⟩ := mem_below.1 he
  refine mem_without.2 ⟨h1, fun e3 => ?_⟩
  have e4 := ids_inj hi h1 hx e3
  subst e4
  have := lighter_trans h2 hl
  rw [lighter_irr] at this; cases this

/-- it stays outside where it is still the heavier one -/
theorem swap_stays (hi : Ids L) (hx : x ∈ L) (hk : keeps L x = false) (h : Mid L x.u x.v y) (hid : y.id < x.id) :
    forest (withI (withoutI L x.id) ⟨x.id, x.u, x.v, y.w⟩) = forest (withoutI L x.id) := by
  obtain ⟨hy, hb⟩ := swap_mem hi hx hk h
  have hno := without_has L x.id
  have hl : lighter y ⟨x.id, x.u, x.v, y.w⟩ = true := by rw [lighter_iff]; right; exact ⟨rfl, hid⟩
  have hm : ∀ e, e ∈ withI (withoutI L x.id) ⟨x.id, x.u, x.v, y.w⟩ ↔ e = ⟨x.id, x.u, x.v, y.w⟩ ∨ e ∈ withoutI L x.id := fun e => mem_with (x := ⟨x.id, x.u, x.v, y.w⟩) hno
  have hkn : keeps (withI (withoutI L x.id) ⟨x.id, x.u, x.v, y.w⟩) ⟨x.id, x.u, x.v, y.w⟩ = false := by
    unfold keeps
    have : conn (below (withI (withoutI L x.id) ⟨x.id, x.u, x.v, y.w⟩) ⟨x.id, x.u, x.v, y.w⟩) x.u x.v = true := by
      refine conn_mono (fun e he => ?_) h.joins
      rcases List.mem_cons.1 he with e1 | e1
      · subst e1; exact mem_below.2 ⟨(hm _).2 (Or.inr hy), hl⟩
      · exact mem_below.2 ⟨(hm _).2 (Or.inr (hb _ e1)), lighter_trans (mem_below.1 e1).2 hl⟩
    simp only [this]; rfl
  have h1 := outside_told (x := ⟨x.id, x.u, x.v, y.w⟩) (with_ids (without_ids hi _)) ((hm _).2 (Or.inl rfl)) hkn
  have h2 := without_with (x := ⟨x.id, x.u, x.v, y.w⟩) (without_ids hi x.id) hno
  rw [← h1]
  simp only at h2 ⊢
  rw [h2]

/-- it comes for the other where it is the lighter one now -/
theorem swap_comes (hi : Ids L) (hx : x ∈ L) (hk : keeps L x = false) (h : Mid L x.u x.v y) (hid : x.id < y.id) :
    only (forest (withI (withoutI L x.id) ⟨x.id, x.u, x.v, y.w⟩)) (forest (withoutI L x.id)) = x.id ∧ only (forest (withoutI L x.id)) (forest (withI (withoutI L x.id) ⟨x.id, x.u, x.v, y.w⟩)) = y.id := by
  obtain ⟨hy, hb⟩ := swap_mem hi hx hk h
  have hno := without_has L x.id
  have hl : lighter ⟨x.id, x.u, x.v, y.w⟩ y = true := by rw [lighter_iff]; right; exact ⟨rfl, hid⟩
  have hm : ∀ e, e ∈ withI (withoutI L x.id) ⟨x.id, x.u, x.v, y.w⟩ ↔ e = ⟨x.id, x.u, x.v, y.w⟩ ∨ e ∈ withoutI L x.id := fun e => mem_with (x := ⟨x.id, x.u, x.v, y.w⟩) hno
  have hadj : Adj (withoutI L x.id) (withI (withoutI L x.id) ⟨x.id, x.u, x.v, y.w⟩) := adj_with (x := ⟨x.id, x.u, x.v, y.w⟩) hno
  have hfo := outside_told hi hx hk
  generalize hx' : (⟨x.id, x.u, x.v, y.w⟩ : It) = x' at *
  have e1 : x'.id = x.id := by rw [← hx']
  have e2 : x'.u = x.u := by rw [← hx']
  have e3 : x'.v = x.v := by rw [← hx']
  clear hx'
  have hk1 : keeps (withI (withoutI L x.id) x') x' = true := by
    unfold keeps
    cases hc : conn (below (withI (withoutI L x.id) x') x') x'.u x'.v with
    | false => rfl
    | true =>
      have := conn_mono (m := below L y) (fun e he => by
        obtain ⟨h1, h2⟩ := mem_below.1 he
        rcases (hm e).1 h1 with h3 | h3
        · subst h3; rw [lighter_irr] at h2; cases h2
        · exact mem_below.2 ⟨(mem_without.1 h3).1, lighter_trans h2 hl⟩) hc
      rw [e2, e3, h.apart] at this; cases this
  have hk2 : keeps (withI (withoutI L x.id) x') y = false := by
    unfold keeps
    have h1 := exchange (x := y) (y := x') (l := below L y) (by rw [e2, e3]; exact h.joins) (by rw [e2, e3]; exact h.apart)
    have : conn (below (withI (withoutI L x.id) x') y) y.u y.v = true := by
      refine conn_mono (fun e he => ?_) h1
      rcases List.mem_cons.1 he with e4 | e4
      · subst e4; exact mem_below.2 ⟨(hm _).2 (Or.inl rfl), hl⟩
      · exact mem_below.2 ⟨(hm _).2 (Or.inr (hb _ e4)), (mem_below.1 e4).2⟩
    simp only [this]; rfl
  have hin : x' ∈ forest (withI (withoutI L x.id) x') := forest_mem.2 ⟨(hm _).2 (Or.inl rfl), hk1⟩
  have hout : has (forest (withoutI L x.id)) x'.id = false := by
    rw [has_false]; intro e he; rw [e1]; exact (mem_without.1 (forest_mem.1 he).1).2
  have hyin : y ∈ forest (withoutI L x.id) := by rw [hfo]; exact forest_mem.2 ⟨h.mem, h.keeps⟩
  have hyout : has (forest (withI (withoutI L x.id) x')) y.id = false := by
    rw [has_false]
    intro e he hid2
    obtain ⟨h1, h2⟩ := forest_mem.1 he
    have h3 := ids_inj (with_ids (without_ids hi _)) h1 ((hm y).2 (Or.inr hy)) hid2
    rw [h3, hk2] at h2; cases h2
  constructor
  · rcases only_spec (forest (withI (withoutI L x.id) x')) (forest (withoutI L x.id)) with ⟨_, h1⟩ | ⟨e, he, h1, h2⟩
    · rw [h1 _ hin] at hout; cases hout
    · rw [h2, hadj.uniq e x' he hin h1 hout, e1]
  · rcases only_spec (forest (withoutI L x.id)) (forest (withI (withoutI L x.id) x')) with ⟨_, h1⟩ | ⟨e, he, h1, h2⟩
    · rw [h1 _ hyin] at hyout; cases hyout
    · rw [h2, hadj.symm.uniq e y he hyin h1 hyout]
end

/-- the edges up to a weight -/
def upI (l : List It) (x : Int) : List It := l.filter (fun e => decide (e.w ≤ x))
theorem up_len (l : List It) (x : Int) : (upI l x).length ≤ l.length := List.length_filter_le _ _
theorem up_ends {n : Nat} {l : List It} (h : Ends n l) (x : Int) : Ends n (upI l x) := fun e he => h e (List.mem_filter.1 he).1
theorem up_ids {l : List It} (h : Ids l) (x : Int) : Ids (upI l x) := h.filter _
theorem up_rng {l : List It} (h : Rng l) (x : Int) : Rng (upI l x) := fun e he => h e (List.mem_filter.1 he).1
theorem up_all {l : List It} {x : Int} (h : ∀ e, e ∈ l → e.w ≤ x) : upI l x = l := List.filter_eq_self.2 fun e he => by simpa using h e he

/-- how many vertices are joined with u -/
def joinN (n : Nat) (l : List It) (u : Int) : Nat := ((List.range n).filter fun (v : Nat) => conn l u v).length
theorem join_snoc (l : List It) (u : Int) (k : Nat) : joinN (k + 1) l u = joinN k l u + if conn l u k then 1 else 0 := by
  unfold joinN
  rw [List.range_succ, List.filter_append, List.length_append, List.filter_cons, List.filter_nil]
  split <;> simp
theorem join_le (l : List It) (u : Int) (k : Nat) : joinN k l u ≤ k := Nat.le_trans (List.length_filter_le _ _) (by simp)
theorem far_apart {n : Nat} {l : List It} (he : Ends n l) {u v : Int} (hu : u < n) (hv : (n : Int) ≤ v) : conn l u v = false := by
  cases hc : conn l u v with
  | false => rfl
  | true =>
    have := (conn_iff l u v).1 hc (fun x => if x < n then 0 else 1) (fun e hel => by
      obtain ⟨_, h1, _, h2⟩ := he e hel
      simp only [if_pos h1, if_pos h2])
    simp only [if_pos hu, if_neg (show ¬ v < n by omega)] at this
    cases this
theorem join_more {n : Nat} {l : List It} (he : Ends n l) {u : Int} (hu : u < n) : ∀ d : Nat, joinN (n + d) l u = joinN n l u := by
  intro d
  induction d with
  | zero => rfl
  | succ d ih =>
    rw [← Nat.add_assoc, join_snoc, ih, far_apart he hu (by omega)]; rfl
theorem join30 {n : Nat} {l : List It} (he : Ends n l) {u : Int} (hu : u < n) (hn : n ≤ 30) : joinN 30 l u = joinN n l u := by
  have := join_more he hu (30 - n)
  rw [show n + (30 - n) = 30 by omega] at this
  exact this

/-- how many vertices bear their own number -/
def ownN (n : Nat) (l : List It) : Nat := ((List.range n).filter fun (v : Nat) => lab l v == (v : Int)).length
theorem own_snoc (l : List It) (k : Nat) : ownN (k + 1) l = ownN k l + if lab l k = (k : Int) then 1 else 0 := by
  unfold ownN
  rw [List.range_succ, List.filter_append, List.length_append, List.filter_cons, List.filter_nil]
  by_cases h : lab l k = (k : Int)
  · simp [h]
  · simp [h]
theorem own_le (l : List It) (k : Nat) : ownN k l ≤ k := Nat.le_trans (List.length_filter_le _ _) (by simp)
theorem lab_idem (l : List It) (x : Int) : lab l (lab l x) = lab l x := lab_sound l (lab l) (lab_edge l) x
theorem lab_rng {n : Nat} : ∀ {l : List It}, Ends n l → ∀ x : Int, 0 ≤ x → x < n → 0 ≤ lab l x ∧ lab l x < n := by
  intro l
  induction l with
  | nil => intro _ x h1 h2; exact ⟨h1, h2⟩
  | cons d l ih =>
    intro he x h1 h2
    have ih' := ih (fun e h => he e (List.mem_cons_of_mem _ h))
    obtain ⟨a, b, c, e⟩ := he d (List.mem_cons_self ..)
    simp only [lab]
    split
    · exact ih' _ a b
    · exact ih' _ h1 h2
theorem own_parts {n : Nat} : ∀ {l : List It}, Ends n l → ownN n l = parts n l := by
  intro l
  induction l with
  | nil =>
    intro _
    rw [parts_nil]
    unfold ownN
    rw [List.filter_eq_self.2 (fun a _ => by simp [lab]), List.length_range]
  | cons x l ih =>
    intro he
    have hel : Ends n l := fun e h => he e (List.mem_cons_of_mem _ h)
    have ih' := ih hel
    obtain ⟨u0, u1, v0, v1⟩ := he x (List.mem_cons_self ..)
    cases hc : conn l x.u x.v with
    | true =>
      rw [parts_joined hc, ← ih']
      have hl : lab l x.u = lab l x.v := by simpa [conn] using hc
      unfold ownN
      congr 1
      refine List.filter_congr fun v _ => ?_
      simp only [lab]
      split
      · rename_i h; rw [hl, h]
      · rfl
    | false =>
      have hl : lab l x.u ≠ lab l x.v := by simpa [conn] using hc
      have h1 := parts_apart u0 u1 v0 v1 hc
      obtain ⟨m0, m1⟩ := lab_rng hel x.v v0 v1
      obtain ⟨m, hm⟩ := Int.eq_ofNat_of_zero_le m0
      have h2 := filter_ne_length n m (fun v => lab l v == (v : Int)) (fun v => lab (x :: l) v == (v : Int)) (by omega) (by
        simp only [beq_iff_eq]; rw [← hm]; exact lab_idem l x.v) (fun t ht => by
        simp only [lab]
        rw [Bool.eq_iff_iff, Bool.and_eq_true, beq_iff_eq, beq_iff_eq]
        by_cases h3 : lab l t = lab l x.v
        · rw [if_pos h3]
          constructor
          · intro h4
            exfalso
            rw [← h4, lab_idem] at h3
            exact hl h3
          · rintro ⟨h4, h5⟩
            exfalso
            rw [h4, hm] at h3
            have h3' : t = m := by omega
            rw [h3'] at h5
            simp at h5
        · rw [if_neg h3]
          constructor
          · intro h4
            refine ⟨h4, ?_⟩
            have : t ≠ m := by
              rintro rfl
              rw [h4, hm] at h3
              exact h3 rfl
            simpa using this
          · rintro ⟨h4, _⟩; exact h4)
      unfold ownN at ih' ⊢
      omega

end Go.Proofs.Ytnnnleckoinjoaa.Pl
