/- The statement's book. -/
import Derived.Test.YtnnnleckoinjoaaDoorK7
namespace Go.Proofs.YtnnnleckoinjoaaDoor
open Go.RowKit
open Pl (It)

/-- what a frame spares, by the types of the blocks that it does not -/
def Sp (S : Nat → Prop) (w : World) : Prop := ∀ k, S k → ∃ c t, w.heap[k]? = some (.cells c t (0, 0)) ∧ t ≠ 32 ∧ t ≠ 25 ∧ t ≠ 3
theorem Sp.its {S : Nat → Prop} {w w' : World} (h : Sp S w) (hf : Fr S w w') {v : Value} {l : List It} (hi : Its w 0 v l) : Its w' 0 v l :=
  its_fr hi hf (fun k c f hk hs => by
    obtain ⟨c', t, e, h1, _⟩ := h k hs
    rw [e] at hk; simp at hk; exact h1 hk.2.1)
theorem Sp.past {S : Nat → Prop} {w w' : World} (h : Sp S w) (hf : Fr S w w') {v : Value} {p : List (List It)} (hi : PastAt w v p) : PastAt w' v p := by
  refine past_fr hi hf (fun k c f hk hs => by
    obtain ⟨c', t, e, h1, _⟩ := h k hs
    rw [e] at hk; simp at hk; exact h1 hk.2.1) (fun k hk hs => ?_)
  obtain ⟨c', t, e, _, h2, _⟩ := h k hs
  rcases hi with ⟨rfl, _⟩ | ⟨g, off, cap, cur, rfl, h1, _⟩
  · simp [Value.ownBlock] at hk
  · have : g = k := by simpa [Value.ownBlock] using hk
    subst this
    rw [e] at h1; simp at h1; exact h2 h1.2
theorem Sp.nums {S : Nat → Prop} {w w' : World} (h : Sp S w) (hf : Fr S w w') {v : Value} {l : List Int} (hi : Nums w 0 v l) : Nums w' 0 v l :=
  row_fr hi hf (fun k c f hk _ hs => by
    obtain ⟨c', t, e, _, _, h3⟩ := h k hs
    rw [e] at hk; simp at hk; exact h3 hk.2.1)
theorem sp_x {w : World} {xb : Nat} {s : St} (hx : XG w xb s) : Sp (fun k => k = xb) w := by
  rintro k rfl
  have hX := PF.row hx
  unfold RowAt at hX
  exact ⟨_, _, hX, by decide, by decide, by decide⟩
theorem sp_b {w : World} {bb : Nat} {cs : Array Value} (hb : w.heap[bb]? = some (.cells cs 30 (0, 0))) : Sp (fun k => k = bb) w := by
  rintro k rfl
  exact ⟨_, _, hb, by decide, by decide, by decide⟩

abbrev bko (xb n : Nat) (vl vp vm : Value) : Obj := .cells #[P0 xb, .int .i64 n, vl, vp, vm, .bool false] 30 (0, 0)
structure BK (w : World) (bb xb : Nat) (s : St) : Prop where
  book : ∃ vl vp vm, w.heap[bb]? = some (bko xb s.n vl vp vm) ∧ Its w 0 vl s.L ∧ PastAt w vp s.past ∧ Nums w 0 vm ((Pl.forest s.L).map It.id)
  xg : XG w xb s
theorem BK.later {w w' : World} {bb xb : Nat} {s : St} (h : BK w bb xb s) (hb : Below w.heap.size w w') : BK w' bb xb s := by
  obtain ⟨⟨vl, vp, vm, h1, h2, h3, h4⟩, hx⟩ := h
  refine ⟨⟨vl, vp, vm, by rw [hb.block bb (lt_of_block h1)]; exact h1, row_below h2 hb (Nat.le_refl _), ?_, row_below h4 hb (Nat.le_refl _)⟩, PF.later hx hb (Nat.le_refl _)⟩
  exact past_fr h3 (Fr.of_below (S := fun _ => False) hb) (fun _ _ _ _ f => f) (fun _ _ f => f)
theorem BK.ne {w : World} {bb xb : Nat} {s : St} (h : BK w bb xb s) : bb ≠ xb := by
  obtain ⟨⟨vl, vp, vm, h1, _⟩, hx⟩ := h
  rintro rfl
  have hX := PF.row hx
  unfold RowAt at hX
  rw [hX] at h1
  simp at h1

/-- the numbers are few, so that there is always room -/
structure BOk (s : St) : Prop where
  ok : Ok s
  most : s.most = 60
  few : ∀ e, e ∈ s.L → e.id < 24
  fewp : ∀ l, l ∈ s.past → ∀ e, e ∈ l → e.id < 24

theorem few_len : ∀ (l : List It) (a b : Int), Pl.Ids l → (∀ e, e ∈ l → a ≤ e.id ∧ e.id < b) → a ≤ b → (l.length : Int) ≤ b - a := by
  intro l
  induction l with
  | nil => intro a b _ _ h; simp; omega
  | cons x l ih =>
    intro a b hi hr hab
    have hx := hr x (List.mem_cons_self ..)
    have hi' := List.pairwise_cons.1 hi
    have := ih (x.id + 1) b hi'.2 (fun e he => ⟨by have := hi'.1 e he; omega, (hr e (List.mem_cons_of_mem _ he)).2⟩) (by omega)
    simp only [List.length_cons]
    omega
theorem BOk.room {s : St} (h : BOk s) : s.L.length < s.most := by
  have := few_len s.L 0 24 h.ok.gl.ids (fun e he => ⟨(h.ok.gl.rng e he).1, h.few e he⟩) (by omega)
  rw [h.most]; omega
theorem push_mem {past : List (List It)} {L l : List It} (hp : past.length ≤ 20) (h : l ∈ push past L) : l ∈ past ∨ l = L := by
  rw [push_drop past L hp] at h
  rcases List.mem_append.1 h with h | h
  · exact Or.inl (List.mem_of_mem_drop h)
  · exact Or.inr (List.mem_singleton.1 h)
theorem BOk.del {s : St} (h : BOk s) (i : Nat) (h1 : Pl.numB (i : Int) = true) (h4 : Pl.has s.L (i : Int) = true) : BOk (delSt s i) :=
  ⟨h.ok.del i h1 h4, h.most, fun e he => h.few e (Pl.mem_without.1 he).1, fun l hl => by
    rcases push_mem h.ok.past hl with h2 | rfl
    · exact h.fewp l h2
    · exact h.few⟩
theorem BOk.ins {s : St} (h : BOk s) (i : Nat) (hi : i < 24) (u v wt : Int) (h2 : Pl.verB s.n u = true) (h3 : Pl.verB s.n v = true) (h4 : Pl.has s.L (i : Int) = false) (hw0 : -9223372036854775808 ≤ wt) (hw1 : wt ≤ 9223372036854775807) : BOk (insSt s i u v wt) :=
  ⟨h.ok.ins i u v wt (Pl.numB_true.2 (by omega)) h2 h3 h4 h.room hw0 hw1, h.most, fun e he => by
    rcases (Pl.mem_with h4).1 he with rfl | he
    · show (i : Int) < 24; omega
    · exact h.few e he, fun l hl => by
    rcases push_mem h.ok.past hl with h5 | rfl
    · exact h.fewp l h5
    · exact h.few⟩

theorem mem_ids {L : List It} {y : Int} : y ∈ L.map It.id ↔ Pl.has L y = true := by
  rw [List.mem_map, Pl.has_iff]
theorem ids_sorted {L : List It} (h : Pl.Ids L) : (L.map It.id).Pairwise (· < ·) := List.pairwise_map.2 h
theorem told_mine {L L2 : List It} (hadj : Pl.Adj L L2) (hi2 : Pl.Ids L2) (hr2 : Pl.Rng L2) {M' : List Int} (hs : M'.Pairwise (· < ·))
    (hm : ∀ y, y ∈ M' ↔ (y ∈ (Pl.forest L).map It.id ∧ y ≠ Pl.only (Pl.forest L) (Pl.forest L2)) ∨ (y = Pl.only (Pl.forest L2) (Pl.forest L) ∧ Pl.only (Pl.forest L2) (Pl.forest L) ≠ -1)) : M' = (Pl.forest L2).map It.id := by
  refine Pl.sorted_ext _ _ hs (ids_sorted (Pl.forest_ids hi2)) fun y => ?_
  rw [hm, mem_ids, mem_ids, hadj.told hr2 y]
  constructor
  · rintro (h | ⟨h1, h2⟩)
    · exact Or.inl h
    · exact Or.inr ⟨h1, by rw [h1]; exact h2⟩
  · rintro (h | ⟨h1, h2⟩)
    · exact Or.inl h
    · exact Or.inr ⟨h1, by rw [← h1]; exact h2⟩
/-- what is told can be written down -/
theorem told_fits {L L2 : List It} (hr : Pl.Rng L) : Pl.only (Pl.forest L2) (Pl.forest L) ∉ (Pl.forest L).map It.id ∧ (Pl.only (Pl.forest L) (Pl.forest L2) = -1 ∨ Pl.only (Pl.forest L) (Pl.forest L2) ∈ (Pl.forest L).map It.id) := by
  constructor
  · rw [mem_ids]
    intro h
    rcases Pl.only_not (Pl.forest L2) (Pl.forest L) with h1 | ⟨_, h1⟩
    · rw [h1] at h
      obtain ⟨e, he, h2⟩ := Pl.has_iff.1 h
      have := (Pl.forest_rng hr e he).1
      omega
    · rw [h] at h1; cases h1
  · rcases Pl.only_not (Pl.forest L) (Pl.forest L2) with h1 | ⟨h1, _⟩
    · exact Or.inl h1
    · exact Or.inr (mem_ids.2 h1)
theorem Pl.out_is (l : List It) (id : Int) : Pl.outI l id = Pl.withoutI l id := by
  unfold Pl.outI Pl.withoutI
  refine List.filter_congr fun e _ => ?_
  by_cases h : e.id = id <;> simp [h]

/-- the list, what can be taken back and the forest are written down -/
theorem wrote (bb xb : Nat) (s s2 : St) (hs : Ok s) (hs2 : Ok s2) (hn : s2.n = s.n) (hadj : Pl.Adj s.L s2.L) (hps : s2.past = push s.past s.L) (vl vp vm v2 : Value) (w : World) (hb : w.heap[bb]? = some (bko xb s.n vl vp vm)) (h1 : Its w 0 vl s.L) (h2 : PastAt w vp s.past) (h3 : Nums w 0 vm ((Pl.forest s.L).map It.id)) (h4 : Its w 0 v2 s2.L) (hx : XG w xb s2) (hne : bb ≠ xb) :
    Calls Tryd.prog 60 #[P0 bb, v2] w fun e w1 => e = .returned (.tuple #[]) ∧ Fr (fun k => k = bb) w w1 ∧ ∀ w2, Below w1.heap.size w1 w2 →
      Calls Tryd.prog 38 #[P0 bb, .agg #[.int .i64 (Pl.only (Pl.forest s2.L) (Pl.forest s.L)), .int .i64 (Pl.only (Pl.forest s.L) (Pl.forest s2.L))]] w2 fun e w3 => e = .returned (.bool true) ∧ BK w3 bb xb s2 ∧ Fr (fun k => k = bb) w2 w3 := by
  refine (noted_any bb _ _ s.L s2.L s.past vl vp vm _ v2 w hb h1 h2 hs.past h4).mono ?_
  rintro e w1 ⟨rfl, vp', hb1, hp1, hF1⟩
  refine ⟨rfl, hF1, fun w2 hB => ?_⟩
  have h3' := row_below ((sp_b hb).nums hF1 h3) hB (Nat.le_refl _)
  have h4' := row_below ((sp_b hb).its hF1 h4) hB (Nat.le_refl _)
  have hx' : XG w2 xb s2 := PF.later (PF.fr hx hF1 (fun e => hne e.symm)) hB (Nat.le_refl _)
  have hb2 : w2.heap[bb]? = some (bko xb s.n v2 vp' vm) := by rw [hB.block bb (lt_of_block hb1)]; exact hb1
  have hp2 : PastAt w2 vp' (push s.past s.L) := past_fr hp1 (Fr.of_below (S := fun _ => False) hB) (fun _ _ _ _ f => f) (fun _ _ f => f)
  obtain ⟨t1, t2⟩ := told_fits (L := s.L) (L2 := s2.L) hs.gl.rng
  refine (changed_any bb _ _ v2 vp' vm _ _ _ _ w2 hb2 h3' (ids_sorted (Pl.forest_ids hs.gl.ids)) (by rw [List.length_map]; exact Nat.le_trans (List.length_filter_le _ _) hs.l100) t1 t2).mono ?_
  rintro e w3 ⟨rfl, vm', M', hb3, hN3, hS3, hm3, hF3⟩
  have hM := told_mine hadj hs2.gl.ids hs2.gl.rng hS3 hm3
  rw [hM] at hN3
  refine ⟨rfl, ⟨⟨v2, vp', vm', by rw [hn]; exact hb3, (sp_b hb2).its hF3 h4', by rw [hps]; exact (sp_b hb2).past hF3 hp2, hN3⟩, PF.fr hx' hF3 (fun e => hne e.symm)⟩, hF3⟩

end Go.Proofs.YtnnnleckoinjoaaDoor
