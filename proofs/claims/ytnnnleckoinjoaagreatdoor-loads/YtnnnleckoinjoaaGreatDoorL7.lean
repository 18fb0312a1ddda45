import Derived.Test.YtnnnleckoinjoaaGreatDoorL6
namespace Go.Proofs.YtnnnleckoinjoaaGreatDoor
open Go.RowKit
open Pl (It)

theorem Fr.lowB {S : Nat → Prop} {w w' : World} {B : Nat} (h : Fr S w w') (hB : B ≤ w.heap.size) (hS : ∀ k, S k → B ≤ k) : Below B w w' :=
  ⟨h.os, h.tape, h.output, h.size, fun k hk => h.block k (by omega) fun e => by have := hS k e; omega⟩

/-- the statement's world, both sides and the lists -/
structure TW (B : Nat) (w : World) (W x0 g0 x1 g1 : Nat) (vl vm : Value) (ls ms : List Value) (s0 s1 : St) (p0 p1 : Option Nat) : Prop where
  li : LI w W (P0 x0) (P0 g0) (P0 x1) (P0 g1) vl vm ls ms
  k0 : Ok s0
  k1 : Ok s1
  a0 : XG w x0 s0
  b0 : YG w g0 s0 p0
  a1 : XG w x1 s1
  b1 : YG w g1 s1 p1
  nx : x0 ≠ x1
  ng : g0 ≠ g1
  np : ∀ k, p0 = some k → p1 = some k → False
  lo : B ≤ W ∧ B ≤ x0 ∧ B ≤ g0 ∧ B ≤ x1 ∧ B ≤ g1
  lp : ∀ k, p0 = some k ∨ p1 = some k → B ≤ k
  lv : ∀ k, vl.ownBlock = some k ∨ vm.ownBlock = some k → B ≤ k
  hB : B ≤ w.heap.size

/-- the blocks of a side are of the graphs' own types -/
theorem side_ty {w : World} {xb gb : Nat} {s : St} {p : Option Nat} (hx : XG w xb s) (hy : YG w gb s p) {k : Nat} {c : Array Value} {t : Nat} {f : Nat × Nat} (hk : w.heap[k]? = some (.cells c t f)) (h : k = xb ∨ k = gb ∨ p = some k) : t = 57 ∨ t = 79 ∨ t = 76 := by
  rcases h with rfl | rfl | h
  · have hX := PF.row hx
    unfold RowAt at hX
    rw [hk] at hX; simp at hX; exact Or.inl hX.2.1
  · obtain ⟨vL, vP, hb, _⟩ := hy
    rw [hk] at hb; simp at hb; exact Or.inr (Or.inl hb.2.1)
  · obtain ⟨_, cur, hh⟩ := rg_past hy _ h
    rw [hk] at hh; simp at hh; exact Or.inr (Or.inr hh.2.1)
theorem side_fr {w w' : World} {xb gb x2 g2 : Nat} {s s2 : St} {p p2 : Option Nat} (hx : XG w xb s) (hy : YG w gb s p) (hx2 : XG w x2 s2) (hy2 : YG w g2 s2 p2) (nx : x2 ≠ xb) (ng : g2 ≠ gb) (np : ∀ k, p = some k → p2 = some k → False)
    (hf : Fr (fun k => k = xb ∨ k = gb ∨ p = some k) w w') : XG w' x2 s2 ∧ YG w' g2 s2 p2 := by
  have hX := PF.row hx2
  unfold RowAt at hX
  obtain ⟨vL, vP, hb, _⟩ := id hy2
  constructor
  · refine PF.fr hx2 hf ?_
    rintro (e | e | e)
    · exact nx e
    · subst e
      obtain ⟨_, _, hb', _⟩ := hy
      rw [hX] at hb'; simp at hb'
    · obtain ⟨_, cur, hh⟩ := rg_past hy _ e
      rw [hX] at hh; simp at hh
  · refine RG.fr hy2 hf ?_ ?_ ?_
    · intro k c f hk e
      rcases side_ty hx hy hk e with e | e | e <;> cases e
    · rintro (e | e | e)
      · subst e
        have hX' := PF.row hx
        unfold RowAt at hX'
        rw [hb] at hX'; simp at hX'
      · exact ng e
      · obtain ⟨_, cur, hh⟩ := rg_past hy _ e
        rw [hb] at hh; simp at hh
    · rintro k hk (e | e | e)
      · subst e
        have hX' := PF.row hx
        unfold RowAt at hX'
        obtain ⟨_, cur, hh⟩ := rg_past hy2 _ hk
        rw [hX'] at hh; simp at hh
      · subst e
        obtain ⟨_, _, hb', _⟩ := hy
        obtain ⟨_, cur, hh⟩ := rg_past hy2 _ hk
        rw [hb'] at hh; simp at hh
      · exact np k e hk

section
variable {B : Nat} {w w' : World} {W x0 g0 x1 g1 : Nat} {vl vm vl' vm' : Value} {ls ms ls' ms' : List Value} {s0 s1 s' : St} {p0 p1 p' : Option Nat}

theorem TW.later (h : TW B w W x0 g0 x1 g1 vl vm ls ms s0 s1 p0 p1) (hb : Below w.heap.size w w') : TW B w' W x0 g0 x1 g1 vl vm ls ms s0 s1 p0 p1 :=
  ⟨h.li.later hb, h.k0, h.k1, xg_later h.a0 hb (Nat.le_refl _), yg_later h.b0 hb (Nat.le_refl _), xg_later h.a1 hb (Nat.le_refl _), yg_later h.b1 hb (Nat.le_refl _), h.nx, h.ng, h.np, h.lo, h.lp, h.lv, Nat.le_trans h.hB hb.size⟩

theorem TW.told (h : TW B w W x0 g0 x1 g1 vl vm ls ms s0 s1 p0 p1) (hl : LI w' W (P0 x0) (P0 g0) (P0 x1) (P0 g1) vl' vm' ls' ms') (hf : Fr (fun k => k = W ∨ vl.ownBlock = some k ∨ vm.ownBlock = some k) w w')
    (h1 : ∀ k, vl'.ownBlock = some k → vl.ownBlock = some k ∨ w.heap.size ≤ k) (h2 : ∀ k, vm'.ownBlock = some k → vm.ownBlock = some k ∨ w.heap.size ≤ k) :
    TW B w' W x0 g0 x1 g1 vl' vm' ls' ms' s0 s1 p0 p1 ∧ Below B w w' := by
  have hB := h.hB
  have ty : ∀ {k c t f}, w.heap[k]? = some (.cells c t f) → (k = W ∨ vl.ownBlock = some k ∨ vm.ownBlock = some k) → t = 33 ∨ t = 58 := by
    intro k c t f hk e
    rcases e with rfl | e | e
    · have := h.li.blk; rw [hk] at this; simp at this; exact Or.inl this.2.1
    · obtain ⟨cur, hh⟩ := own_ty h.li.hl k e; rw [hk] at hh; simp at hh; exact Or.inr hh.2.1
    · obtain ⟨cur, hh⟩ := own_ty h.li.hm k e; rw [hk] at hh; simp at hh; exact Or.inr hh.2.1
  have kx : ∀ {b : Nat} {s : St}, XG w b s → XG w' b s := by
    intro b s hx
    have hX := PF.row hx
    unfold RowAt at hX
    refine PF.fr hx hf fun e => ?_
    rcases ty hX e with e | e <;> cases e
  have ky : ∀ {b : Nat} {s : St} {p : Option Nat}, YG w b s p → YG w' b s p := by
    intro b s p hy
    refine RG.fr hy hf ?_ ?_ ?_
    · intro k c f hk e
      rcases ty hk e with e | e <;> cases e
    · intro e
      obtain ⟨vL, vP, hb, _⟩ := hy
      rcases ty hb e with e | e <;> cases e
    · intro k hk e
      obtain ⟨_, cur, hh⟩ := rg_past hy _ hk
      rcases ty hh e with e | e <;> cases e
  refine ⟨⟨hl, h.k0, h.k1, kx h.a0, ky h.b0, kx h.a1, ky h.b1, h.nx, h.ng, h.np, h.lo, h.lp, ?_, Nat.le_trans h.hB hf.size⟩, hf.lowB h.hB ?_⟩
  · rintro k (e | e)
    · rcases h1 k e with e | e
      · exact h.lv k (Or.inl e)
      · omega
    · rcases h2 k e with e | e
      · exact h.lv k (Or.inr e)
      · omega
  · rintro k (rfl | e | e)
    · exact h.lo.1
    · exact h.lv k (Or.inl e)
    · exact h.lv k (Or.inr e)

theorem TW.side0 (h : TW B w W x0 g0 x1 g1 vl vm ls ms s0 s1 p0 p1) (hk : Ok s') (hx : XG w' x0 s') (hy : YG w' g0 s' p') (hp : p' = p0 ∨ ∃ k, p' = some k ∧ w.heap.size ≤ k) (hf : Fr (fun k => k = x0 ∨ k = g0 ∨ p0 = some k) w w') :
    TW B w' W x0 g0 x1 g1 vl vm ls ms s' s1 p' p1 ∧ Below B w w' := by
  have hB := h.hB
  obtain ⟨q1, q2⟩ := side_fr h.a0 h.b0 h.a1 h.b1 h.nx.symm h.ng.symm h.np hf
  refine ⟨⟨h.li.fr hf ?_, hk, h.k1, hx, hy, q1, q2, h.nx, h.ng, ?_, h.lo, ?_, h.lv, Nat.le_trans h.hB hf.size⟩, hf.lowB h.hB ?_⟩
  · intro k c t f hk ht e
    rcases side_ty h.a0 h.b0 hk e with e | e | e <;> subst e <;> simp at ht
  · intro k e1 e2
    rcases hp with e | ⟨k', e, hk'⟩
    · exact h.np k (e ▸ e1) e2
    · rw [e] at e1; cases e1
      have := (rg_past h.b1 _ e2).1; omega
  · rintro k (e1 | e1)
    · rcases hp with e | ⟨k', e, hk'⟩
      · exact h.lp k (Or.inl (e ▸ e1))
      · rw [e] at e1; cases e1; omega
    · exact h.lp k (Or.inr e1)
  · rintro k (rfl | rfl | e)
    · exact h.lo.2.1
    · exact h.lo.2.2.1
    · exact h.lp k (Or.inl e)

theorem TW.side1 (h : TW B w W x0 g0 x1 g1 vl vm ls ms s0 s1 p0 p1) (hk : Ok s') (hx : XG w' x1 s') (hy : YG w' g1 s' p') (hp : p' = p1 ∨ ∃ k, p' = some k ∧ w.heap.size ≤ k) (hf : Fr (fun k => k = x1 ∨ k = g1 ∨ p1 = some k) w w') :
    TW B w' W x0 g0 x1 g1 vl vm ls ms s0 s' p0 p' ∧ Below B w w' := by
  have hB := h.hB
  obtain ⟨q1, q2⟩ := side_fr h.a1 h.b1 h.a0 h.b0 h.nx h.ng (fun k a b => h.np k b a) hf
  refine ⟨⟨h.li.fr hf ?_, h.k0, hk, q1, q2, hx, hy, h.nx, h.ng, ?_, h.lo, ?_, h.lv, Nat.le_trans h.hB hf.size⟩, hf.lowB h.hB ?_⟩
  · intro k c t f hk ht e
    rcases side_ty h.a1 h.b1 hk e with e | e | e <;> subst e <;> simp at ht
  · intro k e1 e2
    rcases hp with e | ⟨k', e, hk'⟩
    · exact h.np k e1 (e ▸ e2)
    · rw [e] at e2; cases e2
      have := (rg_past h.b0 _ e1).1; omega
  · rintro k (e1 | e1)
    · exact h.lp k (Or.inl e1)
    · rcases hp with e | ⟨k', e, hk'⟩
      · exact h.lp k (Or.inr (e ▸ e1))
      · rw [e] at e1; cases e1; omega
  · rintro k (rfl | rfl | e)
    · exact h.lo.2.2.2.1
    · exact h.lo.2.2.2.2
    · exact h.lp k (Or.inr e)
end

end Go.Proofs.YtnnnleckoinjoaaGreatDoor
