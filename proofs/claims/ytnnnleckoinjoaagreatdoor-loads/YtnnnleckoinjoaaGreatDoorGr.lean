/- What a call leaves as it was, whatever it writes; the reference's graph in memory. -/
import Derived.Test.YtnnnleckoinjoaaGreatDoorRep
namespace Go.Proofs.YtnnnleckoinjoaaGreatDoor
open Go.RowKit
open Pl (It)

/-- of the blocks that were there those outside S are as they were -/
structure Fr (S : Nat → Prop) (w w' : World) : Prop where
  os : w'.os = w.os
  tape : w'.tape = w.tape
  output : w'.output = w.output
  size : w.heap.size ≤ w'.heap.size
  block : ∀ k, k < w.heap.size → ¬ S k → w'.heap[k]? = w.heap[k]?

theorem Fr.refl (S : Nat → Prop) (w : World) : Fr S w w := ⟨rfl, rfl, rfl, Nat.le_refl _, fun _ _ _ => rfl⟩
theorem Fr.of_below {S : Nat → Prop} {w w' : World} (h : Below w.heap.size w w') : Fr S w w' := ⟨h.os, h.tape, h.output, h.size, fun k hk _ => h.block k hk⟩
theorem Fr.below {w w' : World} (h : Fr (fun _ => False) w w') : Below w.heap.size w w' := ⟨h.os, h.tape, h.output, h.size, fun k hk => h.block k hk (fun f => f)⟩
theorem Fr.trans' {S S' : Nat → Prop} {a b c : World} (h : Fr S a b) (k : Fr S' b c) (hS : ∀ k, k < a.heap.size → S' k → S k) : Fr S a c :=
  ⟨k.os.trans h.os, k.tape.trans h.tape, k.output.trans h.output, Nat.le_trans h.size k.size, fun i hi hn => (k.block i (Nat.lt_of_lt_of_le hi h.size) (fun s => hn (hS i hi s))).trans (h.block i hi hn)⟩
theorem Fr.trans {S : Nat → Prop} {a b c : World} (h : Fr S a b) (k : Fr S b c) : Fr S a c := h.trans' k fun _ _ s => s
theorem Fr.mono {S S' : Nat → Prop} {w w' : World} (h : Fr S w w') (hS : ∀ k, k < w.heap.size → S k → S' k) : Fr S' w w' :=
  ⟨h.os, h.tape, h.output, h.size, fun k hk hn => h.block k hk (fun s => hn (hS k hk s))⟩
theorem Fr.setCell {S : Nat → Prop} {a w : World} (h : Fr S a w) {p : Addr} (hp : S p.block ∨ a.heap.size ≤ p.block) (u : Value) : Fr S a (w.setCell p u) :=
  h.trans' (S' := fun k => k = p.block) ⟨rfl, rfl, rfl, by simp [World.setCell], fun k _ hn => Below.heap_setCell _ _ _ _ hn⟩ fun k hk e => by
    subst e; rcases hp with hp | hp
    · exact hp
    · omega
theorem Fr.alloc {S : Nat → Prop} {a w : World} (h : Fr S a w) (o : Obj) : Fr S a (w.alloc o) :=
  h.trans ⟨rfl, rfl, rfl, by simp, fun k hk _ => Below.heap_alloc _ _ _ hk⟩
theorem Fr.drew {S : Nat → Prop} {a w : World} (h : Fr S a w) : Fr S a w.drew := ⟨h.os, h.tape, h.output, h.size, h.block⟩
theorem Fr.drewN {S : Nat → Prop} {a w : World} (h : Fr S a w) (n : Nat) : Fr S a (w.drewN n) := h.trans ⟨rfl, rfl, rfl, Nat.le_refl _, fun _ _ _ => rfl⟩
theorem Fr.later {S : Nat → Prop} {a w w' : World} (h : Fr S a w) (hb : Below w.heap.size w w') : Fr S a w' := h.trans (Fr.of_below hb)
theorem Fr.grown {S : Nat → Prop} {a w w' : World} {row : Option Nat} (h : Fr S a w) (hg : w.grownBy w' row) (hr : ∀ k, row = some k → S k ∨ a.heap.size ≤ k) : Fr S a w' :=
  h.trans' (S' := fun k => row = some k) ⟨hg.os, hg.tape, hg.output, hg.size, fun k hk hn => hg.block k hk fun e => hn e.symm⟩ fun k hk e => by
    rcases hr k e with h | h
    · exact h
    · omega

theorem row_fr {S : Nat → Prop} {w w' : World} {base e size : Nat} {v : Value} {n : Nat} {xs : List Value} (h : w.ownsRow base e size v n xs) (hf : Fr S w w') (hS : ∀ k c f, w.heap[k]? = some (.cells c e f) → v.ownBlock = some k → ¬ S k) : w'.ownsRow base e size v n xs := by
  obtain ⟨h1, h2⟩ := h
  refine ⟨h1, ?_⟩
  rcases h2 with h2 | ⟨g, cap, cur, hv, hg, hh, r⟩
  · exact Or.inl h2
  · exact Or.inr ⟨g, cap, cur, hv, hg, by rw [hf.block g (lt_of_block hh) (hS g _ _ hh (by rw [hv]; rfl))]; exact hh, r⟩

/-- no list of edges lies in S -/
def NoIt (S : Nat → Prop) (w : World) : Prop := ∀ k c f, w.heap[k]? = some (.cells c 97 f) → ¬ S k
theorem its_fr {S : Nat → Prop} {w w' : World} {base : Nat} {v : Value} {l : List It} (h : Its w base v l) (hf : Fr S w w') (hS : NoIt S w) : Its w' base v l :=
  row_fr h hf fun k c f hk _ => hS k c f hk

/-- the lists that can be taken back -/
def PastAt (w : World) (v : Value) (past : List (List It)) : Prop :=
  (v = .slice none 0 0 ∧ past = []) ∨ ∃ g off cap cur, v = .slice (some ⟨g, off, none⟩) past.length cap ∧ w.heap[g]? = some (.cells cur 76 (0, 0)) ∧ past.length ≤ cap ∧ off + cap ≤ cur.size ∧ cap ≤ maxLen ∧
    ∀ j (h : j < past.length), ∃ vj, cur[off + j]? = some vj ∧ Its w 0 vj past[j]

/-- the reference's graph, at block b; p: the block of what can be taken back -/
def RG (w : World) (b : Nat) (n most : Nat) (L : List It) (past : List (List It)) (p : Option Nat) : Prop :=
  ∃ vL vP, w.heap[b]? = some (.cells #[.int .i64 n, .int .i64 most, vL, vP] 79 (0, 0)) ∧ Its w 0 vL L ∧ PastAt w vP past ∧ vP.ownBlock = p

theorem past_fr {S : Nat → Prop} {w w' : World} {v : Value} {past : List (List It)} (h : PastAt w v past) (hf : Fr S w w') (hS : NoIt S w) (hp : ∀ k, v.ownBlock = some k → ¬ S k) : PastAt w' v past := by
  rcases h with h | ⟨g, off, cap, cur, hv, hh, h1, h2, h2', h3⟩
  · exact Or.inl h
  · refine Or.inr ⟨g, off, cap, cur, hv, ?_, h1, h2, h2', fun j hj => ?_⟩
    · rw [hf.block g (lt_of_block hh) (hp g (by rw [hv]; rfl))]; exact hh
    · obtain ⟨vj, e1, e2⟩ := h3 j hj
      exact ⟨vj, e1, its_fr e2 hf hS⟩
theorem RG.fr {S : Nat → Prop} {w w' : World} {b n most : Nat} {L : List It} {past : List (List It)} {p : Option Nat} (h : RG w b n most L past p) (hf : Fr S w w') (hS : NoIt S w) (hb : ¬ S b) (hp : ∀ k, p = some k → ¬ S k) : RG w' b n most L past p := by
  obtain ⟨vL, vP, h1, h2, h3, h4⟩ := h
  exact ⟨vL, vP, by rw [hf.block b (lt_of_block h1) hb]; exact h1, its_fr h2 hf hS, past_fr h3 hf hS (fun k hk => hp k (by rw [← h4]; exact hk)), h4⟩
theorem RG.later {w w' : World} {b n most : Nat} {L : List It} {past : List (List It)} {p : Option Nat} (h : RG w b n most L past p) (hb : Below w.heap.size w w') : RG w' b n most L past p :=
  h.fr (Fr.of_below (S := fun _ => False) hb) (fun _ _ _ _ f => f) (fun f => f) (fun _ _ f => f)

theorem four_cells {w : World} {b t : Nat} {v0 v1 v2 v3 : Value} (h : w.heap[b]? = some (.cells #[v0, v1, v2, v3] t (0, 0))) :
    w.cell? ⟨b, 0, none⟩ = some v0 ∧ w.cell? ⟨b, 1, none⟩ = some v1 ∧ w.cell? ⟨b, 2, none⟩ = some v2 ∧ w.cell? ⟨b, 3, none⟩ = some v3 ∧ ∀ j, w.frozen? ⟨b, j, none⟩ = false := by
  refine ⟨by simp [World.cell?, h], by simp [World.cell?, h], by simp [World.cell?, h], by simp [World.cell?, h], fun j => by simp [World.frozen?, h]⟩

theorem two_cells {w : World} {b t : Nat} {v0 v1 : Value} (h : w.heap[b]? = some (.cells #[v0, v1] t (0, 0))) :
    w.cell? ⟨b, 0, none⟩ = some v0 ∧ w.cell? ⟨b, 1, none⟩ = some v1 ∧ ∀ j, w.frozen? ⟨b, j, none⟩ = false :=
  ⟨by simp [World.cell?, h], by simp [World.cell?, h], fun j => by simp [World.frozen?, h]⟩
theorem three_cells {w : World} {b t : Nat} {v0 v1 v2 : Value} (h : w.heap[b]? = some (.cells #[v0, v1, v2] t (0, 0))) :
    w.cell? ⟨b, 0, none⟩ = some v0 ∧ w.cell? ⟨b, 1, none⟩ = some v1 ∧ w.cell? ⟨b, 2, none⟩ = some v2 ∧ ∀ j, w.frozen? ⟨b, j, none⟩ = false :=
  ⟨by simp [World.cell?, h], by simp [World.cell?, h], by simp [World.cell?, h], fun j => by simp [World.frozen?, h]⟩
/-- a block that the call made is there as long as nobody wrote to it -/
theorem made_later {w w2 : World} {o : Obj} {B : Nat} (hb : Below B (w.alloc o) w2) (hB : w.heap.size < B) : w2.heap[w.heap.size]? = some o := by
  rw [hb.block _ hB]
  exact heap_alloc_new w o

theorem set_two {w : World} {b t : Nat} {x0 y0 x y : Value} (h : w.heap[b]? = some (.cells #[x0, y0] t (0, 0))) :
    ((w.setCell ⟨b, 0, none⟩ x).setCell ⟨b, 1, none⟩ y).heap[b]? = some (.cells #[x, y] t (0, 0)) := by
  have h1 := heap_setCell_same w b 0 _ _ x h
  have h2 := heap_setCell_same _ b 1 _ _ y h1
  rw [h2]; rfl

/-- what can be taken back, behind one change more -/
def push (past : List (List It)) (L : List It) : List (List It) := if (past ++ [L]).length > 20 then (past ++ [L]).tail else past ++ [L]

end Go.Proofs.YtnnnleckoinjoaaGreatDoor
