import Derived.Test.YtnnnleckoinjoaaGreatDoorL5
namespace Go.Proofs.YtnnnleckoinjoaaGreatDoor
open Go.RowKit
open Pl (It)

theorem LI.fr {S : Nat → Prop} {w w' : World} {W : Nat} {x0 g0 x1 g1 : Value} {vl vm : Value} {ls ms : List Value} (h : LI w W x0 g0 x1 g1 vl vm ls ms) (hf : Fr S w w')
    (hS : ∀ k c t f, w.heap[k]? = some (.cells c t f) → t = 33 ∨ t = 58 ∨ t = 3 → ¬ S k) : LI w' W x0 g0 x1 g1 vl vm ls ms := by
  refine ⟨?_, ?_, ?_, h.apart, h.len, h.bnd, ?_, ?_⟩
  · rw [hf.block W (lt_of_block h.blk) (hS W _ _ _ h.blk (Or.inl rfl))]; exact h.blk
  · exact row_fr h.hl hf fun k c f hk _ => hS k c _ f hk (Or.inr (Or.inl rfl))
  · exact row_fr h.hm hf fun k c f hk _ => hS k c _ f hk (Or.inr (Or.inl rfl))
  · intro i v hv
    obtain ⟨n, a1, a2⟩ := h.ml i v hv
    exact ⟨n, a1, row_fr a2 hf fun k c f hk _ => hS k c _ f hk (Or.inr (Or.inr rfl))⟩
  · intro i v hv
    obtain ⟨n, a1, a2⟩ := h.mm i v hv
    exact ⟨n, a1, row_fr a2 hf fun k c f hk _ => hS k c _ f hk (Or.inr (Or.inr rfl))⟩
theorem LI.later {w w' : World} {W : Nat} {x0 g0 x1 g1 : Value} {vl vm : Value} {ls ms : List Value} (h : LI w W x0 g0 x1 g1 vl vm ls ms) (hb : Below w.heap.size w w') : LI w' W x0 g0 x1 g1 vl vm ls ms :=
  h.fr (S := fun _ => False) (Fr.of_below hb) fun _ _ _ _ _ _ f => f
theorem LI.old {w : World} {W : Nat} {x0 g0 x1 g1 : Value} {vl vm : Value} {ls ms : List Value} (h : LI w W x0 g0 x1 g1 vl vm ls ms) :
    (∀ (i : Nat) (v : Value), ls[i]? = some v → ∀ k, v.ownBlock = some k → k < w.heap.size) ∧ (∀ (i : Nat) (v : Value), ms[i]? = some v → ∀ k, v.ownBlock = some k → k < w.heap.size) :=
  ⟨fun i v hv k hk => by obtain ⟨n, _, a⟩ := h.ml i v hv; exact (World.ownsRow.lt a k hk).2, fun i v hv k hk => by obtain ⟨n, _, a⟩ := h.mm i v hv; exact (World.ownsRow.lt a k hk).2⟩

/-- what the two lists' end asks for -/
theorem told_end {w w1 w2 w3 : World} {W : Nat} {x0 g0 x1 g1 : Value} {vl vm : Value} {ls ms : List Value} {l : List Int} {a : Option Addr} {cap : Nat} (h : LI w W x0 g0 x1 g1 vl vm ls ms) (hl : l.length ≤ 100) (hcnt : ls.length < 1100000)
    (hN : Nums w1 (w.heap.size + 1 + 1) (.slice a l.length cap) l) (hb1 : Below w.heap.size w w1) (hb2 : Below w1.heap.size w1 w2) {n : Nat} (h3 : w3 = w2.drewN n) :
    Calls Tryz.prog 49 #[P0 W, .slice a l.length cap] w3 fun e w' => e = .returned (.tuple #[]) ∧ ∃ vl' vm' ls' ms', LI w' W x0 g0 x1 g1 vl' vm' ls' ms' ∧ ls'.length = ls.length + 1 ∧ Fr (fun k => k = W ∨ vl.ownBlock = some k ∨ vm.ownBlock = some k) w w' ∧
      (∀ k, vl'.ownBlock = some k → vl.ownBlock = some k ∨ w.heap.size ≤ k) ∧ (∀ k, vm'.ownBlock = some k → vm.ownBlock = some k ∨ w.heap.size ≤ k) := by
  have hz1 := hb1.size
  have hz2 := hb2.size
  have hb3 : Below w.heap.size w w3 := by subst h3; exact below_drewN (hb1.trans (hb2.mono (by omega))) n
  have hN3 : Nums w3 w.heap.size (.slice a l.length cap) l := by subst h3; exact row_mono (row_below hN (below_drewN hb2 n) (Nat.le_refl _)) (by omega)
  refine (keep_any W x0 g0 x1 g1 w.heap.size vl vm ls ms l a cap w3 (h.later hb3) h.old.1 h.old.2 hb3.size hN3 hl hcnt).mono ?_
  rintro e w' ⟨rfl, vl', vm', ls', ms', p1, p2, p3, p4, p5⟩
  refine ⟨rfl, vl', vm', ls', ms', p1, p2, (Fr.of_below hb3).trans' p3 ?_, p4, p5⟩
  rintro k hk (e | e | e | e)
  · exact Or.inl e
  · exact Or.inr (Or.inl e)
  · exact Or.inr (Or.inr e)
  · omega

set_option maxRecDepth 100000 in
set_option maxHeartbeats 4000000 in
theorem told_any (W : Nat) (x0 g0 x1 g1 : Value) (vl vm : Value) (ls ms : List Value) (xb gb : Nat) (s : St) (p : Option Nat) (hs : Ok s) (k : Int) (hk : k = 3 ∨ k = 5) (o : Bool) (a b c d : Int) (sx : ByteArray) (w : World)
    (hx : XG w xb s) (hy : YG w gb s p) (h : LI w W x0 g0 x1 g1 vl vm ls ms) (hcnt : ls.length < 1100000) :
    Calls Tryz.prog 21 #[P0 W, sdv xb gb, opv k o a b c d sx] w fun e w' => e = .returned (.bool true) ∧ ∃ vl' vm' ls' ms', LI w' W x0 g0 x1 g1 vl' vm' ls' ms' ∧ ls'.length = ls.length + 1 ∧ Fr (fun k => k = W ∨ vl.ownBlock = some k ∨ vm.ownBlock = some k) w w' ∧
      (∀ k, vl'.ownBlock = some k → vl.ownBlock = some k ∨ w.heap.size ≤ k) ∧ (∀ k, vm'.ownBlock = some k → vm.ownBlock = some k ∨ w.heap.size ≤ k) := by
  have hx0 := xg_boxes hx (sdo xb gb) (opo k o a b c d sx)
  have hB0 := boxes_below w (sdo xb gb) (opo k o a b c d sx)
  have hy0 := yg_later hy hB0 (Nat.le_refl _)
  have hz0 := size2 w (sdo xb gb) (opo k o a b c d sx)
  have H := hide h
  clear h
  rcases hk with rfl | rfl
  · obtain ⟨l, hl, hp, hr⟩ := live_both s hs
    go_enter Tryz.func21, Tryz.ntmps21
    go_wp2_with fail
    refine (hp _ xb hx0).mono ?_
    rintro e w1 ⟨v1, rfl, hn1, hb1⟩
    obtain ⟨a1, cap1, rfl⟩ := row_form hn1
    rw [hz0] at hb1 hn1
    obtain ⟨b0, b1, b2, b3, _, _⟩ := boxes hb1
    have hs1 : w.heap.size + 1 + 1 ≤ w1.heap.size := by have := hb1.size; rw [hz0] at this; exact this
    have hB1 := hB0.trans (hb1.mono (by omega))
    have hy1 := yg_later hy0 hb1 (by rw [hz0]; omega)
    have HN := hide hn1
    clear hx hy hx0 hy0 hp hb1 hn1
    go_wp2_with fail
    refine (hr _ gb p hy1).mono ?_
    rintro e w2 ⟨v2, rfl, hn2, hb2⟩
    obtain ⟨a2, cap2, rfl⟩ := row_form hn2
    have hn1' : Nums w2 0 (.slice a1 l.length cap1) l := row_mono (row_below (unhide HN) hb2 (Nat.le_refl _)) (Nat.zero_le _)
    have hn2' : Nums w2 0 (.slice a2 l.length cap2) l := row_mono hn2 (Nat.zero_le _)
    have HB := hide (And.intro hB1 hb2)
    clear hr hy1 hb2 hB0 hB1 hn2
    go_wp2_with fail
    refine (same_ints l a1 a2 cap1 cap2 w2 hn1' hn2' (by omega)).mono ?_
    rintro e w3 ⟨rfl, n, h3⟩
    have hkeep := told_end (unhide H) hl hcnt (unhide HN) (unhide HB).1 (unhide HB).2 h3
    clear hn1' hn2' h3
    go_wp2_with fail
    refine hkeep.mono ?_
    rintro e w4 ⟨rfl, hpost⟩
    have HP := hide hpost
    clear hpost hkeep
    go_wp2
    go_ret
    exact ⟨rfl, unhide HP⟩
  · obtain ⟨l, hl, hp, hr⟩ := forest_both s hs
    go_enter Tryz.func21, Tryz.ntmps21
    go_wp2_with fail
    refine (hp _ xb hx0).mono ?_
    rintro e w1 ⟨v1, rfl, hn1, hb1⟩
    obtain ⟨a1, cap1, rfl⟩ := row_form hn1
    rw [hz0] at hb1 hn1
    obtain ⟨b0, b1, b2, b3, _, _⟩ := boxes hb1
    have hs1 : w.heap.size + 1 + 1 ≤ w1.heap.size := by have := hb1.size; rw [hz0] at this; exact this
    have hB1 := hB0.trans (hb1.mono (by omega))
    have hy1 := yg_later hy0 hb1 (by rw [hz0]; omega)
    have HN := hide hn1
    clear hx hy hx0 hy0 hp hb1 hn1
    go_wp2_with fail
    refine (hr _ gb p hy1).mono ?_
    rintro e w2 ⟨v2, rfl, hn2, hb2⟩
    obtain ⟨a2, cap2, rfl⟩ := row_form hn2
    have hn1' : Nums w2 0 (.slice a1 l.length cap1) l := row_mono (row_below (unhide HN) hb2 (Nat.le_refl _)) (Nat.zero_le _)
    have hn2' : Nums w2 0 (.slice a2 l.length cap2) l := row_mono hn2 (Nat.zero_le _)
    have HB := hide (And.intro hB1 hb2)
    clear hr hy1 hb2 hB0 hB1 hn2
    go_wp2_with fail
    refine (same_ints l a1 a2 cap1 cap2 w2 hn1' hn2' (by omega)).mono ?_
    rintro e w3 ⟨rfl, n, h3⟩
    have hkeep := told_end (unhide H) hl hcnt (unhide HN) (unhide HB).1 (unhide HB).2 h3
    clear hn1' hn2' h3
    go_wp2_with fail
    refine hkeep.mono ?_
    rintro e w4 ⟨rfl, hpost⟩
    have HP := hide hpost
    clear hpost hkeep
    go_wp2
    go_ret
    exact ⟨rfl, unhide HP⟩

end Go.Proofs.YtnnnleckoinjoaaGreatDoor
