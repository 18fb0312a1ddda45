import Derived.Test.YtnnnleckoinjoaaGreatDoorL2
namespace Go.Proofs.YtnnnleckoinjoaaGreatDoor
open Go.RowKit
open Pl (It)

theorem yg_fr_x {w w' : World} {xb gb : Nat} {s s2 : St} {p : Option Nat} (hy : YG w gb s p) (hx : XG w xb s2) (hf : Fr (fun k => k = xb) w w') : YG w' gb s p := by
  have hX := PF.row hx
  unfold RowAt at hX
  refine RG.fr hy hf ?_ ?_ ?_
  · rintro k c f hk rfl; rw [hX] at hk; simp at hk
  · rintro rfl
    obtain ⟨vL, vP, hb, _⟩ := hy
    rw [hX] at hb; simp at hb
  · rintro k hk rfl
    obtain ⟨_, cur, hh⟩ := rg_past hy _ hk
    rw [hX] at hh; simp at hh
theorem xg_fr_y {w w' : World} {xb gb : Nat} {s s2 : St} {p : Option Nat} (hx : XG w xb s) (hy : YG w gb s2 p) (hf : Fr (fun k => k = gb ∨ p = some k) w w') : XG w' xb s := by
  have hX := PF.row hx
  unfold RowAt at hX
  refine PF.fr hx hf ?_
  rintro (rfl | h)
  · obtain ⟨vL, vP, hb, _⟩ := hy
    rw [hX] at hb; simp at hb
  · obtain ⟨_, cur, hh⟩ := rg_past hy _ h
    rw [hX] at hh; simp at hh
theorem yg_lt {w : World} {gb : Nat} {s : St} {p : Option Nat} (hy : YG w gb s p) : gb < w.heap.size := by
  obtain ⟨vL, vP, hb, _⟩ := hy
  exact lt_of_block hb

/-- the four blocks that 'changes' lays -/
def cho (w : World) (xb gb : Nat) (k : Int) (o : Bool) (a b c d : Int) (s : ByteArray) : World :=
  (((w.alloc (sdo xb gb)).alloc (opo k o a b c d s)).alloc (.cells #[.int .i64 0, .int .i64 0] 73)).alloc (.cells #[.int .i64 0, .int .i64 0] 73)
theorem cho_size (w : World) (xb gb : Nat) (k : Int) (o : Bool) (a b c d : Int) (s : ByteArray) : (cho w xb gb k o a b c d s).heap.size = w.heap.size + 1 + 1 + 1 + 1 := by
  unfold cho; rw [World.size_alloc, World.size_alloc, World.size_alloc, World.size_alloc]
theorem cho_below (w : World) (xb gb : Nat) (k : Int) (o : Bool) (a b c d : Int) (s : ByteArray) : Below w.heap.size w (cho w xb gb k o a b c d s) :=
  ((boxes_below w _ _).alloc (by rw [size2]; omega) _).alloc (by rw [World.size_alloc, size2]; omega) _
theorem cho_blocks (w : World) (xb gb : Nat) (k : Int) (o : Bool) (a b c d : Int) (s : ByteArray) :
    (cho w xb gb k o a b c d s).heap[w.heap.size]? = some (sdo xb gb) ∧ (cho w xb gb k o a b c d s).heap[w.heap.size + 1]? = some (opo k o a b c d s) ∧
    (cho w xb gb k o a b c d s).heap[w.heap.size + 1 + 1]? = some (.cells #[.int .i64 0, .int .i64 0] 73) ∧ (cho w xb gb k o a b c d s).heap[w.heap.size + 1 + 1 + 1]? = some (.cells #[.int .i64 0, .int .i64 0] 73) := by
  unfold cho
  refine ⟨?_, ?_, ?_, ?_⟩
  · rw [Below.heap_alloc _ _ _ (by rw [World.size_alloc, World.size_alloc, World.size_alloc]; omega), Below.heap_alloc _ _ _ (by rw [World.size_alloc, World.size_alloc]; omega), Below.heap_alloc _ _ _ (by rw [World.size_alloc]; omega)]
    exact heap_alloc_new _ _
  · rw [Below.heap_alloc _ _ _ (by rw [World.size_alloc, World.size_alloc, World.size_alloc]; omega), Below.heap_alloc _ _ _ (by rw [World.size_alloc, World.size_alloc]; omega)]
    have := heap_alloc_new (w.alloc (sdo xb gb)) (opo k o a b c d s)
    rw [World.size_alloc] at this; exact this
  · rw [Below.heap_alloc _ _ _ (by rw [World.size_alloc, World.size_alloc, World.size_alloc]; omega)]
    have := heap_alloc_new ((w.alloc (sdo xb gb)).alloc (opo k o a b c d s)) (.cells #[.int .i64 0, .int .i64 0] 73)
    rw [size2] at this; exact this
  · have := heap_alloc_new (((w.alloc (sdo xb gb)).alloc (opo k o a b c d s)).alloc (.cells #[.int .i64 0, .int .i64 0] 73)) (.cells #[.int .i64 0, .int .i64 0] 73)
    rw [World.size_alloc, size2] at this; exact this

set_option maxRecDepth 100000 in
set_option maxHeartbeats 2000000 in
theorem changes_ins (xb gb : Nat) (s : St) (p : Option Nat) (hs : Ok s) (o : Bool) (a b c d : Int) (hd0 : -9223372036854775808 ≤ d) (hd1 : d ≤ 9223372036854775807) (sx : ByteArray) (w : World) (hx : XG w xb s) (hy : YG w gb s p) :
    Calls Tryz.prog 19 #[sdv xb gb, opv 1 o a b c d sx] w fun e w' => e = .returned (.bool true) ∧ ∃ s' p', Ok s' ∧ XG w' xb s' ∧ YG w' gb s' p' ∧ (p' = p ∨ ∃ k, p' = some k ∧ w.heap.size ≤ k) ∧ Fr (fun k => k = xb ∨ k = gb ∨ p = some k) w w' := by
  obtain ⟨s', ra, rr, q, hok, hp, hr⟩ := insert_both s hs a b c d hd0 hd1
  have hB0 := cho_below w xb gb 1 o a b c d sx
  have hz0 := cho_size w xb gb 1 o a b c d sx
  obtain ⟨k0, k1, k2, k3⟩ := cho_blocks w xb gb 1 o a b c d sx
  have hx0 := xg_later hx hB0 (Nat.le_refl _)
  have hy0 := yg_later hy hB0 (Nat.le_refl _)
  have hxl := (PF.row hx).lt
  have hgl := yg_lt hy
  have hpl := rg_past hy
  go_enter Tryz.func19, Tryz.ntmps19
  go_wp2_with fail
  refine (hp _ xb (by exact hx0)).mono ?_
  rintro e w1 ⟨rfl, hx1, hf1⟩
  have hf1' : Fr (fun k => k = xb) (cho w xb gb 1 o a b c d sx) w1 := hf1
  have j0 := (hf1'.block _ (by rw [hz0]; omega) (by omega)).trans k0
  have j1 := (hf1'.block _ (by rw [hz0]; omega) (by omega)).trans k1
  have j2 := (hf1'.block _ (by rw [hz0]; omega) (by omega)).trans k2
  have j3 := (hf1'.block _ (by rw [hz0]; omega) (by omega)).trans k3
  have hy1 := yg_fr_x hy0 hx0 hf1'
  have hF1 : Fr (fun k => k = xb ∨ k = gb ∨ p = some k) w w1 := (Fr.of_below hB0).trans (hf1'.mono fun _ _ e => Or.inl e)
  obtain ⟨f0, f1, ff⟩ := two_cells j2
  have ff0 := ff 0
  have ff1 := ff 1
  obtain ⟨m0, m1, _⟩ := two_cells j0
  have o2 : w1.cell? ⟨w.heap.size + 1, 2, none⟩ = some (.int .i64 a) := by simp [World.cell?, j1]
  have o3 : w1.cell? ⟨w.heap.size + 1, 3, none⟩ = some (.int .i64 b) := by simp [World.cell?, j1]
  have o4 : w1.cell? ⟨w.heap.size + 1, 4, none⟩ = some (.int .i64 c) := by simp [World.cell?, j1]
  have o5 : w1.cell? ⟨w.heap.size + 1, 5, none⟩ = some (.int .i64 d) := by simp [World.cell?, j1]
  have n1 : ¬ w.heap.size = w.heap.size + 1 + 1 := by omega
  have n2 : ¬ w.heap.size + 1 = w.heap.size + 1 + 1 := by omega
  have n3 : ¬ w.heap.size + 1 + 1 + 1 = w.heap.size + 1 + 1 := by omega
  have n4 : gb ≠ w.heap.size + 1 + 1 := by omega
  -- the first answer is laid down
  have hfs : Fr (fun k => k = w.heap.size + 1 + 1) w1 ((w1.setCell ⟨w.heap.size + 1 + 1, 0, none⟩ (.int .i64 ra)).setCell ⟨w.heap.size + 1 + 1, 1, none⟩ (.int .i64 rr)) := by
    refine Fr.setCell (Fr.setCell (Fr.refl _ _) ?_ _) ?_ _
    · exact Or.inl rfl
    · exact Or.inl rfl
  have hy2 : YG ((w1.setCell ⟨w.heap.size + 1 + 1, 0, none⟩ (.int .i64 ra)).setCell ⟨w.heap.size + 1 + 1, 1, none⟩ (.int .i64 rr)) gb s p := by
    refine RG.fr hy1 hfs ?_ n4 ?_
    · rintro k c f hk rfl; rw [j2] at hk; simp at hk
    · intro k hk e; obtain ⟨hlt, _⟩ := hpl k hk; omega
  have hx2 : XG ((w1.setCell ⟨w.heap.size + 1 + 1, 0, none⟩ (.int .i64 ra)).setCell ⟨w.heap.size + 1 + 1, 1, none⟩ (.int .i64 rr)) xb s' := PF.fr hx1 hfs (by omega)
  have l2 := set_two (x := .int .i64 ra) (y := .int .i64 rr) j2
  have l3 := (hfs.block _ (lt_of_block j3) n3).trans j3
  have hF2 : Fr (fun k => k = xb ∨ k = gb ∨ p = some k) w ((w1.setCell ⟨w.heap.size + 1 + 1, 0, none⟩ (.int .i64 ra)).setCell ⟨w.heap.size + 1 + 1, 1, none⟩ (.int .i64 rr)) := hF1.trans' hfs fun k hk e => by omega
  have HW := hide (And.intro hy2 (And.intro hx2 (And.intro l2 (And.intro l3 hF2))))
  clear hy2 hx2 l2 l3 hF2 hfs hF1 hy1 hx1 hf1 hf1' j0 j1 j2 j3 k0 k1 k2 k3 hx0 hy0 hp hx hy ff
  go_wp2_with fail
  generalize (w1.setCell ⟨w.heap.size + 1 + 1, 0, none⟩ (.int .i64 ra)).setCell ⟨w.heap.size + 1 + 1, 1, none⟩ (.int .i64 rr) = W2 at HW ⊢
  obtain ⟨hy2, hx2, l2, l3, hF2⟩ := unhide HW
  refine (hr _ gb p hy2).mono ?_
  rintro e w3 ⟨rfl, p', hy3, hp', hf3⟩
  have hno : ∀ k, w.heap.size ≤ k → ¬ (k = gb ∨ p = some k) := by
    rintro k hk (e | e)
    · omega
    · obtain ⟨hlt, _⟩ := hpl k e; omega
  have i2 := (hf3.block _ (lt_of_block l2) (hno _ (by omega))).trans l2
  have i3 := (hf3.block _ (lt_of_block l3) (hno _ (by omega))).trans l3
  have hx3 := xg_fr_y hx2 hy2 hf3
  have hF3 : Fr (fun k => k = xb ∨ k = gb ∨ p = some k) w w3 := hF2.trans (hf3.mono fun _ _ e => Or.inr e)
  have hp3 : p' = p ∨ ∃ k, p' = some k ∧ w.heap.size ≤ k := by
    rcases hp' with h | ⟨k, h, h2⟩
    · exact Or.inl h
    · exact Or.inr ⟨k, h, by have := hF2.size; omega⟩
  obtain ⟨t0, t1, _⟩ := two_cells i2
  obtain ⟨v0, v1, vf⟩ := two_cells i3
  have vf0 := vf 0
  have vf1 := vf 1
  have hfs3 : Fr (fun k => k = w.heap.size + 1 + 1 + 1) w3 ((w3.setCell ⟨w.heap.size + 1 + 1 + 1, 0, none⟩ (.int .i64 ra)).setCell ⟨w.heap.size + 1 + 1 + 1, 1, none⟩ (.int .i64 rr)) := by
    refine Fr.setCell (Fr.setCell (Fr.refl _ _) ?_ _) ?_ _
    · exact Or.inl rfl
    · exact Or.inl rfl
  have hy4 : YG ((w3.setCell ⟨w.heap.size + 1 + 1 + 1, 0, none⟩ (.int .i64 ra)).setCell ⟨w.heap.size + 1 + 1 + 1, 1, none⟩ (.int .i64 rr)) gb s' p' := by
    refine RG.fr hy3 hfs3 ?_ (by omega) ?_
    · rintro k c f hk rfl; rw [i3] at hk; simp at hk
    · rintro k hk rfl
      obtain ⟨_, cur, hh⟩ := rg_past hy3 _ hk
      rw [i3] at hh; simp at hh
  have hx4 : XG ((w3.setCell ⟨w.heap.size + 1 + 1 + 1, 0, none⟩ (.int .i64 ra)).setCell ⟨w.heap.size + 1 + 1 + 1, 1, none⟩ (.int .i64 rr)) xb s' := PF.fr hx3 hfs3 (by omega)
  have hF4 : Fr (fun k => k = xb ∨ k = gb ∨ p = some k) w ((w3.setCell ⟨w.heap.size + 1 + 1 + 1, 0, none⟩ (.int .i64 ra)).setCell ⟨w.heap.size + 1 + 1 + 1, 1, none⟩ (.int .i64 rr)) := hF3.trans' hfs3 fun k hk e => by omega
  have HF := hide (And.intro hy4 (And.intro hx4 (And.intro hF4 hp3)))
  clear hy4 hx4 hF4 hp3 hfs3 hF3 hx3 i2 i3 hno hy2 hx2 l2 l3 hF2 HW hy3 hp' hf3 vf hr hpl m0 m1 o2 o3 o4 o5 f0 f1 ff0 ff1
  go_wp2
  go_ret
  obtain ⟨hy4, hx4, hF4, hp3⟩ := unhide HF
  exact ⟨rfl, s', p', hok, hx4, hy4, hp3, hF4⟩

set_option maxRecDepth 100000 in
set_option maxHeartbeats 2000000 in
theorem changes_del (xb gb : Nat) (s : St) (p : Option Nat) (hs : Ok s) (o : Bool) (a b c d : Int) (sx : ByteArray) (w : World) (hx : XG w xb s) (hy : YG w gb s p) :
    Calls Tryz.prog 19 #[sdv xb gb, opv 9 o a b c d sx] w fun e w' => e = .returned (.bool true) ∧ ∃ s' p', Ok s' ∧ XG w' xb s' ∧ YG w' gb s' p' ∧ (p' = p ∨ ∃ k, p' = some k ∧ w.heap.size ≤ k) ∧ Fr (fun k => k = xb ∨ k = gb ∨ p = some k) w w' := by
  obtain ⟨s', ra, rr, q, hok, hp, hr⟩ := delete_both s hs a
  have hB0 := cho_below w xb gb 9 o a b c d sx
  have hz0 := cho_size w xb gb 9 o a b c d sx
  obtain ⟨k0, k1, k2, k3⟩ := cho_blocks w xb gb 9 o a b c d sx
  have hx0 := xg_later hx hB0 (Nat.le_refl _)
  have hy0 := yg_later hy hB0 (Nat.le_refl _)
  have hxl := (PF.row hx).lt
  have hgl := yg_lt hy
  have hpl := rg_past hy
  go_enter Tryz.func19, Tryz.ntmps19
  go_wp2_with fail
  refine (hp _ xb (by exact hx0)).mono ?_
  rintro e w1 ⟨rfl, hx1, hf1⟩
  have hf1' : Fr (fun k => k = xb) (cho w xb gb 9 o a b c d sx) w1 := hf1
  have j0 := (hf1'.block _ (by rw [hz0]; omega) (by omega)).trans k0
  have j1 := (hf1'.block _ (by rw [hz0]; omega) (by omega)).trans k1
  have j2 := (hf1'.block _ (by rw [hz0]; omega) (by omega)).trans k2
  have j3 := (hf1'.block _ (by rw [hz0]; omega) (by omega)).trans k3
  have hy1 := yg_fr_x hy0 hx0 hf1'
  have hF1 : Fr (fun k => k = xb ∨ k = gb ∨ p = some k) w w1 := (Fr.of_below hB0).trans (hf1'.mono fun _ _ e => Or.inl e)
  obtain ⟨f0, f1, ff⟩ := two_cells j2
  have ff0 := ff 0
  have ff1 := ff 1
  obtain ⟨m0, m1, _⟩ := two_cells j0
  have o2 : w1.cell? ⟨w.heap.size + 1, 2, none⟩ = some (.int .i64 a) := by simp [World.cell?, j1]
  have o3 : w1.cell? ⟨w.heap.size + 1, 3, none⟩ = some (.int .i64 b) := by simp [World.cell?, j1]
  have o4 : w1.cell? ⟨w.heap.size + 1, 4, none⟩ = some (.int .i64 c) := by simp [World.cell?, j1]
  have o5 : w1.cell? ⟨w.heap.size + 1, 5, none⟩ = some (.int .i64 d) := by simp [World.cell?, j1]
  have n1 : ¬ w.heap.size = w.heap.size + 1 + 1 := by omega
  have n2 : ¬ w.heap.size + 1 = w.heap.size + 1 + 1 := by omega
  have n3 : ¬ w.heap.size + 1 + 1 + 1 = w.heap.size + 1 + 1 := by omega
  have n4 : gb ≠ w.heap.size + 1 + 1 := by omega
  -- the first answer is laid down
  have hfs : Fr (fun k => k = w.heap.size + 1 + 1) w1 ((w1.setCell ⟨w.heap.size + 1 + 1, 0, none⟩ (.int .i64 ra)).setCell ⟨w.heap.size + 1 + 1, 1, none⟩ (.int .i64 rr)) := by
    refine Fr.setCell (Fr.setCell (Fr.refl _ _) ?_ _) ?_ _
    · exact Or.inl rfl
    · exact Or.inl rfl
  have hy2 : YG ((w1.setCell ⟨w.heap.size + 1 + 1, 0, none⟩ (.int .i64 ra)).setCell ⟨w.heap.size + 1 + 1, 1, none⟩ (.int .i64 rr)) gb s p := by
    refine RG.fr hy1 hfs ?_ n4 ?_
    · rintro k c f hk rfl; rw [j2] at hk; simp at hk
    · intro k hk e; obtain ⟨hlt, _⟩ := hpl k hk; omega
  have hx2 : XG ((w1.setCell ⟨w.heap.size + 1 + 1, 0, none⟩ (.int .i64 ra)).setCell ⟨w.heap.size + 1 + 1, 1, none⟩ (.int .i64 rr)) xb s' := PF.fr hx1 hfs (by omega)
  have l2 := set_two (x := .int .i64 ra) (y := .int .i64 rr) j2
  have l3 := (hfs.block _ (lt_of_block j3) n3).trans j3
  have hF2 : Fr (fun k => k = xb ∨ k = gb ∨ p = some k) w ((w1.setCell ⟨w.heap.size + 1 + 1, 0, none⟩ (.int .i64 ra)).setCell ⟨w.heap.size + 1 + 1, 1, none⟩ (.int .i64 rr)) := hF1.trans' hfs fun k hk e => by omega
  have HW := hide (And.intro hy2 (And.intro hx2 (And.intro l2 (And.intro l3 hF2))))
  clear hy2 hx2 l2 l3 hF2 hfs hF1 hy1 hx1 hf1 hf1' j0 j1 j2 j3 k0 k1 k2 k3 hx0 hy0 hp hx hy ff
  go_wp2_with fail
  generalize (w1.setCell ⟨w.heap.size + 1 + 1, 0, none⟩ (.int .i64 ra)).setCell ⟨w.heap.size + 1 + 1, 1, none⟩ (.int .i64 rr) = W2 at HW ⊢
  obtain ⟨hy2, hx2, l2, l3, hF2⟩ := unhide HW
  refine (hr _ gb p hy2).mono ?_
  rintro e w3 ⟨rfl, p', hy3, hp', hf3⟩
  have hno : ∀ k, w.heap.size ≤ k → ¬ (k = gb ∨ p = some k) := by
    rintro k hk (e | e)
    · omega
    · obtain ⟨hlt, _⟩ := hpl k e; omega
  have i2 := (hf3.block _ (lt_of_block l2) (hno _ (by omega))).trans l2
  have i3 := (hf3.block _ (lt_of_block l3) (hno _ (by omega))).trans l3
  have hx3 := xg_fr_y hx2 hy2 hf3
  have hF3 : Fr (fun k => k = xb ∨ k = gb ∨ p = some k) w w3 := hF2.trans (hf3.mono fun _ _ e => Or.inr e)
  have hp3 : p' = p ∨ ∃ k, p' = some k ∧ w.heap.size ≤ k := by
    rcases hp' with h | ⟨k, h, h2⟩
    · exact Or.inl h
    · exact Or.inr ⟨k, h, by have := hF2.size; omega⟩
  obtain ⟨t0, t1, _⟩ := two_cells i2
  obtain ⟨v0, v1, vf⟩ := two_cells i3
  have vf0 := vf 0
  have vf1 := vf 1
  have hfs3 : Fr (fun k => k = w.heap.size + 1 + 1 + 1) w3 ((w3.setCell ⟨w.heap.size + 1 + 1 + 1, 0, none⟩ (.int .i64 ra)).setCell ⟨w.heap.size + 1 + 1 + 1, 1, none⟩ (.int .i64 rr)) := by
    refine Fr.setCell (Fr.setCell (Fr.refl _ _) ?_ _) ?_ _
    · exact Or.inl rfl
    · exact Or.inl rfl
  have hy4 : YG ((w3.setCell ⟨w.heap.size + 1 + 1 + 1, 0, none⟩ (.int .i64 ra)).setCell ⟨w.heap.size + 1 + 1 + 1, 1, none⟩ (.int .i64 rr)) gb s' p' := by
    refine RG.fr hy3 hfs3 ?_ (by omega) ?_
    · rintro k c f hk rfl; rw [i3] at hk; simp at hk
    · rintro k hk rfl
      obtain ⟨_, cur, hh⟩ := rg_past hy3 _ hk
      rw [i3] at hh; simp at hh
  have hx4 : XG ((w3.setCell ⟨w.heap.size + 1 + 1 + 1, 0, none⟩ (.int .i64 ra)).setCell ⟨w.heap.size + 1 + 1 + 1, 1, none⟩ (.int .i64 rr)) xb s' := PF.fr hx3 hfs3 (by omega)
  have hF4 : Fr (fun k => k = xb ∨ k = gb ∨ p = some k) w ((w3.setCell ⟨w.heap.size + 1 + 1 + 1, 0, none⟩ (.int .i64 ra)).setCell ⟨w.heap.size + 1 + 1 + 1, 1, none⟩ (.int .i64 rr)) := hF3.trans' hfs3 fun k hk e => by omega
  have HF := hide (And.intro hy4 (And.intro hx4 (And.intro hF4 hp3)))
  clear hy4 hx4 hF4 hp3 hfs3 hF3 hx3 i2 i3 hno hy2 hx2 l2 l3 hF2 HW hy3 hp' hf3 vf hr hpl m0 m1 o2 o3 o4 o5 f0 f1 ff0 ff1
  go_wp2
  go_ret
  obtain ⟨hy4, hx4, hF4, hp3⟩ := unhide HF
  exact ⟨rfl, s', p', hok, hx4, hy4, hp3, hF4⟩

set_option maxRecDepth 100000 in
set_option maxHeartbeats 2000000 in
theorem changes_undo (xb gb : Nat) (s : St) (p : Option Nat) (hs : Ok s) (o : Bool) (a b c d : Int) (sx : ByteArray) (w : World) (hx : XG w xb s) (hy : YG w gb s p) :
    Calls Tryz.prog 19 #[sdv xb gb, opv 10 o a b c d sx] w fun e w' => e = .returned (.bool true) ∧ ∃ s' p', Ok s' ∧ XG w' xb s' ∧ YG w' gb s' p' ∧ (p' = p ∨ ∃ k, p' = some k ∧ w.heap.size ≤ k) ∧ Fr (fun k => k = xb ∨ k = gb ∨ p = some k) w w' := by
  obtain ⟨s', ra, rr, q, hok, hp, hr⟩ := undo_both s hs
  have hB0 := cho_below w xb gb 10 o a b c d sx
  have hz0 := cho_size w xb gb 10 o a b c d sx
  obtain ⟨k0, k1, k2, k3⟩ := cho_blocks w xb gb 10 o a b c d sx
  have hx0 := xg_later hx hB0 (Nat.le_refl _)
  have hy0 := yg_later hy hB0 (Nat.le_refl _)
  have hxl := (PF.row hx).lt
  have hgl := yg_lt hy
  have hpl := rg_past hy
  go_enter Tryz.func19, Tryz.ntmps19
  go_wp2_with fail
  refine (hp _ xb (by exact hx0)).mono ?_
  rintro e w1 ⟨rfl, hx1, hf1⟩
  have hf1' : Fr (fun k => k = xb) (cho w xb gb 10 o a b c d sx) w1 := hf1
  have j0 := (hf1'.block _ (by rw [hz0]; omega) (by omega)).trans k0
  have j1 := (hf1'.block _ (by rw [hz0]; omega) (by omega)).trans k1
  have j2 := (hf1'.block _ (by rw [hz0]; omega) (by omega)).trans k2
  have j3 := (hf1'.block _ (by rw [hz0]; omega) (by omega)).trans k3
  have hy1 := yg_fr_x hy0 hx0 hf1'
  have hF1 : Fr (fun k => k = xb ∨ k = gb ∨ p = some k) w w1 := (Fr.of_below hB0).trans (hf1'.mono fun _ _ e => Or.inl e)
  obtain ⟨f0, f1, ff⟩ := two_cells j2
  have ff0 := ff 0
  have ff1 := ff 1
  obtain ⟨m0, m1, _⟩ := two_cells j0
  have o2 : w1.cell? ⟨w.heap.size + 1, 2, none⟩ = some (.int .i64 a) := by simp [World.cell?, j1]
  have o3 : w1.cell? ⟨w.heap.size + 1, 3, none⟩ = some (.int .i64 b) := by simp [World.cell?, j1]
  have o4 : w1.cell? ⟨w.heap.size + 1, 4, none⟩ = some (.int .i64 c) := by simp [World.cell?, j1]
  have o5 : w1.cell? ⟨w.heap.size + 1, 5, none⟩ = some (.int .i64 d) := by simp [World.cell?, j1]
  have n1 : ¬ w.heap.size = w.heap.size + 1 + 1 := by omega
  have n2 : ¬ w.heap.size + 1 = w.heap.size + 1 + 1 := by omega
  have n3 : ¬ w.heap.size + 1 + 1 + 1 = w.heap.size + 1 + 1 := by omega
  have n4 : gb ≠ w.heap.size + 1 + 1 := by omega
  -- the first answer is laid down
  have hfs : Fr (fun k => k = w.heap.size + 1 + 1) w1 ((w1.setCell ⟨w.heap.size + 1 + 1, 0, none⟩ (.int .i64 ra)).setCell ⟨w.heap.size + 1 + 1, 1, none⟩ (.int .i64 rr)) := by
    refine Fr.setCell (Fr.setCell (Fr.refl _ _) ?_ _) ?_ _
    · exact Or.inl rfl
    · exact Or.inl rfl
  have hy2 : YG ((w1.setCell ⟨w.heap.size + 1 + 1, 0, none⟩ (.int .i64 ra)).setCell ⟨w.heap.size + 1 + 1, 1, none⟩ (.int .i64 rr)) gb s p := by
    refine RG.fr hy1 hfs ?_ n4 ?_
    · rintro k c f hk rfl; rw [j2] at hk; simp at hk
    · intro k hk e; obtain ⟨hlt, _⟩ := hpl k hk; omega
  have hx2 : XG ((w1.setCell ⟨w.heap.size + 1 + 1, 0, none⟩ (.int .i64 ra)).setCell ⟨w.heap.size + 1 + 1, 1, none⟩ (.int .i64 rr)) xb s' := PF.fr hx1 hfs (by omega)
  have l2 := set_two (x := .int .i64 ra) (y := .int .i64 rr) j2
  have l3 := (hfs.block _ (lt_of_block j3) n3).trans j3
  have hF2 : Fr (fun k => k = xb ∨ k = gb ∨ p = some k) w ((w1.setCell ⟨w.heap.size + 1 + 1, 0, none⟩ (.int .i64 ra)).setCell ⟨w.heap.size + 1 + 1, 1, none⟩ (.int .i64 rr)) := hF1.trans' hfs fun k hk e => by omega
  have HW := hide (And.intro hy2 (And.intro hx2 (And.intro l2 (And.intro l3 hF2))))
  clear hy2 hx2 l2 l3 hF2 hfs hF1 hy1 hx1 hf1 hf1' j0 j1 j2 j3 k0 k1 k2 k3 hx0 hy0 hp hx hy ff
  go_wp2_with fail
  generalize (w1.setCell ⟨w.heap.size + 1 + 1, 0, none⟩ (.int .i64 ra)).setCell ⟨w.heap.size + 1 + 1, 1, none⟩ (.int .i64 rr) = W2 at HW ⊢
  obtain ⟨hy2, hx2, l2, l3, hF2⟩ := unhide HW
  refine (hr _ gb p hy2).mono ?_
  rintro e w3 ⟨rfl, p', hy3, hp', hf3⟩
  have hno : ∀ k, w.heap.size ≤ k → ¬ (k = gb ∨ p = some k) := by
    rintro k hk (e | e)
    · omega
    · obtain ⟨hlt, _⟩ := hpl k e; omega
  have i2 := (hf3.block _ (lt_of_block l2) (hno _ (by omega))).trans l2
  have i3 := (hf3.block _ (lt_of_block l3) (hno _ (by omega))).trans l3
  have hx3 := xg_fr_y hx2 hy2 hf3
  have hF3 : Fr (fun k => k = xb ∨ k = gb ∨ p = some k) w w3 := hF2.trans (hf3.mono fun _ _ e => Or.inr e)
  have hp3 : p' = p ∨ ∃ k, p' = some k ∧ w.heap.size ≤ k := by
    rcases hp' with h | ⟨k, h, h2⟩
    · exact Or.inl h
    · exact Or.inr ⟨k, h, by have := hF2.size; omega⟩
  obtain ⟨t0, t1, _⟩ := two_cells i2
  obtain ⟨v0, v1, vf⟩ := two_cells i3
  have vf0 := vf 0
  have vf1 := vf 1
  have hfs3 : Fr (fun k => k = w.heap.size + 1 + 1 + 1) w3 ((w3.setCell ⟨w.heap.size + 1 + 1 + 1, 0, none⟩ (.int .i64 ra)).setCell ⟨w.heap.size + 1 + 1 + 1, 1, none⟩ (.int .i64 rr)) := by
    refine Fr.setCell (Fr.setCell (Fr.refl _ _) ?_ _) ?_ _
    · exact Or.inl rfl
    · exact Or.inl rfl
  have hy4 : YG ((w3.setCell ⟨w.heap.size + 1 + 1 + 1, 0, none⟩ (.int .i64 ra)).setCell ⟨w.heap.size + 1 + 1 + 1, 1, none⟩ (.int .i64 rr)) gb s' p' := by
    refine RG.fr hy3 hfs3 ?_ (by omega) ?_
    · rintro k c f hk rfl; rw [i3] at hk; simp at hk
    · rintro k hk rfl
      obtain ⟨_, cur, hh⟩ := rg_past hy3 _ hk
      rw [i3] at hh; simp at hh
  have hx4 : XG ((w3.setCell ⟨w.heap.size + 1 + 1 + 1, 0, none⟩ (.int .i64 ra)).setCell ⟨w.heap.size + 1 + 1 + 1, 1, none⟩ (.int .i64 rr)) xb s' := PF.fr hx3 hfs3 (by omega)
  have hF4 : Fr (fun k => k = xb ∨ k = gb ∨ p = some k) w ((w3.setCell ⟨w.heap.size + 1 + 1 + 1, 0, none⟩ (.int .i64 ra)).setCell ⟨w.heap.size + 1 + 1 + 1, 1, none⟩ (.int .i64 rr)) := hF3.trans' hfs3 fun k hk e => by omega
  have HF := hide (And.intro hy4 (And.intro hx4 (And.intro hF4 hp3)))
  clear hy4 hx4 hF4 hp3 hfs3 hF3 hx3 i2 i3 hno hy2 hx2 l2 l3 hF2 HW hy3 hp' hf3 vf hr hpl m0 m1 o2 o3 o4 o5 f0 f1 ff0 ff1
  go_wp2
  go_ret
  obtain ⟨hy4, hx4, hF4, hp3⟩ := unhide HF
  exact ⟨rfl, s', p', hok, hx4, hy4, hp3, hF4⟩

end Go.Proofs.YtnnnleckoinjoaaGreatDoor
