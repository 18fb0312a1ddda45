import Derived.Test.YtnnnleckoinjoaaGreatDoorP16
namespace Go.Proofs.YtnnnleckoinjoaaGreatDoor
open Go.RowKit
open Pl (It)

abbrev slv (s : Sl) : Value := .agg #[.int .i64 s.it.id, .bool s.live, .int .i64 s.it.u, .int .i64 s.it.v, .int .i64 s.it.w]

theorem infoSlot : (Tryz.prog.info? 54).map (·.size) = some 5 := by kernel_rfl
theorem slc_one (s : Sl) : ∀ v ∈ slc s, v.oneCell' = true := by
  intro v hv; simp [slc] at hv; rcases hv with rfl | rfl | rfl | rfl | rfl <;> rfl

theorem RowAt.drew {w : World} {b t : Nat} {xs : List Value} (h : RowAt w b t xs) : RowAt w.drew b t xs := h
theorem slot_row {w : World} {q t b : Nat} {xs : List Value} (h : RowAt w q t xs) (hq : q ≠ b) (o : Nat) (v0 v1 v2 v3 v4 : Value) : RowAt (((((w.setCell ⟨b, o, none⟩ v0).setCell ⟨b, o + 1, none⟩ v1).setCell ⟨b, o + 2, none⟩ v2).setCell ⟨b, o + 3, none⟩ v3).setCell ⟨b, o + 4, none⟩ v4) q t xs := by
  have h1 := h.other ⟨b, o, none⟩ v0 hq
  have h2 := h1.other ⟨b, o + 1, none⟩ v1 hq
  have h3 := h2.other ⟨b, o + 2, none⟩ v2 hq
  have h4 := h3.other ⟨b, o + 3, none⟩ v3 hq
  exact h4.other ⟨b, o + 4, none⟩ v4 hq

set_option maxRecDepth 100000 in
set_option maxHeartbeats 4000000 in
theorem recall_any (b n most : Nat) (live : List Bool) (ed : List It) (sl : List Sl) (k : Nat) (hs : sl.length = 20) (hk : k < 20) (s : Sl) (hsk : sl[k]? = some s) (w : World) (hG : PF w b n most live ed (pcells sl (k + 1))) :
    Calls Tryz.prog 79 #[.pointer (some ⟨b, 0, none⟩)] w fun e w' => e = .returned (slv s) ∧ PF w' b n most live ed (pcells (sl.set k zeroSl) k) ∧ Fr (fun k => k = b) w w' := by
  have hbl := hG.row.lt
  have hbne : ¬ b = w.heap.size := by omega
  have hbne2 : ¬ w.heap.size = b := by omega
  have hbne3 : ¬ b = w.heap.size + 1 := by omega
  have hbne4 : ¬ w.heap.size + 1 = b := by omega
  have hk1 : (k : Int) < 20 := by omega
  have hk0 : ((k + 1 : Nat) : Int) - 1 = k := by omega
  have hcn := hG.count hs
  have hfz := hG.row.free 502
  have hz0 : (w.setCell ⟨b, 502, none⟩ (.int .i64 k)).heap.size = w.heap.size := by simp [World.setCell]
  have hG2 := (hG.setCount hs k).alloc (.cells #[.int .i64 0, .bool false, .int .i64 0, .int .i64 0, .int .i64 0] 54)
  have hF2 : Fr (fun k => k = b) w ((w.setCell ⟨b, 502, none⟩ (.int .i64 k)).alloc (.cells #[.int .i64 0, .bool false, .int .i64 0, .int .i64 0, .int .i64 0] 54)) := ((Fr.refl (fun k => k = b) w).setCell (p := ⟨b, 502, none⟩) (Or.inl rfl) (.int .i64 k)).alloc _
  have hr2 : RowAt ((w.setCell ⟨b, 502, none⟩ (.int .i64 k)).alloc (.cells #[.int .i64 0, .bool false, .int .i64 0, .int .i64 0, .int .i64 0] 54)) w.heap.size 54 (slc zeroSl) := by
    have := row_new (w.setCell ⟨b, 502, none⟩ (.int .i64 k)) 54 (slc zeroSl)
    rw [hz0] at this; exact this
  have hz2 : ((w.setCell ⟨b, 502, none⟩ (.int .i64 k)).alloc (.cells #[.int .i64 0, .bool false, .int .i64 0, .int .i64 0, .int .i64 0] 54)).heap.size = w.heap.size + 1 := by rw [World.size_alloc, hz0]
  have H := hide (And.intro hG2 (And.intro hF2 (And.intro hr2 hz2)))
  clear hG hG2 hF2 hr2 hz2 hz0
  go_enter Tryz.func79, Tryz.ntmps79
  go_wp2_with fail
  generalize ((w.setCell ⟨b, 502, none⟩ (.int .i64 k)).alloc (.cells #[.int .i64 0, .bool false, .int .i64 0, .int .i64 0, .int .i64 0] 54)) = W2 at *
  obtain ⟨hG2, hF2, hr2, hz2⟩ := unhide H
  have hb2 := hG2.row.lt
  have hcn2 := hG2.count hs
  obtain ⟨c0, c1, c2, c3, c4⟩ := hG2.slot k s hsk
  have e1 : ¬ b = W2.heap.size := by omega
  have e2 : ¬ W2.heap.size = b := by omega
  have e3 : ¬ W2.heap.size = w.heap.size := by omega
  have e4 : ¬ w.heap.size = W2.heap.size := by omega
  have H2 := hide (And.intro hG2 (And.intro hF2 hr2))
  clear hG2 hF2 hr2 H hcn hfz
  go_region
  obtain ⟨hG2, hF2, hr2⟩ := unhide H2
  have hG3 := (hG2.alloc (.cells #[.int .i64 s.it.id, .bool s.live, .int .i64 s.it.u, .int .i64 s.it.v, .int .i64 s.it.w] 54)).drew
  have hF3 := (hF2.alloc (.cells #[.int .i64 s.it.id, .bool s.live, .int .i64 s.it.u, .int .i64 s.it.v, .int .i64 s.it.w] 54)).drew
  have hr3 : RowAt (W2.alloc (.cells #[.int .i64 s.it.id, .bool s.live, .int .i64 s.it.u, .int .i64 s.it.v, .int .i64 s.it.w] 54)).drew w.heap.size 54 (slc zeroSl) := hr2.alloc _
  have hv3 : RowAt (W2.alloc (.cells #[.int .i64 s.it.id, .bool s.live, .int .i64 s.it.u, .int .i64 s.it.v, .int .i64 s.it.w] 54)).drew (w.heap.size + 1) 54 (slc s) := by
    have := row_new W2 54 (slc s)
    rw [hz2] at this; exact this
  have H3 := hide (And.intro hG3 (And.intro hF3 (And.intro hr3 hv3)))
  clear hG3 hF3 hr3 hv3 hG2 hF2 hr2 H2 e1 e2 e3 e4 c0 c1 c2 c3 c4 hcn2 hb2
  generalize (W2.alloc (.cells #[.int .i64 s.it.id, .bool s.live, .int .i64 s.it.u, .int .i64 s.it.v, .int .i64 s.it.w] 54)).drew = W3 at *
  obtain ⟨hG3, hF3, hr3, hv3⟩ := unhide H3
  have hcn3 := hG3.count hs
  obtain ⟨c0, c1, c2, c3, c4⟩ := hG3.slot k s hsk
  have f0 := hG3.row.free (402 + k * 5)
  have f1 := hG3.row.free (402 + k * 5 + 1)
  have f2 := hG3.row.free (402 + k * 5 + 2)
  have f3 := hG3.row.free (402 + k * 5 + 3)
  have f4 := hG3.row.free (402 + k * 5 + 4)
  clear hG3 hF3 hr3 hv3
  go_wp2_with fail
  go_region
  obtain ⟨hG3, hF3, hr3, hv3⟩ := unhide H3
  have hG4 : PF (((((W3.setCell ⟨b, 402 + k * 5, none⟩ (.int .i64 0)).setCell ⟨b, 402 + k * 5 + 1, none⟩ (.bool false)).setCell ⟨b, 402 + k * 5 + 2, none⟩ (.int .i64 0)).setCell ⟨b, 402 + k * 5 + 3, none⟩ (.int .i64 0)).setCell ⟨b, 402 + k * 5 + 4, none⟩ (.int .i64 0)).drew b n most live ed (pcells (sl.set k zeroSl) k) := (hG3.setSlot k (by omega) zeroSl).drew
  have hF4 := (hF3.slot (b := b) rfl (402 + k * 5) (.int .i64 0) (.bool false) (.int .i64 0) (.int .i64 0) (.int .i64 0)).drew
  have far : ∀ q t xs, q ≠ b → RowAt W3 q t xs → RowAt (((((W3.setCell ⟨b, 402 + k * 5, none⟩ (.int .i64 0)).setCell ⟨b, 402 + k * 5 + 1, none⟩ (.bool false)).setCell ⟨b, 402 + k * 5 + 2, none⟩ (.int .i64 0)).setCell ⟨b, 402 + k * 5 + 3, none⟩ (.int .i64 0)).setCell ⟨b, 402 + k * 5 + 4, none⟩ (.int .i64 0)).drew q t xs :=
    fun q t xs hq h => RowAt.drew (slot_row h hq _ _ _ _ _ _)
  have hr4 := far _ _ _ hbne2 hr3
  have hv4 := far _ _ _ hbne4 hv3
  have H4 := hide (And.intro hG4 (And.intro hF4 (And.intro hr4 hv4)))
  clear hG4 hF4 hr4 hv4 hG3 hF3 hr3 hv3 far H3 c0 c1 c2 c3 c4 f0 f1 f2 f3 f4 hcn3
  generalize (((((W3.setCell ⟨b, 402 + k * 5, none⟩ (.int .i64 0)).setCell ⟨b, 402 + k * 5 + 1, none⟩ (.bool false)).setCell ⟨b, 402 + k * 5 + 2, none⟩ (.int .i64 0)).setCell ⟨b, 402 + k * 5 + 3, none⟩ (.int .i64 0)).setCell ⟨b, 402 + k * 5 + 4, none⟩ (.int .i64 0)).drew = W4 at *
  obtain ⟨hG4, hF4, hr4, hv4⟩ := unhide H4
  have hth : W4.there w.heap.size 0 5 := hr4.there 0 5 (by simp [slc])
  have hr5 : RowAt (W4.setCells w.heap.size 0 (slc s)) w.heap.size 54 (slc s) := RowAt.whole hr4 (by simp [slc])
  have hG5 := hG4.cells w.heap.size 0 (slc s) hbne
  have hF5 : Fr (fun k => k = b) w (W4.setCells w.heap.size 0 (slc s)) := fr_setCells _ _ _ hF4 (Or.inr (Nat.le_refl _))
  have H5 := hide (And.intro hG5 (And.intro hF5 hr5))
  clear hG4 hF4 hr4 H4 hr5 hG5 hF5
  go_wp2_with (first
    | (refine wpList_load_row rfl 54 (.tmp 3) rfl (w.heap.size + 1) rfl 54 (slc s).toArray (0, 0) _ hv4 Tryz.underlying54 rfl infoSlot ?_)
    | (refine wpList_store_mid rfl 54 (.tmp 2) (.tmp 29) rfl w.heap.size 0 (slc s).toArray rfl rfl hth infoSlot (all_oneCell_toArray (slc_one s)) ?_))
  obtain ⟨hG5, hF5, hr5⟩ := unhide H5
  exact bodyPost_ret (results_cell_row (by exact Tryz.results79) _ _ w.heap.size 54 (slc s).toArray (0, 0) _ rfl (by exact hr5) Tryz.underlying54 rfl infoSlot) rfl ⟨rfl, hG5, hF5⟩

end Go.Proofs.YtnnnleckoinjoaaGreatDoor
