import Derived.Test.YtnnnleckoinjoaaGreatDoorP15
namespace Go.Proofs.YtnnnleckoinjoaaGreatDoor
open Go.RowKit
open Pl (It)

/-- one slot more -/
def pushS (sl : List Sl) (k : Nat) (s : Sl) : List Sl := if 20 ≤ k then sl.drop 1 ++ [s] else sl.set k s
def pushN (k : Nat) : Nat := if 20 ≤ k then 20 else k + 1
theorem shift_last (sl : List Sl) (h : sl.length = 20) (s : Sl) : (shiftTo sl 19).set 19 s = sl.drop 1 ++ [s] := by
  unfold shiftTo
  rw [List.take_of_length_le (by simp; omega), List.set_append_right _ _ (by simp; omega), show 19 - (sl.drop 1).length = 0 by simp; omega, List.drop_eq_getElem_cons (by omega : 19 < sl.length), List.set_cons_zero, show sl.drop (19 + 1) = [] from List.drop_of_length_le (by omega)]

theorem slot_far (w : World) (b o q : Nat) (v0 v1 v2 v3 v4 : Value) (h : q < o ∨ o + 4 < q) : (((((w.setCell ⟨b, o, none⟩ v0).setCell ⟨b, o + 1, none⟩ v1).setCell ⟨b, o + 2, none⟩ v2).setCell ⟨b, o + 3, none⟩ v3).setCell ⟨b, o + 4, none⟩ v4).cell? ⟨b, q, none⟩ = w.cell? ⟨b, q, none⟩ := by
  have ne : ∀ p, p ≠ q → (⟨b, p, none⟩ : Addr) ≠ ⟨b, q, none⟩ := fun p hp e => hp (by injection e)
  rw [World.cell?_setCell_other _ _ _ _ (ne _ (by omega)), World.cell?_setCell_other _ _ _ _ (ne _ (by omega)), World.cell?_setCell_other _ _ _ _ (ne _ (by omega)), World.cell?_setCell_other _ _ _ _ (ne _ (by omega)), World.cell?_setCell_other _ _ _ _ (ne _ (by omega))]

set_option maxRecDepth 100000 in
set_option maxHeartbeats 4000000 in
theorem remember_any (b n most : Nat) (live : List Bool) (ed : List It) (sl : List Sl) (k : Nat) (hs : sl.length = 20) (hk : k ≤ 20) (i : Nat) (hi : i < 100) (hll : i < live.length) (hle : i < ed.length) (hid : ed[i].id = i) (w : World) (hG : PF w b n most live ed (pcells sl k)) :
    Calls Tryz.prog 74 #[.pointer (some ⟨b, 0, none⟩), .int .i64 i] w fun e w' => e = .returned (.tuple #[]) ∧ PF w' b n most live ed (pcells (pushS sl k ⟨live[i], ed[i]⟩) (pushN k)) ∧ Fr (fun k => k = b) w w' := by
  have hbl := hG.row.lt
  have hcn := hG.count hs
  have fin : ∀ (w1 : World) (sl1 : List Sl) (k1 : Nat), sl1.length = 20 → k1 < 20 → PF w1 b n most live ed (pcells sl1 k1) → Fr (fun k => k = b) w w1 → ∀ w2, Below w1.heap.size w1 w2 →
      PF w2 b n most live ed (pcells sl1 k1) ∧ Fr (fun k => k = b) w w2 ∧ w2.cell? ⟨b, 502, none⟩ = some (.int .i64 k1) ∧ b < w2.heap.size ∧ (∃ x0 x1 x2 x3 x4, w2.cell? ⟨b, 402 + k1 * 5, none⟩ = some (.int .i64 x0) ∧ w2.cell? ⟨b, 402 + k1 * 5 + 1, none⟩ = some (.bool x1) ∧ w2.cell? ⟨b, 402 + k1 * 5 + 2, none⟩ = some (.int .i64 x2) ∧ w2.cell? ⟨b, 402 + k1 * 5 + 3, none⟩ = some (.int .i64 x3) ∧ w2.cell? ⟨b, 402 + k1 * 5 + 4, none⟩ = some (.int .i64 x4)) ∧ w2.frozen? ⟨b, 402 + k1 * 5, none⟩ = false ∧ w2.frozen? ⟨b, 402 + k1 * 5 + 1, none⟩ = false ∧ w2.frozen? ⟨b, 402 + k1 * 5 + 2, none⟩ = false ∧ w2.frozen? ⟨b, 402 + k1 * 5 + 3, none⟩ = false ∧ w2.frozen? ⟨b, 402 + k1 * 5 + 4, none⟩ = false := by
    intro w1 sl1 k1 h1 h2 h3 h4 w2 h5
    have h6 := h3.later h5 (Nat.le_refl _)
    obtain ⟨s0, hs0⟩ : ∃ s0, sl1[k1]? = some s0 := ⟨_, List.getElem?_eq_getElem (by omega)⟩
    obtain ⟨c0, c1, c2, c3, c4⟩ := h6.slot k1 _ hs0
    exact ⟨h6, h4.later h5, h6.count h1, h6.row.lt, ⟨_, _, _, _, _, c0, c1, c2, c3, c4⟩, h6.row.free _, h6.row.free _, h6.row.free _, h6.row.free _, h6.row.free _⟩
  by_cases h20 : k < 20
  · have hk1 : (k : Int) < 20 := by omega
    have hk2 : ¬ (20 : Int) ≤ k := by omega
    have hG' : ∀ m, PG (w.drewN m) b n most live ed := fun m => hG.pg.drewN m
    obtain ⟨sq, hsq⟩ : ∃ sq : Sl, sq = ⟨live[i], ed[i]⟩ := ⟨_, rfl⟩
    have hps : pushS sl k ⟨live[i], ed[i]⟩ = sl.set k sq := by rw [hsq]; unfold pushS; rw [if_neg (by omega)]
    have hpn : pushN k = k + 1 := by unfold pushN; rw [if_neg (by omega)]
    rw [hps, hpn]
    have HF := hide (fun m => fin (w.drewN m) sl k hs h20 ⟨hG.row, hG.ll, hG.le, hG.lt⟩ ((Fr.refl _ w).drewN m))
    have HS := hide (fun (m : Nat) (v : World) (hv : PG v b n most live ed) => slotOf_any b n most live ed i hi hll hle v hv)
    clear fin hps hpn
    go_enter Tryz.func74, Tryz.ntmps74
    go_wp2
    go_region_held3 (fun w' => w'.cell? ⟨b, 502, none⟩ = some (.int .i64 k))
      (first | go_keep | (rw [slot_far _ _ _ _ _ _ _ _ _ (by omega)]; assumption) | (refine cell_later hb1 ?_; first | assumption | simp [*]))
      (first
        | (go_at_call 100; refine ((unhide HS) 0 _ (hG' 1)).mono ?_; rintro e w1 ⟨rfl, hb1⟩; have q := (unhide HF) 1 _ hb1; obtain ⟨p1, p2, p3, p4, ⟨x0, x1, x2, x3, x4, y0, y1, y2, y3, y4⟩, z0, z1, z2, z3, z4⟩ := q; have P1 := hide (And.intro p1 p2); clear p1 p2))
    obtain ⟨p1, p2⟩ := unhide P1
    have u1 := p1.setSlot k (by omega) sq
    have u2 := p2.slot (b := b) rfl (402 + k * 5) (.int .i64 sq.it.id) (.bool sq.live) (.int .i64 sq.it.u) (.int .i64 sq.it.v) (.int .i64 sq.it.w)
    rw [hsq] at u1 u2
    simp only [hid] at u1 u2
    rw [← hsq] at u1
    have uz := u1.row.free 502
    have v1 := u1.setCount (by rw [List.length_set]; exact hs) (k + 1)
    have v2 := u2.setCell (p := ⟨b, 502, none⟩) (Or.inl rfl) (.int .i64 ((k + 1 : Nat) : Int))
    have U := hide (And.intro v1 v2)
    clear u1 u2 v1 v2 p1 p2 P1
    have hkc : ((k + 1 : Nat) : Int) = (k : Int) + 1 := by omega
    rw [hkc] at U
    go_wp2
    go_end0
    obtain ⟨v1, v2⟩ := unhide U
    exact ⟨rfl, v1, v2⟩
  · have hk' : k = 20 := by omega
    subst hk'
    obtain ⟨sq, hsq⟩ : ∃ sq : Sl, sq = ⟨live[i], ed[i]⟩ := ⟨_, rfl⟩
    have hps : pushS sl 20 ⟨live[i], ed[i]⟩ = (shiftTo sl 19).set 19 sq := by rw [hsq, shift_last sl hs]; rfl
    have hpn : pushN 20 = 20 := rfl
    rw [hps, hpn]
    have hs9 : (shiftTo sl 19).length = 20 := by rw [shiftTo_len _ _ (by omega)]; exact hs
    have HF := hide (fun w1 => fin w1 (shiftTo sl 19) 19 hs9 (by omega))
    have HS := hide (fun (v : World) (hv : PG v b n most live ed) => slotOf_any b n most live ed i hi hll hle v hv)
    clear fin hps hpn
    go_enter Tryz.func74, Tryz.ntmps74
    go_wp2_with fail
    refine (forgetOldest_any b n most live ed sl hs _ hG).mono ?_
    rintro e wf ⟨rfl, hPf, hFf⟩
    have hbf := hPf.row.lt
    have hcf := hPf.count hs9
    have hGf : ∀ m, PG (wf.drewN m) b n most live ed := fun m => hPf.pg.drewN m
    have HF2 := hide (fun m => (unhide HF) (wf.drewN m) ⟨hPf.row, hPf.ll, hPf.le, hPf.lt⟩ (hFf.drewN m))
    clear hPf hFf hcn HF
    go_wp2_with fail
    go_region_held3 (fun w' => w'.cell? ⟨b, 502, none⟩ = some (.int .i64 19))
      (first | go_keep | (rw [slot_far _ _ _ _ _ _ _ _ _ (by omega)]; assumption) | (refine cell_later hb1 ?_; first | assumption | simp [*]))
      (first
        | (go_at_call 100; refine ((unhide HS) _ (hGf 1)).mono ?_; rintro e w1 ⟨rfl, hb1⟩; have q := (unhide HF2) 1 _ hb1; obtain ⟨p1, p2, p3, p4, ⟨x0, x1, x2, x3, x4, y0, y1, y2, y3, y4⟩, z0, z1, z2, z3, z4⟩ := q; have P1 := hide (And.intro p1 p2); clear p1 p2))
    obtain ⟨p1, p2⟩ := unhide P1
    have u1 := p1.setSlot 19 (by omega) sq
    have u2 := p2.slot (b := b) rfl (402 + 19 * 5) (.int .i64 sq.it.id) (.bool sq.live) (.int .i64 sq.it.u) (.int .i64 sq.it.v) (.int .i64 sq.it.w)
    rw [hsq] at u1 u2
    simp only [hid] at u1 u2
    rw [← hsq] at u1
    have uz := u1.row.free 502
    have v1 := u1.setCount (by rw [List.length_set]; exact hs9) (19 + 1)
    have v2 := u2.setCell (p := ⟨b, 502, none⟩) (Or.inl rfl) (.int .i64 ((19 + 1 : Nat) : Int))
    have U := hide (And.intro v1 v2)
    clear u1 u2 v1 v2 p1 p2 P1
    have hkc : ((19 + 1 : Nat) : Int) = (19 : Int) + 1 := by omega
    rw [hkc] at U
    go_wp2
    go_end0
    obtain ⟨v1, v2⟩ := unhide U
    exact ⟨rfl, v1, v2⟩

end Go.Proofs.YtnnnleckoinjoaaGreatDoor
