import Derived.Test.YtnnnleckoinjoaaGreatDoorP14
import Derived.Deep.CutRange
namespace Go.Proofs.YtnnnleckoinjoaaGreatDoor
open Go.RowKit
open Pl (It)

/-- m of the slots have moved down -/
def shiftTo (sl : List Sl) (m : Nat) : List Sl := (sl.drop 1).take m ++ sl.drop m
theorem shiftTo_len (sl : List Sl) (m : Nat) (h : m + 1 ≤ sl.length) : (shiftTo sl m).length = sl.length := by simp [shiftTo]; omega
theorem shiftTo_get (sl : List Sl) (m : Nat) (h : m + 1 < sl.length) : (shiftTo sl m)[m + 1]? = some sl[m + 1] := by
  unfold shiftTo
  rw [List.getElem?_append_right (by simp; omega), List.getElem?_drop]
  have : m + (m + 1 - ((sl.drop 1).take m).length) = m + 1 := by simp; omega
  rw [this, List.getElem?_eq_getElem h]
theorem shiftTo_succ (sl : List Sl) (m : Nat) (h : m + 1 < sl.length) : shiftTo sl (m + 1) = (shiftTo sl m).set m sl[m + 1] := by
  unfold shiftTo
  rw [List.set_append_right _ _ (by simp; omega), show m - ((sl.drop 1).take m).length = 0 by simp; omega, List.drop_eq_getElem_cons (by omega : m < sl.length), List.set_cons_zero]
  rw [List.take_succ_eq_append_getElem (by simp; omega)]
  simp

theorem Fr.slot {S : Nat → Prop} {a w : World} {b : Nat} (h : Fr S a w) (hb : S b) (o : Nat) (v0 v1 v2 v3 v4 : Value) :
    Fr S a (((((w.setCell ⟨b, o, none⟩ v0).setCell ⟨b, o + 1, none⟩ v1).setCell ⟨b, o + 2, none⟩ v2).setCell ⟨b, o + 3, none⟩ v3).setCell ⟨b, o + 4, none⟩ v4) :=
  ((((h.setCell (p := ⟨b, o, none⟩) (Or.inl hb) v0).setCell (p := ⟨b, o + 1, none⟩) (Or.inl hb) v1).setCell (p := ⟨b, o + 2, none⟩) (Or.inl hb) v2).setCell (p := ⟨b, o + 3, none⟩) (Or.inl hb) v3).setCell (p := ⟨b, o + 4, none⟩) (Or.inl hb) v4
theorem PF.drew {w : World} {b n most : Nat} {live : List Bool} {ed : List It} {tl : List Value} (h : PF w b n most live ed tl) : PF w.drew b n most live ed tl := ⟨h.row, h.ll, h.le, h.lt⟩

set_option maxRecDepth 100000 in
set_option maxHeartbeats 2000000 in
theorem forgetOldest_any (b n most : Nat) (live : List Bool) (ed : List It) (sl : List Sl) (hs : sl.length = 20) (w : World) (hG : PF w b n most live ed (pcells sl 20)) :
    Calls Tryz.prog 99 #[.pointer (some ⟨b, 0, none⟩)] w fun e w' => e = .returned (.tuple #[]) ∧ PF w' b n most live ed (pcells (shiftTo sl 19) 19) ∧ Fr (fun k => k = b) w w' := by
  go_enter Tryz.func99, Tryz.ntmps99
  go_wp2
  go_loopg [2] 20 (fun gk i wr => ∃ m : Nat, m ≤ 19 ∧ i = .int .i64 ((m + 1 : Nat) : Int) ∧ PF wr b n most live ed (pcells (shiftTo sl m) 20) ∧ Fr (fun k => k = b) w wr ∧ 19 - m ≤ gk)
  case atStart => exact ⟨0, Nat.zero_le _, rfl, by simpa [shiftTo] using hG, Fr.refl _ _, by omega⟩
  case round =>
    obtain ⟨m, hm, rfl, hP, hf, hgk⟩ := hrel
    have hsm : (shiftTo sl m).length = 20 := by rw [shiftTo_len _ _ (by omega)]; exact hs
    have hcn := hP.count hsm
    by_cases hlt : m < 19
    · have hk2 : ((m + 1 : Nat) : Int) < 20 := by omega
      have hk3 : ((m + 1 : Nat) : Int) < ((20 : Nat) : Int) := by omega
      have hi1 : ((m + 1 : Nat) : Int) - 1 = m := by omega
      have hm1 : (m : Int) < 20 := by omega
      obtain ⟨c0, c1, c2, c3, c4⟩ := hP.slot (m + 1) _ (shiftTo_get sl m (by omega))
      obtain ⟨s0, hs0⟩ : ∃ s0, (shiftTo sl m)[m]? = some s0 := ⟨_, List.getElem?_eq_getElem (by omega)⟩
      obtain ⟨d0, d1, d2, d3, d4⟩ := hP.slot m _ hs0
      have f0 := hP.row.free (402 + m * 5)
      have f1 := hP.row.free (402 + m * 5 + 1)
      have f2 := hP.row.free (402 + m * 5 + 2)
      have f3 := hP.row.free (402 + m * 5 + 3)
      have f4 := hP.row.free (402 + m * 5 + 4)
      have hnew := hP.setSlot m (by omega) sl[m + 1]
      rw [← shiftTo_succ sl m (by omega)] at hnew
      have hnf := hf.slot (b := b) rfl (402 + m * 5) (.int .i64 sl[m + 1].it.id) (.bool sl[m + 1].live) (.int .i64 sl[m + 1].it.u) (.int .i64 sl[m + 1].it.v) (.int .i64 sl[m + 1].it.w)
      have H1 := hide (And.intro hnew hnf)
      clear hnew hnf hP hf hs0
      generalize sl[m + 1] = q at *
      go_wp2
      go_region
      go_wp2
      go_roundg (gk - 1)
      case measure => omega
      case rel =>
        obtain ⟨h1, h2⟩ := unhide H1
        exact ⟨m + 1, by omega, by go_num, h1.drew, h2.drew, by omega⟩
    · have hm' : m = 19 := by omega
      subst hm'
      have hfz := hP.row.free 502
      have hnew := hP.setCount hsm 19
      have hnf := hf.setCell (p := ⟨b, 502, none⟩) (Or.inl rfl) (.int .i64 (19 : Nat))
      have H1 := hide (And.intro hnew hnf)
      clear hnew hnf hP hf
      go_wp2
      go_end0
      obtain ⟨h1, h2⟩ := unhide H1
      exact ⟨rfl, h1, h2⟩

end Go.Proofs.YtnnnleckoinjoaaGreatDoor
