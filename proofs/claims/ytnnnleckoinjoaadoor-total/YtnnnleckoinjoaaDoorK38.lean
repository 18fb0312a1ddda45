/- Any text is refused, or is the text of what is read. -/
import Derived.Test.YtnnnleckoinjoaaDoorK29
import Derived.Test.YtnnnleckoinjoaaDoorT5
import Derived.Test.YtnnnleckoinjoaaDoorK17
namespace Go.Proofs.YtnnnleckoinjoaaDoor
open Go.RowKit
open Pl (It)

def oneT : List UInt8 := [50, 32, 49, 10, 55, 32, 48, 32, 49, 32, 45, 53, 10]
def oneL : List It := [⟨7, 0, 1, -5⟩]
theorem one_text : oneT = Pl.text (2 : Nat) (1 : Nat) oneL := by
  have e : ∀ k : Nat, k < 10 → Lib.itoa (k : Int) = [UInt8.ofNat (48 + k)] := fun k hk => by
    unfold Lib.itoa
    rw [if_neg (by omega), Int.toNat_natCast, Lib.decDigits_one hk]
  have e5 : Lib.itoa (-5) = [45, 53] := by
    unfold Lib.itoa
    rw [if_pos (by omega), show (-5 : Int).natAbs = 5 from rfl, Lib.decDigits_one (by omega)]
    rfl
  unfold Pl.text oneL
  rw [List.flatMap_cons, List.flatMap_nil, List.append_nil]
  unfold Pl.line
  simp only
  rw [e 2 (by omega), e 1 (by omega), show (7 : Int) = ((7 : Nat) : Int) from rfl, e 7 (by omega), show (0 : Int) = ((0 : Nat) : Int) from rfl, e 0 (by omega), show (1 : Int) = ((1 : Nat) : Int) from rfl, e 1 (by omega), e5]
  rfl
theorem one_gv : Gv 2 1 oneL := by
  refine ⟨by omega, by omega, by omega, by omega, ?_, ?_, ?_, ?_, by simp [oneL]⟩
  · exact List.pairwise_singleton _ _
  · intro e he
    obtain rfl : e = ⟨7, 0, 1, -5⟩ := by simpa [oneL] using he
    exact ⟨by decide, by decide⟩
  · intro e he
    obtain rfl : e = ⟨7, 0, 1, -5⟩ := by simpa [oneL] using he
    exact ⟨by decide, by decide, by decide, by decide⟩
  · intro e he
    obtain rfl : e = ⟨7, 0, 1, -5⟩ := by simpa [oneL] using he
    exact ⟨by decide, by decide⟩
theorem one_forest : (Pl.forest oneL).map It.id = [7] := by decide

set_option maxRecDepth 100000 in
set_option maxHeartbeats 4000000 in
theorem total_bs (t : List UInt8) (hlt : t.length ≤ 4611686018427387904) (w : World) (ht : Tab w) :
    Calls Tryd.prog 7 #[.string (bs t)] w fun e w' => e = .returned (.bool true) ∧ Below w.heap.size w w' := by
  have H1 := hide (loadp_any oneT w (by decide) ht)
  have HT := hide ht
  clear ht
  go_enter Tryd.func7, Tryd.ntmps7
  go_wp2_with fail
  refine Calls.mono (by exact unhide H1) ?_
  rintro e w1 ⟨hB1, hcase⟩
  obtain ⟨s, xb, ok, hpast, hm, htx, rfl, hxb, hX⟩ := hcase.resolve_right (fun h => absurd one_text (h.1 2 1 oneL one_gv))
  obtain ⟨e1, e2, e3⟩ := text_inj (ok.gv hm).n30 (ok.gv hm).m60 ok.gl.rng ok.ends ok.wb one_gv.n30 one_gv.m60 one_gv.rng one_gv.ends one_gv.wb (htx.symm.trans one_text)
  have HF := hide (forest_t ok w1 xb hX)
  rw [e3, one_forest] at HF
  have HB1 := hide hB1
  clear H1 hB1 ok hpast hm htx hX e1 e2 e3
  go_wp2_with fail
  refine (unhide HF).mono ?_
  rintro e w2 ⟨v2, rfl, hN2, hb2⟩
  obtain ⟨a2, k2, rfl⟩ := row_form hN2
  have hB2 := (unhide HB1).trans (hb2.mono (unhide HB1).size)
  have hN3 : Nums (w2.alloc (.cells #[.int .i64 7] 3)) 0 (.slice a2 [(7 : Int)].length k2) [7] := row_mono (row_below hN2 ((Below.refl _ _).alloc (Nat.le_refl _) _) (Nat.le_refl _)) (Nat.zero_le _)
  have HS := hide (sameInts_any [7] a2 (some ⟨w2.heap.size, 0, none⟩) k2 1 _ hN3 (nums_one (Nat.zero_le _)) (by simp))
  have hB3 : Below w.heap.size w (w2.alloc (.cells #[.int .i64 7] 3)) := hB2.alloc hB2.size _
  have HB3 := hide hB3
  clear HF HB1 hN2 hb2 hB2 hN3 hB3
  go_wp2_with fail
  refine Calls.mono (by exact unhide HS) ?_
  rintro e w4 ⟨rfl, hb4⟩
  have hB4 := (unhide HB3).trans (hb4.mono (unhide HB3).size)
  have H5 := hide (loadp_any t w4 hlt ((unhide HT).later hB4))
  have HB4 := hide hB4
  clear HS HB3 hb4 hB4
  go_wp2_with fail
  refine (unhide H5).mono ?_
  rintro e w5 ⟨hB5, hcase⟩
  have hB5' := (unhide HB4).trans (hB5.mono (unhide HB4).size)
  have HB5 := hide hB5'
  rcases hcase with ⟨s, xb2, ok, hpast, hm, htx, rfl, hxb2, hX⟩ | ⟨hno, rfl⟩
  · have H6 := hide (textX s xb2 w5 ok ((unhide HT).later hB5') hX)
    rw [← htx] at H6
    clear ok hpast hm htx hX H5 HB4 hB5 hB5'
    go_wp2_with fail
    refine (unhide H6).mono ?_
    rintro e w6 ⟨rfl, hb6⟩
    have HB6 := hide ((unhide HB5).trans (hb6.mono (unhide HB5).size))
    clear hb6 H6
    go_wp2
    go_ret
    exact ⟨ret_bool (by simp), unhide HB6⟩
  · clear hno H5 HB4 hB5 hB5'
    go_wp2
    go_ret
    exact ⟨ret_bool (by simp), unhide HB5⟩
theorem total_any (t : ByteArray) (hlt : t.size ≤ 4611686018427387904) (w : World) (ht : Tab w) :
    Calls Tryd.prog 7 #[.string t] w fun e w' => e = .returned (.bool true) ∧ Below w.heap.size w w' := by
  have e : t = bs t.data.toList := by cases t; simp [bs]
  rw [e]
  exact total_bs _ (by rw [← bs_size, ← e]; exact hlt) w ht

end Go.Proofs.YtnnnleckoinjoaaDoor
