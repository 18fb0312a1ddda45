import Derived.Test.YtnnnleckoinjoaaK19
namespace Go.Proofs.Ytnnnleckoinjoaa
open Go.RowKit
open Pl (It)

set_option maxRecDepth 100000 in
set_option maxHeartbeats 4000000 in
theorem lightest_law (v0 : Int) (hv : R64 v0) (sa : Option Addr) (sb so len cap : Nat) (I : Nat → StT) (w : World) (hsa : 0 < len → sa = some ⟨sb, so, none⟩) (hsb : 0 < len → sb < w.heap.size) (hlen : len ≤ 9223372036854775807) (hc : ∀ j, j < len → StAt w sb (so + j * 5) (I j)) :
    Calls Try.prog 3 #[.int .i64 v0, .slice sa len cap] w fun e w' => e = .returned (.bool true) ∧ Below w.heap.size w w' := by
  have hn1 : pk v0 30 < 30 := pk_lt v0 30 (by omega)
  have hok := opened_ok (pk v0 30 + 1) (by omega) (by omega)
  have HC := hide hc
  clear hc
  go_enter Try.func3, Try.ntmps3
  go_wp2_with fail
  refine (opened_any v0 hv _).mono ?_
  rintro e w1 ⟨bb, xb, rfl, hbb, hxb, hBK1, hB1⟩
  have H1 := hide (And.intro hBK1 hB1)
  clear hBK1 hB1
  go_wp2_with fail
  go_loopg [6, 7] len (fun gk i ok wr => ∃ (k : Nat) (s : St), k ≤ len ∧ i = .int .i64 k ∧ BOk s ∧ BK wr bb xb s ∧ Below w.heap.size w wr ∧ len - k ≤ gk)
  case atStart => exact ⟨0, _, Nat.zero_le _, rfl, hok, (unhide H1).1, (unhide H1).2, by omega⟩
  case round =>
    obtain ⟨k, s, hk, rfl, hs, hK, hB, hgk⟩ := hrel
    by_cases hlt : k < len
    · obtain rfl := hsa (by omega)
      have hO := ((unhide HC) k hlt).later hB (hsb (by omega))
      have hk1 : (0 : Int) ≤ k := by omega
      have hk2 : (k : Int) < len := by omega
      obtain ⟨t, ht⟩ : ∃ t, t = I k := ⟨_, rfl⟩
      rw [← ht] at hO
      have HSb := hide (And.intro (hsb (by omega)) ht)
      clear ht
      obtain ⟨tk, ta, tb, tc, td⟩ := t
      obtain ⟨c0, c1, c2, c3, c4, r1, r2, r3, r4⟩ := hO
      simp only at c0 c1 c2 c3 c4 r1 r2 r3 r4
      have HS := hide (kstep_any bb xb s hs tk ta tb tc td r1 r2 r3 r4 wr hK)
      have HB := hide hB
      clear hK hB r1 r2 r3 r4 H1
      go_wp2_with fail
      refine Calls.mono (by exact unhide HS) ?_
      rintro e w3 ⟨rfl, ⟨s', hs', _, hK'⟩, hF⟩
      have hB3 := below_frs (unhide HB) hF hbb hxb
      have d4 : w3.cell? ⟨sb, so + k * 5 + 4, none⟩ = some (.int .i64 td) := by
        have := (((unhide HC) k hlt).later hB3 (unhide HSb).1).c4
        rw [← (unhide HSb).2] at this; exact this
      have HL := hide (light_any bb xb s' hs' w3 hK')
      have H3 := hide (And.intro hs' (And.intro hK' hB3))
      clear hs' hK' hF HS HB c0 c1 c2 c3 c4 hB3 HC
      by_cases hd : td.tmod 2 = 0
      · have hd' : (td.tmod 2 == 0) = true := by simpa using hd
        go_wp2_with fail
        refine (unhide HL).mono ?_
        rintro e w4 ⟨rfl, hB4⟩
        obtain ⟨g1, g2, g3⟩ := unhide H3
        have H4 := hide (And.intro g1 (And.intro (g2.later hB4) (g3.trans (hB4.mono g3.size))))
        clear hB4 g1 g2 g3 H3 HL d4
        go_wp2
        go_roundg (gk - 1)
        case measure => omega
        case rel => exact ⟨k + 1, s', by omega, by go_num, (unhide H4).1, (unhide H4).2.1, (unhide H4).2.2, by omega⟩
      · have hd' : (td.tmod 2 == 0) = false := by simpa using hd
        clear HL
        go_wp2
        go_roundg (gk - 1)
        case measure => omega
        case rel => exact ⟨k + 1, s', by omega, by go_num, (unhide H3).1, (unhide H3).2.1, (unhide H3).2.2, by omega⟩
    · have k2 : ¬ (k : Int) < len := by omega
      have HL := hide (light_any bb xb s hs wr hK)
      have H3 := hide hB
      clear hs hK hB H1 HC
      go_wp2_with fail
      refine (unhide HL).mono ?_
      rintro e w4 ⟨rfl, hB4⟩
      have H4 := hide ((unhide H3).trans (hB4.mono (unhide H3).size))
      clear hB4 HL
      go_wp2
      go_ret
      exact ⟨rfl, unhide H4⟩

end Go.Proofs.Ytnnnleckoinjoaa
