import Derived.Test.YtnnnleckoinjoaaGreatDoorP20
namespace Go.Proofs.YtnnnleckoinjoaaGreatDoor
open Go.RowKit
open Pl (It)

theorem conn_rev (m : List It) (u v : Int) : (Pl.lab m.reverse u == Pl.lab m.reverse v) = Pl.conn m u v := by
  rw [← Pl.conn_congr (l := m.reverse) (m := m) _ _ (fun e => List.mem_reverse)]; rfl
theorem conn_step {s : List It} (k : Nat) (hk : k < s.length) (u v : Int) : Pl.conn (s.take (k + 1)) u v = Pl.conn (s[k] :: s.take k) u v := by
  refine Pl.conn_congr _ _ fun e => ?_
  rw [Pl.take_snoc' s k hk, List.mem_append, List.mem_singleton, List.mem_cons]
  exact ⟨fun h => h.elim Or.inr Or.inl, fun h => h.elim Or.inr Or.inl⟩

set_option maxRecDepth 100000 in
set_option maxHeartbeats 4000000 in
theorem heavb_any (b n most : Nat) (live : List Bool) (ed : List It) (L : List It) (p q : Nat) (hp30 : p < 30) (hq30 : q < 30) (w : World) (hG : PG w b n most live ed) (hL : Pl.GL L live ed) (hl100 : L.length ≤ 100) (hn : n ≤ 30) (he : Pl.Ends n L) :
    Calls Tryz.prog 91 #[.pointer (some ⟨b, 0, none⟩), .int .i64 p, .int .i64 q] w fun e w' => e = .returned (.int .i64 (Pl.midI L p q)) ∧ Below w.heap.size w w' := by
  by_cases hpq : p = q
  · subst hpq
    rw [Pl.mid_same]
    clear hG hL
    go_enter Tryz.func91, Tryz.ntmps91
    go_wp2
    go_ret
    exact ⟨rfl, Below.refl _ _⟩
  have hpq1 : ¬ (p : Int) = q := by omega
  have hbl := hG.blt
  go_enter Tryz.func91, Tryz.ntmps91
  go_wp2_with fail
  refine (lightest_any b n most live ed L _ hG hL hl100).mono ?_
  rintro e w1 ⟨a, cap, rfl, s, hperm, hsrt, hN, hb1⟩
  have hs1 : w.heap.size ≤ w1.heap.size := hb1.size
  have A0 : Aside (s.Perm L ∧ Pl.Srt s ∧ Pl.GL L live ed ∧ Pl.Ends n L ∧ PG w b n most live ed) := ⟨hperm, hsrt, hL, he, hG⟩
  clear hperm hsrt hL he hG
  go_wp2_with fail
  refine (apart_any _).mono ?_
  rintro e w2 ⟨rfl, hb2⟩
  have hN2 := Nums.later hN hb2 (Nat.le_refl _)
  have hB2 := hb1.trans (hb2.mono hs1)
  have hs2 : w.heap.size ≤ w2.heap.size := hB2.size
  have A1 : Aside (Nums w2 w.heap.size (.slice a L.length cap) (s.map It.id) ∧ Below w.heap.size w w2) := ⟨hN2, hB2⟩
  clear hN hN2 hB2 hb2 hb1 hs1
  have hth : (w2.alloc (.cells (ofc (upTo 0)).toArray 116)).there w2.heap.size 0 30 := (row_new w2 116 (ofc (upTo 0))).there 0 30 (by decide)
  go_wp2_with (refine wpList_store_mid rfl 116 (.tmp 8) (.tmp 16) rfl w2.heap.size 0 (ofc idrow).toArray rfl rfl (by exact hth) infoParts (all_oneCell_toArray (ofc_one _)) ?_)
  have hslen : Hid (s.length = L.length) := A0.out.1.length_eq
  go_loopg [9] L.length (fun gk i wr => ∃ k : Nat, k ≤ L.length ∧ i = .int .i64 k ∧
      RowAt wr w2.heap.size 116 (ofc (labs (s.take k).reverse)) ∧ Nums wr w.heap.size (.slice a L.length cap) (s.map It.id) ∧ Below w.heap.size w wr ∧ Pl.conn (s.take k) p q = false ∧ L.length - k ≤ gk)
  case atStart =>
    obtain ⟨hN, hB⟩ := A1.out
    refine ⟨0, Nat.zero_le _, rfl, ?_, ?_, ?_, ?_, by omega⟩
    · exact RowAt.whole (row_new w2 116 (ofc (upTo 0))) rfl
    · exact Nums.later hN (below_setCells (Nat.le_refl _) _ _ _ ((Below.refl _ _).alloc (Nat.le_refl _) _)) (Nat.le_refl _)
    · exact below_setCells (by omega) _ _ _ (hB.alloc (by omega) _)
    · rw [List.take_zero]
      cases hc : Pl.conn [] (p : Int) q with
      | false => rfl
      | true => exact absurd ((Pl.conn_nil _ _).1 hc) hpq1
  case round =>
    obtain ⟨k, hk, rfl, r3, hN, hB, hnc, hgk⟩ := hrel
    have hsl := unhide hslen
    by_cases hlt : k < L.length
    · obtain ⟨hperm, hsrt, hGL, hends, hG⟩ := A0.out
      have hks : k < s.length := by omega
      unfold Nums at hN
      rw [List.length_map, hsl] at hN
      obtain ⟨g, rfl⟩ := row_some hN (by omega)
      have hxL : s[k] ∈ L := hperm.mem_iff.1 (List.getElem_mem hks)
      obtain ⟨x0, x1⟩ := hGL.rng _ hxL
      obtain ⟨xi, hxi⟩ := Int.eq_ofNat_of_zero_le x0
      have hxi1 : (xi : Int) < 100 := by omega
      have hxi0 : (0 : Int) ≤ xi := by omega
      obtain ⟨u0, u1, v0, v1⟩ := hends _ hxL
      obtain ⟨ui, hui⟩ := Int.eq_ofNat_of_zero_le u0
      obtain ⟨vi, hvi⟩ := Int.eq_ofNat_of_zero_le v0
      have hu30 : ui < 30 := by omega
      have hv30 : vi < 30 := by omega
      have hPG : PG wr b n most live ed := hG.later hB (Nat.le_refl _)
      have hex : ed[xi]? = some s[k] := by have := hGL.ed _ hxL; rw [hxi, Int.toNat_natCast] at this; exact this
      obtain ⟨hxe, exe⟩ := List.getElem?_eq_some_iff.1 hex
      obtain ⟨e0, e1, e2⟩ := hPG.ce xi hxe
      rw [exe] at e0 e1 e2
      rw [hui] at e0
      rw [hvi] at e1
      have cid := numrow_cell hN hsl k s[k] (List.getElem?_eq_getElem hks)
      rw [hxi] at cid
      have hk1 : (k : Int) < L.length := by omega
      have hk0 : (0 : Int) ≤ k := by omega
      have hrev := step_rev (s := s) k hks
      have hjoin := labs_join (s.take k).reverse s[k]
      rw [hui, hvi] at hjoin
      have hp1 := labs_get (s.take k).reverse ui hu30
      have hp2 := labs_get (s.take k).reverse vi hv30
      have hg1 := labs_get (s.take (k + 1)).reverse p hp30
      have hg2 := labs_get (s.take (k + 1)).reverse q hq30
      have hcr := conn_rev (s.take (k + 1)) p q
      have hfound : Pl.conn (s.take (k + 1)) p q = true → Pl.midI L p q = xi := by
        intro hc
        rw [conn_step k hks] at hc
        rw [(Pl.mid_at hperm hsrt k hks hnc hc).is, hxi]
      have hgl := World.ownsRow.lt hN g rfl
      have hgn : ¬ g = wr.heap.size := by omega
      have hgn2 : ¬ wr.heap.size = g := by omega
      have hbs : b < wr.heap.size := hPG.blt
      have hbn : ¬ b = wr.heap.size := by omega
      have hbn2 : ¬ wr.heap.size = b := by omega
      have hs2' := r3.lt
      have H := hide (And.intro r3 (And.intro hN (And.intro hB (And.intro hrev (And.intro hjoin (And.intro hp1 (And.intro hp2 (And.intro hg1 (And.intro hg2 (And.intro hcr (And.intro hfound hxi)))))))))))
      generalize s[k].w = wt at *
      clear hperm hsrt hGL hends hG hxL x0 x1 hxi u0 u1 v0 v1 hui hvi hPG hex exe r3 hN hB hrev hjoin hp1 hp2 hxe hg1 hg2 hcr hfound hnc
      go_upto_region 8 with fail
      go_cut [10] (fun s6 wx => s6 = .pointer (some ⟨wr.heap.size, 0, none⟩) ∧ wx = (wr.alloc (.cells #[.int .i64 ui, .int .i64 vi, .int .i64 wt] 51)).drew)
      case first =>
        go_region_held3 (fun w' => w'.cell? ⟨g, k, none⟩ = some (.int .i64 xi) ∧ w'.cell? ⟨b, 102 + xi * 3, none⟩ = some (.int .i64 ui) ∧ w'.cell? ⟨b, 102 + xi * 3 + 1, none⟩ = some (.int .i64 vi) ∧ w'.cell? ⟨b, 102 + xi * 3 + 2, none⟩ = some (.int .i64 wt)) (go_keep) (fail)
        all_goals go_wp2_with fail
        all_goals go_meet
        all_goals exact ⟨rfl, rfl⟩
      case rest =>
        obtain ⟨rfl, rfl⟩ := hcut
        go_wp2_with fail
        obtain ⟨r3, hN, hB, hrev, hjoin, hp1, hp2, hg1, hg2, hcr, hfound, hxi⟩ := unhide H
        refine (join_any w2.heap.size (labs (s.take k).reverse) (labs_len _) ui vi _ _ hp1 hp2 _ (by exact RowAt.alloc r3 _)).mono ?_
        rintro e w4 ⟨rfl, hr4, hf4⟩
        rw [hjoin, ← hrev] at hr4
        have hsz : (wr.alloc (.cells #[.int .i64 ui, .int .i64 vi, .int .i64 wt] 51)).drew.heap.size = wr.heap.size + 1 := World.size_alloc _ _
        have q4 : Below w.heap.size w w4 :=
          ((hB.alloc (by omega) (.cells #[.int .i64 ui, .int .i64 vi, .int .i64 wt] 51)).drew).trans ⟨hf4.os, hf4.tape, hf4.output, hf4.size, fun i hi => hf4.block i (by omega) (by omega)⟩
        have q5 : w4.ownsRow w.heap.size 3 1 (.slice (some ⟨g, 0, none⟩) L.length cap) L.length ((s.map It.id).map (Value.int .i64)) := by
          refine row_fr ?_ hf4 ?_
          · exact World.ownsRow.alloc hN (.cells #[.int .i64 ui, .int .i64 vi, .int .i64 wt] 51)
          · rintro k' c f hk' h2 h3
            simp [Value.ownBlock] at h2
            subst h2
            subst h3
            have := RowAt.alloc r3 (.cells #[.int .i64 ui, .int .i64 vi, .int .i64 wt] 51)
            unfold RowAt at this
            have hk2 : (wr.alloc (.cells #[.int .i64 ui, .int .i64 vi, .int .i64 wt] 51)).heap[w2.heap.size]? = some (.cells c 3 f) := hk'
            rw [this] at hk2
            simp at hk2
        have HSA := hide (same_any w2.heap.size (labs (s.take (k + 1)).reverse) p q _ _ hg1 hg2 hp30 hq30 w4 hr4)
        have HH := hide (And.intro hr4 (And.intro q5 (And.intro q4 (And.intro hcr (And.intro hfound hxi)))))
        clear q4 q5 hr4 hf4 r3 hN hB hrev hjoin hp1 hp2 H e0 e1 e2 cid hg1 hg2 hcr hfound hxi
        go_wp2_with fail
        refine (unhide HSA).mono ?_
        rintro e w5 ⟨rfl, m, rfl⟩
        obtain ⟨hr4, q5, q4, hcr, hfound, hxi⟩ := unhide HH
        rw [hcr]
        cases hc : Pl.conn (s.take (k + 1)) p q with
        | true =>
          have cid4 : (w4.drewN m).cell? ⟨g, k, none⟩ = some (.int .i64 xi) := by
            have h1 := numrow_cell q5 hsl k s[k] (List.getElem?_eq_getElem hks)
            rw [hxi] at h1; exact h1
          have HF := hide (hfound hc)
          have HB := hide (below_drewN q4 m)
          clear hr4 q5 q4 hcr hfound hxi HSA HH
          go_wp2
          go_ret
          exact ⟨ret_int (unhide HF).symm, unhide HB⟩
        | false =>
          have HB := hide (below_drewN q4 m)
          have HN : Hid (Nums (w4.drewN m) w.heap.size (.slice (some ⟨g, 0, none⟩) L.length cap) (s.map It.id)) := by
            show Nums _ _ _ _
            unfold Nums
            rw [List.length_map, hsl]
            exact q5
          have HR : Hid (RowAt (w4.drewN m) w2.heap.size 116 (ofc (labs (s.take (k + 1)).reverse))) := hr4
          clear hr4 q5 q4 hcr hfound hxi HSA HH
          go_wp2
          go_roundg (gk - 1)
          case measure => omega
          case rel => exact ⟨k + 1, by omega, by go_num, unhide HR, unhide HN, unhide HB, hc, by omega⟩
    · have hk' : s.take k = s := List.take_of_length_le (by omega)
      rw [hk'] at hnc
      have hperm := A0.out.1
      have HF := hide (Pl.mid_apart (L := L) (u := p) (v := q) (by rw [← hnc]; exact (Pl.conn_congr _ _ (fun e => hperm.mem_iff)).symm))
      clear r3 hN
      go_wp2
      go_ret
      exact ⟨ret_int (unhide HF).symm, hB⟩

end Go.Proofs.YtnnnleckoinjoaaGreatDoor
