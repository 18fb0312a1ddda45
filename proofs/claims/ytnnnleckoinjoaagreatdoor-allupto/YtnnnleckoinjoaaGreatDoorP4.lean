import Derived.Test.YtnnnleckoinjoaaGreatDoorP3
namespace Go.Proofs.YtnnnleckoinjoaaGreatDoor
open Go.RowKit
open Pl (It)

theorem numrow_cell {w : World} {base g n cap : Nat} {s : List It} (h : w.ownsRow base 3 1 (.slice (some ⟨g, 0, none⟩) n cap) n ((s.map It.id).map (Value.int .i64))) (hl : s.length = n) (j : Nat) (x : It) (hj : s[j]? = some x) :
    w.cell? ⟨g, j, none⟩ = some (.int .i64 x.id) := by
  obtain ⟨hlt, e⟩ := List.getElem?_eq_some_iff.1 hj
  rw [World.ownsRow.cellAt h j (by omega)]
  simp [hj]
theorem numrow_swap {w : World} {base g n cap : Nat} {q t : List It} {x y : It} (h : w.ownsRow base 3 1 (.slice (some ⟨g, 0, none⟩) n cap) n (((q ++ y :: x :: t).map It.id).map (Value.int .i64))) :
    ((w.setCell ⟨g, q.length + 1, none⟩ (.int .i64 y.id)).setCell ⟨g, q.length, none⟩ (.int .i64 x.id)).ownsRow base 3 1 (.slice (some ⟨g, 0, none⟩) n cap) n (((q ++ x :: y :: t).map It.id).map (Value.int .i64)) := by
  have h1 := (World.ownsRow.stored h (q.length + 1) (.int .i64 y.id)).1
  have h2 := (World.ownsRow.stored h1 q.length (.int .i64 x.id)).1
  have e : ((((q ++ y :: x :: t).map It.id).map (Value.int .i64)).set (q.length + 1) (.int .i64 y.id)).set q.length (.int .i64 x.id) = ((q ++ x :: y :: t).map It.id).map (Value.int .i64) := by
    simp [List.set_append_right]
  rw [e] at h2
  exact h2

set_option maxRecDepth 100000 in
set_option maxHeartbeats 4000000 in
theorem lightest_any (b n most : Nat) (live : List Bool) (ed : List It) (L : List It) (w : World) (hG : PG w b n most live ed) (hL : Pl.GL L live ed) (hl100 : L.length ≤ 100) :
    Calls Tryz.prog 103 #[.pointer (some ⟨b, 0, none⟩)] w fun e w' => ∃ a cap, e = .returned (.slice a L.length cap) ∧ ∃ s : List It, s.Perm L ∧ Pl.Srt s ∧ Nums w' w.heap.size (.slice a L.length cap) (s.map It.id) ∧ Below w.heap.size w w' := by
  go_enter Tryz.func103, Tryz.ntmps103
  go_wp2_with fail
  refine (livep_any b n most live ed _ hG).mono ?_
  rintro e w1 ⟨v, rfl, hN, hb1⟩
  rw [hL.marks] at hN
  obtain ⟨a, cap, rfl⟩ := row_form hN
  unfold Nums at hN
  rw [List.length_map] at hN ⊢
  have hbl := hG.blt
  have A1 : Aside (PG w b n most live ed ∧ Pl.GL L live ed ∧ w1.ownsRow w.heap.size 3 1 (.slice a L.length cap) L.length ((L.map It.id).map (Value.int .i64)) ∧ Below w.heap.size w w1) := ⟨hG, hL, hN, hb1⟩
  clear hG hL hN hb1
  go_wp2
  go_loopg [4] L.length (fun gk i wr => ∃ (nx : Nat) (s : List It), 1 ≤ nx ∧ i = .int .i64 nx ∧ s.Perm L ∧ Pl.Srt (s.take nx) ∧ wr.ownsRow w.heap.size 3 1 (.slice a L.length cap) L.length ((s.map It.id).map (Value.int .i64)) ∧ Below w.heap.size w wr ∧ nx ≤ L.length + 1 ∧ L.length - nx ≤ gk)
  case atStart =>
    obtain ⟨_, _, hN, hb1⟩ := A1.out
    refine ⟨1, L, Nat.le_refl _, rfl, List.Perm.refl _, ?_, hN, hb1, by omega, by omega⟩
    unfold Pl.Srt
    cases L with
    | nil => simp
    | cons x t => simp
  case round =>
    obtain ⟨nx, s, hnx, rfl, hperm, hsrt, hown, hb, hnl, hgk⟩ := hrel
    by_cases hlt : nx < L.length
    · have hsl := hperm.length_eq
      have A2 : Aside (s.Perm L ∧ Pl.Srt (s.take nx) ∧ wr.ownsRow w.heap.size 3 1 (.slice a L.length cap) L.length ((s.map It.id).map (Value.int .i64)) ∧ Below w.heap.size w wr ∧ s.length = L.length) := ⟨hperm, hsrt, hown, hb, hsl⟩
      obtain ⟨g, rfl⟩ := row_some hown (by omega)
      have hnx1 : (nx : Int) < L.length := by omega
      clear hperm hsrt hown hb hsl
      go_wp2
      go_loopg [5] nx (fun gj i wr2 => ∃ (pre : List It) (x : It) (post rest : List It), i = .int .i64 pre.length ∧ (pre ++ x :: (post ++ rest)).Perm L ∧ Pl.Srt (pre ++ post) ∧ (∀ y, y ∈ post → Pl.lighter x y = true) ∧ pre.length + post.length = nx ∧
        wr2.ownsRow w.heap.size 3 1 (.slice (some ⟨g, 0, none⟩) L.length cap) L.length (((pre ++ x :: (post ++ rest)).map It.id).map (Value.int .i64)) ∧ Below w.heap.size w wr2 ∧ pre.length ≤ gj)
      case atStart =>
        obtain ⟨hperm, hsrt, hown, hb, hsl⟩ := A2.out
        have e : s = s.take nx ++ s[nx]'(by omega) :: ([] ++ s.drop (nx + 1)) := by
          rw [List.nil_append, ← List.drop_eq_getElem_cons (by omega), List.take_append_drop]
        have hlen : (s.take nx).length = nx := by simp; omega
        refine ⟨s.take nx, s[nx]'(by omega), [], s.drop (nx + 1), by rw [hlen], by rw [← e]; exact hperm, by simpa using hsrt, (fun y h => by cases h), by simp; omega, by rw [← e]; exact hown, hb, by omega⟩
      case round =>
        obtain ⟨pre, x, post, rest, rfl, hperm, hsrt, hpost, hpl, hown, hb, hgj⟩ := hrel
        have hall : ∀ z, z ∈ pre ++ x :: (post ++ rest) → z ∈ L := fun z hz => hperm.mem_iff.1 hz
        have fin : (∀ y, y ∈ pre.getLast? → Pl.lighter y x = true) → Pl.Srt ((pre ++ x :: (post ++ rest)).take (nx + 1)) := by
          intro hy
          have e : (pre ++ x :: (post ++ rest)).take (nx + 1) = pre ++ x :: post := by
            rw [show pre ++ x :: (post ++ rest) = (pre ++ x :: post) ++ rest by simp]
            exact List.take_left' (by simp; omega)
          rw [e]
          exact Pl.srt_insert hsrt hpost hy
        have hPG : PG wr b n most live ed := A1.out.1.later hb (Nat.le_refl _)
        have hGL := A1.out.2.1
        rcases List.eq_nil_or_concat pre with e | ⟨q, y, e⟩
        · subst e
          have H := hide (And.intro (fin (by intro y h; cases h)) (And.intro hperm (And.intro hown hb)))
          have hd : decide ((0 : Int) < 0) = false := by decide
          clear fin hperm hsrt hpost hown hb hall hPG hGL
          simp only [List.length_nil, Int.natCast_zero] at *
          go_wp2_with fail
          go_quiet (fail)
          go_wp2
          obtain ⟨f1, f2, f3, f4⟩ := unhide H
          go_roundg (L.length - (nx + 1))
          case measure => omega
          case rel => exact ⟨nx + 1, [] ++ x :: (post ++ rest), by omega, by go_num, f2, f1, f3, below_drewN f4 _, by omega, by omega⟩
        · rw [List.concat_eq_append] at e
          subst e
          have ey : (q ++ [y]) ++ x :: (post ++ rest) = q ++ y :: x :: (post ++ rest) := by simp
          rw [ey] at hperm hown hall
          have hlenL : q.length + 1 < L.length := by have := hperm.length_eq; simp at this; omega
          have hxL : x ∈ L := hall x (by simp)
          have hyL : y ∈ L := hall y (by simp)
          have cx := numrow_cell hown (by have := hperm.length_eq; simpa using this) (q.length + 1) x (by simp)
          have cy := numrow_cell hown (by have := hperm.length_eq; simpa using this) q.length y (by simp)
          have fx := World.ownsRow.frozenAt hown (q.length + 1)
          have fy := World.ownsRow.frozenAt hown q.length
          obtain ⟨x0, x1⟩ := hGL.rng x hxL
          obtain ⟨y0, y1⟩ := hGL.rng y hyL
          obtain ⟨xi, hxi⟩ := Int.eq_ofNat_of_zero_le x0
          obtain ⟨yi, hyi⟩ := Int.eq_ofNat_of_zero_le y0
          have hex : ed[xi]? = some x := by have := hGL.ed x hxL; rw [hxi, Int.toNat_natCast] at this; exact this
          have hey : ed[yi]? = some y := by have := hGL.ed y hyL; rw [hyi, Int.toNat_natCast] at this; exact this
          have hne : x.id ≠ y.id := by
            have hnd : (q ++ y :: x :: (post ++ rest)).Pairwise (fun a b => a.id ≠ b.id) := (hperm.symm.pairwise (hGL.ids.imp (fun h => by omega)) (fun h => h.symm))
            have := (List.pairwise_append.1 hnd).2.1
            have := (List.pairwise_cons.1 this).1 x (by simp)
            exact fun e => this e.symm
          have hlit : ∀ W : World, Hid (∀ k : Nat, PG (W.drewN k) b n most live ed → Calls Tryz.prog 113 #[.pointer (some ⟨b, 0, none⟩), .int .i64 xi, .int .i64 yi] (W.drewN k) fun e w' => e = .returned (.bool (Pl.lighter x y)) ∧ ∃ m, w' = (W.drewN k).drewN m) :=
            fun W k hP => lighterp_any b n most live ed xi yi x y hex hey hxi hyi _ hP
          have hPd : Hid (∀ k : Nat, PG (wr.drewN k) b n most live ed) := fun k => hPG.drewN k
          have hi1 : (0 : Int) < q.length + 1 := by omega
          have hi2 : (q.length : Int) + 1 < L.length := by omega
          have hi3 : (q.length : Int) < L.length := by omega
          have hi4 : (0 : Int) ≤ q.length := by omega
          have hgt : ¬ q.length + 1 = q.length := by omega
          have hgt2 : ¬ q.length = q.length + 1 := by omega
          have elen : (((q ++ [y]).length : Nat) : Int) = (q.length : Int) + 1 := by simp
          rw [elen]
          have hgj' : q.length + 1 ≤ gk := by simpa using hgj
          have hpl' : q.length + 1 + post.length = nx := by simpa using hpl
          rw [hxi] at cx
          rw [hyi] at cy
          have HL := hlit wr
          have H := hide (And.intro fin (And.intro hperm (And.intro hsrt (And.intro hpost (And.intro hown (And.intro hb (And.intro hne (And.intro hxi hyi))))))))
          clear fin hperm hsrt hpost hown hb hall hPG hGL hlit hex hey hne hxi hyi x0 x1 y0 y1 hxL hyL elen hgj hpl ey
          generalize hq : Pl.lighter x y = lt at HL
          have HQ := hide hq
          clear hq
          go_wp2_with fail
          go_quiet ((go_at_call 113; exact Calls.quiet_of (unhide HL _ (unhide hPd _))))
          cases lt
          · go_wp2
            obtain ⟨fin, hperm, hsrt, hpost, hown, hb, hne, hxi, hyi⟩ := unhide H
            have f1 := fin (by
              intro z hz
              have : z = y := by simpa using hz.symm
              subst this
              rcases Pl.lighter_total hne with h | h
              · rw [unhide HQ] at h; cases h
              · exact h)
            have ey : (q ++ [y]) ++ x :: (post ++ rest) = q ++ y :: x :: (post ++ rest) := by simp
            rw [ey] at f1
            go_roundg (L.length - (nx + 1))
            case measure => omega
            case rel => exact ⟨nx + 1, q ++ y :: x :: (post ++ rest), by omega, by go_num, hperm, f1, hown, below_drewN hb _, by omega, by omega⟩
          · go_wp2
            obtain ⟨fin, hperm, hsrt, hpost, hown, hb, hne, hxi, hyi⟩ := unhide H
            have hsw := numrow_swap (w := wr.drewN nq) hown
            rw [hxi, hyi] at hsw
            have hp2 : (q ++ x :: (y :: post ++ rest)).Perm L := by
              refine List.Perm.trans ?_ hperm
              exact List.Perm.append_left _ (List.Perm.swap _ _ _)
            go_roundg (gk - 1)
            case measure => omega
            case rel =>
              refine ⟨q, x, y :: post, rest, rfl, hp2, by simpa using hsrt, ?_, by simp; omega, by simpa using hsw, ((below_drewN hb _).setCell ?_ _).setCell ?_ _, by omega⟩
              · intro z hz
                rcases List.mem_cons.1 hz with e | e
                · subst e; exact unhide HQ
                · exact hpost z e
              · exact (World.ownsRow.lt hown g rfl).1
              · exact (World.ownsRow.lt hown g rfl).1
    · obtain ⟨_, _, _, _⟩ := A1.out
      go_wp2
      go_ret
      refine ⟨_, _, rfl, s, hperm, ?_, by unfold Nums; rw [List.length_map, hperm.length_eq]; exact hown, hb⟩
      have e : s.take nx = s := List.take_of_length_le (by have := hperm.length_eq; omega)
      rw [e] at hsrt; exact hsrt

end Go.Proofs.YtnnnleckoinjoaaGreatDoor
