/- The heaviest edge on the way, without the document's answer. -/
import Derived.Test.YtnnnleckoinjoaaK19
import Derived.Test.YtnnnleckoinjoaaP23
namespace Go.Proofs.Ytnnnleckoinjoaa
open Go.RowKit
open Pl (It)

theorem MP_false (x : It) (l : List It) : MP false x l = l := List.filter_eq_self.2 fun _ _ => rfl
/-- what is asked of a graph in a book -/
theorem BK.conn {w : World} {bb xb : Nat} {s : St} (h : BOk s) (hK : BK w bb xb s) (x y : Nat) (hx : x < s.n) (hy : y < s.n) : Calls Try.prog 29 #[P0 xb, .int .i64 x, .int .i64 y] w fun e w' => e = .returned (.tuple #[.bool (Pl.conn s.L x y), .int .i64 0]) ∧ Below w.heap.size w w' :=
  connp_ok xb _ _ _ _ s.L x y w hK.xg.pg h.ok.gl h.ok.l100 h.ok.n30 h.ok.ends h.ok.wb (Pl.verB_true.2 (by omega)) (Pl.verB_true.2 (by omega))
/-- what Heaviest tells -/
def HvIs (s : St) (x y : Nat) (r c : Int) : Prop :=
  (Pl.conn s.L x y = false ∧ r = 0 ∧ c = 7) ∨ (Pl.conn s.L x y = true ∧ x = y ∧ r = -1 ∧ c = 0) ∨ (Pl.conn s.L x y = true ∧ x ≠ y ∧ c = 0 ∧ ∃ t, Pl.Mid s.L x y t ∧ r = t.id)
theorem heav_is {s : St} (h : BOk s) (x y : Nat) (hx : x < s.n) (hy : y < s.n) : ∃ r c : Int, HvIs s x y r c ∧ ∀ (w : World) (bb xb : Nat), BK w bb xb s → Calls Try.prog 31 #[P0 xb, .int .i64 x, .int .i64 y] w fun e w' => e = .returned (.tuple #[.int .i64 r, .int .i64 c]) ∧ Below w.heap.size w w' := by
  have h1 : Pl.verB s.n (x : Int) = true := Pl.verB_true.2 (by omega)
  have h2 : Pl.verB s.n (y : Int) = true := Pl.verB_true.2 (by omega)
  cases hc : Pl.conn s.L x y with
  | false => exact ⟨0, 7, Or.inl ⟨hc, rfl, rfl⟩, fun w bb xb hK => heavp_no xb _ _ _ _ s.L x y w hK.xg.pg h.ok.gl h.ok.l100 h.ok.n30 h.ok.ends h.ok.wb 7 (Or.inr (Or.inr ⟨h1, h2, hc, rfl⟩))⟩
  | true =>
    refine ⟨Pl.midI s.L x y, 0, ?_, fun w bb xb hK => heavp_ok xb _ _ _ _ s.L x y w hK.xg.pg h.ok.gl h.ok.l100 h.ok.n30 h.ok.ends h.ok.wb h1 h2 hc⟩
    by_cases hn : x = y
    · subst hn; exact Or.inr (Or.inl ⟨hc, rfl, Pl.mid_same _ _, rfl⟩)
    · obtain ⟨t, ht⟩ := Pl.mid_ex h.ok.gl.ids hc (by omega)
      exact Or.inr (Or.inr ⟨hc, hn, rfl, t, ht, ht.is⟩)
theorem find_mem {l : List It} {t : It} {r : Int} (hi : Pl.Ids l) (ht : t ∈ l) (h : Pl.FindIs l t.id r) : ∃ (k : Nat) (hk : k < l.length), r = k ∧ l[k] = t := by
  rcases h with ⟨_, h⟩ | ⟨k, hk, rfl, h⟩
  · exact absurd rfl (h t ht)
  · exact ⟨k, hk, rfl, Pl.ids_inj hi (List.getElem_mem hk) ht h⟩
/-- the last word of Bridges -/
theorem mid_ways {L : List It} {x y : Nat} {t : It} (h : Pl.Mid L x y t) : Pl.conn (Pl.below L t) x y = false ∧ ((Pl.conn (Pl.below L t) x t.u && Pl.conn (Pl.below L t) y t.v) || (Pl.conn (Pl.below L t) x t.v && Pl.conn (Pl.below L t) y t.u)) = true := by
  refine ⟨h.apart, ?_⟩
  rcases (Pl.conn_cons _ _ _ _).1 h.joins with h1 | ⟨h1, h2⟩ | ⟨h1, h2⟩
  · rw [h.apart] at h1; cases h1
  · rw [Pl.conn_symm] at h2; rw [h1, h2]; rfl
  · rw [Pl.conn_symm] at h2; rw [h1, h2]; simp

set_option maxRecDepth 100000 in
set_option maxHeartbeats 8000000 in
theorem bridges_any (v0 : Int) (hv : R64 v0) (sa : Option Addr) (sb so len cap : Nat) (I : Nat → StT) (w : World) (hsa : 0 < len → sa = some ⟨sb, so, none⟩) (hsb : 0 < len → sb < w.heap.size) (hlen : len ≤ 9223372036854775807) (hc : ∀ j, j < len → StAt w sb (so + j * 5) (I j)) (u v : Int) (hu : R64 u) (hv2 : R64 v) :
    Calls Try.prog 8 #[.int .i64 v0, .slice sa len cap, .int .i64 u, .int .i64 v] w fun e w' => e = .returned (.bool true) ∧ Below w.heap.size w w' := by
  have HP := hide (played_any v0 hv sa sb so len cap I w hsa hsb hlen hc)
  clear hsa hsb hlen hc hv
  go_enter Try.func8, Try.ntmps8
  go_wp2_with fail
  refine (unhide HP).mono ?_
  rintro e w1 ⟨bb, xb, s, rfl, hbb, hxb, hs, hK, hB⟩
  clear HP
  obtain ⟨⟨vl, vp, vm, hb1, hI1, _, _⟩, hx1⟩ := id hK
  obtain ⟨al, cl, rfl⟩ := row_form hI1
  obtain ⟨c0, c1, c2, _, _, _, _⟩ := six_cells6 hb1
  have hbl := lt_of_block hb1
  have hl100 := hs.ok.l100
  have hn30 := hs.ok.n30
  have hn1 := hs.ok.n1
  obtain ⟨X, hX⟩ : ∃ X, X = pk u s.n := ⟨_, rfl⟩
  obtain ⟨Y, hY⟩ : ∃ Y, Y = pk v s.n := ⟨_, rfl⟩
  have hXn : X < s.n := by rw [hX]; exact pk_lt u s.n (by omega)
  have hYn : Y < s.n := by rw [hY]; exact pk_lt v s.n (by omega)
  have HPX : Hid (∀ W, Calls Try.prog 18 #[.int .i64 u, .int .i64 s.n] W fun e w' => e = .returned (.int .i64 X) ∧ W = w') := fun W => by rw [hX]; exact pick_any u s.n hn1 (by omega) hu.1 hu.2 W
  have HPY : Hid (∀ W, Calls Try.prog 18 #[.int .i64 v, .int .i64 s.n] W fun e w' => e = .returned (.int .i64 Y) ∧ W = w') := fun W => by rw [hY]; exact pick_any v s.n hn1 (by omega) hv2.1 hv2.2 W
  obtain ⟨r, c, hrc, hHv⟩ := heav_is hs X Y hXn hYn
  have HHv := hide hHv
  have HRC := hide hrc
  have H0 := hide (And.intro hK (And.intro hI1 (And.intro hB hs)))
  clear hK hI1 hx1 hb1 hX hY hHv hrc hB hs
  have HPT : Hid (∀ (sm : Bool) (Z : Nat) (x : It) (W : World), Z < s.n → Below w1.heap.size w1 W → Calls Try.prog 30 #[.int .i64 s.n, .slice al s.L.length cl, .int .i64 Z, .bool sm, itv x] W fun e w' => ∃ gi, e = .returned (.slice (some ⟨gi, 0, none⟩) s.n s.n) ∧ Bools w' W.heap.size (.slice (some ⟨gi, 0, none⟩) s.n s.n) (Pl.conns s.n (MP sm x s.L) Z) ∧ Below W.heap.size W w') := fun sm Z x W hZ hW => by
    obtain ⟨_, hI1, _, hs⟩ := unhide H0
    exact part_any sm s.n s.L Z x al cl W (row_below hI1 hW (Nat.le_refl _)) hl100 hn30 hZ hs.ok.ends
  go_wp2_with (first
    | (go_at_call 18; with_reducible refine ((unhide HPX) _).mono ?_; rintro e w2 ⟨rfl, rfl⟩)
    | (go_at_call 18; with_reducible refine ((unhide HPY) _).mono ?_; rintro e w2 ⟨rfl, rfl⟩))
  refine ((unhide HHv) _ bb xb (unhide H0).1).mono ?_
  rintro e w2 ⟨rfl, hB2⟩
  have d0 := (hB2.cell (p := ⟨bb, 0, none⟩) hbl).trans c0
  have HB2 := hide hB2
  have HC2 := hide ((unhide H0).1.later hB2)
  clear hB2 HPX HPY HHv
  go_wp2_with fail
  refine ((unhide HC2).conn (unhide H0).2.2.2 X Y hXn hYn).mono ?_
  rintro e w3 ⟨rfl, hB3⟩
  have hB13 : Below w1.heap.size w1 w3 := (unhide HB2).trans (hB3.mono (unhide HB2).size)
  have d1 := (hB13.cell (p := ⟨bb, 1, none⟩) hbl).trans c1
  have d2 := (hB13.cell (p := ⟨bb, 2, none⟩) hbl).trans c2
  have HB13 := hide hB13
  have hbl3 : bb < w3.heap.size := by have := hB13.size; omega
  obtain ⟨q, hq⟩ : ∃ q, q = Pl.conn s.L (X : Int) (Y : Int) := ⟨_, rfl⟩
  rw [← hq]
  have HQ := hide hq
  clear hB3 hB13 HB2 HC2 d0 hq
  have HP0 := hide ((unhide HPT) false X ⟨0, 0, 0, 0⟩ w3.drew hXn (unhide HB13).drew)
  have HLT : Hid (∀ w2, Below w3.drew.heap.size w3.drew w2 → Below w1.heap.size w1 w2 ∧ w2.cell? ⟨bb, 1, none⟩ = some (.int .i64 s.n) ∧ w2.cell? ⟨bb, 2, none⟩ = some (.slice al s.L.length cl)) := fun w2 hb => by
    have hb' := (unhide HB13).trans ((Below.undrew hb).mono (unhide HB13).size)
    exact ⟨hb', (hb'.cell (p := ⟨bb, 1, none⟩) hbl).trans c1, (hb'.cell (p := ⟨bb, 2, none⟩) hbl).trans c2⟩
  go_upto_region 8 with fail
  go_region_held3 (fun w' => w'.cell? ⟨bb, 1, none⟩ = some (.int .i64 s.n) ∧ w'.cell? ⟨bb, 2, none⟩ = some (.slice al s.L.length cl))
    (first | (refine ⟨?_, ?_⟩ <;> assumption) | (go_keep; done))
    (first
      | (go_at_call 30; refine (unhide HP0).mono ?_; rintro e w4 ⟨gi, rfl, hBo, hb4⟩; have z := (unhide HLT) w4 hb4; obtain ⟨z0, z1, z2⟩ := z))
  rw [MP_false] at hBo
  have cc := conns_cell hBo (v := (Y : Int)) (by omega) (by omega)
  rw [Int.toNat_natCast, ← unhide HQ] at cc
  have hY0 : (Y : Int) < s.n := by omega
  have HB14 := hide z0
  have hb14 := z0.size
  clear hBo hb4 z0 HLT HP0 HB13 d1 d2 c1 c2
  obtain ⟨hK, hI1, hB, hs⟩ := unhide H0
  have HBE := hide (fun (w9 : World) (h9 : Below w4.heap.size w4 w9) => hB.trans (((unhide HB14).trans (h9.mono (unhide HB14).size)).mono hB.size))
  have hI4 := row_below hI1 (unhide HB14) (Nat.le_refl _)
  rcases unhide HRC with ⟨hq, rfl, rfl⟩ | ⟨hq, hxy, rfl, rfl⟩ | ⟨hq, hxy, rfl, t, ht, rfl⟩
  · have hqf : q = false := (unhide HQ).trans hq
    subst hqf
    clear hK hI1 hB hs hI4 H0 HPT HRC HQ HB14
    go_wp2
    go_ret
    exact ⟨rfl, (unhide HBE) _ (Below.refl _ _)⟩
  · have hqf : q = true := (unhide HQ).trans hq
    subst hqf
    subst hxy
    clear hK hI1 hB hs hI4 H0 HPT HRC HQ HB14
    go_wp2
    go_ret
    exact ⟨rfl, (unhide HBE) _ (Below.refl _ _)⟩
  · have hqf : q = true := (unhide HQ).trans hq
    subst hqf
    have hxy' : ¬ (X : Int) = Y := by omega
    have hxy2 : ((X : Int) == (Y : Int)) = false := by simpa using hxy'
    have HAT := hide (at_any s.L t.id al cl w4 (by exact hI4) hl100)
    have hfind := fun r h => find_mem (r := r) hs.ok.gl.ids ht.mem h
    obtain ⟨tu0, tu1, tv0, tv1⟩ := hs.ok.ends t ht.mem
    obtain ⟨tu, htu⟩ := Int.eq_ofNat_of_zero_le tu0
    obtain ⟨tv, htv⟩ := Int.eq_ofNat_of_zero_le tv0
    obtain ⟨hw1, hw2⟩ := mid_ways ht
    have HM := hide (And.intro hfind (And.intro htu (And.intro htv (And.intro hw1 (And.intro hw2 hI4)))))
    have htun : tu < s.n := by omega
    have htvn : tv < s.n := by omega
    clear hK hI1 hB hs hI4 H0 HRC HQ hfind htu htv hw1 hw2 tu0 tu1 tv0 tv1 ht
    go_wp2_with fail
    refine (unhide HAT).mono ?_
    rintro e w5 ⟨r, rfl, hfi, rfl⟩
    obtain ⟨hfind, htu, htv, hw1, hw2, hI4⟩ := unhide HM
    obtain ⟨k, hk, rfl, hkt⟩ := hfind r hfi
    obtain ⟨g, rfl⟩ := row_some hI4 (by omega)
    obtain ⟨y0, y1, y2, y3⟩ := its_cells hI4 k hk
    rw [hkt] at y0 y1 y2 y3
    rw [htu] at y1
    rw [htv] at y2
    have hk0 : (0 : Int) ≤ k := by omega
    have hk1 : (k : Int) < s.L.length := by omega
    have hk2 : ¬ (k : Int) < 0 := by omega
    have hbl4 : bb < w4.heap.size := by omega
    have n1 : ¬ bb = w4.heap.size := by omega
    have n2 : ¬ w4.heap.size = bb := by omega
    obtain ⟨ti, hti⟩ : ∃ ti, ti = t.id := ⟨_, rfl⟩
    obtain ⟨tw, htw⟩ : ∃ tw, tw = t.w := ⟨_, rfl⟩
    have hit : itv t = .agg #[.int .i64 ti, .int .i64 tu, .int .i64 tv, .int .i64 tw] := by unfold itv; rw [htu, htv, hti, htw]
    have hio : Obj.cells #[.int .i64 ti, .int .i64 tu, .int .i64 tv, .int .i64 tw] 40 (0, 0) = ito t := by unfold ito; rw [htu, htv, hti, htw]
    rw [← hti] at y0
    rw [← htw] at y3
    have HP1 : Hid (∀ (Z : Nat) (W : World), Z < s.n → Below w1.heap.size w1 W → Calls Try.prog 30 #[.int .i64 s.n, .slice (some ⟨g, 0, none⟩) s.L.length cl, .int .i64 Z, .bool true, .agg #[.int .i64 ti, .int .i64 tu, .int .i64 tv, .int .i64 tw]] W fun e w' => ∃ gi, e = .returned (.slice (some ⟨gi, 0, none⟩) s.n s.n) ∧ Bools w' W.heap.size (.slice (some ⟨gi, 0, none⟩) s.n s.n) (Pl.conns s.n (Pl.below s.L t) Z) ∧ Below W.heap.size W w') := fun Z W hZ hW => by
      have := (unhide HPT) true Z t W hZ hW
      rw [MP_true, hit] at this
      exact this
    have HLT : Hid (∀ w2, Below (w4.alloc (.cells #[.int .i64 ti, .int .i64 tu, .int .i64 tv, .int .i64 tw] 40)).drew.heap.size (w4.alloc (.cells #[.int .i64 ti, .int .i64 tu, .int .i64 tv, .int .i64 tw] 40)).drew w2 → Below w4.heap.size w4 w2 ∧ w2.cell? ⟨bb, 1, none⟩ = some (.int .i64 s.n) ∧ w2.cell? ⟨bb, 2, none⟩ = some (.slice (some ⟨g, 0, none⟩) s.L.length cl) ∧ w2.heap[w4.heap.size]? = some (.cells #[.int .i64 ti, .int .i64 tu, .int .i64 tv, .int .i64 tw] 40 (0, 0)) ∧ w4.heap.size < w2.heap.size) := fun w2 hb => by
      have hb' : Below (w4.heap.size + 1) (w4.alloc (.cells #[.int .i64 ti, .int .i64 tu, .int .i64 tv, .int .i64 tw] 40)) w2 := by
        have e : (w4.alloc (.cells #[.int .i64 ti, .int .i64 tu, .int .i64 tv, .int .i64 tw] 40)).drew.heap.size = w4.heap.size + 1 := World.size_alloc _ _
        rw [e] at hb; exact Below.undrew hb
      have hbw : Below w4.heap.size w4 w2 := ((Below.refl _ _).alloc (Nat.le_refl _) _).trans (hb'.mono (by omega))
      exact ⟨hbw, (hbw.cell (p := ⟨bb, 1, none⟩) hbl4).trans z1, (hbw.cell (p := ⟨bb, 2, none⟩) hbl4).trans z2, made_later hb' (by omega), by have := hb'.size; rw [World.size_alloc] at this; omega⟩
    have hbx : (w4.alloc (.cells #[.int .i64 ti, .int .i64 tu, .int .i64 tv, .int .i64 tw] 40)).heap[w4.heap.size]? = some (.cells #[.int .i64 ti, .int .i64 tu, .int .i64 tv, .int .i64 tw] 40 (0, 0)) := heap_alloc_new _ _
    obtain ⟨x0, x1, x2, x3, _⟩ := four_cells hbx
    have HW := hide (And.intro hw1 (And.intro hw2 (And.intro htu htv)))
    have HPA := hide ((unhide HP1) X (w4.alloc (.cells #[.int .i64 ti, .int .i64 tu, .int .i64 tv, .int .i64 tw] 40)).drew hXn (((unhide HB14).trans (((Below.refl _ _).alloc (Nat.le_refl _) _).mono (unhide HB14).size)).drew))
    clear hfi hI4 hfind htu htv hw1 hw2 HM HAT hkt hti htw hit hio hbx
    go_upto_region 19 with fail
    go_region_held3 (fun w' => w'.cell? ⟨bb, 1, none⟩ = some (.int .i64 s.n) ∧ w'.cell? ⟨bb, 2, none⟩ = some (.slice (some ⟨g, 0, none⟩) s.L.length cl) ∧ w'.cell? ⟨w4.heap.size, 0, none⟩ = some (.int .i64 ti) ∧ w'.cell? ⟨w4.heap.size, 1, none⟩ = some (.int .i64 tu) ∧ w'.cell? ⟨w4.heap.size, 2, none⟩ = some (.int .i64 tv) ∧ w'.cell? ⟨w4.heap.size, 3, none⟩ = some (.int .i64 tw))
      (first | (refine ⟨?_, ?_, ?_, ?_, ?_, ?_⟩ <;> assumption) | (go_keep; done))
      (first
        | (go_at_call 30; refine (unhide HPA).mono ?_; rintro e w5 ⟨gl, rfl, hBl, hb5⟩; have q := (unhide HLT) w5 hb5; obtain ⟨q1, q2, q3, q4, q5⟩ := q; have r := four_cells q4; obtain ⟨p0, p1, p2, p3, _⟩ := r))
    have hbl5 : bb < w5.heap.size := by omega
    have hB15 : Below w1.heap.size w1 w5 := (unhide HB14).trans (q1.mono (unhide HB14).size)
    have HPB := hide ((unhide HP1) Y w5.drew hYn hB15.drew)
    have HLT2 : Hid (∀ w2, Below w5.drew.heap.size w5.drew w2 → Below w5.heap.size w5 w2 ∧ w2.cell? ⟨bb, 1, none⟩ = some (.int .i64 s.n) ∧ w2.cell? ⟨bb, 2, none⟩ = some (.slice (some ⟨g, 0, none⟩) s.L.length cl) ∧ w2.heap[w4.heap.size]? = some (.cells #[.int .i64 ti, .int .i64 tu, .int .i64 tv, .int .i64 tw] 40 (0, 0))) := fun w2 hb => by
      have hb' : Below w5.heap.size w5 w2 := Below.undrew hb
      exact ⟨hb', (hb'.cell (p := ⟨bb, 1, none⟩) hbl5).trans q2, (hb'.cell (p := ⟨bb, 2, none⟩) hbl5).trans q3, by rw [hb'.block _ q5]; exact q4⟩
    have HBL := hide (And.intro hBl q1)
    clear hBl hb5 q1 q4 hB15 HPA HLT x0 x1 x2 x3 y0 y1 y2 y3 z1 z2 cc
    go_wp2_with fail
    go_region_held3 (fun w' => w'.cell? ⟨bb, 1, none⟩ = some (.int .i64 s.n) ∧ w'.cell? ⟨bb, 2, none⟩ = some (.slice (some ⟨g, 0, none⟩) s.L.length cl) ∧ w'.cell? ⟨w4.heap.size, 0, none⟩ = some (.int .i64 ti) ∧ w'.cell? ⟨w4.heap.size, 1, none⟩ = some (.int .i64 tu) ∧ w'.cell? ⟨w4.heap.size, 2, none⟩ = some (.int .i64 tv) ∧ w'.cell? ⟨w4.heap.size, 3, none⟩ = some (.int .i64 tw))
      (first | (refine ⟨?_, ?_, ?_, ?_, ?_, ?_⟩ <;> assumption) | (go_keep; done))
      (first
        | (go_at_call 30; refine (unhide HPB).mono ?_; rintro e w6 ⟨go, rfl, hBo, hb6⟩; have q' := (unhide HLT2) w6 hb6; obtain ⟨s1, s2, s3, s4⟩ := q'; have r' := four_cells s4; obtain ⟨o0, o1, o2, o3, _⟩ := r'))
    obtain ⟨hBl, q1⟩ := unhide HBL
    have hBl6 := row_below hBl s1 (Nat.le_refl _)
    have a0 := conns_cell (w := w6) (by exact hBl6) (v := (Y : Int)) (by omega) (by omega)
    have a1 := conns_cell (w := w6) (by exact hBl6) (v := (tu : Int)) (by omega) (by omega)
    have a2 := conns_cell (w := w6) (by exact hBl6) (v := (tv : Int)) (by omega) (by omega)
    have b1 := conns_cell hBo (v := (tu : Int)) (by omega) (by omega)
    have b2 := conns_cell hBo (v := (tv : Int)) (by omega) (by omega)
    obtain ⟨hw1, hw2, htu, htv⟩ := unhide HW
    rw [htu, htv] at hw2
    rw [Int.toNat_natCast] at a0 a1 a2 b1 b2
    rw [hw1] at a0
    generalize Pl.conn (Pl.below s.L t) (X : Int) (tu : Int) = f1 at a1 hw2
    generalize Pl.conn (Pl.below s.L t) (X : Int) (tv : Int) = f2 at a2 hw2
    generalize Pl.conn (Pl.below s.L t) (Y : Int) (tu : Int) = f3 at b1 hw2
    generalize Pl.conn (Pl.below s.L t) (Y : Int) (tv : Int) = f4 at b2 hw2
    have hBF := hide ((unhide HBE) _ (q1.trans (s1.mono q1.size)))
    have tu1 : (tu : Int) < s.n := by omega
    have tv1 : (tv : Int) < s.n := by omega
    have HW2 := hide hw2
    clear hBl hBl6 hBo hb6 q1 s1 s4 HBL HW hw1 htu htv HPB HLT2 HP1 HPT HBE hw2 p0 p1 p2 p3 q2 q3
    cases f1 <;> cases f2 <;> cases f3 <;> cases f4
    all_goals first
      | (exfalso; have h := unhide HW2; simp at h; done)
      | (go_wp2; go_ret; exact ⟨rfl, unhide hBF⟩)

end Go.Proofs.Ytnnnleckoinjoaa
