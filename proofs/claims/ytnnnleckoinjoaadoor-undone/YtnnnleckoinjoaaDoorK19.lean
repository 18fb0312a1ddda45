/- Light. -/
import Derived.Test.YtnnnleckoinjoaaDoorK18
namespace Go.Proofs.YtnnnleckoinjoaaDoor
open Go.RowKit
open Pl (It)

theorem filt_at (p : It → Bool) (l : List It) (i : Nat) (hi : i < l.length) (hp : p l[i] = true) : ((l.take i).filter p).length < (l.filter p).length ∧ (l.filter p)[((l.take i).filter p).length]? = some l[i] := by
  have e : l.filter p = (l.take i).filter p ++ l[i] :: (l.drop (i + 1)).filter p := by
    have h1 : l = l.take i ++ (l[i] :: l.drop (i + 1)) := by rw [← List.drop_eq_getElem_cons hi, List.take_append_drop]
    have h2 : l.filter p = (l.take i ++ (l[i] :: l.drop (i + 1))).filter p := by rw [← h1]
    rw [h2, List.filter_append, List.filter_cons_of_pos hp]
  constructor
  · rw [e]; simp
  · rw [e, List.getElem?_append_right (Nat.le_refl _)]; simp

set_option maxRecDepth 100000 in
set_option maxHeartbeats 8000000 in
theorem light_gen (bb xb : Nat) (s : St) (hs : Ok s) (w : World) (vl vp vm : Value) (hb1 : w.heap[bb]? = some (bko xb s.n vl vp vm)) (hI1 : Its w 0 vl s.L) (hK : XG w xb s) :
    Calls Tryd.prog 17 #[P0 bb] w fun e w' => e = .returned (.bool true) ∧ Below w.heap.size w w' := by
  have hx1 := hK
  obtain ⟨al, cl, rfl⟩ := row_form hI1
  obtain ⟨c0, c1, c2, _, _, _, _⟩ := six_cells6 hb1
  have hbl := lt_of_block hb1
  have hl100 := hs.l100
  have hn30 := hs.n30
  obtain ⟨F, hF⟩ : ∃ F, F = Pl.forest s.L := ⟨_, rfl⟩
  have hfl : F.length ≤ 100 := by rw [hF]; exact Nat.le_trans (List.length_filter_le _ _) hl100
  have HFo : Hid (Calls Tryd.prog 23 #[P0 xb] w fun e w'' => ∃ v, e = .returned v ∧ Nums w'' w.heap.size v (F.map It.id) ∧ Below w.heap.size w w'') := by
    show Calls _ _ _ _ _
    rw [hF]; exact forestp_any xb _ _ _ _ s.L w hK.pg hs.gl hs.l100 hs.n30 hs.ends
  have H0 := hide (And.intro hK hI1)
  have HFF := hide hF
  clear hK hI1 hx1 hb1 hF
  go_enter Tryd.func17, Tryd.ntmps17
  go_wp2_with fail
  refine (unhide HFo).mono ?_
  rintro e w1 ⟨v1, rfl, hN1, hB1⟩
  obtain ⟨a1, k1, rfl⟩ := row_form hN1
  rw [List.length_map]
  have hN1' := row_mono hN1 (Nat.zero_le _)
  rw [List.length_map] at hN1'
  have d1 := (hB1.cell (p := ⟨bb, 1, none⟩) hbl).trans c1
  have d2 := (hB1.cell (p := ⟨bb, 2, none⟩) hbl).trans c2
  have hbl1 : bb < w1.heap.size := by have := hB1.size; omega
  have H1 := hide (And.intro hN1' hB1)
  clear hN1 hN1' hB1 HFo c0 c1 c2
  go_wp2_with fail
  go_loopg [4, 5] (s.L.length + 1) (fun gk kv iv wr => ∃ (i k : Nat), i ≤ s.L.length ∧ iv = .int .i64 i ∧ kv = .int .i64 k ∧ k = ((s.L.take i).filter (Pl.keeps s.L)).length ∧ Below w1.heap.size w1 wr ∧ s.L.length - i ≤ gk)
  case atStart => exact ⟨0, 0, Nat.zero_le _, rfl, rfl, by simp, Below.refl _ _, by omega⟩
  case round =>
    obtain ⟨i, k, hile, rfl, rfl, hke, hbr, hgk⟩ := hrel
    obtain ⟨hN1, hB1⟩ := unhide H1
    obtain ⟨hK, hI0⟩ := unhide H0
    have hsnoc := fun hil => Pl.filter_snoc (Pl.keeps s.L) s.L i hil
    have hkle : ((s.L.take i).filter (Pl.keeps s.L)).length ≤ i := Nat.le_trans (List.length_filter_le _ _) (by rw [List.length_take]; omega)
    by_cases hil : i < s.L.length
    · have hB1r : Below w.heap.size w wr := hB1.trans (hbr.mono hB1.size)
      have hIr := row_below hI0 hB1r (Nat.le_refl _)
      have hNr := row_below hN1 hbr (Nat.le_refl _)
      obtain ⟨g, rfl⟩ := row_some hIr (by omega)
      obtain ⟨y0, y1, y2, y3⟩ := its_cells hIr i hil
      obtain ⟨eu, ev, heu, hev, hea, heb⟩ := ends_get hs.ends i hil
      have hi1 : (0 : Int) ≤ i := by omega
      have hi2 : (i : Int) < s.L.length := by omega
      have e1 := (hbr.cell (p := ⟨bb, 1, none⟩) hbl1).trans d1
      have e2 := (hbr.cell (p := ⟨bb, 2, none⟩) hbl1).trans d2
      have hblr : bb < wr.heap.size := by have := hbr.size; omega
      have hgr : g < wr.heap.size := by
        unfold World.cell? at y0; simp only at y0; split at y0
        · rename_i hh; exact lt_of_block hh
        · cases y0
      have n1 : ¬ bb = wr.heap.size := by omega
      have n2 : ¬ wr.heap.size = bb := by omega
      have n3 : ¬ g = wr.heap.size := by omega
      -- what the round turns on
      have hkeep : Pl.keeps s.L s.L[i] = !Pl.conn (Pl.below s.L s.L[i]) s.L[i].u s.L[i].v := rfl
      have hat : Pl.keeps s.L s.L[i] = true → k < F.length ∧ (F.map It.id)[k]? = some s.L[i].id := fun hp => by
        have := filt_at (Pl.keeps s.L) s.L i hil hp
        rw [hke, unhide HFF]
        refine ⟨this.1, ?_⟩
        rw [List.getElem?_map]
        show Option.map It.id ((s.L.filter (Pl.keeps s.L))[((s.L.take i).filter (Pl.keeps s.L)).length]?) = _
        rw [this.2]; rfl
      have hs1 := hsnoc hil
      obtain ⟨x, hx⟩ : ∃ x, x = s.L[i] := ⟨_, rfl⟩
      rw [← hx] at y0 y1 y2 y3 heu hev hkeep hat hs1
      have HPt : Hid (Calls Tryd.prog 39 #[.int .i64 s.n, .slice (some ⟨g, 0, none⟩) s.L.length cl, .int .i64 x.u, .bool true, itv x] (wr.alloc (ito x)).drew fun e w' => ∃ gi, e = .returned (.slice (some ⟨gi, 0, none⟩) s.n s.n) ∧ Bools w' (wr.alloc (ito x)).drew.heap.size (.slice (some ⟨gi, 0, none⟩) s.n s.n) (Pl.conns s.n (Pl.below s.L x) eu) ∧ Below (wr.alloc (ito x)).drew.heap.size (wr.alloc (ito x)).drew w') := by
        show Calls _ _ _ _ _
        rw [heu]
        have := part_any true s.n s.L eu x _ cl (wr.alloc (ito x)).drew (World.ownsRow.alloc hIr _) hl100 hn30 hea hs.ends
        rw [MP_true] at this
        exact this
      have hbx : (wr.alloc (ito x)).heap[wr.heap.size]? = some (ito x) := heap_alloc_new _ _
      obtain ⟨x0, x1, x2, x3, _⟩ := four_cells hbx
      have HBX : Hid (∀ w2, Below (wr.alloc (ito x)).drew.heap.size (wr.alloc (ito x)).drew w2 → w2.heap[wr.heap.size]? = some (ito x) ∧ Below wr.heap.size wr w2 ∧ w2.cell? ⟨bb, 1, none⟩ = some (.int .i64 s.n) ∧ w2.cell? ⟨bb, 2, none⟩ = some (.slice (some ⟨g, 0, none⟩) s.L.length cl) ∧ Nums w2 0 (.slice a1 F.length k1) (F.map It.id)) := fun w2 hb => by
        have hb' : Below (wr.heap.size + 1) (wr.alloc (ito x)) w2 := by
          have e : (wr.alloc (ito x)).drew.heap.size = wr.heap.size + 1 := World.size_alloc _ _
          rw [e] at hb; exact Below.undrew hb
        have hbw : Below wr.heap.size wr w2 := ((Below.refl _ _).alloc (Nat.le_refl _) _).trans (hb'.mono (by omega))
        refine ⟨made_later hb' (by omega), hbw, (hbw.cell (p := ⟨bb, 1, none⟩) hblr).trans e1, (hbw.cell (p := ⟨bb, 2, none⟩) hblr).trans e2, ?_⟩
        have := row_below hNr hbw (Nat.le_refl _)
        unfold Nums; rw [List.length_map]; exact this
      have HPure := hide (And.intro hkeep (And.intro hat (And.intro hs1 (And.intro heu (And.intro hev hke)))))
      have HBR := hide hbr
      clear hK hI0 hN1 hB1 hB1r hIr hNr hbr hkeep hat hs1 hx heu hev hke hsnoc hkle hbx
      go_wp2_with fail
      go_region_held3 (fun w' => w'.cell? ⟨bb, 1, none⟩ = some (.int .i64 s.n) ∧ w'.cell? ⟨bb, 2, none⟩ = some (.slice (some ⟨g, 0, none⟩) s.L.length cl) ∧ w'.cell? ⟨wr.heap.size, 0, none⟩ = some (.int .i64 x.id) ∧ w'.cell? ⟨wr.heap.size, 1, none⟩ = some (.int .i64 x.u) ∧ w'.cell? ⟨wr.heap.size, 2, none⟩ = some (.int .i64 x.v) ∧ w'.cell? ⟨wr.heap.size, 3, none⟩ = some (.int .i64 x.w))
        (first | (refine ⟨?_, ?_, ?_, ?_, ?_, ?_⟩ <;> assumption) | (go_keep; done))
        (first
          | (go_at_call 39; refine (unhide HPt).mono ?_; rintro e w2 ⟨gi, rfl, hBo, hb2⟩; have q := (unhide HBX) w2 hb2; obtain ⟨q1, q2, q3, q4, q5⟩ := q; have r := four_cells q1; obtain ⟨z0, z1, z2, z3, _⟩ := r))
      obtain ⟨hkeep, hat, hs1, heu, hev, hke⟩ := unhide HPure
      obtain ⟨q, hq⟩ : ∃ q, q = Pl.conn (Pl.below s.L x) (eu : Int) (ev : Int) := ⟨_, rfl⟩
      have cc := conns_cell hBo (v := (ev : Int)) (by omega) (by omega)
      rw [Int.toNat_natCast, ← hq] at cc
      rw [heu, hev, ← hq] at hkeep
      rw [hev] at z2
      have hv0 : (ev : Int) < s.n := by omega
      have hBn := (unhide HBR).trans (q2.mono (unhide HBR).size)
      have HB2 := hide hBn
      clear hBo hb2 q1 q2 hq heu hev HPure HBX HPt hBn HBR
      cases q with
      | true =>
        have HK2 : Hid (k = ((s.L.take (i + 1)).filter (Pl.keeps s.L)).length) := by
          show _ = _
          rw [hs1, hkeep]; simpa using hke
        clear hkeep hat hs1 hke
        go_wp2
        go_roundg (gk - 1)
        case measure => omega
        case rel => exact ⟨i + 1, k, by omega, by go_num, rfl, unhide HK2, unhide HB2, by omega⟩
      | false =>
        have HK2 : Hid (k + 1 = ((s.L.take (i + 1)).filter (Pl.keeps s.L)).length) := by
          show _ = _
          rw [hs1, hkeep]; simp; exact hke
        obtain ⟨ha1, ha2⟩ := hat (by rw [hkeep]; rfl)
        obtain ⟨gl, rfl⟩ : ∃ gl, a1 = some ⟨gl, 0, none⟩ := by
          have := q5
          unfold Nums at this
          rw [List.length_map] at this
          exact row_some this (by omega)
        have lc : w2.cell? ⟨gl, k, none⟩ = some (.int .i64 x.id) := by
          have := nums_cell (l := F.map It.id) (g := gl) (cap := k1) (base := 0) (w := w2) (by rw [List.length_map]; exact q5) k (by rw [List.length_map]; exact ha1)
          rw [this]
          have h2 := List.getElem?_eq_getElem (l := F.map It.id) (i := k) (by rw [List.length_map]; exact ha1)
          rw [h2] at ha2
          simpa using ha2
        have k0 : (0 : Int) ≤ k := by omega
        have k2 : (k : Int) < F.length := by omega
        have k3 : ¬ (F.length : Int) ≤ k := by omega
        clear hkeep hat hs1 hke ha1 ha2 q5
        go_wp2_with (go_quiet (fail))
        go_roundg (gk - 1)
        case measure => omega
        case rel => exact ⟨i + 1, k + 1, by omega, by go_num, by go_num, unhide HK2, below_drewN (unhide HB2) _, by omega⟩
    · have hke' : s.L.take i = s.L := List.take_of_length_le (by omega)
      rw [hke'] at hke
      have hkF : k = F.length := by rw [hke, unhide HFF]; rfl
      have ii : ¬ (i : Int) < s.L.length := by omega
      have HBw := hide (hB1.trans (hbr.mono hB1.size))
      have hbr2 := (hbr.cell (p := ⟨bb, 2, none⟩) hbl1).trans d2
      clear hK hI0 hN1 hB1 hbr hke hke' hsnoc hkle
      subst hkF
      go_wp2
      go_ret
      exact ⟨rfl, unhide HBw⟩
theorem light_any (bb xb : Nat) (s : St) (hs : BOk s) (w : World) (hK : BK w bb xb s) :
    Calls Tryd.prog 17 #[P0 bb] w fun e w' => e = .returned (.bool true) ∧ Below w.heap.size w w' := by
  obtain ⟨⟨vl, vp, vm, hb1, hI1, _, _⟩, hx1⟩ := id hK
  exact light_gen bb xb s hs.ok w vl vp vm hb1 hI1 hx1

end Go.Proofs.YtnnnleckoinjoaaDoor
