/- Another graph with the same edges alone. -/
import Derived.Test.YtnnnleckoinjoaaDoorK37
import Derived.Deep.RegionHeld3
namespace Go.Proofs.YtnnnleckoinjoaaDoor
open Go.RowKit
open Pl (It)

/-- what can be put into a graph one by one -/
structure Fit (n : Nat) (l : List It) : Prop where
  ne : l.Pairwise (fun a b => a.id ≠ b.id)
  rng : ∀ e, e ∈ l → 0 ≤ e.id ∧ e.id < 24
  ends : Pl.Ends n l
  wb : Pl.WB l
  len : l.length ≤ 100
/-- so far -/
structure Bu (n : Nat) (l : List It) (k : Nat) (s : St) : Prop where
  ok : Ok s
  n : s.n = n
  most : s.most = 60
  mem : ∀ e, e ∈ s.L ↔ e ∈ l.take k
theorem Bu.step {n : Nat} {l : List It} {k : Nat} {s : St} (hf : Fit n l) (h : Bu n l k s) (hk : k < l.length) (i : Nat) (hi : l[k].id = i) : Pl.numB (i : Int) = true ∧ Pl.verB s.n l[k].u = true ∧ Pl.verB s.n l[k].v = true ∧ Pl.has s.L (i : Int) = false ∧ s.L.length < s.most ∧ Bu n l (k + 1) (insSt s i l[k].u l[k].v l[k].w) := by
  have hm := List.getElem_mem hk
  have r := hf.rng _ hm
  obtain ⟨u0, u1, v0, v1⟩ := hf.ends _ hm
  obtain ⟨w0, w1⟩ := hf.wb _ hm
  have a1 : Pl.numB (i : Int) = true := Pl.numB_true.2 (by omega)
  have a2 : Pl.verB s.n l[k].u = true := Pl.verB_true.2 (by rw [h.n]; omega)
  have a3 : Pl.verB s.n l[k].v = true := Pl.verB_true.2 (by rw [h.n]; omega)
  have a4 : Pl.has s.L (i : Int) = false := by
    rw [Pl.has_false]
    intro e he h2
    obtain ⟨j, hj, rfl⟩ := List.getElem_of_mem ((h.mem e).1 he)
    have hjk : j < k := by rw [List.length_take] at hj; omega
    rw [List.getElem_take] at h2
    exact List.pairwise_iff_getElem.1 hf.ne j k (by omega) hk hjk (by rw [h2, hi])
  have a5 : s.L.length < s.most := by
    have := few_len s.L 0 24 h.ok.gl.ids (fun e he => hf.rng e (List.mem_of_mem_take ((h.mem e).1 he))) (by omega)
    rw [h.most]; omega
  refine ⟨a1, a2, a3, a4, a5, h.ok.ins i _ _ _ a1 a2 a3 a4 a5 w0 w1, h.n, h.most, fun e => ?_⟩
  show e ∈ Pl.withI s.L _ ↔ _
  rw [Pl.mem_with a4, h.mem, List.take_succ_eq_append_getElem hk, List.mem_append, List.mem_singleton]
  have he : (⟨(i : Int), l[k].u, l[k].v, l[k].w⟩ : It) = l[k] := by rw [← hi]
  rw [he]
  exact Or.comm

set_option maxRecDepth 100000 in
set_option maxHeartbeats 8000000 in
theorem built_any (n : Nat) (h1 : 1 ≤ n) (h2 : n ≤ 30) (l : List It) (hf : Fit n l) (a : Option Addr) (cap : Nat) (w : World) (h : Its w 0 (.slice a l.length cap) l) :
    Calls Tryd.prog 9 #[.int .i64 n, .slice a l.length cap] w fun e w' => ∃ xb s, e = .returned (P0 xb) ∧ w.heap.size ≤ xb ∧ Bu n l l.length s ∧ XG w' xb s ∧ Below w.heap.size w w' := by
  have hl := hf.len
  have HN : Hid (∀ w, Calls Tryd.prog 25 #[.int .i64 n, .int .i64 60] w fun e w' => e = .returned (.tuple #[P0 w.heap.size, .int .i64 0]) ∧ XG w' w.heap.size (st0 n 60) ∧ Below w.heap.size w w' ∧ w'.heap.size = w.heap.size + 1) := fun w => newX_ok n 60 w h1 h2 (by omega) (by omega)
  have hb0 : Bu n l 0 (st0 n 60) := ⟨ok0 n 60 h1 h2 (by omega), rfl, rfl, fun e => by simp [st0]⟩
  have HF := hide hf
  clear hf
  go_enter Tryd.func9, Tryd.ntmps9
  go_wp2_with fail
  refine ((unhide HN) _).mono ?_
  rintro e w1 ⟨rfl, hX1, hB1, _⟩
  have H1 := hide (And.intro hX1 (And.intro hB1 hb0))
  clear hX1 hB1 HN hb0
  go_wp2_with fail
  go_loopg [6, 7] (l.length + 1) (fun gk ev iv wr => ∃ (k : Nat) (s : St), k ≤ l.length ∧ iv = .int .i64 k ∧ Bu n l k s ∧ XG wr w.heap.size s ∧ Below w.heap.size w wr ∧ l.length - k ≤ gk)
  case atStart => exact ⟨0, _, Nat.zero_le _, rfl, (unhide H1).2.2, (unhide H1).1, (unhide H1).2.1, by omega⟩
  case round =>
    obtain ⟨k, s, hk, rfl, hBu, hX, hB, hgk⟩ := hrel
    by_cases hlt : k < l.length
    · obtain ⟨g, rfl⟩ := row_some h (by omega)
      have hgl : g < w.heap.size := (World.ownsRow.lt h g rfl).2
      obtain ⟨c0, c1, c2, c3⟩ := its_cells (row_below h hB (Nat.le_refl _)) k hlt
      have hr := (unhide HF).rng _ (List.getElem_mem hlt)
      obtain ⟨i, hi⟩ := Int.eq_ofNat_of_zero_le hr.1
      obtain ⟨s1, s2, s3, s4, s5, s6⟩ := hBu.step (unhide HF) hlt i hi
      rw [hi] at c0
      have hk1 : (0 : Int) ≤ k := by omega
      have hk2 : (k : Int) < l.length := by omega
      have HI := hide (insX_ok hBu.ok i l[k].u l[k].v l[k].w s1 s2 s3 s4 s5 wr.drew w.heap.size (PF.drew hX))
      have HC : Hid (∀ w2, Fr (fun q => q = w.heap.size) wr.drew w2 → w2.cell? ⟨g, k * 4, none⟩ = some (.int .i64 i) ∧ w2.cell? ⟨g, k * 4 + 1, none⟩ = some (.int .i64 l[k].u) ∧ w2.cell? ⟨g, k * 4 + 2, none⟩ = some (.int .i64 l[k].v) ∧ w2.cell? ⟨g, k * 4 + 3, none⟩ = some (.int .i64 l[k].w) ∧ Below w.heap.size w w2) := fun w2 hff => by
        have hb2 : Below w.heap.size w w2 := ⟨hff.os.trans hB.os, hff.tape.trans hB.tape, hff.output.trans hB.output, Nat.le_trans hB.size hff.size, fun q hq => (hff.block q (by have := hB.size; show q < wr.heap.size; omega) (by omega)).trans (hB.block q hq)⟩
        obtain ⟨z0, z1, z2, z3⟩ := its_cells (row_below h hb2 (Nat.le_refl _)) k hlt
        rw [hi] at z0
        exact ⟨z0, z1, z2, z3, hb2⟩
      have HBu := hide s6
      clear hBu hX hB hr hi s1 s2 s3 s4 s5 s6 H1
      generalize l[k].u = yu at *
      generalize l[k].v = yv at *
      generalize l[k].w = yw at *
      go_wp2_with fail
      go_region_held3 (fun w' => w'.cell? ⟨g, k * 4, none⟩ = some (.int .i64 i) ∧ w'.cell? ⟨g, k * 4 + 1, none⟩ = some (.int .i64 yu) ∧ w'.cell? ⟨g, k * 4 + 2, none⟩ = some (.int .i64 yv) ∧ w'.cell? ⟨g, k * 4 + 3, none⟩ = some (.int .i64 yw))
        (first | (refine ⟨?_, ?_, ?_, ?_⟩ <;> assumption) | (go_keep; done))
        (first
          | (go_at_call 18; refine (unhide HI).mono ?_; rintro e w2 ⟨rfl, hX2, hF2⟩; have q := (unhide HC) w2 hF2; obtain ⟨z0, z1, z2, z3, hB2⟩ := q))
      have H2 := hide (And.intro hX2 hB2)
      clear hX2 hB2 hF2 HC HI
      go_wp2
      go_roundg (gk - 1)
      case measure => omega
      case rel => exact ⟨k + 1, _, by omega, by go_num, unhide HBu, (unhide H2).1, (unhide H2).2, by omega⟩
    · have hkl : k = l.length := by omega
      subst hkl
      have H2 := hide (And.intro hBu (And.intro hX hB))
      clear hBu hX hB H1
      go_wp2
      go_ret
      first
        | exact ⟨w.heap.size, rfl, Nat.le_refl _, s, (unhide H2).1, (unhide H2).2.1, (unhide H2).2.2⟩
        | exact ⟨w.heap.size, s, rfl, Nat.le_refl _, (unhide H2).1, (unhide H2).2.1, (unhide H2).2.2⟩

end Go.Proofs.YtnnnleckoinjoaaDoor
