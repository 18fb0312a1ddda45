import Derived.Deep.RegionHeld3
import Derived.Test.YtnnnleckoinjoaaK22
import Derived.Test.YtnnnleckoinjoaaK37
import Derived.Test.YtnnnleckoinjoaaPlain8
/- Another graph with the same edges alone. -/
namespace Go.Proofs.Ytnnnleckoinjoaa
open Go.RowKit
open Pl (It)

/-- what can be put into a graph one by one -/
structure Fit (n : Nat) (l : List It) : Prop where
  ne : l.Pairwise (fun a b => a.id ≠ b.id)
  rng : ∀ e, e ∈ l → 0 ≤ e.id ∧ e.id < 24
  ends : Pl.Ends n l
  wb : Pl.WB l
  len : l.length ≤ 100
/-- so far -/
structure Bu (n : Nat) (l : List It) (k : Nat) (s : St) : Prop where
  ok : Ok s
  n : s.n = n
  most : s.most = 60
  mem : ∀ e, e ∈ s.L ↔ e ∈ l.take k
theorem Bu.step {n : Nat} {l : List It} {k : Nat} {s : St} (hf : Fit n l) (h : Bu n l k s) (hk : k < l.length) (i : Nat) (hi : l[k].id = i) : Pl.numB (i : Int) = true ∧ Pl.verB s.n l[k].u = true ∧ Pl.verB s.n l[k].v = true ∧ Pl.has s.L (i : Int) = false ∧ s.L.length < s.most ∧ Bu n l (k + 1) (insSt s i l[k].u l[k].v l[k].w) := by
  have hm := List.getElem_mem hk
  have r := hf.rng _ hm
  obtain ⟨u0, u1, v0, v1⟩ := hf.ends _ hm
  obtain ⟨w0, w1⟩ := hf.wb _ hm
  have a1 : Pl.numB (i : Int) = true := Pl.numB_true.2 (by omega)
  have a2 : Pl.verB s.n l[k].u = true := Pl.verB_true.2 (by rw [h.n]; omega)
  have a3 : Pl.verB s.n l[k].v = true := Pl.verB_true.2 (by rw [h.n]; omega)
  have a4 : Pl.has s.L (i : Int) = false := by
    rw [Pl.has_false]
    intro e he h2
    obtain ⟨j, hj, rfl⟩ := List.getElem_of_mem ((h.mem e).1 he)
    have hjk : j < k := by rw [List.length_take] at hj; omega
    rw [List.getElem_take] at h2
    exact List.pairwise_iff_getElem.1 hf.ne j k (by omega) hk hjk (by rw [h2, hi])
  have a5 : s.L.length < s.most := by
    have := few_len s.L 0 24 h.ok.gl.ids (fun e he => hf.rng e (List.mem_of_mem_take ((h.mem e).1 he))) (by omega)
    rw [h.most]; omega
  refine ⟨a1, a2, a3, a4, a5, h.ok.ins i _ _ _ a1 a2 a3 a4 a5 w0 w1, h.n, h.most, fun e => ?_⟩
  show e ∈ Pl.withI s.L _ ↔ _
  rw [Pl.mem_with a4, h.mem, List.take_succ_eq_append_getElem hk, List.mem_append, List.mem_singleton]
  have he : (⟨(i : Int), l[k].u, l[k].v, l[k].w⟩ : It) = l[k] := by rw [← hi]
  rw [he]
  exact Or.comm

set_option maxRecDepth 100000 in
set_option maxHeartbeats 8000000 in
theorem built_any (n : Nat) (h1 : 1 ≤ n) (h2 : n ≤ 30) (l : List It) (hf : Fit n l) (a : Option Addr) (cap : Nat) (w : World) (h : Its w 0 (.slice a l.length cap) l) :
    Calls Try.prog 24 #[.int .i64 n, .slice a l.length cap] w fun e w' => ∃ xb s, e = .returned (P0 xb) ∧ w.heap.size ≤ xb ∧ Bu n l l.length s ∧ XG w' xb s ∧ Below w.heap.size w w' := by
  have hl := hf.len
  have HN : Hid (∀ w, Calls Try.prog 19 #[.int .i64 n, .int .i64 60] w fun e w' => e = .returned (.tuple #[P0 w.heap.size, .int .i64 0]) ∧ XG w' w.heap.size (st0 n 60) ∧ Below w.heap.size w w' ∧ w'.heap.size = w.heap.size + 1) := fun w => newX_ok n 60 w h1 h2 (by omega) (by omega)
  have hb0 : Bu n l 0 (st0 n 60) := ⟨ok0 n 60 h1 h2 (by omega), rfl, rfl, fun e => by simp [st0]⟩
  have HF := hide hf
  clear hf
  go_enter Try.func24, Try.ntmps24
  go_wp2_with fail
  refine ((unhide HN) _).mono ?_
  rintro e w1 ⟨rfl, hX1, hB1, _⟩
  have H1 := hide (And.intro hX1 (And.intro hB1 hb0))
  clear hX1 hB1 HN hb0
  go_wp2_with fail
  go_loopg [6, 7] (l.length + 1) (fun gk ev iv wr => ∃ (k : Nat) (s : St), k ≤ l.length ∧ iv = .int .i64 k ∧ Bu n l k s ∧ XG wr w.heap.size s ∧ Below w.heap.size w wr ∧ l.length - k ≤ gk)
  case atStart => exact ⟨0, _, Nat.zero_le _, rfl, (unhide H1).2.2, (unhide H1).1, (unhide H1).2.1, by omega⟩
  case round =>
    obtain ⟨k, s, hk, rfl, hBu, hX, hB, hgk⟩ := hrel
    by_cases hlt : k < l.length
    · obtain ⟨g, rfl⟩ := row_some h (by omega)
      have hgl : g < w.heap.size := (World.ownsRow.lt h g rfl).2
      obtain ⟨c0, c1, c2, c3⟩ := its_cells (row_below h hB (Nat.le_refl _)) k hlt
      have hr := (unhide HF).rng _ (List.getElem_mem hlt)
      obtain ⟨i, hi⟩ := Int.eq_ofNat_of_zero_le hr.1
      obtain ⟨s1, s2, s3, s4, s5, s6⟩ := hBu.step (unhide HF) hlt i hi
      rw [hi] at c0
      have hk1 : (0 : Int) ≤ k := by omega
      have hk2 : (k : Int) < l.length := by omega
      have HI := hide (insX_ok hBu.ok i l[k].u l[k].v l[k].w s1 s2 s3 s4 s5 wr.drew w.heap.size (PF.drew hX))
      have HC : Hid (∀ w2, Fr (fun q => q = w.heap.size) wr.drew w2 → w2.cell? ⟨g, k * 4, none⟩ = some (.int .i64 i) ∧ w2.cell? ⟨g, k * 4 + 1, none⟩ = some (.int .i64 l[k].u) ∧ w2.cell? ⟨g, k * 4 + 2, none⟩ = some (.int .i64 l[k].v) ∧ w2.cell? ⟨g, k * 4 + 3, none⟩ = some (.int .i64 l[k].w) ∧ Below w.heap.size w w2) := fun w2 hff => by
        have hb2 : Below w.heap.size w w2 := ⟨hff.os.trans hB.os, hff.tape.trans hB.tape, hff.output.trans hB.output, Nat.le_trans hB.size hff.size, fun q hq => (hff.block q (by have := hB.size; show q < wr.heap.size; omega) (by omega)).trans (hB.block q hq)⟩
        obtain ⟨z0, z1, z2, z3⟩ := its_cells (row_below h hb2 (Nat.le_refl _)) k hlt
        rw [hi] at z0
        exact ⟨z0, z1, z2, z3, hb2⟩
      have HBu := hide s6
      clear hBu hX hB hr hi s1 s2 s3 s4 s5 s6 H1
      generalize l[k].u = yu at *
      generalize l[k].v = yv at *
      generalize l[k].w = yw at *
      go_wp2_with fail
      go_region_held3 (fun w' => w'.cell? ⟨g, k * 4, none⟩ = some (.int .i64 i) ∧ w'.cell? ⟨g, k * 4 + 1, none⟩ = some (.int .i64 yu) ∧ w'.cell? ⟨g, k * 4 + 2, none⟩ = some (.int .i64 yv) ∧ w'.cell? ⟨g, k * 4 + 3, none⟩ = some (.int .i64 yw))
        (first | (refine ⟨?_, ?_, ?_, ?_⟩ <;> assumption) | (go_keep; done))
        (first
          | (go_at_call 20; refine (unhide HI).mono ?_; rintro e w2 ⟨rfl, hX2, hF2⟩; have q := (unhide HC) w2 hF2; obtain ⟨z0, z1, z2, z3, hB2⟩ := q))
      have H2 := hide (And.intro hX2 hB2)
      clear hX2 hB2 hF2 HC HI
      go_wp2
      go_roundg (gk - 1)
      case measure => omega
      case rel => exact ⟨k + 1, _, by omega, by go_num, unhide HBu, (unhide H2).1, (unhide H2).2, by omega⟩
    · have hkl : k = l.length := by omega
      subst hkl
      have H2 := hide (And.intro hBu (And.intro hX hB))
      clear hBu hX hB H1
      go_wp2
      go_ret
      first
        | exact ⟨w.heap.size, rfl, Nat.le_refl _, s, (unhide H2).1, (unhide H2).2.1, (unhide H2).2.2⟩
        | exact ⟨w.heap.size, s, rfl, Nat.le_refl _, (unhide H2).1, (unhide H2).2.1, (unhide H2).2.2⟩

end Go.Proofs.Ytnnnleckoinjoaa

/- The edges up to a weight. -/
namespace Go.Proofs.Ytnnnleckoinjoaa
open Go.RowKit
open Pl (It)

set_option maxRecDepth 100000 in
set_option maxHeartbeats 2000000 in
theorem some_any (l : List It) (x : Int) (a : Option Addr) (cap : Nat) (w : World) (h : Its w 0 (.slice a l.length cap) l) (hl : l.length ≤ 100) :
    Calls Try.prog 25 #[.slice a l.length cap, .int .i64 x] w fun e w' => ∃ v, e = .returned v ∧ Its w' w.heap.size v (Pl.upI l x) ∧ Below w.heap.size w w' := by
  go_enter Try.func25, Try.ntmps25
  go_wp2
  go_loopg [5, 6] l.length (fun gk v i wr => ∃ k : Nat, k ≤ l.length ∧ i = .int .i64 k ∧ Its wr w.heap.size v ((l.take k).filter (fun e => decide (e.w ≤ x))) ∧ Below w.heap.size w wr ∧ l.length - k ≤ gk)
  case atStart => exact ⟨0, Nat.zero_le _, rfl, World.ownsRow_nil _ _ _ _, Below.refl _ _, by omega⟩
  case round =>
    obtain ⟨k, hk, rfl, hown, hb, hgk⟩ := hrel
    have hz1' : w.heap.size ≤ wr.heap.size := hb.size
    by_cases hlt : k < l.length
    · obtain ⟨g, rfl⟩ := row_some h (by omega)
      have hI : Its wr 0 (.slice (some ⟨g, 0, none⟩) l.length cap) l := row_below h hb (Nat.le_refl _)
      obtain ⟨c0, c1, c2, c3⟩ := its_cells hI k hlt
      have hk1 : (0 : Int) ≤ k := by omega
      have hk2 : (k : Int) < l.length := by omega
      have hlen : ((l.take k).filter (fun e => decide (e.w ≤ x))).length ≤ k := Nat.le_trans (List.length_filter_le _ _) (by simp; omega)
      have HS := hide (Pl.filter_snoc (fun e => decide (e.w ≤ x)) l k hlt)
      by_cases hq : l[k].w ≤ x
      · go_wp2_with (at_builtin; refine wpList_append_item wr rfl (.tmp 20) (.tmp 25) rfl w.heap.size u5 _ rfl (by exact hown) l[k] (by rfl) (by omega) (by exact hz1') ?_; intro v' w2 hown2 hgrow)
        go_roundg (gk - 1)
        case measure => omega
        case rel => exact ⟨k + 1, by omega, by go_num, by rw [unhide HS, if_pos (by simp [hq])]; exact hown2, hb.trans hgrow, by omega⟩
      · go_wp2
        go_roundg (gk - 1)
        case measure => omega
        case rel => exact ⟨k + 1, by omega, by go_num, by rw [unhide HS, if_neg (by simp [hq]), List.append_nil]; exact hown, hb, by omega⟩
    · have hk' : l.take k = l := List.take_of_length_le (by omega)
      rw [hk'] at hown
      go_wp2
      go_ret
      exact ⟨_, rfl, hown, hb⟩

theorem BOk.fit {s : St} (h : BOk s) (x : Int) : Fit s.n (Pl.upI s.L x) :=
  ⟨Pl.ids_ne (Pl.up_ids h.ok.gl.ids x), fun e he => ⟨(h.ok.gl.rng e (List.mem_filter.1 he).1).1, h.few e (List.mem_filter.1 he).1⟩, Pl.up_ends h.ok.ends x, fun e he => h.ok.wb e (List.mem_filter.1 he).1, Nat.le_trans (Pl.up_len _ _) h.ok.l100⟩

end Go.Proofs.Ytnnnleckoinjoaa

/- Reach and Groups, without the document's answer. -/
namespace Go.Proofs.Ytnnnleckoinjoaa
open Go.RowKit
open Pl (It)

theorem Pl.join_pos {n : Nat} {l : List It} {u : Nat} (hu : u < n) : 1 ≤ Pl.joinN n l u := by
  unfold Pl.joinN
  have : u ∈ (List.range n).filter (fun (v : Nat) => Pl.conn l u v) := List.mem_filter.2 ⟨List.mem_range.2 hu, Pl.conn_refl _ _⟩
  exact List.length_pos_of_mem this
theorem Pl.join_mono (l : List It) (u : Int) {k n : Nat} (h : k ≤ n) : Pl.joinN k l u ≤ Pl.joinN n l u := by
  induction n with
  | zero => obtain rfl : k = 0 := by omega
            exact Nat.le_refl _
  | succ n ih =>
    by_cases hk : k = n + 1
    · subst hk; exact Nat.le_refl _
    · have := ih (by omega)
      rw [Pl.join_snoc]; omega

/-- the two graphs of Levels: the book's, and the one with the light edges alone -/
structure Lv (w : World) (bb xb gb n : Nat) (al : Option Addr) (len cl : Nat) (s sg : St) (x : Int) : Prop where
  bl : bb < w.heap.size
  c0 : w.cell? ⟨bb, 0, none⟩ = some (P0 xb)
  c1 : w.cell? ⟨bb, 1, none⟩ = some (.int .i64 n)
  c2 : w.cell? ⟨bb, 2, none⟩ = some (.slice al len cl)
  its : Its w 0 (.slice al len cl) s.L
  xs : XG w xb s
  xg : XG w gb sg
theorem Lv.later {w w' : World} {bb xb gb n : Nat} {al : Option Addr} {len cl : Nat} {s sg : St} {x : Int} (h : Lv w bb xb gb n al len cl s sg x) (hb : Below w.heap.size w w') : Lv w' bb xb gb n al len cl s sg x :=
  ⟨Nat.lt_of_lt_of_le h.bl hb.size, (hb.cell (p := ⟨bb, 0, none⟩) h.bl).trans h.c0, (hb.cell (p := ⟨bb, 1, none⟩) h.bl).trans h.c1, (hb.cell (p := ⟨bb, 2, none⟩) h.bl).trans h.c2, row_below h.its hb (Nat.le_refl _), PF.later h.xs hb (Nat.le_refl _), PF.later h.xg hb (Nat.le_refl _)⟩

set_option maxRecDepth 100000 in
set_option maxHeartbeats 8000000 in
theorem levels_any (v0 : Int) (hv : R64 v0) (sa : Option Addr) (sb so len cap : Nat) (I : Nat → StT) (w : World) (hsa : 0 < len → sa = some ⟨sb, so, none⟩) (hsb : 0 < len → sb < w.heap.size) (hlen : len ≤ 9223372036854775807) (hc : ∀ j, j < len → StAt w sb (so + j * 5) (I j)) (x : Int) (_ : R64 x) :
    Calls Try.prog 7 #[.int .i64 v0, .slice sa len cap, .int .i64 x] w fun e w' => e = .returned (.bool true) ∧ Below w.heap.size w w' := by
  have HP := hide (played_any v0 hv sa sb so len cap I w hsa hsb hlen hc)
  clear hsa hsb hlen hc hv
  go_enter Try.func7, Try.ntmps7
  go_wp2_with fail
  refine (unhide HP).mono ?_
  rintro e w1 ⟨bb, xb, s, rfl, hbb, hxb, hs, hK, hB⟩
  clear HP
  obtain ⟨⟨vl, vp, vm, hb1, hI1, _, _⟩, hx1⟩ := id hK
  obtain ⟨al, cl, rfl⟩ := row_form hI1
  obtain ⟨c0, c1, c2, _, _, _, _⟩ := six_cells6 hb1
  have hbl := lt_of_block hb1
  have hl100 := hs.ok.l100
  have hn30 := hs.ok.n30
  have hn1 := hs.ok.n1
  obtain ⟨M, hM⟩ : ∃ M, M = Pl.upI s.L x := ⟨_, rfl⟩
  have hfit : Fit s.n M := by rw [hM]; exact hs.fit x
  have hml := hfit.len
  have HS1 : Hid (∀ W, Below w1.heap.size w1 W → Calls Try.prog 25 #[.slice al s.L.length cl, .int .i64 x] W fun e w' => ∃ v, e = .returned v ∧ Its w' W.heap.size v M ∧ Below W.heap.size W w') := fun W hW => by
    rw [hM]; exact some_any s.L x al cl W (row_below hI1 hW (Nat.le_refl _)) hl100
  have HBu : Hid (∀ (a : Option Addr) (cap : Nat) (W : World), Its W 0 (.slice a M.length cap) M → Calls Try.prog 24 #[.int .i64 s.n, .slice a M.length cap] W fun e w' => ∃ gb sg, e = .returned (P0 gb) ∧ W.heap.size ≤ gb ∧ Bu s.n M M.length sg ∧ XG w' gb sg ∧ Below W.heap.size W w') := fun a cap W hW => built_any s.n hn1 hn30 M hfit a cap W hW
  have HLT : Hid (∀ w2, Below w1.drew.heap.size w1.drew w2 → Below w1.heap.size w1 w2 ∧ w2.cell? ⟨bb, 1, none⟩ = some (.int .i64 s.n) ∧ w2.cell? ⟨bb, 2, none⟩ = some (.slice al s.L.length cl)) := fun w2 hb => by
    have hb' : Below w1.heap.size w1 w2 := Below.undrew hb
    exact ⟨hb', (hb'.cell (p := ⟨bb, 1, none⟩) hbl).trans c1, (hb'.cell (p := ⟨bb, 2, none⟩) hbl).trans c2⟩
  have HLT2 : Hid (∀ w2 w3, Below w1.heap.size w1 w2 → Below w2.heap.size w2 w3 → Below w1.heap.size w1 w3 ∧ w3.cell? ⟨bb, 1, none⟩ = some (.int .i64 s.n) ∧ w3.cell? ⟨bb, 2, none⟩ = some (.slice al s.L.length cl)) := fun w2 w3 h2 h3 => by
    have hb' : Below w1.heap.size w1 w3 := h2.trans (h3.mono h2.size)
    exact ⟨hb', (hb'.cell (p := ⟨bb, 1, none⟩) hbl).trans c1, (hb'.cell (p := ⟨bb, 2, none⟩) hbl).trans c2⟩
  have H0 := hide (And.intro hK (And.intro hI1 (And.intro hB (And.intro hs (And.intro c0 (And.intro c1 (And.intro c2 hM)))))))
  clear hK hI1 hx1 hb1 hB hs hM hfit
  go_upto_region 4 with fail
  go_region_held3 (fun w' => w'.cell? ⟨bb, 1, none⟩ = some (.int .i64 s.n) ∧ w'.cell? ⟨bb, 2, none⟩ = some (.slice al s.L.length cl))
    (first | (refine ⟨?_, ?_⟩ <;> assumption) | (go_keep; done))
    (first
      | (go_at_call 25; refine ((unhide HS1) _ (Below.refl _ _).drew).mono ?_; rintro e w2 ⟨v2, rfl, hI2, hb2⟩; obtain ⟨a2, k2, rfl⟩ := row_form hI2; have z := (unhide HLT) w2 hb2; obtain ⟨z0, z1, z2⟩ := z)
      | (go_at_call 24; refine ((unhide HBu) a2 k2 _ (by exact row_mono hI2 (Nat.zero_le _))).mono ?_; rintro e w3 ⟨gb, sg, rfl, hgb, hBu, hX3, hb3⟩; have y := (unhide HLT2) w2 w3 z0 hb3; obtain ⟨y0, y1, y2⟩ := y))
  obtain ⟨hK, hI1, hB, hs, _, _, _, hM⟩ := unhide H0
  have hLv3 : Lv w3 bb xb gb s.n al s.L.length cl s sg x := ⟨by have := y0.size; omega, (y0.cell (p := ⟨bb, 0, none⟩) hbl).trans c0, y1, y2, row_below hI1 y0 (Nat.le_refl _), PF.later hK.xg y0 (Nat.le_refl _), hX3⟩
  have hmem : ∀ e, e ∈ sg.L ↔ e ∈ M := fun e => by rw [hBu.mem, List.take_length]
  have hgr : Pl.parts sg.n sg.L = Pl.parts s.n M := by rw [hBu.n]; exact Pl.parts_congr _ hmem
  have hcn : ∀ u v, Pl.conn sg.L u v = Pl.conn M u v := fun u v => Pl.conn_congr u v hmem
  have HB3 := hide (hB.trans (y0.mono hB.size))
  have HGr : Hid (∀ W, Lv W bb xb gb s.n al s.L.length cl s sg x → Calls Try.prog 26 #[P0 xb, .int .i64 x] W fun e w' => e = .returned (.int .i64 (Pl.parts s.n M)) ∧ Below W.heap.size W w') := fun W h => by
    rw [hM]; exact groupsp_any xb _ _ _ _ s.L x W h.xs.pg hs.ok.gl hs.ok.l100 hs.ok.n30 hs.ok.ends
  have HCo : Hid (∀ W, Lv W bb xb gb s.n al s.L.length cl s sg x → Calls Try.prog 27 #[P0 gb] W fun e w' => e = .returned (.int .i64 (Pl.parts s.n M)) ∧ Below W.heap.size W w') := fun W h => by
    rw [← hgr]; exact compp_any gb _ _ _ _ sg.L W h.xg.pg hBu.ok.gl hBu.ok.l100 hBu.ok.n30 hBu.ok.ends
  have HRe : Hid (∀ (u : Nat) (W : World), u < s.n → Lv W bb xb gb s.n al s.L.length cl s sg x → Calls Try.prog 28 #[P0 xb, .int .i64 u, .int .i64 x] W fun e w' => e = .returned (.tuple #[.int .i64 (Pl.joinN s.n M u), .int .i64 0]) ∧ Below W.heap.size W w') := fun u W hu h => by
    rw [hM]; exact reachp_ok xb _ _ _ _ s.L u x W h.xs.pg hs.ok.gl hs.ok.l100 hs.ok.n30 hs.ok.ends (Pl.verB_true.2 (by omega))
  have HCn : Hid (∀ (u v : Nat) (W : World), u < s.n → v < s.n → Lv W bb xb gb s.n al s.L.length cl s sg x → Calls Try.prog 29 #[P0 gb, .int .i64 u, .int .i64 v] W fun e w' => e = .returned (.tuple #[.bool (Pl.conn M u v), .int .i64 0]) ∧ Below W.heap.size W w') := fun u v W hu hv h => by
    rw [← hcn]; exact connp_ok gb _ _ _ _ sg.L u v W h.xg.pg hBu.ok.gl hBu.ok.l100 hBu.ok.n30 hBu.ok.ends hBu.ok.wb (Pl.verB_true.2 (by rw [hBu.n]; omega)) (Pl.verB_true.2 (by rw [hBu.n]; omega))
  have HSo : Hid (∀ W, Lv W bb xb gb s.n al s.L.length cl s sg x → Calls Try.prog 25 #[.slice al s.L.length cl, .int .i64 x] W fun e w' => ∃ v, e = .returned v ∧ Its w' W.heap.size v M ∧ Below W.heap.size W w') := fun W h => by
    rw [hM]; exact some_any s.L x al cl W h.its hl100
  have HPa : Hid (∀ (u : Nat) (a : Option Addr) (cap : Nat) (W : World), u < s.n → Its W 0 (.slice a M.length cap) M → Calls Try.prog 30 #[.int .i64 s.n, .slice a M.length cap, .int .i64 u, .bool false, .agg #[.int .i64 0, .int .i64 0, .int .i64 0, .int .i64 0]] W fun e w' => ∃ gi, e = .returned (.slice (some ⟨gi, 0, none⟩) s.n s.n) ∧ Bools w' W.heap.size (.slice (some ⟨gi, 0, none⟩) s.n s.n) (Pl.conns s.n M u) ∧ Below W.heap.size W w') := fun u a cap W hu hW => by
    have := part_any false s.n M u ⟨0, 0, 0, 0⟩ a cap W hW hml hn30 hu (by rw [hM]; exact Pl.up_ends hs.ok.ends x)
    rw [MP_false] at this
    exact this
  have HL3 := hide hLv3
  have d0 := hLv3.c0
  clear hK hI1 hB hs hM hLv3 hmem hgr hcn hBu hX3 hb3 hb2 hI2 y0 y1 y2 z0 z1 z2 c0 c1 c2 HLT HLT2 HS1 HBu H0
  go_wp2_with fail
  refine ((unhide HGr) _ (unhide HL3)).mono ?_
  rintro e w4 ⟨rfl, hb4⟩
  have HL4 := hide ((unhide HL3).later hb4)
  have HB4 := hide ((unhide HB3).trans (hb4.mono (unhide HB3).size))
  clear hb4 HGr HL3 HB3 d0
  go_wp2_with fail
  refine ((unhide HCo) _ (unhide HL4)).mono ?_
  rintro e w5 ⟨rfl, hb5⟩
  have HL5 := hide ((unhide HL4).later hb5)
  have HB5 := hide ((unhide HB4).trans (hb5.mono (unhide HB4).size))
  clear hb5 HCo HL4 HB4
  go_wp2_with fail
  go_loopg [11] (s.n + 1) (fun gk iv wr => ∃ u : Nat, u ≤ s.n ∧ iv = .int .i64 u ∧ Lv wr bb xb gb s.n al s.L.length cl s sg x ∧ Below w.heap.size w wr ∧ s.n - u ≤ gk)
  case atStart => exact ⟨0, Nat.zero_le _, rfl, unhide HL5, unhide HB5, by omega⟩
  case round =>
    obtain ⟨u, hu, rfl, hLr, hBr, hgk⟩ := hrel
    obtain ⟨g0, hg0⟩ : ∃ g0, g0 = gk := ⟨_, rfl⟩
    have r1 := hLr.c1
    by_cases hlt : u < s.n
    · have hu1 : (u : Int) < s.n := by omega
      have r0 := hLr.c0
      obtain ⟨J, hJ⟩ : ∃ J, J = Pl.joinN s.n M u := ⟨_, rfl⟩
      have hJ1 : 1 ≤ J := by rw [hJ]; exact Pl.join_pos hlt
      have hJn : J ≤ s.n := by rw [hJ]; exact Pl.join_le _ _ _
      have hRu := (unhide HRe) u _ hlt hLr
      rw [← hJ] at hRu
      have HRu := hide hRu
      have HJ := hide hJ
      have HLr := hide hLr
      have HBr := hide hBr
      clear hRu hJ hLr hBr HL5 HB5
      go_wp2_with fail
      refine (unhide HRu).mono ?_
      rintro e w6 ⟨rfl, hb6⟩
      have HL6 := hide ((unhide HLr).later hb6)
      have HB6 := hide ((unhide HBr).trans (hb6.mono (unhide HBr).size))
      clear hb6 HLr HBr HRu r0 r1
      go_wp2_with fail
      go_loopg [14, 15] (s.n + 1) (fun gj c iv wr2 => ∃ v : Nat, v ≤ s.n ∧ iv = .int .i64 v ∧ c = .int .i64 (Pl.joinN v M u) ∧ Lv wr2 bb xb gb s.n al s.L.length cl s sg x ∧ Below w.heap.size w wr2 ∧ s.n - v ≤ gj)
      case atStart => exact ⟨0, Nat.zero_le _, rfl, rfl, unhide HL6, unhide HB6, by omega⟩
      case round =>
        obtain ⟨v, hv, rfl, rfl, hLr, hBr, hgj⟩ := hrel
        have r1 := hLr.c1
        by_cases hvlt : v < s.n
        · have hv1 : (v : Int) < s.n := by omega
          have hle := Pl.join_le M u v
          have hsn := hide (Pl.join_snoc M u v)
          have HCu := hide ((unhide HCn) u v _ hlt hvlt hLr)
          have HLr := hide hLr
          have HBr := hide hBr
          clear hLr hBr HL6 HB6
          generalize Pl.joinN v M u = j at *
          go_wp2_with fail
          refine (unhide HCu).mono ?_
          rintro e w7 ⟨rfl, hb7⟩
          have HL7 := hide ((unhide HLr).later hb7)
          have HB7 := hide ((unhide HBr).trans (hb7.mono (unhide HBr).size))
          clear hb7 HLr HBr HCu r1
          cases hq : Pl.conn M (u : Int) (v : Int) with
          | true =>
            go_wp2
            go_roundg (gk - 1)
            case measure => omega
            case rel => exact ⟨v + 1, by omega, by go_num, by rw [unhide hsn, hq]; simp, unhide HL7, unhide HB7, by omega⟩
          | false =>
            go_wp2
            go_roundg (gk - 1)
            case measure => omega
            case rel => exact ⟨v + 1, by omega, by go_num, by rw [unhide hsn, hq]; simp, unhide HL7, unhide HB7, by omega⟩
        · have hvn : v = s.n := by omega
          subst hvn
          rw [← unhide HJ]
          have r2 := hLr.c2
          have HSo1 := hide ((unhide HSo) wr.drew ⟨hLr.bl, hLr.c0, hLr.c1, hLr.c2, hLr.its, PF.drew hLr.xs, PF.drew hLr.xg⟩)
          have HLT : Hid (∀ w2, Below wr.drew.heap.size wr.drew w2 → Lv w2 bb xb gb s.n al s.L.length cl s sg x ∧ Below w.heap.size w w2) := fun w2 hb => by
            have hb' : Below wr.heap.size wr w2 := Below.undrew hb
            exact ⟨hLr.later hb', hBr.trans (hb'.mono hBr.size)⟩
          have HLT2 : Hid (∀ w2 w3, Lv w2 bb xb gb s.n al s.L.length cl s sg x → Below w.heap.size w w2 → Below w2.heap.size w2 w3 → Lv w3 bb xb gb s.n al s.L.length cl s sg x ∧ Below w.heap.size w w3) := fun w2 w3 h2 h3 h4 => ⟨h2.later h4, h3.trans (h4.mono h3.size)⟩
          clear hLr hBr HL6 HB6
          go_wp2_with fail
          go_region_held3 (fun w' => w'.cell? ⟨bb, 1, none⟩ = some (.int .i64 s.n) ∧ w'.cell? ⟨bb, 2, none⟩ = some (.slice al s.L.length cl))
            (first | (refine ⟨?_, ?_⟩ <;> assumption) | (go_keep; done))
            (first
              | (go_at_call 25; refine (unhide HSo1).mono ?_; rintro e w7 ⟨v2, rfl, hI2, hb2⟩; obtain ⟨a2, k2, rfl⟩ := row_form hI2; have z := (unhide HLT) w7 hb2; obtain ⟨z0, z3⟩ := z; have z1 := z0.c1; have z2 := z0.c2)
              | (go_at_call 30; refine ((unhide HPa) u a2 k2 _ hlt (by exact row_mono hI2 (Nat.zero_le _))).mono ?_; rintro e w8 ⟨gi, rfl, hBo, hb3⟩; have y := (unhide HLT2) w7 w8 z0 z3 hb3; obtain ⟨y0, y3⟩ := y; have y1 := y0.c1; have y2 := y0.c2))
          have HL8 := hide y0
          have HB8 := hide y3
          have HBo := hide hBo
          clear hI2 hb2 z0 z1 z2 z3 hBo hb3 y0 y2 y3 r1 r2 HSo1 HLT HLT2
          go_wp2_with fail
          go_loopg [14, 19] (s.n + 1) (fun gi c iv wr3 => ∃ k : Nat, k ≤ s.n ∧ iv = .int .i64 k ∧ c = .int .i64 ((J : Int) - (Pl.joinN k M u : Nat)) ∧ w8 = wr3 ∧ s.n - k ≤ gi)
          case atStart => exact ⟨0, Nat.zero_le _, rfl, by rw [show Pl.joinN 0 M u = 0 from rfl]; simp, rfl, by omega⟩
          case round =>
            obtain ⟨k, hk, rfl, rfl, rfl, hgi⟩ := hrel
            by_cases hklt : k < s.n
            · have hk1 : (k : Int) < s.n := by omega
              have hk0 : (0 : Int) ≤ k := by omega
              have cc := conns_cell (unhide HBo) (v := (k : Int)) (by omega) (by omega)
              rw [Int.toNat_natCast] at cc
              have hle := Pl.join_mono M u (show k + 1 ≤ s.n by omega)
              rw [← unhide HJ] at hle
              have hs2 := Pl.join_snoc M u k
              have hsn := hide (Pl.join_snoc M u k)
              rw [hs2] at hle
              clear hs2
              generalize Pl.joinN k M u = j at *
              cases hq : Pl.conn M (u : Int) (k : Int) with
              | true =>
                rw [hq] at cc
                have hj1 : j + 1 ≤ J := by rw [hq] at hle; simpa using hle
                clear hle
                go_wp2
                go_roundg (gk - 1)
                case measure => omega
                case rel => exact ⟨k + 1, by omega, by go_num, by rw [unhide hsn, hq]; go_num, rfl, by omega⟩
              | false =>
                rw [hq] at cc
                clear hle
                go_wp2
                go_roundg (gk - 1)
                case measure => omega
                case rel => exact ⟨k + 1, by omega, by go_num, by rw [unhide hsn, hq]; simp, rfl, by omega⟩
            · have hkn : k = s.n := by omega
              subst hkn
              rw [← unhide HJ]
              have e0 : (J : Int) - (J : Nat) = 0 := by omega
              rw [e0]
              have hJ2 : ¬ (J : Int) < 1 := by omega
              go_wp2_with fail
              go_loopg [12, 20] (s.n + 1) (fun gi c iv wr3 => ∃ k : Nat, k ≤ s.n ∧ iv = .int .i64 k ∧ c = .int .i64 ((J : Int) - (Pl.joinN k M u : Nat)) ∧ w8 = wr3 ∧ s.n - k ≤ gi)
              case atStart => exact ⟨0, Nat.zero_le _, rfl, by rw [show Pl.joinN 0 M u = 0 from rfl]; simp, rfl, by omega⟩
              case round =>
                obtain ⟨k, hk, rfl, rfl, rfl, hgi⟩ := hrel
                by_cases hklt : k < s.n
                · have hk1 : (k : Int) < s.n := by omega
                  have hk0 : (0 : Int) ≤ k := by omega
                  have cc := conns_cell (unhide HBo) (v := (k : Int)) (by omega) (by omega)
                  rw [Int.toNat_natCast] at cc
                  have hle := Pl.join_mono M u (show k + 1 ≤ s.n by omega)
                  rw [← unhide HJ] at hle
                  have hs2 := Pl.join_snoc M u k
                  have hsn := hide (Pl.join_snoc M u k)
                  rw [hs2] at hle
                  clear hs2
                  generalize Pl.joinN k M u = j at *
                  cases hq : Pl.conn M (u : Int) (k : Int) with
                  | true =>
                    rw [hq] at cc
                    have hj1 : j + 1 ≤ J := by rw [hq] at hle; simpa using hle
                    clear hle
                    go_wp2
                    go_roundg (gk - 1)
                    case measure => omega
                    case rel => exact ⟨k + 1, by omega, by go_num, by rw [unhide hsn, hq]; go_num, rfl, by omega⟩
                  | false =>
                    rw [hq] at cc
                    clear hle
                    go_wp2
                    go_roundg (gk - 1)
                    case measure => omega
                    case rel => exact ⟨k + 1, by omega, by go_num, by rw [unhide hsn, hq]; simp, rfl, by omega⟩
                · have hkn : k = s.n := by omega
                  subst hkn
                  rw [← unhide HJ]
                  have e0 : (J : Int) - (J : Nat) = 0 := by omega
                  rw [e0]
                  go_wp2
                  go_roundg (g0 - 1)
                  case measure => omega
                  case rel => exact ⟨u + 1, by omega, by go_num, unhide HL8, unhide HB8, by omega⟩
    · clear hLr
      go_wp2
      go_ret
      exact ⟨rfl, hBr⟩

end Go.Proofs.Ytnnnleckoinjoaa
