/- Only the edges count. -/
import Derived.Test.YtnnnleckoinjoaaDoorK31
import Derived.Test.YtnnnleckoinjoaaDoorK21
import Derived.Deep.AppendLies
namespace Go.Proofs.YtnnnleckoinjoaaDoor
open Go.RowKit
open Pl (It)

/-- 'out = append(out, e)' of one edge, in a region that draws its order -/
theorem step_append_item {ops : Array Oper} {o : Oper} {a : Act} {K : Act → World → Prop} {Q : Exit → Act → World → Prop} {E : Prop} (w W : World) (hgd : o.guard = none) (s x : Operand)
    (ho : o.op = .call { callee := .builtin .append, args := #[s, x], argTypes := #[25, 25] }) (base : Nat) (v : Value) (l : List It) (hs : a.eval s = v) (hown : Its w base v l) (e : It)
    (hW : W = (w.alloc (.cells #[.int .i64 e.id, .int .i64 e.u, .int .i64 e.v, .int .i64 e.w] 32)).drew)
    (hx : a.eval x = .slice (some ⟨w.heap.size, 0, none⟩) 1 1) (hl : l.length ≤ 1000) (hbase : base ≤ w.heap.size)
    (h : ∀ v' w', Its w' base v' (l ++ [e]) → Below base w w' → K (a.put o.dst v') w') :
    if Region.wanted o (yielded ops a.tmps) = true then Oper.wp Tryd.prog o a W K Q else E := by
  obtain ⟨i0, hi, hz0, hz1, hz2⟩ := info_parts infoItem
  subst hW
  have hblk : (w.alloc (.cells #[.int .i64 e.id, .int .i64 e.u, .int .i64 e.v, .int .i64 e.w] 32)).drew.heap[w.heap.size]? = some (.cells #[.int .i64 e.id, .int .i64 e.u, .int .i64 e.v, .int .i64 e.w] 32 (0, 0)) := heap_alloc_new _ _
  have hsz : (w.alloc (.cells #[.int .i64 e.id, .int .i64 e.u, .int .i64 e.v, .int .i64 e.w] 32)).drew.heap.size = w.heap.size + 1 := World.size_alloc _ _
  refine step_append_lies _ hgd s x 25 ho base 32 i0 _ 4 32 Tryd.underlying25 hi hz0 hz1 hz2 rfl (by decide) v l.length (itcs l) hs (World.ownsRow.alloc hown _) ⟨w.heap.size, 0, none⟩ 1 1 (itc e) hx rfl (World.news_of_block hblk) ?_ (by omega) ?_ ?_ ?_ (w.heap.size + 1) hsz ?_
  · intro u hu; exact itcs_oneCell [e] u (by rw [itcs_one]; exact hu)
  · unfold maxLen; omega
  · omega
  · rw [hsz]; omega
  · intro g cap w' h1 h2 _ _
    exact h _ w' (its_snoc h1) (((Below.refl _ _).alloc hbase _).drew.grown h2 (by rw [hsz]; omega) fun k hk => (World.ownsRow.lt hown k hk).1)

/-- the list in which the edges come -/
def ordL (down : Bool) (L : List It) : List It := if down then L.reverse else L
theorem ord_len (down : Bool) (L : List It) : (ordL down L).length = L.length := by unfold ordL; cases down <;> simp
theorem ord_mem (down : Bool) (L : List It) (e : It) : e ∈ ordL down L ↔ e ∈ L := by unfold ordL; cases down <;> simp
theorem ord_fit {s : St} (h : BOk s) (down : Bool) : Fit s.n (ordL down s.L) := by
  refine ⟨?_, fun e he => ?_, fun e he => h.ok.ends e ((ord_mem _ _ _).1 he), fun e he => h.ok.wb e ((ord_mem _ _ _).1 he), by rw [ord_len]; exact h.ok.l100⟩
  · have h1 := Pl.ids_ne h.ok.gl.ids
    unfold ordL
    cases down with
    | false => exact h1
    | true =>
      show s.L.reverse.Pairwise _
      rw [List.pairwise_reverse]
      exact h1.imp fun h => h.symm
  · have hm := (ord_mem _ _ _).1 he
    exact ⟨(h.ok.gl.rng e hm).1, h.few e hm⟩
theorem ord_get (L : List It) (k : Nat) (hk : k < L.length) (down : Bool) : (ordL down L)[k]'(by rw [ord_len]; exact hk) = if down then L[L.length - 1 - k]'(by omega) else L[k] := by
  cases down with
  | false => rfl
  | true => exact List.getElem_reverse ..

set_option maxRecDepth 100000 in
set_option maxHeartbeats 8000000 in
theorem forgets_any (v0 : Int) (hv : R64 v0) (sa : Option Addr) (sb so len cap : Nat) (I : Nat → StT) (w : World) (hsa : 0 < len → sa = some ⟨sb, so, none⟩) (hsb : 0 < len → sb < w.heap.size) (hlen : len ≤ 9223372036854775807) (hc : ∀ j, j < len → StAt w sb (so + j * 5) (I j)) (down : Bool) (htab : Tab w) :
    Calls Tryd.prog 3 #[.int .i64 v0, .slice sa len cap, .bool down] w fun e w' => e = .returned (.bool true) ∧ Below w.heap.size w w' := by
  have HP := hide (played_any v0 hv sa sb so len cap I w hsa hsb hlen hc)
  have HTB := hide htab
  clear hsa hsb hlen hc hv htab
  go_enter Tryd.func3, Tryd.ntmps3
  go_wp2_with fail
  refine (unhide HP).mono ?_
  rintro e w1 ⟨bb, xb, s, rfl, hbb, hxb, hs, hK, hB⟩
  clear HP
  obtain ⟨⟨vl, vp, vm, hb1, hI1, _, _⟩, hx1⟩ := id hK
  obtain ⟨al, cl, rfl⟩ := row_form hI1
  obtain ⟨c0, c1, c2, _, _, _, _⟩ := six_cells6 hb1
  have hbl := lt_of_block hb1
  have hl100 := hs.ok.l100
  have hn30 := hs.ok.n30
  have hn1 := hs.ok.n1
  have H0 := hide (And.intro hs (And.intro hI1 (And.intro hx1 hB)))
  have HC := hide (And.intro c0 (And.intro c1 c2))
  clear hK hb1 hI1 hx1 hB hs c0 c1
  go_wp2_with fail
  go_loopg [8, 9] (s.L.length + 1) (fun gk lv iv wr => ∃ k : Nat, k ≤ s.L.length ∧ iv = .int .i64 k ∧ Its wr w1.heap.size lv ((ordL down s.L).take k) ∧ Below w1.heap.size w1 wr ∧ s.L.length - k ≤ gk)
  case atStart => exact ⟨0, Nat.zero_le _, rfl, World.ownsRow_nil _ _ _ _, Below.refl _ _, by omega⟩
  case round =>
    obtain ⟨k, hk, rfl, hN, hb, hgk⟩ := hrel
    have r2 : wr.cell? ⟨bb, 2, none⟩ = some (.slice al s.L.length cl) := (hb.cell (p := ⟨bb, 2, none⟩) hbl).trans (unhide HC).2.2
    have hz := hb.size
    have hblr : bb < wr.heap.size := by omega
    by_cases hlt : k < s.L.length
    · have hI := row_below (unhide H0).2.1 hb (Nat.le_refl _)
      obtain ⟨g, rfl⟩ := row_some hI (by omega)
      have hgl := (World.ownsRow.lt hI g rfl).2
      have hgl1 := (World.ownsRow.lt (unhide H0).2.1 g rfl).2
      have hlen2 : ((ordL down s.L).take k).length = k := by rw [List.length_take, ord_len]; omega
      have hget := ord_get s.L k hlt down
      have hsn : (ordL down s.L).take (k + 1) = (ordL down s.L).take k ++ [(ordL down s.L)[k]'(by rw [ord_len]; exact hlt)] := List.take_succ_eq_append_getElem _
      cases down with
      | true =>
        obtain ⟨j, hj⟩ : ∃ j, j = s.L.length - 1 - k := ⟨_, rfl⟩
        have hjl : j < s.L.length := by omega
        have hjc : (s.L.length : Int) - 1 - k = j := by omega
        obtain ⟨y0, y1, y2, y3⟩ := its_cells hI j hjl
        obtain ⟨x, hx⟩ : ∃ x, x = s.L[j] := ⟨_, rfl⟩
        rw [← hx] at y0 y1 y2 y3
        have hsn2 : (ordL true s.L).take (k + 1) = (ordL true s.L).take k ++ [x] := by
          rw [hsn, hget, hx]; simp only [if_true, hj]
        have hk1 : (k : Int) < s.L.length := by omega
        have hj0 : (0 : Int) ≤ j := by omega
        have hj1 : (j : Int) < s.L.length := by omega
        have HN := hide hN
        have HB := hide hb
        have HS := hide hsn2
        have HL := hide hlen2
        have n1 : ¬ bb = wr.heap.size := by omega
        have n2 : ¬ g = wr.heap.size := by omega
        have hw1 : IntKind.i64.wrap ((s.L.length : Int) - 1) = (s.L.length : Int) - 1 := by rw [IntKind.wrap_i64]; omega
        have hw2 : IntKind.i64.wrap ((s.L.length : Int) - 1 - k) = j := by rw [IntKind.wrap_i64]; omega
        have HKP : Hid (∀ w2, Below w1.heap.size wr w2 → w2.cell? ⟨bb, 2, none⟩ = some (.slice (some ⟨g, 0, none⟩) s.L.length cl) ∧ w2.cell? ⟨g, j * 4, none⟩ = some (.int .i64 x.id) ∧ w2.cell? ⟨g, j * 4 + 1, none⟩ = some (.int .i64 x.u) ∧ w2.cell? ⟨g, j * 4 + 2, none⟩ = some (.int .i64 x.v) ∧ w2.cell? ⟨g, j * 4 + 3, none⟩ = some (.int .i64 x.w)) := fun w2 h2 =>
          ⟨(h2.cell (p := ⟨bb, 2, none⟩) hbl).trans r2, (h2.cell (p := ⟨g, j * 4, none⟩) hgl1).trans y0, (h2.cell (p := ⟨g, j * 4 + 1, none⟩) hgl1).trans y1, (h2.cell (p := ⟨g, j * 4 + 2, none⟩) hgl1).trans y2, (h2.cell (p := ⟨g, j * 4 + 3, none⟩) hgl1).trans y3⟩
        clear hN hb hsn hsn2 hget hI hlen2 hx hj hjc
        go_upto_region 9 with fail
        go_region_held3 (fun w' => w'.cell? ⟨bb, 2, none⟩ = some (.slice (some ⟨g, 0, none⟩) s.L.length cl) ∧ w'.cell? ⟨g, j * 4, none⟩ = some (.int .i64 x.id) ∧ w'.cell? ⟨g, j * 4 + 1, none⟩ = some (.int .i64 x.u) ∧ w'.cell? ⟨g, j * 4 + 2, none⟩ = some (.int .i64 x.v) ∧ w'.cell? ⟨g, j * 4 + 3, none⟩ = some (.int .i64 x.w))
          (first | (refine ⟨?_, ?_, ?_, ?_, ?_⟩ <;> assumption) | (go_keep; done))
          (first | (refine step_append_item wr _ rfl (.tmp 27) (.tmp 42) (by rfl) w1.heap.size _ _ (by rfl) (by exact unhide HN) x rfl (by rfl) (by have := unhide HL; omega) (by exact hz) ?_; intro v' w2 hown2 hgrow; have q := (unhide HKP) w2 hgrow; obtain ⟨q0, q1, q2, q3, q4⟩ := q))
        all_goals
          rw [← unhide HS] at hown2
          have HN2 := hide hown2
          have HB2 := hide ((unhide HB).trans hgrow)
          clear hown2 hgrow HN HB HS HL y0 y1 y2 y3 r2 q0 q1 q2 q3 q4 HKP
          go_wp2
          go_roundg (gk - 1)
          case measure => omega
          case rel => exact ⟨k + 1, by omega, by go_num, unhide HN2, unhide HB2, by omega⟩
      | false =>
        obtain ⟨y0, y1, y2, y3⟩ := its_cells hI k hlt
        obtain ⟨x, hx⟩ : ∃ x, x = s.L[k] := ⟨_, rfl⟩
        rw [← hx] at y0 y1 y2 y3
        have hsn2 : (ordL false s.L).take (k + 1) = (ordL false s.L).take k ++ [x] := by
          rw [hsn, hget, hx]; rfl
        have hk1 : (k : Int) < s.L.length := by omega
        have hk0 : (0 : Int) ≤ k := by omega
        have HB := hide hb
        have HS := hide hsn2
        have hlen3 : ((ordL false s.L).take k).length ≤ 1000 := by omega
        clear hb hsn hsn2 hget hI hx
        go_wp2_with (at_builtin; refine wpList_append_item wr rfl (.tmp 44) (.tmp 52) rfl w1.heap.size _ _ rfl (by exact hN) x (by rfl) (by exact hlen3) (by exact hz) ?_; intro v' w2 hown2 hgrow)
        rw [← unhide HS] at hown2
        have HN2 := hide hown2
        have HB2 := hide ((unhide HB).trans hgrow)
        clear hN hown2 hgrow HB HS y0 y1 y2 y3 r2
        go_roundg (gk - 1)
        case measure => omega
        case rel => exact ⟨k + 1, by omega, by go_num, unhide HN2, unhide HB2, by omega⟩
    · have hk' : k = s.L.length := by omega
      subst hk'
      have hkk : ¬ (s.L.length : Int) < s.L.length := by omega
      rw [List.take_of_length_le (by rw [ord_len]; exact Nat.le_refl _)] at hN
      obtain ⟨a2, k2, rfl⟩ := row_form hN
      obtain ⟨hs, hI1, hx1, hB⟩ := unhide H0
      have HBu := hide (built_any s.n hn1 hn30 (ordL down s.L) (ord_fit hs down) a2 k2 wr (row_mono hN (Nat.zero_le _)))
      have r1 : wr.cell? ⟨bb, 1, none⟩ = some (.int .i64 s.n) := (hb.cell (p := ⟨bb, 1, none⟩) hbl).trans (unhide HC).2.1
      have HB := hide hb
      clear hN hb hs hI1 hx1 hB
      go_wp2_with fail
      refine Calls.mono (by exact unhide HBu) ?_
      rintro e w3 ⟨gb, sg, rfl, hgb, hBu, hX3, hb3⟩
      obtain ⟨hs, hI1, hx1, hB⟩ := unhide H0
      have hB13 : Below w1.heap.size w1 w3 := (unhide HB).trans (hb3.mono (unhide HB).size)
      have d0 := (hB13.cell (p := ⟨bb, 0, none⟩) hbl).trans (unhide HC).1
      have d1 := (hB13.cell (p := ⟨bb, 1, none⟩) hbl).trans (unhide HC).2.1
      have hLL : sg.L = s.L := Pl.ids_ext hBu.ok.gl.ids hs.ok.gl.ids fun e => by rw [hBu.mem, List.take_length, ord_mem]
      have HAl := hide (alike_any s sg hs.ok hBu.ok hBu.n (by rw [hBu.most, hs.most]) hLL xb gb w3.drew ((unhide HTB).later (hB.trans (hB13.mono hB.size)).drew) (PF.drew (PF.later hx1 hB13 (Nat.le_refl _))) (PF.drew hX3))
      have HBw := hide (hB.trans (hB13.mono hB.size))
      have HLT : Hid (∀ w4, Below w3.drew.heap.size w3.drew w4 → w4.cell? ⟨bb, 0, none⟩ = some (P0 xb) ∧ w4.cell? ⟨bb, 1, none⟩ = some (.int .i64 s.n) ∧ Below w.heap.size w w4) := fun w4 hb4 => by
        have hb4' : Below w3.heap.size w3 w4 := Below.undrew hb4
        have hbl3 : bb < w3.heap.size := by have := hB13.size; omega
        exact ⟨(hb4'.cell (p := ⟨bb, 0, none⟩) hbl3).trans d0, (hb4'.cell (p := ⟨bb, 1, none⟩) hbl3).trans d1, (unhide HBw).trans (hb4'.mono (unhide HBw).size)⟩
      clear hs hI1 hx1 hB hB13 hBu hX3 hb3 hLL HBu H0 HC HB r1 r2
      go_wp2_with fail
      go_region_held3 (fun w' => w'.cell? ⟨bb, 0, none⟩ = some (P0 xb) ∧ w'.cell? ⟨bb, 1, none⟩ = some (.int .i64 s.n))
        (first | (refine ⟨?_, ?_⟩ <;> assumption) | (go_keep; done))
        (first
          | (go_at_call 10; refine (unhide HAl).mono ?_; rintro e w4 ⟨rfl, hb4⟩; have z := (unhide HLT) w4 hb4; obtain ⟨z0, z1, z2⟩ := z))
      have HB4 := hide z2
      clear z0 z1 z2 hb4 HLT HAl HBw d0 d1
      go_wp2
      go_ret
      exact ⟨rfl, unhide HB4⟩

end Go.Proofs.YtnnnleckoinjoaaDoor
