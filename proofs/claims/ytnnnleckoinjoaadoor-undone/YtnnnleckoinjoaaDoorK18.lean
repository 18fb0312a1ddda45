import Derived.Test.YtnnnleckoinjoaaDoorK17
namespace Go.Proofs.YtnnnleckoinjoaaDoor
open Go.RowKit
open Pl (It)

/-- a row of n bools that the call made: its cells -/
theorem boolrow_cell {w : World} {base g n cap : Nat} {ins : List Bool} (h : w.ownsRow base 4 1 (.slice (some ⟨g, 0, none⟩) n cap) n (ins.map Value.bool)) (hl : ins.length = n) (j : Nat) (hj : j < n) :
    w.cell? ⟨g, j, none⟩ = some (.bool (ins[j]'(by omega))) := by
  rw [World.ownsRow.cellAt h j (by omega)]
  simp [show j < ins.length by omega]
theorem boolrow_set {w : World} {base g n cap : Nat} {ins : List Bool} (h : w.ownsRow base 4 1 (.slice (some ⟨g, 0, none⟩) n cap) n (ins.map Value.bool)) (j : Nat) (b : Bool) :
    (w.setCell ⟨g, j, none⟩ (.bool b)).ownsRow base 4 1 (.slice (some ⟨g, 0, none⟩) n cap) n ((ins.set j b).map Value.bool) := by
  rw [List.map_set]
  exact (World.ownsRow.stored h j (.bool b)).1

theorem ends_get {n : Nat} {l : List It} (h : Pl.Ends n l) (k : Nat) (hk : k < l.length) : ∃ a b : Nat, l[k].u = a ∧ l[k].v = b ∧ a < n ∧ b < n := by
  obtain ⟨h1, h2, h3, h4⟩ := h l[k] (List.getElem_mem hk)
  exact ⟨l[k].u.toNat, l[k].v.toNat, by omega, by omega, by omega, by omega⟩

theorem made_bools {w1 : World} {b n : Nat} (h : w1.ownsRow b 4 1 (.slice (some ⟨b, 0, none⟩) n n) n (madeCells (Value.bool false).cells (n * 1)).toList) :
    w1.ownsRow b 4 1 (.slice (some ⟨b, 0, none⟩) n n) n ((List.replicate n false).map Value.bool) := by
  have e : (madeCells (Value.bool false).cells (n * 1)).toList = (List.replicate n false).map Value.bool := by
    rw [Nat.mul_one, show (Value.bool false).cells = #[Value.bool false] from rfl, toList_madeCells_one]; simp
  rw [← e]; exact h

theorem below_ends {n : Nat} {l : List It} {x : It} (he : Pl.Ends n l) : Pl.Ends n (Pl.below l x) := fun e h => he e (Pl.mem_below.1 h).1
theorem below_len (l : List It) (x : It) : (Pl.below l x).length ≤ l.length := List.length_filter_le _ _
/-- the bit of a vertex, in what spread hands back -/
theorem conns_cell {w : World} {base g n : Nat} {l : List It} {u v : Int} (h : Bools w base (.slice (some ⟨g, 0, none⟩) n n) (Pl.conns n l u)) (h0 : 0 ≤ v) (hv : v < n) :
    w.cell? ⟨g, v.toNat, none⟩ = some (.bool (Pl.conn l u v)) := by
  obtain ⟨k, rfl⟩ := Int.eq_ofNat_of_zero_le h0
  have hk : k < n := by omega
  have h' : Bools w base (.slice (some ⟨g, 0, none⟩) (Pl.conns n l u).length n) (Pl.conns n l u) := by rw [Pl.conns_length]; exact h
  rw [Int.toNat_natCast, bools_cell h' k (by rw [Pl.conns_length]; exact hk), Pl.conns_get n l u k hk]


theorem Sp.bools {S : Nat → Prop} {w w' : World} (hf : Fr S w w') {base g n cap : Nat} {xs : List Value} (hi : w.ownsRow base 4 1 (.slice (some ⟨g, 0, none⟩) n cap) n xs) (hg : ¬ S g) : w'.ownsRow base 4 1 (.slice (some ⟨g, 0, none⟩) n cap) n xs :=
  row_fr hi hf (fun k c f _ ho hs => by
    have : g = k := by simpa [Value.ownBlock] using ho
    subst this; exact hg hs)

/-- the inner step leaves -/
theorem in_skip {ins : List Bool} {l : List It} {t : Int} {i : Nat} (hlt : i < l.length) {P : It → Bool} (h : ∀ y, y ∈ l.take i → P y = true → DoneE ins t y) (hy : P l[i] = true → DoneE ins t l[i]) : ∀ y, y ∈ l.take (i + 1) → P y = true → DoneE ins t y := by
  intro y hy' hp
  rw [List.take_succ_eq_append_getElem hlt] at hy'
  rcases List.mem_append.1 hy' with h1 | h1
  · exact h y h1 hp
  · rw [List.mem_singleton.1 h1] at hp ⊢; exact hy hp

theorem nums_setb {w : World} {base base' gi n cap : Nat} {v : Value} {l : List Int} {xs : List Value} (h : Nums w base v l) (hI : w.ownsRow base' 4 1 (.slice (some ⟨gi, 0, none⟩) n cap) n xs) (j : Nat) (b : Value) : Nums (w.setCell ⟨gi, j, none⟩ b) base v l := by
  have hh : ∃ cur, w.heap[gi]? = some (.cells cur 4 (0, 0)) := by
    rcases hI.2 with ⟨h1, _⟩ | ⟨g, cap', cur, h1, _, h2, _⟩
    · cases h1
    · simp only [Value.slice.injEq, Option.some.injEq, Addr.mk.injEq, and_true] at h1
      exact ⟨cur, by rw [h1.1]; exact h2⟩
  obtain ⟨cur, hh⟩ := hh
  refine row_fr h (Fr.setCell (S := fun k => k = gi) (Fr.refl _ _) (p := ⟨gi, j, none⟩) (Or.inl rfl) b) ?_
  rintro k c f hk _ rfl
  rw [hh] at hk; simp at hk
/-- what lies below a number is as it was: a frame -/
theorem Fr.of_lowB {w w' : World} {B : Nat} (h : Below B w w') : Fr (fun k => B ≤ k) w w' := ⟨h.os, h.tape, h.output, h.size, fun k _ hk => h.block k (by omega)⟩
theorem sz_set (w : World) (m : Nat) (p : Addr) (v : Value) : (World.setCell (w.drewN m) p v).heap.size = w.heap.size := by
  have h : (World.setCell (w.drewN m) p v).heap.size = (w.drewN m).heap.size := by simp [World.setCell]
  rw [h]; rfl
theorem doneE_both {js : List Bool} {t : Int} {y : It} (hu : Pl.bit js y.u = true) (hv : Pl.bit js y.v = true) : DoneE js t y := ⟨fun _ => hv, fun _ => hu⟩
/-- what the inner round knows -/
structure InR (sm : Bool) (n : Nat) (l : List It) (x : It) (u : Int) (td : List Int) (k : Nat) (t : Int) (i : Nat) (js : List Bool) (ext : List Int) : Prop where
  bf : BF n (MP sm x l) u js (td ++ ext)
  d : ∀ s, s ∈ td.take k → ∀ y, y ∈ MP sm x l → DoneE js s y
  e : ∀ y, y ∈ l.take i → (!sm || Pl.lighter y x) = true → DoneE js t y
section
variable {sm : Bool} {n : Nat} {l : List It} {x : It} {u : Int} {td : List Int} {k : Nat} {t : Int} {i : Nat} {js : List Bool} {ext : List Int}
theorem InR.skip (h : InR sm n l x u td k t i js ext) (hil : i < l.length) (hy : (!sm || Pl.lighter l[i] x) = true → DoneE js t l[i]) : InR sm n l x u td k t (i + 1) js ext := by
  refine ⟨h.bf, h.d, fun y hy' hp => ?_⟩
  rw [List.take_succ_eq_append_getElem hil] at hy'
  rcases List.mem_append.1 hy' with h1 | h1
  · exact h.e y h1 hp
  · rw [List.mem_singleton.1 h1] at hp ⊢; exact hy hp
theorem InR.add (h : InR sm n l x u td k t i js ext) (hil : i < l.length) (hp : (!sm || Pl.lighter l[i] x) = true) (ht : t ∈ td ++ ext) (v : Nat) (hv : v < n) (hyv : (l[i].u = t ∧ l[i].v = v) ∨ (l[i].v = t ∧ l[i].u = v)) (hf : js.getD v false = false) : InR sm n l x u td k t (i + 1) (js.set v true) (ext ++ [(v : Int)]) := by
  have hvl : v < js.length := by rw [h.bf.len]; exact hv
  have hb := h.bf.add ht (mem_MP.2 ⟨List.getElem_mem hil, hp⟩) v hv hyv hf
  rw [List.append_assoc] at hb
  have tb := Pl.bit_keeps v hvl (h.bf.bits t ht).2.2
  have nb := bit_new v hvl
  refine ⟨hb, fun s hs y hy => (h.d s hs y hy).mono v hvl, fun y hy' hq => ?_⟩
  rw [List.take_succ_eq_append_getElem hil] at hy'
  rcases List.mem_append.1 hy' with h1 | h1
  · exact (h.e y h1 hq).mono v hvl
  · rw [List.mem_singleton.1 h1]
    rcases hyv with ⟨e1, e2⟩ | ⟨e1, e2⟩
    · exact doneE_both (by rw [e1]; exact tb) (by rw [e2]; exact nb)
    · exact doneE_both (by rw [e2]; exact nb) (by rw [e1]; exact tb)
end

set_option maxRecDepth 100000 in
set_option maxHeartbeats 8000000 in
theorem part_any (sm : Bool) (n : Nat) (l : List It) (u : Nat) (x : It) (a : Option Addr) (cap : Nat) (w : World) (h : Its w 0 (.slice a l.length cap) l) (hl : l.length ≤ 100) (hn : n ≤ 30) (hu : u < n) (he : Pl.Ends n l) :
    Calls Tryd.prog 39 #[.int .i64 n, .slice a l.length cap, .int .i64 u, (.bool sm), itv x] w fun e w' => ∃ gi, e = .returned (.slice (some ⟨gi, 0, none⟩) n n) ∧ Bools w' w.heap.size (.slice (some ⟨gi, 0, none⟩) n n) (Pl.conns n (MP sm x l) u) ∧ Below w.heap.size w w' := by
  obtain ⟨i0, hi, hz0, hz1, hz2⟩ := info_parts info4
  have hu1 : (u : Int) < n := by omega
  go_enter Tryd.func39, Tryd.ntmps39
  go_wp2_with (at_make; refine wpList_make_full _ rfl (.tmp 18) (.tmp 18) 78 rfl (w.heap.size + 1) 4 i0 (.bool false) 1 Tryd.underlying78 hi hz0 hz1 .i64 .i64 n n n rfl rfl rfl rfl (by rw [hz2]; omega) (by unfold maxLen; omega) (by rw [World.size_alloc]; omega) ?_; intro w1 hown0 hgrow; simp only [World.size_alloc] at hown0 hgrow ⊢; have hown := made_bools hown0; clear hown0; have hf := World.ownsRow.frozenAt hown u; have hc := boolrow_cell hown (by simp) u (by omega))
  have hB1 : Below (w.heap.size + 1) (w.alloc (ito x)) w1 := (Below.refl _ _).grown hgrow (by rw [World.size_alloc]; omega) (fun _ h => by cases h)
  have hs1 : w.heap.size + 1 < w1.heap.size := (World.ownsRow.lt hown _ rfl).2
  have hown2 := boolrow_set hown u true
  have hS1 : (w1.setCell ⟨w.heap.size + 1, u, none⟩ (.bool true)).heap.size = w1.heap.size := by simp [World.setCell]
  have hN1 : Nums ((w1.setCell ⟨w.heap.size + 1, u, none⟩ (.bool true)).alloc (.cells #[.int .i64 u] 3)) (w.heap.size + 1 + 1) (.slice (some ⟨w1.heap.size, 0, none⟩) 1 1) [(u : Int)] := by
    have := nums_one (w := w1.setCell ⟨w.heap.size + 1, u, none⟩ (.bool true)) (base := w.heap.size + 1 + 1) (x := (u : Int)) (by rw [hS1]; omega)
    rw [hS1] at this; exact this
  have hI1 := World.ownsRow.alloc hown2 (.cells #[.int .i64 u] 3)
  have hBB1 : Below (w.heap.size + 1) (w.alloc (ito x)) ((w1.setCell ⟨w.heap.size + 1, u, none⟩ (.bool true)).alloc (.cells #[.int .i64 u] 3)) := (hB1.setCell (p := ⟨w.heap.size + 1, u, none⟩) (Nat.le_refl _) _).alloc (by rw [hS1]; omega) _
  have hBF1 := BF.start (M := MP sm x l) hu
  have H1 := hide (And.intro hN1 (And.intro hI1 (And.intro hBB1 hBF1)))
  clear hf hc hown hgrow hB1 hown2 hN1 hI1 hBB1 hBF1 hS1
  go_loopg [12, 13] (n + 1) (fun gk v kv wr => ∃ (k : Nat) (ins : List Bool) (td : List Int), k ≤ td.length ∧ kv = .int .i64 k ∧ Nums wr (w.heap.size + 1 + 1) v td ∧ wr.ownsRow (w.heap.size + 1) 4 1 (.slice (some ⟨w.heap.size + 1, 0, none⟩) n n) n (ins.map Value.bool) ∧ Below (w.heap.size + 1) (w.alloc (ito x)) wr ∧ BF n (MP sm x l) u ins td ∧ (∀ t, t ∈ td.take k → ∀ y, y ∈ MP sm x l → DoneE ins t y) ∧ n - k ≤ gk)
  case atStart =>
    obtain ⟨q1, q2, q3, q4⟩ := unhide H1
    exact ⟨0, _, _, Nat.zero_le _, rfl, q1, q2, q3, q4, (fun t ht => by simp at ht), by omega⟩
  case round =>
    obtain ⟨k, ins, td, hk, rfl, hN, hI, hB, hBF, hD, hgk⟩ := hrel
    obtain ⟨at', ct, rfl⟩ := row_form hN
    have htn : td.length ≤ n := by have := hBF.fuel; omega
    by_cases hlt : k < td.length
    · have hk2 : (k : Int) < td.length := by omega
      have HO := hide (And.intro hBF hD)
      clear hBF hD H1
      go_wp2_with fail
      go_loopg [12, 14] (l.length + 1) (fun gj v iv wr => ∃ (i : Nat) (js : List Bool) (ext : List Int), i ≤ l.length ∧ iv = .int .i64 i ∧ Nums wr (w.heap.size + 1 + 1) v (td ++ ext) ∧ wr.ownsRow (w.heap.size + 1) 4 1 (.slice (some ⟨w.heap.size + 1, 0, none⟩) n n) n (js.map Value.bool) ∧ Below (w.heap.size + 1) (w.alloc (ito x)) wr ∧ BF n (MP sm x l) u js (td ++ ext) ∧ (∀ t, t ∈ td.take k → ∀ y, y ∈ MP sm x l → DoneE js t y) ∧ (∀ y, y ∈ l.take i → (!sm || Pl.lighter y x) = true → DoneE js td[k] y) ∧ l.length - i ≤ gj)
      case atStart =>
        obtain ⟨hBF, hD⟩ := unhide HO
        exact ⟨0, ins, [], Nat.zero_le _, rfl, by rw [List.append_nil]; exact hN, hI, hB, by rw [List.append_nil]; exact hBF, hD, (fun y hy => by simp at hy), by omega⟩
      case round =>
        obtain ⟨i, js, ext, hile, rfl, hN2, hI2, hB2, hBF, hD, hE, hgj⟩ := hrel
        obtain ⟨at2, ct2, rfl⟩ := row_form hN2
        have htn2 : (td ++ ext).length ≤ n := by have := hBF.fuel; omega
        have hBw : Below w.heap.size w wr := ((Below.refl _ _).alloc (Nat.le_refl _) _).trans (hB2.mono (by omega))
        by_cases hil : i < l.length
        · obtain ⟨g, rfl⟩ := row_some h (by omega)
          have hIl : Its wr 0 (.slice (some ⟨g, 0, none⟩) l.length cap) l := row_below h hBw (Nat.le_refl _)
          obtain ⟨c0, c1, c2, c3⟩ := its_cells hIl i hil
          obtain ⟨eu, ev, heu, hev, hea, heb⟩ := ends_get he i hil
          have hi1 : (0 : Int) ≤ i := by omega
          have hi2 : (i : Int) < l.length := by omega
          have hgl : g < w.heap.size := (World.ownsRow.lt h g rfl).2
          have hzr : w.heap.size + 1 < wr.heap.size := (World.ownsRow.lt hI2 _ rfl).2
          have hbx : wr.heap[w.heap.size]? = some (ito x) := made_later hB2 (by omega)
          obtain ⟨x0, x1, x2, x3, _⟩ := four_cells hbx
          have n1 : ¬ w.heap.size = wr.heap.size := by omega
          have n2 : ¬ g = wr.heap.size := by omega
          have n3 : ¬ w.heap.size + 1 = wr.heap.size := by omega
          have n4 : ¬ wr.heap.size = w.heap.size + 1 := by omega
          have hmt : td[k] ∈ td ++ ext := List.mem_append_left _ (List.getElem_mem hlt)
          have hmy : l[i] ∈ l := List.getElem_mem hil
          obtain ⟨y, hy⟩ : ∃ y, y = l[i] := ⟨_, rfl⟩
          obtain ⟨t, ht⟩ : ∃ t, t = td[k] := ⟨_, rfl⟩
          have hE' : ∀ z, z ∈ l.take i → (!sm || Pl.lighter z x) = true → DoneE js t z := by rw [ht]; exact hE
          -- behind the call that compares
          have aft : ∀ w2, Below (wr.alloc (ito y)).heap.size (wr.alloc (ito y)) w2 →
              w2.heap[wr.heap.size]? = some (ito y) ∧ Nums w2 (w.heap.size + 1 + 1) (.slice at2 (td ++ ext).length ct2) (td ++ ext) ∧ w2.ownsRow (w.heap.size + 1) 4 1 (.slice (some ⟨w.heap.size + 1, 0, none⟩) n n) n (js.map Value.bool) ∧ Below (w.heap.size + 1) (w.alloc (ito x)) w2 ∧ w.heap.size + 1 + 1 ≤ w2.heap.size ∧ wr.heap.size < w2.heap.size := by
            intro w2 hb
            have hb' : Below wr.heap.size wr w2 := ((Below.refl _ _).alloc (Nat.le_refl _) _).trans (hb.mono (by rw [World.size_alloc]; omega))
            have hsz := hb.size
            rw [World.size_alloc] at hsz
            exact ⟨(hb.block _ (by rw [World.size_alloc]; omega)).trans (heap_alloc_new _ _), row_below hN2 hb' (Nat.le_refl _), row_below hI2 hb' (Nat.le_refl _), hB2.trans (hb'.mono (by omega)), by omega, by omega⟩
          have z0 : (wr.alloc (ito y)).cell? ⟨w.heap.size, 0, none⟩ = some (.int .i64 x.id) := by simp [World.cell?_alloc_some, x0]
          have z1 : (wr.alloc (ito y)).cell? ⟨w.heap.size, 1, none⟩ = some (.int .i64 x.u) := by simp [World.cell?_alloc_some, x1]
          have z2 : (wr.alloc (ito y)).cell? ⟨w.heap.size, 2, none⟩ = some (.int .i64 x.v) := by simp [World.cell?_alloc_some, x2]
          have z3 : (wr.alloc (ito y)).cell? ⟨w.heap.size, 3, none⟩ = some (.int .i64 x.w) := by simp [World.cell?_alloc_some, x3]
          have HAf := hide aft
          have HLt := hide (fun w' => klighter_any y x w')
          have HPure := hide (And.intro hBF (And.intro hD (And.intro hE' (And.intro hmt (And.intro hmy (And.intro hy (And.intro ht (And.intro heu hev))))))))
          rw [← hy] at c0 c1 c2 c3 heu hev
          have HUV := hide (And.intro heu hev)
          clear heu hev
          have hjl := hBF.len
          have hfr := World.ownsRow.frozenAt hI2
          have HT := hide ht
          clear hN2 hI2 hB2 hBF hD hE hE' hBw hIl hmt hmy aft hbx hy ht
          go_wp2_with fail
          refine ((unhide HLt) _).mono ?_
          rintro e w2 ⟨rfl, hb2⟩
          obtain ⟨hv2, hN2, hI2, hB2, hz2a, hz2b⟩ := (unhide HAf) w2 hb2
          obtain ⟨heu, hev⟩ := unhide HUV
          obtain ⟨y0, y1, y2, y3, _⟩ := four_cells hv2
          rw [heu] at y1
          rw [hev] at y2
          have tc : ∃ gt, at2 = some ⟨gt, 0, none⟩ ∧ w2.cell? ⟨gt, k, none⟩ = some (.int .i64 t) := by
            obtain ⟨gt, rfl⟩ := row_some hN2 (by rw [List.length_append]; omega)
            refine ⟨gt, rfl, ?_⟩
            rw [nums_cell hN2 k (by rw [List.length_append]; omega), List.getElem_append_left hlt, unhide HT]
          obtain ⟨gt, rfl, tc⟩ := tc
          have cu := boolrow_cell hI2 hjl eu hea
          have cv := boolrow_cell hI2 hjl ev heb
          have hk0 : (0 : Int) ≤ k := by omega
          have hk3 : (k : Int) < (td ++ ext).length := by rw [List.length_append]; omega
          have hu0 : (eu : Int) < n := by omega
          have hv0 : (ev : Int) < n := by omega
          have fu := World.ownsRow.frozenAt hI2 eu
          have fv := World.ownsRow.frozenAt hI2 ev
          have HW := hide (And.intro hN2 (And.intro hI2 hB2))
          obtain ⟨pu, hpu⟩ : ∃ p, p = js[eu]'(by omega) := ⟨_, rfl⟩
          obtain ⟨pv, hpv⟩ : ∃ p, p = js[ev]'(by omega) := ⟨_, rfl⟩
          rw [← hpu] at cu
          rw [← hpv] at cv
          have bu' : Pl.bit js (eu : Int) = pu := by unfold Pl.bit; rw [Int.toNat_natCast, List.getD_eq_getElem?_getD, List.getElem?_eq_getElem (by omega), hpu]; rfl
          have bv' : Pl.bit js (ev : Int) = pv := by unfold Pl.bit; rw [Int.toNat_natCast, List.getD_eq_getElem?_getD, List.getElem?_eq_getElem (by omega), hpv]; rfl
          have HBt := hide (And.intro bu' bv')
          clear hN2 hI2 hB2 hb2 hv2 HAf HLt hpu hpv bu' bv' hfr c0 c1 c2 c3 x0 x1 x2 x3 z0 z1 z2 z3 hjl heu hev HT
          have hlen5 : (td ++ ext).length ≤ 100 := by omega
          have HR : Hid (InR sm n l x u td k t i js ext ∧ t ∈ td ++ ext ∧ l[i].u = eu ∧ l[i].v = ev ∧ y = l[i] ∧ Pl.bit js t = true ∧ Pl.bit js (eu : Int) = pu ∧ Pl.bit js (ev : Int) = pv) := by
            obtain ⟨p1, p2, p3, p4, p5, p6, p7, p8, p9⟩ := unhide HPure
            obtain ⟨b1, b2⟩ := unhide HBt
            rw [← p7] at p4
            exact ⟨⟨p1, p2, p3⟩, p4, p8, p9, p6, (p1.bits t p4).2.2, b1, b2⟩
          have HRK : Hid (∀ js' ext', InR sm n l x u td k t (i + 1) js' ext' → BF n (MP sm x l) u js' (td ++ ext') ∧ (∀ t, t ∈ td.take k → ∀ y, y ∈ MP sm x l → DoneE js' t y) ∧ (∀ y, y ∈ l.take (i + 1) → (!sm || Pl.lighter y x) = true → DoneE js' td[k] y)) := fun js' ext' hr => by
            obtain ⟨_, _, _, _, _, _, p7, _⟩ := unhide HPure
            rw [← p7]
            exact ⟨hr.bf, hr.d, hr.e⟩
          have bitd : Hid (∀ v : Nat, Pl.bit js (v : Int) = false → js.getD v false = false) := fun v hb => by unfold Pl.bit at hb; rw [Int.toNat_natCast] at hb; exact hb
          clear HPure HBt
          cases sm with
          | true =>
            cases hless : Pl.lighter y x with
            | false =>
              have HS : Hid (InR true n l x u td k t (i + 1) js ext) := by
                obtain ⟨r1, _, _, _, r5, _⟩ := unhide HR
                exact r1.skip hil (fun hp => by rw [← r5, hless] at hp; cases hp)
              clear HR
              go_wp2
              obtain ⟨q1, q2, q3⟩ := unhide HW
              obtain ⟨m1, m2, m3⟩ := (unhide HRK) _ _ (unhide HS)
              go_roundg (gk - 1)
              case measure => omega
              case rel => exact ⟨i + 1, js, ext, by omega, by go_num, by rw [← List.length_append]; exact q1, q2, q3, m1, m2, m3, by omega⟩
            | true =>
              by_cases hyu : (eu : Int) = t
              · have hyu' : ((eu : Int) == t) = true := by simpa using hyu
                cases pv with
                | true =>
                  have HS : Hid (InR true n l x u td k t (i + 1) js ext) := by
                    obtain ⟨r1, r2, r3, r4, r5, r6, r7, r8⟩ := unhide HR
                    exact r1.skip hil (fun _ => doneE_both (by rw [r3, hyu]; exact r6) (by rw [r4]; exact r8))
                  clear HR
                  go_wp2_with (go_quiet (fail))
                  obtain ⟨q1, q2, q3⟩ := unhide HW
                  obtain ⟨m1, m2, m3⟩ := (unhide HRK) _ _ (unhide HS)
                  go_roundg (gk - 1)
                  case measure => omega
                  case rel => exact ⟨i + 1, js, ext, by omega, by go_num, by rw [← List.length_append]; exact q1, q2, below_drewN q3 _, m1, m2, m3, by omega⟩
                | false =>
                  have HS : Hid (InR true n l x u td k t (i + 1) (js.set ev true) (ext ++ [(ev : Int)])) := by
                    obtain ⟨r1, r2, r3, r4, r5, r6, r7, r8⟩ := unhide HR
                    exact r1.add hil (by rw [← r5, hless]; rfl) r2 ev heb (Or.inl ⟨by rw [r3]; exact hyu, r4⟩) ((unhide bitd) ev r8)
                  have HTN : Hid (∀ w3 : World, w3.heap = w2.heap → Nums (w3.setCell ⟨w.heap.size + 1, ev, none⟩ (.bool true)) (w.heap.size + 1 + 1) (.slice (some ⟨gt, 0, none⟩) (td.length + ext.length) ct2) (td ++ ext) ∧ w.heap.size + 1 + 1 ≤ (w3.setCell ⟨w.heap.size + 1, ev, none⟩ (.bool true)).heap.size) := fun w3 e3 => by
                    obtain ⟨q1, q2, q3⟩ := unhide HW
                    rw [List.length_append] at q1
                    have hf : Fr (fun _ => False) w2 w2 := Fr.refl _ _
                    have a1 : Nums w3 (w.heap.size + 1 + 1) (.slice (some ⟨gt, 0, none⟩) (td.length + ext.length) ct2) (td ++ ext) := by
                      obtain ⟨p1, p2⟩ := q1
                      refine ⟨p1, ?_⟩
                      rw [e3]; exact p2
                    have a2 : w3.ownsRow (w.heap.size + 1) 4 1 (.slice (some ⟨w.heap.size + 1, 0, none⟩) n n) n (js.map Value.bool) := by
                      obtain ⟨p1, p2⟩ := q2
                      refine ⟨p1, ?_⟩
                      rw [e3]; exact p2
                    refine ⟨nums_setb a1 a2 _ _, ?_⟩
                    simp [World.setCell, e3]; omega
                  clear HR
                  go_wp2_with (first
                    | go_quiet (fail)
                    | (at_builtin; refine wpList_append_num (World.setCell (w2.drewN _) ⟨w.heap.size + 1, ev, none⟩ (.bool true)) rfl (.tmp 79) (.tmp 81) rfl (w.heap.size + 1 + 1) (.slice (some ⟨gt, 0, none⟩) (td.length + ext.length) ct2) (td ++ ext) rfl ((unhide HTN) (w2.drewN _) rfl).1 (ev : Int) (by first | rfl | (rw [sz_set]; rfl)) (by omega) ((unhide HTN) (w2.drewN _) rfl).2 ?_; intro v5 w5 hN5 hg5))
                  obtain ⟨q1, q2, q3⟩ := unhide HW
                  obtain ⟨m1, m2, m3⟩ := (unhide HRK) _ _ (unhide HS)
                  go_roundg (gk - 1)
                  case measure => omega
                  case rel =>
                    refine ⟨i + 1, js.set ev true, ext ++ [(ev : Int)], by omega, by go_num, by rw [← List.append_assoc]; exact hN5, ?_, ?_, m1, m2, m3, by omega⟩
                    · exact row_fr (boolrow_set (w := w2.drewN _) q2 ev true) (Fr.of_lowB hg5) (fun kk c f _ ho hs => by
                        have : w.heap.size + 1 = kk := by simpa [Value.ownBlock] using ho
                        omega)
                    · exact ((below_drewN q3 _).setCell (p := ⟨w.heap.size + 1, ev, none⟩) (Nat.le_refl _) _).trans (hg5.mono (by omega))
              · have hyu' : ((eu : Int) == t) = false := by simpa using hyu
                by_cases hyv : (ev : Int) = t
                · have hyv' : ((ev : Int) == t) = true := by simpa using hyv
                  cases pu with
                  | true =>
                    have HS : Hid (InR true n l x u td k t (i + 1) js ext) := by
                      obtain ⟨r1, r2, r3, r4, r5, r6, r7, r8⟩ := unhide HR
                      exact r1.skip hil (fun _ => doneE_both (by rw [r3]; exact r7) (by rw [r4, hyv]; exact r6))
                    clear HR
                    go_wp2_with (go_quiet (fail))
                    obtain ⟨q1, q2, q3⟩ := unhide HW
                    obtain ⟨m1, m2, m3⟩ := (unhide HRK) _ _ (unhide HS)
                    go_roundg (gk - 1)
                    case measure => omega
                    case rel => exact ⟨i + 1, js, ext, by omega, by go_num, by rw [← List.length_append]; exact q1, q2, below_drewN q3 _, m1, m2, m3, by omega⟩
                  | false =>
                    have HS : Hid (InR true n l x u td k t (i + 1) (js.set eu true) (ext ++ [(eu : Int)])) := by
                      obtain ⟨r1, r2, r3, r4, r5, r6, r7, r8⟩ := unhide HR
                      exact r1.add hil (by rw [← r5, hless]; rfl) r2 eu hea (Or.inr ⟨by rw [r4]; exact hyv, r3⟩) ((unhide bitd) eu r7)
                    have HTN : Hid (∀ w3 : World, w3.heap = w2.heap → Nums (w3.setCell ⟨w.heap.size + 1, eu, none⟩ (.bool true)) (w.heap.size + 1 + 1) (.slice (some ⟨gt, 0, none⟩) (td.length + ext.length) ct2) (td ++ ext) ∧ w.heap.size + 1 + 1 ≤ (w3.setCell ⟨w.heap.size + 1, eu, none⟩ (.bool true)).heap.size) := fun w3 e3 => by
                      obtain ⟨q1, q2, q3⟩ := unhide HW
                      rw [List.length_append] at q1
                      have hf : Fr (fun _ => False) w2 w2 := Fr.refl _ _
                      have a1 : Nums w3 (w.heap.size + 1 + 1) (.slice (some ⟨gt, 0, none⟩) (td.length + ext.length) ct2) (td ++ ext) := by
                        obtain ⟨p1, p2⟩ := q1
                        refine ⟨p1, ?_⟩
                        rw [e3]; exact p2
                      have a2 : w3.ownsRow (w.heap.size + 1) 4 1 (.slice (some ⟨w.heap.size + 1, 0, none⟩) n n) n (js.map Value.bool) := by
                        obtain ⟨p1, p2⟩ := q2
                        refine ⟨p1, ?_⟩
                        rw [e3]; exact p2
                      refine ⟨nums_setb a1 a2 _ _, ?_⟩
                      simp [World.setCell, e3]; omega
                    clear HR
                    go_wp2_with (first
                      | go_quiet (fail)
                      | (at_builtin; refine wpList_append_num (World.setCell (w2.drewN _) ⟨w.heap.size + 1, eu, none⟩ (.bool true)) rfl (.tmp 79) (.tmp 81) rfl (w.heap.size + 1 + 1) (.slice (some ⟨gt, 0, none⟩) (td.length + ext.length) ct2) (td ++ ext) rfl ((unhide HTN) (w2.drewN _) rfl).1 (eu : Int) (by first | rfl | (rw [sz_set]; rfl)) (by omega) ((unhide HTN) (w2.drewN _) rfl).2 ?_; intro v5 w5 hN5 hg5))
                    obtain ⟨q1, q2, q3⟩ := unhide HW
                    obtain ⟨m1, m2, m3⟩ := (unhide HRK) _ _ (unhide HS)
                    go_roundg (gk - 1)
                    case measure => omega
                    case rel =>
                      refine ⟨i + 1, js.set eu true, ext ++ [(eu : Int)], by omega, by go_num, by rw [← List.append_assoc]; exact hN5, ?_, ?_, m1, m2, m3, by omega⟩
                      · exact row_fr (boolrow_set (w := w2.drewN _) q2 eu true) (Fr.of_lowB hg5) (fun kk c f _ ho hs => by
                          have : w.heap.size + 1 = kk := by simpa [Value.ownBlock] using ho
                          omega)
                      · exact ((below_drewN q3 _).setCell (p := ⟨w.heap.size + 1, eu, none⟩) (Nat.le_refl _) _).trans (hg5.mono (by omega))
                · have hyv' : ((ev : Int) == t) = false := by simpa using hyv
                  have HS : Hid (InR true n l x u td k t (i + 1) js ext) := by
                    obtain ⟨r1, r2, r3, r4, r5, r6, r7, r8⟩ := unhide HR
                    exact r1.skip hil (fun _ => ⟨fun e => absurd (r3.symm.trans e) hyu, fun e => absurd (r4.symm.trans e) hyv⟩)
                  clear HR
                  go_wp2_with (go_quiet (fail))
                  obtain ⟨q1, q2, q3⟩ := unhide HW
                  obtain ⟨m1, m2, m3⟩ := (unhide HRK) _ _ (unhide HS)
                  go_roundg (gk - 1)
                  case measure => omega
                  case rel => exact ⟨i + 1, js, ext, by omega, by go_num, by rw [← List.length_append]; exact q1, q2, below_drewN q3 _, m1, m2, m3, by omega⟩
          | false =>
            by_cases hyu : (eu : Int) = t
            · have hyu' : ((eu : Int) == t) = true := by simpa using hyu
              cases pv with
              | true =>
                have HS : Hid (InR false n l x u td k t (i + 1) js ext) := by
                  obtain ⟨r1, r2, r3, r4, r5, r6, r7, r8⟩ := unhide HR
                  exact r1.skip hil (fun _ => doneE_both (by rw [r3, hyu]; exact r6) (by rw [r4]; exact r8))
                clear HR
                go_wp2_with (go_quiet (fail))
                obtain ⟨q1, q2, q3⟩ := unhide HW
                obtain ⟨m1, m2, m3⟩ := (unhide HRK) _ _ (unhide HS)
                go_roundg (gk - 1)
                case measure => omega
                case rel => exact ⟨i + 1, js, ext, by omega, by go_num, by rw [← List.length_append]; exact q1, q2, below_drewN q3 _, m1, m2, m3, by omega⟩
              | false =>
                have HS : Hid (InR false n l x u td k t (i + 1) (js.set ev true) (ext ++ [(ev : Int)])) := by
                  obtain ⟨r1, r2, r3, r4, r5, r6, r7, r8⟩ := unhide HR
                  exact r1.add hil rfl r2 ev heb (Or.inl ⟨by rw [r3]; exact hyu, r4⟩) ((unhide bitd) ev r8)
                have HTN : Hid (∀ w3 : World, w3.heap = w2.heap → Nums (w3.setCell ⟨w.heap.size + 1, ev, none⟩ (.bool true)) (w.heap.size + 1 + 1) (.slice (some ⟨gt, 0, none⟩) (td.length + ext.length) ct2) (td ++ ext) ∧ w.heap.size + 1 + 1 ≤ (w3.setCell ⟨w.heap.size + 1, ev, none⟩ (.bool true)).heap.size) := fun w3 e3 => by
                  obtain ⟨q1, q2, q3⟩ := unhide HW
                  rw [List.length_append] at q1
                  have hf : Fr (fun _ => False) w2 w2 := Fr.refl _ _
                  have a1 : Nums w3 (w.heap.size + 1 + 1) (.slice (some ⟨gt, 0, none⟩) (td.length + ext.length) ct2) (td ++ ext) := by
                    obtain ⟨p1, p2⟩ := q1
                    refine ⟨p1, ?_⟩
                    rw [e3]; exact p2
                  have a2 : w3.ownsRow (w.heap.size + 1) 4 1 (.slice (some ⟨w.heap.size + 1, 0, none⟩) n n) n (js.map Value.bool) := by
                    obtain ⟨p1, p2⟩ := q2
                    refine ⟨p1, ?_⟩
                    rw [e3]; exact p2
                  refine ⟨nums_setb a1 a2 _ _, ?_⟩
                  simp [World.setCell, e3]; omega
                clear HR
                go_wp2_with (first
                  | go_quiet (fail)
                  | (at_builtin; refine wpList_append_num (World.setCell (w2.drewN _) ⟨w.heap.size + 1, ev, none⟩ (.bool true)) rfl (.tmp 79) (.tmp 81) rfl (w.heap.size + 1 + 1) (.slice (some ⟨gt, 0, none⟩) (td.length + ext.length) ct2) (td ++ ext) rfl ((unhide HTN) (w2.drewN _) rfl).1 (ev : Int) (by first | rfl | (rw [sz_set]; rfl)) (by omega) ((unhide HTN) (w2.drewN _) rfl).2 ?_; intro v5 w5 hN5 hg5))
                obtain ⟨q1, q2, q3⟩ := unhide HW
                obtain ⟨m1, m2, m3⟩ := (unhide HRK) _ _ (unhide HS)
                go_roundg (gk - 1)
                case measure => omega
                case rel =>
                  refine ⟨i + 1, js.set ev true, ext ++ [(ev : Int)], by omega, by go_num, by rw [← List.append_assoc]; exact hN5, ?_, ?_, m1, m2, m3, by omega⟩
                  · exact row_fr (boolrow_set (w := w2.drewN _) q2 ev true) (Fr.of_lowB hg5) (fun kk c f _ ho hs => by
                      have : w.heap.size + 1 = kk := by simpa [Value.ownBlock] using ho
                      omega)
                  · exact ((below_drewN q3 _).setCell (p := ⟨w.heap.size + 1, ev, none⟩) (Nat.le_refl _) _).trans (hg5.mono (by omega))
            · have hyu' : ((eu : Int) == t) = false := by simpa using hyu
              by_cases hyv : (ev : Int) = t
              · have hyv' : ((ev : Int) == t) = true := by simpa using hyv
                cases pu with
                | true =>
                  have HS : Hid (InR false n l x u td k t (i + 1) js ext) := by
                    obtain ⟨r1, r2, r3, r4, r5, r6, r7, r8⟩ := unhide HR
                    exact r1.skip hil (fun _ => doneE_both (by rw [r3]; exact r7) (by rw [r4, hyv]; exact r6))
                  clear HR
                  go_wp2_with (go_quiet (fail))
                  obtain ⟨q1, q2, q3⟩ := unhide HW
                  obtain ⟨m1, m2, m3⟩ := (unhide HRK) _ _ (unhide HS)
                  go_roundg (gk - 1)
                  case measure => omega
                  case rel => exact ⟨i + 1, js, ext, by omega, by go_num, by rw [← List.length_append]; exact q1, q2, below_drewN q3 _, m1, m2, m3, by omega⟩
                | false =>
                  have HS : Hid (InR false n l x u td k t (i + 1) (js.set eu true) (ext ++ [(eu : Int)])) := by
                    obtain ⟨r1, r2, r3, r4, r5, r6, r7, r8⟩ := unhide HR
                    exact r1.add hil rfl r2 eu hea (Or.inr ⟨by rw [r4]; exact hyv, r3⟩) ((unhide bitd) eu r7)
                  have HTN : Hid (∀ w3 : World, w3.heap = w2.heap → Nums (w3.setCell ⟨w.heap.size + 1, eu, none⟩ (.bool true)) (w.heap.size + 1 + 1) (.slice (some ⟨gt, 0, none⟩) (td.length + ext.length) ct2) (td ++ ext) ∧ w.heap.size + 1 + 1 ≤ (w3.setCell ⟨w.heap.size + 1, eu, none⟩ (.bool true)).heap.size) := fun w3 e3 => by
                    obtain ⟨q1, q2, q3⟩ := unhide HW
                    rw [List.length_append] at q1
                    have hf : Fr (fun _ => False) w2 w2 := Fr.refl _ _
                    have a1 : Nums w3 (w.heap.size + 1 + 1) (.slice (some ⟨gt, 0, none⟩) (td.length + ext.length) ct2) (td ++ ext) := by
                      obtain ⟨p1, p2⟩ := q1
                      refine ⟨p1, ?_⟩
                      rw [e3]; exact p2
                    have a2 : w3.ownsRow (w.heap.size + 1) 4 1 (.slice (some ⟨w.heap.size + 1, 0, none⟩) n n) n (js.map Value.bool) := by
                      obtain ⟨p1, p2⟩ := q2
                      refine ⟨p1, ?_⟩
                      rw [e3]; exact p2
                    refine ⟨nums_setb a1 a2 _ _, ?_⟩
                    simp [World.setCell, e3]; omega
                  clear HR
                  go_wp2_with (first
                    | go_quiet (fail)
                    | (at_builtin; refine wpList_append_num (World.setCell (w2.drewN _) ⟨w.heap.size + 1, eu, none⟩ (.bool true)) rfl (.tmp 79) (.tmp 81) rfl (w.heap.size + 1 + 1) (.slice (some ⟨gt, 0, none⟩) (td.length + ext.length) ct2) (td ++ ext) rfl ((unhide HTN) (w2.drewN _) rfl).1 (eu : Int) (by first | rfl | (rw [sz_set]; rfl)) (by omega) ((unhide HTN) (w2.drewN _) rfl).2 ?_; intro v5 w5 hN5 hg5))
                  obtain ⟨q1, q2, q3⟩ := unhide HW
                  obtain ⟨m1, m2, m3⟩ := (unhide HRK) _ _ (unhide HS)
                  go_roundg (gk - 1)
                  case measure => omega
                  case rel =>
                    refine ⟨i + 1, js.set eu true, ext ++ [(eu : Int)], by omega, by go_num, by rw [← List.append_assoc]; exact hN5, ?_, ?_, m1, m2, m3, by omega⟩
                    · exact row_fr (boolrow_set (w := w2.drewN _) q2 eu true) (Fr.of_lowB hg5) (fun kk c f _ ho hs => by
                        have : w.heap.size + 1 = kk := by simpa [Value.ownBlock] using ho
                        omega)
                    · exact ((below_drewN q3 _).setCell (p := ⟨w.heap.size + 1, eu, none⟩) (Nat.le_refl _) _).trans (hg5.mono (by omega))
              · have hyv' : ((ev : Int) == t) = false := by simpa using hyv
                have HS : Hid (InR false n l x u td k t (i + 1) js ext) := by
                  obtain ⟨r1, r2, r3, r4, r5, r6, r7, r8⟩ := unhide HR
                  exact r1.skip hil (fun _ => ⟨fun e => absurd (r3.symm.trans e) hyu, fun e => absurd (r4.symm.trans e) hyv⟩)
                clear HR
                go_wp2_with (go_quiet (fail))
                obtain ⟨q1, q2, q3⟩ := unhide HW
                obtain ⟨m1, m2, m3⟩ := (unhide HRK) _ _ (unhide HS)
                go_roundg (gk - 1)
                case measure => omega
                case rel => exact ⟨i + 1, js, ext, by omega, by go_num, by rw [← List.length_append]; exact q1, q2, below_drewN q3 _, m1, m2, m3, by omega⟩

        · have hle : l.take i = l := List.take_of_length_le (by omega)
          rw [hle] at hE
          have hke : td[k] ∈ td ++ ext := List.mem_append_left _ (List.getElem_mem hlt)
          have htk : (td ++ ext).take (k + 1) = td.take k ++ [td[k]] := by
            rw [List.take_append_of_le_length (by omega), List.take_succ_eq_append_getElem hlt]
          have HX : Hid (∀ t, t ∈ (td ++ ext).take (k + 1) → ∀ y, y ∈ MP sm x l → DoneE js t y) := fun t ht y hy => by
            rw [htk] at ht
            rcases List.mem_append.1 ht with h1 | h1
            · exact hD t h1 y hy
            · rw [List.mem_singleton.1 h1]
              obtain ⟨y1, y2⟩ := mem_MP.1 hy
              exact hE y y1 y2
          have ii : ¬ (i : Int) < l.length := by omega
          have HY := hide (And.intro hN2 (And.intro hI2 (And.intro hB2 hBF)))
          clear hE hD hle htk hN2 hI2 hB2 hBF hBw
          go_wp2
          obtain ⟨hN2, hI2, hB2, hBF⟩ := unhide HY
          go_roundg (n - (k + 1))
          case measure => omega
          case rel => exact ⟨k + 1, js, td ++ ext, by rw [List.length_append]; omega, by go_num, by rw [← List.length_append]; exact hN2, hI2, hB2, hBF, unhide HX, Nat.le_refl _⟩
    · have hke : td.take k = td := List.take_of_length_le (by omega)
      rw [hke] at hD
      have hdone := hBF.closed (fun e h => he e (mem_MP.1 h).1) hD
      rw [hdone] at hI
      have hBw : Below w.heap.size w wr := ((Below.refl _ _).alloc (Nat.le_refl _) _).trans (hB.mono (by omega))
      have kk : ¬ (k : Int) < td.length := by omega
      have HF := hide (And.intro (row_mono hI (show w.heap.size ≤ w.heap.size + 1 by omega)) hBw)
      clear hD hBF hke hdone hI hBw hN hB H1
      go_wp2
      go_ret
      refine ⟨_, rfl, ?_, (unhide HF).2⟩
      unfold Bools
      rw [Pl.conns_length]
      exact (unhide HF).1

end Go.Proofs.YtnnnleckoinjoaaDoor
