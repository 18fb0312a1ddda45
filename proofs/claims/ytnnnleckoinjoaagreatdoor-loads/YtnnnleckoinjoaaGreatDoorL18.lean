import Derived.RegionTactic
import Derived.Test.YtnnnleckoinjoaaGreatDoorL7
import Derived.Test.YtnnnleckoinjoaaGreatDoorL8
import Derived.Test.YtnnnleckoinjoaaGreatDoorS6
import Derived.Test.YtnnnleckoinjoaaGreatDoorT5
/- Graphs that were read: given that the program's Load gives what the document asks. -/
namespace Go.Proofs.YtnnnleckoinjoaaGreatDoor
open Go.RowKit
open Pl (It)

/-- the world of a statement, with another side -/
def sideSet (cs : Array Value) (k : Nat) (a b : Value) : Array Value := (cs.setIfInBounds (k * 2) a).setIfInBounds (k * 2 + 1) b

/-- a side set in the world's block -/
theorem side_put {w w2 : World} {W xb gb : Nat} {s : St} {cs : List Value} (k : Nat) (hWl : W < w.heap.size) (hx : w.heap.size ≤ xb) (hg : w.heap.size ≤ gb) (hX : XG w2 xb s) (hY : YG w2 gb s none) (hB : Below w.heap.size w w2) (hW : RowAt w2 W 33 cs) :
    XG ((w2.setCell ⟨W, k, none⟩ (P0 xb)).setCell ⟨W, k + 1, none⟩ (P0 gb)) xb s ∧ YG ((w2.setCell ⟨W, k, none⟩ (P0 xb)).setCell ⟨W, k + 1, none⟩ (P0 gb)) gb s none ∧
    RowAt ((w2.setCell ⟨W, k, none⟩ (P0 xb)).setCell ⟨W, k + 1, none⟩ (P0 gb)) W 33 ((cs.set k (P0 xb)).set (k + 1) (P0 gb)) ∧
    Fr (fun q => q = W) w ((w2.setCell ⟨W, k, none⟩ (P0 xb)).setCell ⟨W, k + 1, none⟩ (P0 gb)) := by
  have hf : Fr (fun q => q = W) w2 ((w2.setCell ⟨W, k, none⟩ (P0 xb)).setCell ⟨W, k + 1, none⟩ (P0 gb)) := ((Fr.refl (fun q => q = W) w2).setCell (p := ⟨W, k, none⟩) (Or.inl rfl) _).setCell (p := ⟨W, k + 1, none⟩) (Or.inl rfl) _
  refine ⟨PF.fr hX hf (by omega), ?_, (hW.set _ _).set _ _, (Fr.of_below hB).trans hf⟩
  refine RG.fr hY hf ?_ (by omega) (by rintro k hk; simp at hk)
  rintro j c f hj rfl
  unfold RowAt at hW
  rw [hW] at hj; simp at hj

set_option maxRecDepth 100000 in
set_option maxHeartbeats 4000000 in
theorem loads_any (W k : Nat) (hk : k = 0 ∨ k = 1) (v0 v1 v2 v3 v4 v5 : Value) (t : List UInt8) (w : World) (ht : Tab w) (hW : w.heap[W]? = some (.cells #[v0, v1, v2, v3, v4, v5] 33 (0, 0)))
    (hP : Calls Tryz.prog 14 #[.string (bs t)] w (LoadPr t w)) :
    Calls Tryz.prog 9 #[P0 W, .int .i64 k, .string (bs t)] w fun e w' => e = .returned (.bool true) ∧
      ((∃ s xb gb, Ok s ∧ s.past = [] ∧ t = Pl.text s.n s.most s.L ∧ XG w' xb s ∧ YG w' gb s none ∧ w.heap.size ≤ xb ∧ w.heap.size ≤ gb ∧ w'.heap[W]? = some (.cells (sideSet #[v0, v1, v2, v3, v4, v5] k (P0 xb) (P0 gb)) 33 (0, 0)) ∧ Fr (fun q => q = W) w w') ∨ Below w.heap.size w w') := by
  have HP := hide hP
  have HT := hide ht
  have HW := hide hW
  have hWl := lt_of_block hW
  clear hP ht hW
  go_enter Tryz.func9, Tryz.ntmps9
  go_wp2_with fail
  refine (unhide HP).mono ?_
  rintro e w1 ⟨hB1, hcase⟩
  have HB1 := hide hB1
  have HR := hide (loadr_any t w1 ((unhide HT).later hB1))
  clear hB1 HP
  rcases hcase with ⟨s, xb, ok, hpast, hm, htx, rfl, hxb, hX1⟩ | ⟨hno, rfl⟩
  · have H1 := hide (And.intro ok (And.intro hpast (And.intro hm (And.intro htx hX1))))
    clear ok hpast hm htx hX1
    go_wp2_with fail
    refine (unhide HR).mono ?_
    rintro e w2 ⟨hB2, hcase⟩
    obtain ⟨ok, hpast, hm, htx, hX1⟩ := unhide H1
    rcases hcase with ⟨n, most, L, gb, hv, ht2, rfl, hgb, hG⟩ | ⟨hno, rfl⟩
    · obtain ⟨e1, e2, e3⟩ := text_inj (ok.gv hm).n30 (ok.gv hm).m60 ok.gl.rng ok.ends ok.wb hv.n30 hv.m60 hv.rng hv.ends hv.wb (htx.symm.trans ht2)
      subst e1
      subst e2
      have hB12 := (unhide HB1).trans (hB2.mono (unhide HB1).size)
      have hW2 := (hB12.block W hWl).trans (unhide HW)
      have hX2 : XG w2 xb s := PF.later hX1 hB2 (Nat.le_refl _)
      have hY2 : YG w2 gb s none := by unfold YG; rw [hpast, e3]; exact hG
      have hgb' : w.heap.size ≤ gb := Nat.le_trans (unhide HB1).size hgb
      obtain ⟨c0, c1, c2, c3, c4, c5, cf⟩ := six_cells hW2
      have cf0 := cf 0
      have cf1 := cf 1
      have cf2 := cf 2
      have cf3 := cf 3
      have H2 := hide (And.intro ok (And.intro (And.intro hpast htx) (And.intro hX2 (And.intro hY2 (And.intro hB12 hW2)))))
      have hWl2 := lt_of_block hW2
      clear ok hpast hm htx hX1 H1 hB2 hv ht2 hG e3 hB12 hW2 hX2 hY2 cf HR
      rcases hk with rfl | rfl
      · go_wp2
        go_ret
        obtain ⟨ok, ⟨hpast, htx⟩, hX2, hY2, hB12, hW2⟩ := unhide H2
        obtain ⟨y1, y2, y3, y4⟩ := side_put 0 hWl hxb hgb' hX2 hY2 hB12 (cs := [v0, v1, v2, v3, v4, v5]) hW2
        exact ⟨rfl, Or.inl ⟨s, xb, gb, ok, hpast, htx, y1, y2, hxb, hgb', y3, y4⟩⟩
      · go_wp2
        go_ret
        obtain ⟨ok, ⟨hpast, htx⟩, hX2, hY2, hB12, hW2⟩ := unhide H2
        obtain ⟨y1, y2, y3, y4⟩ := side_put 2 hWl hxb hgb' hX2 hY2 hB12 (cs := [v0, v1, v2, v3, v4, v5]) hW2
        exact ⟨rfl, Or.inl ⟨s, xb, gb, ok, hpast, htx, y1, y2, hxb, hgb', y3, y4⟩⟩
    · exact absurd htx (hno _ _ _ (ok.gv hm))
  · have HNO := hide hno
    clear hno
    go_wp2_with fail
    refine (unhide HR).mono ?_
    rintro e w2 ⟨hB2, hcase⟩
    rcases hcase with ⟨n, most, L, gb, hv, ht2, rfl, hgb, hG⟩ | ⟨hno, rfl⟩
    · exact absurd ht2 ((unhide HNO) _ _ _ hv)
    · have HF := hide ((unhide HB1).trans (hB2.mono (unhide HB1).size))
      clear hB2 hno HR HB1 HNO
      go_wp2
      go_ret
      exact ⟨rfl, Or.inr (unhide HF)⟩

end Go.Proofs.YtnnnleckoinjoaaGreatDoor

/- The steps of kinds 15 to 18, given what the program's Text and Load must give. -/
namespace Go.Proofs.YtnnnleckoinjoaaGreatDoor
open Go.RowKit
open Pl (It)

/-- the table stays while nothing below B changes -/
def TabB (B : Nat) (w : World) : Prop := ∀ w', Below B w w' → Tab w'
theorem TabB.later {B : Nat} {w w' : World} (h : TabB B w) (hb : Below B w w') : TabB B w' := fun w2 h2 => h w2 (hb.trans h2)
theorem TabB.tab {B : Nat} {w : World} (h : TabB B w) : Tab w := h w (Below.refl _ _)
theorem Tab.b {w : World} (h : Tab w) : TabB w.heap.size w := fun _ hb => h.later hb

/-- what the program's Text must give -/
def TextP : Prop := ∀ (s : St) (xb : Nat) (w : World), Ok s → Tab w → XG w xb s → Calls Tryz.prog 10 #[P0 xb] w fun e w' => e = .returned (.string (bs (Pl.text s.n s.most s.L))) ∧ Below w.heap.size w w'
/-- and its Load -/
def LoadP : Prop := ∀ (t : List UInt8) (w : World), t.length ≤ 4611686018427387904 → Tab w → Calls Tryz.prog 14 #[.string (bs t)] w (LoadPr t w)

theorem textP : TextP := fun s xb w h ht hx => textX s xb w h ht hx
theorem loadP : LoadP := fun t w hl ht => loadp_any t w hl ht
theorem Ok.tlen {s : St} (h : Ok s) : (Pl.text s.n s.most s.L).length ≤ 4611686018427387904 := by
  have h0 := h.n30
  have h5 := h.m60
  have h1 := itoa_two s.n (by omega) (by omega)
  have h2 := itoa_two s.most (by omega) (by omega)
  have h3 := lines_len s.L s.n h.n30 h.gl.rng h.ends h.wb
  have h4 := h.len
  unfold Pl.text
  simp only [List.length_append, List.length_cons, List.length_nil]
  omega
theorem textY (s : St) (gb : Nat) (p : Option Nat) (w : World) (hs : Ok s) (ht : Tab w) (hy : YG w gb s p) : Calls Tryz.prog 24 #[P0 gb] w fun e w' => e = .returned (.string (bs (Pl.text s.n s.most s.L))) ∧ Below w.heap.size w w' :=
  textr_any gb s.n s.most s.L s.past p w hy hs.l100 hs.n30 hs.m60 hs.ends hs.gl.rng hs.wb ht

set_option maxRecDepth 100000 in
set_option maxHeartbeats 4000000 in
theorem whole15 (hP : TextP) (xb gb : Nat) (s : St) (p : Option Nat) (hs : Ok s) (o : Bool) (a b c d : Int) (sx : ByteArray) (w : World) (ht : Tab w) (hx : XG w xb s) (hy : YG w gb s p) :
    Calls Tryz.prog 22 #[sdv xb gb, opv 15 o a b c d sx] w fun e w' => e = .returned (.bool true) ∧ Below w.heap.size w w' := by
  have hx0 := xg_boxes hx (sdo xb gb) (opo 15 o a b c d sx)
  have hB0 := boxes_below w (sdo xb gb) (opo 15 o a b c d sx)
  have hy0 := yg_later hy hB0 (Nat.le_refl _)
  have hz0 := size2 w (sdo xb gb) (opo 15 o a b c d sx)
  have hp := hP s xb _ hs (ht.later hB0) hx0
  have HR := hide (fun W (h1 : Tab W) (h2 : YG W gb s p) => textY s gb p W hs h1 h2)
  have HT := hide ht
  clear ht hs hP
  generalize bs (Pl.text s.n s.most s.L) = r at hp HR
  go_enter Tryz.func22, Tryz.ntmps22
  go_wp2_with fail
  refine hp.mono ?_
  rintro e w1 ⟨rfl, hb1⟩
  rw [hz0] at hb1
  obtain ⟨b0, b1, b2, b3, b4, b5⟩ := boxes hb1
  have hs1 : w.heap.size + 1 + 1 ≤ w1.heap.size := by have := hb1.size; rw [hz0] at this; exact this
  have hB1 := hB0.trans (hb1.mono (by omega))
  have hy1 := yg_later hy0 hb1 (by rw [hz0]; omega)
  have hr := (unhide HR) w1 ((unhide HT).later hB1) hy1
  clear hx hy hx0 hy0 hp hb1 HR HT
  go_wp2_with fail
  refine hr.mono ?_
  rintro e w2 ⟨rfl, hb2⟩
  have hB2 := hB1.trans (hb2.mono (by omega))
  clear hr hy1 hb2 hB0 hB1
  go_wp2
  go_ret
  exact ⟨ret_bool (by simp), hB2⟩

section
variable {B : Nat} {w w' : World} {W x0 g0 x1 g1 : Nat} {vl vm : Value} {ls ms : List Value} {s0 s1 : St} {p0 p1 : Option Nat}

theorem LI.put {q0 q1 q2 q3 a b c d : Value} (h : LI w W q0 q1 q2 q3 vl vm ls ms) (hf : Fr (fun q => q = W) w w') (hW : w'.heap[W]? = some (.cells #[a, b, c, d, vl, vm] 33 (0, 0))) : LI w' W a b c d vl vm ls ms := by
  have hS : ∀ k c t f, w.heap[k]? = some (.cells c t f) → t = 58 ∨ t = 3 → ¬ k = W := by
    rintro k c t f hk ht rfl
    have := h.blk
    rw [hk] at this; simp at this
    rcases ht with e | e <;> rw [e] at this <;> simp at this
  refine ⟨hW, ?_, ?_, h.apart, h.len, h.bnd, ?_, ?_⟩
  · exact row_fr h.hl hf fun k c f hk _ => hS k c _ f hk (Or.inl rfl)
  · exact row_fr h.hm hf fun k c f hk _ => hS k c _ f hk (Or.inl rfl)
  · intro i v hv
    obtain ⟨n, a1, a2⟩ := h.ml i v hv
    exact ⟨n, a1, row_fr a2 hf fun k c f hk _ => hS k c _ f hk (Or.inr rfl)⟩
  · intro i v hv
    obtain ⟨n, a1, a2⟩ := h.mm i v hv
    exact ⟨n, a1, row_fr a2 hf fun k c f hk _ => hS k c _ f hk (Or.inr rfl)⟩

theorem xg_frW {xb : Nat} {s : St} {cs : Array Value} (hW : w.heap[W]? = some (.cells cs 33 (0, 0))) (hf : Fr (fun q => q = W) w w') (hx : XG w xb s) : XG w' xb s := by
  have hX := PF.row hx
  unfold RowAt at hX
  refine PF.fr hx hf ?_
  rintro rfl; rw [hW] at hX; simp at hX
theorem yg_frW {gb : Nat} {s : St} {p : Option Nat} {cs : Array Value} (hW : w.heap[W]? = some (.cells cs 33 (0, 0))) (hf : Fr (fun q => q = W) w w') (hy : YG w gb s p) : YG w' gb s p := by
  refine RG.fr hy hf ?_ ?_ ?_
  · rintro k c f hk rfl; rw [hW] at hk; simp at hk
  · rintro rfl
    obtain ⟨vL, vP, hb, _⟩ := hy
    rw [hW] at hb; simp at hb
  · rintro k hk rfl
    obtain ⟨_, cur, hh⟩ := rg_past hy _ hk
    rw [hW] at hh; simp at hh

/-- a graph takes the place of the first side's -/
theorem TW.put0 {xb gb : Nat} {s : St} (h : TW B w W x0 g0 x1 g1 vl vm ls ms s0 s1 p0 p1) (hk : Ok s) (hx : XG w' xb s) (hy : YG w' gb s none) (hxb : w.heap.size ≤ xb) (hgb : w.heap.size ≤ gb)
    (hW : w'.heap[W]? = some (.cells #[P0 xb, P0 gb, P0 x1, P0 g1, vl, vm] 33 (0, 0))) (hf : Fr (fun q => q = W) w w') :
    TW B w' W xb gb x1 g1 vl vm ls ms s s1 none p1 ∧ Below B w w' := by
  have hB := h.hB
  have l1 := (PF.row h.a1).lt
  have l2 := yg_lt h.b1
  have lo := h.lo
  refine ⟨⟨h.li.put hf hW, hk, h.k1, hx, hy, xg_frW h.li.blk hf h.a1, yg_frW h.li.blk hf h.b1, by omega, by omega, (fun k e => by cases e), ⟨lo.1, by omega, by omega, lo.2.2.2.1, lo.2.2.2.2⟩, ?_, h.lv, Nat.le_trans h.hB hf.size⟩, hf.lowB h.hB (by rintro k rfl; exact lo.1)⟩
  rintro k (e | e)
  · cases e
  · exact h.lp k (Or.inr e)
/-- of the second side's -/
theorem TW.put1 {xb gb : Nat} {s : St} (h : TW B w W x0 g0 x1 g1 vl vm ls ms s0 s1 p0 p1) (hk : Ok s) (hx : XG w' xb s) (hy : YG w' gb s none) (hxb : w.heap.size ≤ xb) (hgb : w.heap.size ≤ gb)
    (hW : w'.heap[W]? = some (.cells #[P0 x0, P0 g0, P0 xb, P0 gb, vl, vm] 33 (0, 0))) (hf : Fr (fun q => q = W) w w') :
    TW B w' W x0 g0 xb gb vl vm ls ms s0 s p0 none ∧ Below B w w' := by
  have hB := h.hB
  have l1 := (PF.row h.a0).lt
  have l2 := yg_lt h.b0
  have lo := h.lo
  refine ⟨⟨h.li.put hf hW, h.k0, hk, xg_frW h.li.blk hf h.a0, yg_frW h.li.blk hf h.b0, hx, hy, by omega, by omega, (fun k _ e => by cases e), ⟨lo.1, lo.2.1, lo.2.2.1, by omega, by omega⟩, ?_, h.lv, Nat.le_trans h.hB hf.size⟩, hf.lowB h.hB (by rintro k rfl; exact lo.1)⟩
  rintro k (e | e)
  · exact h.lp k (Or.inl e)
  · cases e

/-- what a step leaves, whichever graphs the sides hold -/
def SPost4 (B W n : Nat) (w : World) : Ending → World → Prop := fun e w' =>
  e = .returned (.bool true) ∧ (∃ x0 g0 x1 g1 vl vm ls ms s0 s1 p0 p1, TW B w' W x0 g0 x1 g1 vl vm ls ms s0 s1 p0 p1 ∧ ls.length ≤ n) ∧ Below B w w'
theorem SPost.four {n : Nat} {e : Ending} (h : SPost B W x0 g0 x1 g1 n w e w') : SPost4 B W n w e w' := by
  obtain ⟨h1, ⟨vl, vm, ls, ms, s0, s1, p0, p1, h2, h3⟩, h4⟩ := h
  exact ⟨h1, ⟨_, _, _, _, _, _, _, _, _, _, _, _, h2, h3⟩, h4⟩

theorem at_loads (hP : LoadP) (h : TW B w W x0 g0 x1 g1 vl vm ls ms s0 s1 p0 p1) (ht : Tab w) (o : Bool) (t : List UInt8) (hlt : t.length ≤ 4611686018427387904) :
    Calls Tryz.prog 9 #[P0 W, .int .i64 ((bif o then 1 else 0 : Nat) : Int), .string (bs t)] w (SPost4 B W (ls.length + 1) w) := by
  refine (loads_any W (bif o then 1 else 0) (by cases o <;> simp) _ _ _ _ _ _ t w ht h.li.blk (hP t w hlt ht)).mono ?_
  rintro e w' ⟨rfl, ⟨s, xb, gb, q1, _, _, q2, q3, q4, q5, q6, q7⟩ | hb⟩
  · cases o
    · obtain ⟨r1, r2⟩ := h.put0 q1 q2 q3 q4 q5 q6 q7
      exact ⟨rfl, ⟨_, _, _, _, _, _, _, _, _, _, _, _, r1, by omega⟩, r2⟩
    · obtain ⟨r1, r2⟩ := h.put1 q1 q2 q3 q4 q5 q6 q7
      exact ⟨rfl, ⟨_, _, _, _, _, _, _, _, _, _, _, _, r1, by omega⟩, r2⟩
  · exact ⟨rfl, ⟨_, _, _, _, _, _, _, _, _, _, _, _, h.later hb, by omega⟩, hb.mono h.hB⟩
end
end Go.Proofs.YtnnnleckoinjoaaGreatDoor

/- A step of any kind, given what the program's Text and Load must give. -/
namespace Go.Proofs.YtnnnleckoinjoaaGreatDoor
open Go.RowKit
open Pl (It)

theorem bs_back (s : ByteArray) : bs s.data.toList = s := by
  apply ByteArray.ext
  simp [bs]

section
variable {B : Nat} {w : World} {W x0 g0 x1 g1 : Nat} {vl vm : Value} {ls ms : List Value} {s0 s1 : St} {p0 p1 : Option Nat}
theorem at_whole15 (hP : TextP) (h : TW B w W x0 g0 x1 g1 vl vm ls ms s0 s1 p0 p1) (ht : Tab w) (o : Bool) (a b c d : Int) (sx : ByteArray) :
    Calls Tryz.prog 22 #[sdv (bif o then x1 else x0) (bif o then g1 else g0), opv 15 o a b c d sx] w (SPost4 B W (ls.length + 1) w) := by
  cases o
  · refine (whole15 hP x0 g0 s0 p0 h.k0 false a b c d sx w ht h.a0 h.b0).mono ?_
    rintro e w' ⟨rfl, hb⟩
    exact ⟨rfl, ⟨_, _, _, _, _, _, _, _, _, _, _, _, h.later hb, by omega⟩, hb.mono h.hB⟩
  · refine (whole15 hP x1 g1 s1 p1 h.k1 true a b c d sx w ht h.a1 h.b1).mono ?_
    rintro e w' ⟨rfl, hb⟩
    exact ⟨rfl, ⟨_, _, _, _, _, _, _, _, _, _, _, _, h.later hb, by omega⟩, hb.mono h.hB⟩
end

set_option maxRecDepth 100000 in
set_option maxHeartbeats 4000000 in
theorem step15 (hP : TextP) (B W x0 g0 x1 g1 : Nat) (vl vm : Value) (ls ms : List Value) (s0 s1 : St) (p0 p1 : Option Nat) (o : Bool) (a b c d : Int) (sx : ByteArray) (w : World) (ht : Tab w)
    (h : TW B w W x0 g0 x1 g1 vl vm ls ms s0 s1 p0 p1) :
    Calls Tryz.prog 11 #[P0 W, opv 15 o a b c d sx] w (SPost4 B W (ls.length + 1) w) := by
  obtain ⟨c0, c1, c2, c3, _, _, _⟩ := six_cells h.li.blk
  have hWl := lt_of_block h.li.blk
  have hB := h.hB
  have hb2 := boxes_below w (opo 15 o a b c d sx) (sdo (bif o then x1 else x0) (bif o then g1 else g0))
  have h2 := h.later hb2
  have hc := at_whole15 hP h2 (ht.later hb2) o a b c d sx
  clear h h2 ht hP
  cases o
  all_goals
    go_enter Tryz.func11, Tryz.ntmps11
    go_wp2_with fail
    refine (Calls.mono (by exact hc) ?_)
    rintro e w3 ⟨rfl, hT, hb⟩
    clear hc
    go_wp2
    go_ret
    exact ⟨rfl, hT, (hb2.mono hB).trans hb⟩

set_option maxRecDepth 100000 in
set_option maxHeartbeats 4000000 in
theorem step16 (hP : LoadP) (B W x0 g0 x1 g1 : Nat) (vl vm : Value) (ls ms : List Value) (s0 s1 : St) (p0 p1 : Option Nat) (o : Bool) (a b c d : Int) (sx : ByteArray) (hsz : sx.size ≤ 4611686018427387904) (w : World) (ht : Tab w)
    (h : TW B w W x0 g0 x1 g1 vl vm ls ms s0 s1 p0 p1) :
    Calls Tryz.prog 11 #[P0 W, opv 16 o a b c d sx] w (SPost4 B W (ls.length + 1) w) := by
  obtain ⟨c0, c1, c2, c3, _, _, _⟩ := six_cells h.li.blk
  have hWl := lt_of_block h.li.blk
  have hB := h.hB
  have hb2 := boxes_below w (opo 16 o a b c d sx) (sdo (bif o then x1 else x0) (bif o then g1 else g0))
  have h2 := h.later hb2
  have hc := at_loads hP h2 (ht.later hb2) o sx.data.toList (by rw [Array.length_toList]; exact hsz)
  rw [bs_back] at hc
  clear h h2 ht hP
  cases o
  all_goals
    go_enter Tryz.func11, Tryz.ntmps11
    go_wp2_with fail
    refine (Calls.mono (by exact hc) ?_)
    rintro e w3 ⟨rfl, hT, hb⟩
    clear hc
    go_wp2
    go_ret
    exact ⟨rfl, hT, (hb2.mono hB).trans hb⟩

set_option maxRecDepth 100000 in
set_option maxHeartbeats 4000000 in
theorem step17 (hP : LoadP) (B W x0 g0 x1 g1 : Nat) (vl vm : Value) (ls ms : List Value) (s0 s1 : St) (p0 p1 : Option Nat) (o : Bool) (a b c d : Int) (sx : ByteArray) (w : World) (ht : Tab w)
    (h : TW B w W x0 g0 x1 g1 vl vm ls ms s0 s1 p0 p1) :
    Calls Tryz.prog 11 #[P0 W, opv 17 o a b c d sx] w (SPost4 B W (ls.length + 1) w) := by
  obtain ⟨c0, c1, c2, c3, _, _, _⟩ := six_cells h.li.blk
  have hWl := lt_of_block h.li.blk
  have hB := h.hB
  have hb2 := boxes_below w (opo 17 o a b c d sx) (sdo (bif o then x1 else x0) (bif o then g1 else g0))
  have h2 := h.later hb2
  have ht2 := ht.later hb2
  have hc : ∃ t : List UInt8, t.length ≤ 4611686018427387904 ∧ Calls Tryz.prog 24 #[P0 (bif o then g1 else g0)] ((w.alloc (opo 17 o a b c d sx)).alloc (sdo (bif o then x1 else x0) (bif o then g1 else g0))) fun e w' => e = .returned (.string (bs t)) ∧ Below ((w.alloc (opo 17 o a b c d sx)).alloc (sdo (bif o then x1 else x0) (bif o then g1 else g0))).heap.size ((w.alloc (opo 17 o a b c d sx)).alloc (sdo (bif o then x1 else x0) (bif o then g1 else g0))) w' := by
    cases o
    · exact ⟨_, h.k0.tlen, textY s0 g0 p0 _ h.k0 ht2 h2.b0⟩
    · exact ⟨_, h.k1.tlen, textY s1 g1 p1 _ h.k1 ht2 h2.b1⟩
  obtain ⟨t, htl, hc⟩ := hc
  have HL := hide (fun w3 hb => at_loads hP (h2.later (w' := w3) hb) (ht2.later hb) o t htl)
  clear h h2 ht ht2 hP
  cases o
  all_goals
    go_enter Tryz.func11, Tryz.ntmps11
    go_wp2_with fail
    refine (Calls.mono (by exact hc) ?_)
    rintro e w3 ⟨rfl, hb3⟩
    have hl := (unhide HL) w3 hb3
    have HB := hide ((hb2.mono hB).trans (hb3.mono (Nat.le_trans hB hb2.size)))
    clear hc HL hb2 hb3
    go_wp2_with fail
    refine (Calls.mono (by exact hl) ?_)
    rintro e w4 ⟨rfl, hT, hb⟩
    clear hl
    go_wp2
    go_ret
    exact ⟨rfl, hT, (unhide HB).trans hb⟩
end Go.Proofs.YtnnnleckoinjoaaGreatDoor

/- A step of kind 18, and a step of any kind. -/
namespace Go.Proofs.YtnnnleckoinjoaaGreatDoor
open Go.RowKit
open Pl (It)

section
variable {B : Nat} {w2 w3 : World} {W x0 g0 x1 g1 xb gb : Nat} {vl vm : Value} {ls ms : List Value} {s0 s1 s : St} {p0 p1 : Option Nat}
theorem fresh_put0 (h2 : TW B w2 W x0 g0 x1 g1 vl vm ls ms s0 s1 p0 p1) (hk : Ok s) (hxb : w2.heap.size ≤ xb) (hgb : w2.heap.size ≤ gb) (hx : XG w3 xb s) (hy : YG w3 gb s none) (hb3 : Below w2.heap.size w2 w3) (o : Obj) :
    TW B (((w3.alloc o).setCell ⟨W, 0, none⟩ (P0 xb)).setCell ⟨W, 1, none⟩ (P0 gb)).drew W xb gb x1 g1 vl vm ls ms s s1 none p1 ∧ Below B w2 (((w3.alloc o).setCell ⟨W, 0, none⟩ (P0 xb)).setCell ⟨W, 1, none⟩ (P0 gb)).drew := by
  have hWl := lt_of_block h2.li.blk
  have hV : Below w2.heap.size w2 (w3.alloc o) := hb3.alloc hb3.size o
  have ho : Below w3.heap.size w3 (w3.alloc o) := (Below.refl _ _).alloc (Nat.le_refl _) o
  obtain ⟨y1, y2, y3, y4⟩ := side_put 0 hWl hxb hgb (xg_later hx ho (Nat.le_refl _)) (yg_later hy ho (Nat.le_refl _)) hV (cs := [P0 x0, P0 g0, P0 x1, P0 g1, vl, vm]) ((hV.block W hWl).trans h2.li.blk)
  obtain ⟨r1, r2⟩ := h2.put0 hk y1 y2 hxb hgb y3 y4
  have hd := ((Fr.refl (fun _ => False) (((w3.alloc o).setCell ⟨W, 0, none⟩ (P0 xb)).setCell ⟨W, 0 + 1, none⟩ (P0 gb))).drew).below
  exact ⟨r1.later hd, r2.trans (hd.mono r1.hB)⟩
theorem fresh_put1 (h2 : TW B w2 W x0 g0 x1 g1 vl vm ls ms s0 s1 p0 p1) (hk : Ok s) (hxb : w2.heap.size ≤ xb) (hgb : w2.heap.size ≤ gb) (hx : XG w3 xb s) (hy : YG w3 gb s none) (hb3 : Below w2.heap.size w2 w3) (o : Obj) :
    TW B (((w3.alloc o).setCell ⟨W, 2, none⟩ (P0 xb)).setCell ⟨W, 3, none⟩ (P0 gb)).drew W x0 g0 xb gb vl vm ls ms s0 s p0 none ∧ Below B w2 (((w3.alloc o).setCell ⟨W, 2, none⟩ (P0 xb)).setCell ⟨W, 3, none⟩ (P0 gb)).drew := by
  have hWl := lt_of_block h2.li.blk
  have hV : Below w2.heap.size w2 (w3.alloc o) := hb3.alloc hb3.size o
  have ho : Below w3.heap.size w3 (w3.alloc o) := (Below.refl _ _).alloc (Nat.le_refl _) o
  obtain ⟨y1, y2, y3, y4⟩ := side_put 2 hWl hxb hgb (xg_later hx ho (Nat.le_refl _)) (yg_later hy ho (Nat.le_refl _)) hV (cs := [P0 x0, P0 g0, P0 x1, P0 g1, vl, vm]) ((hV.block W hWl).trans h2.li.blk)
  obtain ⟨r1, r2⟩ := h2.put1 hk y1 y2 hxb hgb y3 y4
  have hd := ((Fr.refl (fun _ => False) (((w3.alloc o).setCell ⟨W, 2, none⟩ (P0 xb)).setCell ⟨W, 2 + 1, none⟩ (P0 gb))).drew).below
  exact ⟨r1.later hd, r2.trans (hd.mono r1.hB)⟩
end

set_option maxRecDepth 100000 in
set_option maxHeartbeats 4000000 in
theorem step18 (B W x0 g0 x1 g1 : Nat) (vl vm : Value) (ls ms : List Value) (s0 s1 : St) (p0 p1 : Option Nat) (o : Bool) (a b c d : Int) (sx : ByteArray) (w : World)
    (h : TW B w W x0 g0 x1 g1 vl vm ls ms s0 s1 p0 p1) :
    Calls Tryz.prog 11 #[P0 W, opv 18 o a b c d sx] w (SPost4 B W (ls.length + 1) w) := by
  obtain ⟨c0, c1, c2, c3, _, _, _⟩ := six_cells h.li.blk
  have hWl := lt_of_block h.li.blk
  have hB := h.hB
  have hb2 := boxes_below w (opo 18 o a b c d sx) (sdo (bif o then x1 else x0) (bif o then g1 else g0))
  have h2 := h.later hb2
  have HH := hide (And.intro hb2 h2)
  have hz2 := hb2.size
  by_cases hab : 1 ≤ a ∧ a ≤ 30 ∧ 1 ≤ b ∧ b ≤ 60
  · obtain ⟨h1, h2', h3, h4⟩ := hab
    obtain ⟨v, rfl⟩ := Int.eq_ofNat_of_zero_le (show 0 ≤ a by omega)
    obtain ⟨m, rfl⟩ := Int.eq_ofNat_of_zero_le (show 0 ≤ b by omega)
    have hc := fresh_ok v m ((w.alloc (opo 18 o v m c d sx)).alloc (sdo (bif o then x1 else x0) (bif o then g1 else g0))) (by omega) (by omega) (by omega) (by omega)
    have hok := st0_ok v m (by omega) (by omega) (by omega)
    clear h h2 hb2
    cases o
    · go_enter Tryz.func11, Tryz.ntmps11
      go_wp2_with fail
      refine (Calls.mono (by exact hc) ?_)
      rintro e w3 ⟨xb, gb, rfl, hxb, hgb, hx, hy, hb3⟩
      obtain ⟨hb2, h2⟩ := unhide HH
      have hq := fresh_put0 h2 hok hxb hgb hx hy hb3 (sdo xb gb)
      have hV : Below w3.heap.size w3 (w3.alloc (sdo xb gb)) := (Below.refl _ _).alloc (Nat.le_refl _) _
      have h3' := (h2.later hb3).later hV
      obtain ⟨d0, d1, d2, d3, d4, d5, df⟩ := six_cells h3'.li.blk
      have df0 := df 0
      have df1 := df 1
      obtain ⟨q0, q1, _⟩ := two_cells (heap_alloc_new w3 (sdo xb gb))
      have hWl3 := lt_of_block h3'.li.blk
      have HQ := hide (And.intro hq.1 ((hb2.mono hB).trans hq.2))
      clear hq hx hy hb3 h3' hb2 h2 df hc HH hV hxb hgb
      go_wp2
      generalize hVV : w3.alloc (sdo xb gb) = V at *
      go_region
      go_wp2
      go_ret
      obtain ⟨r1, r2⟩ := unhide HQ
      exact ⟨rfl, ⟨_, _, _, _, _, _, _, _, _, _, _, _, r1, by omega⟩, r2⟩
    · go_enter Tryz.func11, Tryz.ntmps11
      go_wp2_with fail
      refine (Calls.mono (by exact hc) ?_)
      rintro e w3 ⟨xb, gb, rfl, hxb, hgb, hx, hy, hb3⟩
      obtain ⟨hb2, h2⟩ := unhide HH
      have hq := fresh_put1 h2 hok hxb hgb hx hy hb3 (sdo xb gb)
      have hV : Below w3.heap.size w3 (w3.alloc (sdo xb gb)) := (Below.refl _ _).alloc (Nat.le_refl _) _
      have h3' := (h2.later hb3).later hV
      obtain ⟨d0, d1, d2, d3, d4, d5, df⟩ := six_cells h3'.li.blk
      have df0 := df 2
      have df1 := df 3
      obtain ⟨q0, q1, _⟩ := two_cells (heap_alloc_new w3 (sdo xb gb))
      have hWl3 := lt_of_block h3'.li.blk
      have HQ := hide (And.intro hq.1 ((hb2.mono hB).trans hq.2))
      clear hq hx hy hb3 h3' hb2 h2 df hc HH hV hxb hgb
      go_wp2
      generalize hVV : w3.alloc (sdo xb gb) = V at *
      go_region
      go_wp2
      go_ret
      obtain ⟨r1, r2⟩ := unhide HQ
      exact ⟨rfl, ⟨_, _, _, _, _, _, _, _, _, _, _, _, r1, by omega⟩, r2⟩
  · have hc := fresh_no a b ((w.alloc (opo 18 o a b c d sx)).alloc (sdo (bif o then x1 else x0) (bif o then g1 else g0))) hab
    clear h h2 hb2
    cases o
    all_goals
      go_enter Tryz.func11, Tryz.ntmps11
      go_wp2_with fail
      refine (Calls.mono (by exact hc) ?_)
      rintro e w3 ⟨rfl, hb3⟩
      obtain ⟨hb2, h2⟩ := unhide HH
      have HH3 := hide (And.intro (h2.later hb3) ((hb2.mono hB).trans (hb3.mono (Nat.le_trans hB hb2.size))))
      clear hb3 hb2 h2 hc
      go_wp2
      go_ret
      obtain ⟨q1, q2⟩ := unhide HH3
      have ho : Below w3.heap.size w3 (w3.alloc (.cells #[.pointer none, .pointer none] 29)) := (Below.refl _ _).alloc (Nat.le_refl _) _
      exact ⟨rfl, ⟨_, _, _, _, _, _, _, _, _, _, _, _, q1.later ho, by omega⟩, q2.trans (ho.mono q1.hB)⟩

theorem step4 (hT : TextP) (hL : LoadP) (B W x0 g0 x1 g1 : Nat) (vl vm : Value) (ls ms : List Value) (s0 s1 : St) (p0 p1 : Option Nat) (k : Int) (hk : k ≤ 18) (o : Bool) (a b c d : Int) (hd0 : -9223372036854775808 ≤ d) (hd1 : d ≤ 9223372036854775807) (sx : ByteArray) (hsz : sx.size ≤ 4611686018427387904) (w : World) (ht : Tab w)
    (h : TW B w W x0 g0 x1 g1 vl vm ls ms s0 s1 p0 p1) (hcnt : ls.length < 1100000) :
    Calls Tryz.prog 11 #[P0 W, opv k o a b c d sx] w (SPost4 B W (ls.length + 1) w) := by
  have hkk : k ≤ 14 ∨ k = 15 ∨ k = 16 ∨ k = 17 ∨ k = 18 := by omega
  rcases hkk with hk | rfl | rfl | rfl | rfl
  · exact (step_any B W x0 g0 x1 g1 vl vm ls ms s0 s1 p0 p1 k hk o a b c d hd0 hd1 sx w h hcnt).mono fun e w' q => q.four
  · exact step15 hT B W x0 g0 x1 g1 vl vm ls ms s0 s1 p0 p1 o a b c d sx w ht h
  · exact step16 hL B W x0 g0 x1 g1 vl vm ls ms s0 s1 p0 p1 o a b c d sx hsz w ht h
  · exact step17 hL B W x0 g0 x1 g1 vl vm ls ms s0 s1 p0 p1 o a b c d sx w ht h
  · exact step18 B W x0 g0 x1 g1 vl vm ls ms s0 s1 p0 p1 o a b c d sx w h
end Go.Proofs.YtnnnleckoinjoaaGreatDoor

/- A world of which only the first side holds graphs: the steps that Loads takes. -/
namespace Go.Proofs.YtnnnleckoinjoaaGreatDoor
open Go.RowKit
open Pl (It)

/-- the statement's world with one side -/
structure OW (B : Nat) (w : World) (W x0 g0 : Nat) (vl vm : Value) (ls ms : List Value) (s0 : St) (p0 : Option Nat) : Prop where
  li : LI w W (P0 x0) (P0 g0) (.pointer none) (.pointer none) vl vm ls ms
  k0 : Ok s0
  a0 : XG w x0 s0
  b0 : YG w g0 s0 p0
  lo : B ≤ W ∧ B ≤ x0 ∧ B ≤ g0
  lp : ∀ k, p0 = some k → B ≤ k
  lv : ∀ k, vl.ownBlock = some k ∨ vm.ownBlock = some k → B ≤ k
  hB : B ≤ w.heap.size

section
variable {B : Nat} {w w' : World} {W x0 g0 : Nat} {vl vm vl' vm' : Value} {ls ms ls' ms' : List Value} {s0 s' : St} {p0 p' : Option Nat}

theorem OW.later (h : OW B w W x0 g0 vl vm ls ms s0 p0) (hb : Below w.heap.size w w') : OW B w' W x0 g0 vl vm ls ms s0 p0 :=
  ⟨h.li.later hb, h.k0, xg_later h.a0 hb (Nat.le_refl _), yg_later h.b0 hb (Nat.le_refl _), h.lo, h.lp, h.lv, Nat.le_trans h.hB hb.size⟩

theorem OW.told (h : OW B w W x0 g0 vl vm ls ms s0 p0) (hl : LI w' W (P0 x0) (P0 g0) (.pointer none) (.pointer none) vl' vm' ls' ms') (hf : Fr (fun k => k = W ∨ vl.ownBlock = some k ∨ vm.ownBlock = some k) w w')
    (h1 : ∀ k, vl'.ownBlock = some k → vl.ownBlock = some k ∨ w.heap.size ≤ k) (h2 : ∀ k, vm'.ownBlock = some k → vm.ownBlock = some k ∨ w.heap.size ≤ k) :
    OW B w' W x0 g0 vl' vm' ls' ms' s0 p0 ∧ Below B w w' := by
  have hB := h.hB
  have ty : ∀ {k c t f}, w.heap[k]? = some (.cells c t f) → (k = W ∨ vl.ownBlock = some k ∨ vm.ownBlock = some k) → t = 33 ∨ t = 58 := by
    intro k c t f hk e
    rcases e with rfl | e | e
    · have := h.li.blk; rw [hk] at this; simp at this; exact Or.inl this.2.1
    · obtain ⟨cur, hh⟩ := own_ty h.li.hl k e; rw [hk] at hh; simp at hh; exact Or.inr hh.2.1
    · obtain ⟨cur, hh⟩ := own_ty h.li.hm k e; rw [hk] at hh; simp at hh; exact Or.inr hh.2.1
  refine ⟨⟨hl, h.k0, ?_, ?_, h.lo, h.lp, ?_, Nat.le_trans h.hB hf.size⟩, hf.lowB h.hB ?_⟩
  · have hX := PF.row h.a0
    unfold RowAt at hX
    refine PF.fr h.a0 hf fun e => ?_
    rcases ty hX e with e | e <;> cases e
  · have hy := h.b0
    refine RG.fr hy hf ?_ ?_ ?_
    · intro k c f hk e
      rcases ty hk e with e | e <;> cases e
    · intro e
      obtain ⟨vL, vP, hb, _⟩ := hy
      rcases ty hb e with e | e <;> cases e
    · intro k hk e
      obtain ⟨_, cur, hh⟩ := rg_past hy _ hk
      rcases ty hh e with e | e <;> cases e
  · rintro k (e | e)
    · rcases h1 k e with e | e
      · exact h.lv k (Or.inl e)
      · omega
    · rcases h2 k e with e | e
      · exact h.lv k (Or.inr e)
      · omega
  · rintro k (rfl | e | e)
    · exact h.lo.1
    · exact h.lv k (Or.inl e)
    · exact h.lv k (Or.inr e)

theorem OW.side0 (h : OW B w W x0 g0 vl vm ls ms s0 p0) (hk : Ok s') (hx : XG w' x0 s') (hy : YG w' g0 s' p') (hp : p' = p0 ∨ ∃ k, p' = some k ∧ w.heap.size ≤ k) (hf : Fr (fun k => k = x0 ∨ k = g0 ∨ p0 = some k) w w') :
    OW B w' W x0 g0 vl vm ls ms s' p' ∧ Below B w w' := by
  have hB := h.hB
  refine ⟨⟨h.li.fr hf ?_, hk, hx, hy, h.lo, ?_, h.lv, Nat.le_trans h.hB hf.size⟩, hf.lowB h.hB ?_⟩
  · intro k c t f hk ht e
    rcases side_ty h.a0 h.b0 hk e with e | e | e <;> subst e <;> simp at ht
  · intro k e1
    rcases hp with e | ⟨k', e, hk'⟩
    · exact h.lp k (e ▸ e1)
    · rw [e] at e1; cases e1; omega
  · rintro k (rfl | rfl | e)
    · exact h.lo.2.1
    · exact h.lo.2.2
    · exact h.lp k e
end

/-- what such a step leaves -/
def OPost (B W x0 g0 n : Nat) (w : World) : Ending → World → Prop := fun e w' =>
  e = .returned (.bool true) ∧ (∃ vl vm ls ms s0 p0, OW B w' W x0 g0 vl vm ls ms s0 p0 ∧ ls.length ≤ n) ∧ Below B w w'

set_option maxRecDepth 100000 in
set_option maxHeartbeats 4000000 in
theorem ostep_told (B W x0 g0 : Nat) (vl vm : Value) (ls ms : List Value) (s0 : St) (p0 : Option Nat) (k : Int) (hk : k = 3 ∨ k = 5) (a b c d : Int) (sx : ByteArray) (w : World)
    (h : OW B w W x0 g0 vl vm ls ms s0 p0) (hcnt : ls.length < 1100000) :
    Calls Tryz.prog 11 #[P0 W, opv k false a b c d sx] w (OPost B W x0 g0 (ls.length + 1) w) := by
  obtain ⟨c0, c1, c2, c3, _, _, _⟩ := six_cells h.li.blk
  have hWl := lt_of_block h.li.blk
  have hB := h.hB
  have hb2 := boxes_below w (opo k false a b c d sx) (sdo x0 g0)
  have h2 := h.later hb2
  have hc : Calls Tryz.prog 21 #[P0 W, sdv x0 g0, opv k false a b c d sx] ((w.alloc (opo k false a b c d sx)).alloc (sdo x0 g0)) (OPost B W x0 g0 (ls.length + 1) ((w.alloc (opo k false a b c d sx)).alloc (sdo x0 g0))) := by
    refine (told_any W (P0 x0) (P0 g0) _ _ vl vm ls ms x0 g0 s0 p0 h.k0 k hk false a b c d sx _ h2.a0 h2.b0 h2.li hcnt).mono ?_
    rintro e w' ⟨rfl, vl', vm', ls', ms', q1, q2, q3, q4, q5⟩
    obtain ⟨r1, r2⟩ := h2.told q1 q3 q4 q5
    exact ⟨rfl, ⟨_, _, _, _, _, _, r1, by omega⟩, r2⟩
  clear h h2
  rcases hk with rfl | rfl
  all_goals
    go_enter Tryz.func11, Tryz.ntmps11
    go_wp2_with fail
    refine (Calls.mono (by exact hc) ?_)
    rintro e w3 ⟨rfl, hT, hb⟩
    clear hc
    go_wp2
    go_ret
    exact ⟨rfl, hT, (hb2.mono hB).trans hb⟩

set_option maxRecDepth 100000 in
set_option maxHeartbeats 4000000 in
theorem ostep_whole (B W x0 g0 : Nat) (vl vm : Value) (ls ms : List Value) (s0 : St) (p0 : Option Nat) (a b c d : Int) (sx : ByteArray) (w : World)
    (h : OW B w W x0 g0 vl vm ls ms s0 p0) :
    Calls Tryz.prog 11 #[P0 W, opv 7 false a b c d sx] w (OPost B W x0 g0 (ls.length + 1) w) := by
  obtain ⟨c0, c1, c2, c3, _, _, _⟩ := six_cells h.li.blk
  have hWl := lt_of_block h.li.blk
  have hB := h.hB
  have hb2 := boxes_below w (opo 7 false a b c d sx) (sdo x0 g0)
  have h2 := h.later hb2
  have hc : Calls Tryz.prog 22 #[sdv x0 g0, opv 7 false a b c d sx] ((w.alloc (opo 7 false a b c d sx)).alloc (sdo x0 g0)) (OPost B W x0 g0 (ls.length + 1) ((w.alloc (opo 7 false a b c d sx)).alloc (sdo x0 g0))) := by
    refine (whole14 x0 g0 s0 p0 h.k0 7 (Or.inl rfl) false a b c d sx _ h2.a0 h2.b0).mono ?_
    rintro e w' ⟨rfl, hb⟩
    exact ⟨rfl, ⟨_, _, _, _, _, _, h2.later hb, by omega⟩, hb.mono h2.hB⟩
  clear h h2
  go_enter Tryz.func11, Tryz.ntmps11
  go_wp2_with fail
  refine (Calls.mono (by exact hc) ?_)
  rintro e w3 ⟨rfl, hT, hb⟩
  clear hc
  go_wp2
  go_ret
  exact ⟨rfl, hT, (hb2.mono hB).trans hb⟩

set_option maxRecDepth 100000 in
set_option maxHeartbeats 4000000 in
theorem ostep_undo (B W x0 g0 : Nat) (vl vm : Value) (ls ms : List Value) (s0 : St) (p0 : Option Nat) (a b c d : Int) (sx : ByteArray) (w : World)
    (h : OW B w W x0 g0 vl vm ls ms s0 p0) :
    Calls Tryz.prog 11 #[P0 W, opv 10 false a b c d sx] w (OPost B W x0 g0 (ls.length + 1) w) := by
  obtain ⟨c0, c1, c2, c3, _, _, _⟩ := six_cells h.li.blk
  have hWl := lt_of_block h.li.blk
  have hB := h.hB
  have hb2 := boxes_below w (opo 10 false a b c d sx) (sdo x0 g0)
  have h2 := h.later hb2
  have hc : Calls Tryz.prog 19 #[sdv x0 g0, opv 10 false a b c d sx] ((w.alloc (opo 10 false a b c d sx)).alloc (sdo x0 g0)) (OPost B W x0 g0 (ls.length + 1) ((w.alloc (opo 10 false a b c d sx)).alloc (sdo x0 g0))) := by
    refine (changes_undo x0 g0 s0 p0 h.k0 false a b c d sx _ h2.a0 h2.b0).mono ?_
    rintro e w' ⟨rfl, s', p', q1, q2, q3, q4, q5⟩
    obtain ⟨r1, r2⟩ := h2.side0 q1 q2 q3 q4 q5
    exact ⟨rfl, ⟨_, _, _, _, _, _, r1, by omega⟩, r2⟩
  clear h h2
  go_enter Tryz.func11, Tryz.ntmps11
  go_wp2_with fail
  refine (Calls.mono (by exact hc) ?_)
  rintro e w3 ⟨rfl, hT, hb⟩
  clear hc
  go_wp2
  go_ret
  exact ⟨rfl, hT, (hb2.mono hB).trans hb⟩
end Go.Proofs.YtnnnleckoinjoaaGreatDoor

/- The statement's function Loads. -/
namespace Go.Proofs.YtnnnleckoinjoaaGreatDoor
open Go.RowKit
open Pl (It)

set_option maxRecDepth 100000 in
set_option maxHeartbeats 8000000 in
theorem loadsLaw_bs (t : List UInt8) (hlt : t.length ≤ 4611686018427387904) (w : World) (ht : Tab w) :
    Calls Tryz.prog 7 #[.string (bs t)] w fun e w' => e = .returned (.bool true) ∧ Below w.heap.size w w' := by
  have hbel : Below w.heap.size w (w.alloc (.cells #[.pointer none, .pointer none, .pointer none, .pointer none, .slice none 0 0, .slice none 0 0] 33)) := (Below.refl _ _).alloc (Nat.le_refl _) _
  have hW := heap_alloc_new w (.cells #[.pointer none, .pointer none, .pointer none, .pointer none, .slice none 0 0, .slice none 0 0] 33)
  have ht1 := ht.later hbel
  have HL := hide (loads_any w.heap.size 0 (Or.inl rfl) (.pointer none) (.pointer none) (.pointer none) (.pointer none) (.slice none 0 0) (.slice none 0 0) t _ ht1 hW (loadp_any t _ hlt ht1))
  have hsz : (w.alloc (.cells #[.pointer none, .pointer none, .pointer none, .pointer none, .slice none 0 0, .slice none 0 0] 33)).heap.size = w.heap.size + 1 := World.size_alloc _ _
  have H0 := hide (And.intro hbel (And.intro hW ht))
  clear hbel hW ht1 ht
  go_enter Tryz.func7, Tryz.ntmps7
  go_wp2_with fail
  generalize (w.alloc (.cells #[.pointer none, .pointer none, .pointer none, .pointer none, .slice none 0 0, .slice none 0 0] 33)) = W0 at *
  refine Calls.mono (by exact unhide HL) ?_
  rintro e w1 ⟨rfl, hcase⟩
  obtain ⟨hbel, hW, ht⟩ := unhide H0
  rcases hcase with ⟨s, xb, gb, ok, hpast, htx, hX, hY, hxb, hgb, hblk, hf⟩ | hb1
  · have hblk' : w1.heap[w.heap.size]? = some (.cells #[P0 xb, P0 gb, .pointer none, .pointer none, .slice none 0 0, .slice none 0 0] 33 (0, 0)) := hblk
    have hz1 := hf.size
    have hB1 : Below w.heap.size w w1 := hbel.trans (hf.lowB (by omega) (fun k hk => by omega))
    have hO : OW w.heap.size w1 w.heap.size xb gb (.slice none 0 0) (.slice none 0 0) [] [] s none :=
      ⟨⟨hblk', World.ownsRow_nil _ _ _ _, World.ownsRow_nil _ _ _ _, (fun k e => by cases e), rfl, Nat.zero_le _, (fun i v h => by cases h), (fun i v h => by cases h)⟩, ok, hX, hY, ⟨Nat.le_refl _, by omega, by omega⟩, (fun k e => by cases e), (fun k e => by rcases e with e | e <;> cases e), by omega⟩
    obtain ⟨c0, c1, _, _, _, _, _⟩ := six_cells hblk'
    have hWl := lt_of_block hblk'
    have hbs : Below w1.heap.size w1 (w1.alloc (sdo xb gb)) := (Below.refl _ _).alloc (Nat.le_refl _) _
    have hO2 := hO.later hbs
    have hB2 := hB1.trans (hbs.mono hB1.size)
    have HX := hide (textX s xb (w1.alloc (sdo xb gb)) ok (ht.later hB2) (PF.alloc hX _))
    rw [← htx] at HX
    have H2 := hide (And.intro hO2 hB2)
    clear hbel hW ht ok hpast htx hX hY hblk hf hblk' hB1 hO hbs hO2 hB2 HL H0
    go_wp2_with fail
    refine Calls.mono (by exact unhide HX) ?_
    rintro e w2 ⟨rfl, hb2⟩
    have hO3 := (unhide H2).1.later hb2
    have hB3 := (unhide H2).2.trans (hb2.mono (unhide H2).2.size)
    have HS := hide (ostep_told w.heap.size w.heap.size xb gb _ _ _ _ s none 5 (Or.inr rfl) 0 0 0 0 ⟨#[]⟩ w2 hO3 (by simp))
    have HB3 := hide hB3
    clear hb2 hO3 hB3 HX H2 c0 c1
    go_wp2_with fail
    refine Calls.mono (by exact unhide HS) ?_
    rintro e w3 ⟨rfl, ⟨vl, vm, ls, ms, s1, p1, hO, hls⟩, hb3⟩
    have HB4 := hide ((unhide HB3).trans hb3)
    simp only [List.length_nil] at hls
    have HS2 := hide (ostep_told w.heap.size w.heap.size xb gb _ _ _ _ s1 p1 3 (Or.inl rfl) 0 0 0 0 ⟨#[]⟩ w3 hO (by omega))
    clear hO hb3 HS HB3
    go_wp2_with fail
    refine Calls.mono (by exact unhide HS2) ?_
    rintro e w4 ⟨rfl, ⟨vl2, vm2, ls2, ms2, s2, p2, hO, hls2⟩, hb4⟩
    have HB5 := hide ((unhide HB4).trans hb4)
    have HS3 := hide (ostep_whole w.heap.size w.heap.size xb gb _ _ _ _ s2 p2 0 0 0 0 ⟨#[]⟩ w4 hO)
    clear hO hb4 HS2 HB4
    go_wp2_with fail
    refine Calls.mono (by exact unhide HS3) ?_
    rintro e w5 ⟨rfl, ⟨vl3, vm3, ls3, ms3, s3, p3, hO, hls3⟩, hb5⟩
    have HB6 := hide ((unhide HB5).trans hb5)
    have HS4 := hide (ostep_undo w.heap.size w.heap.size xb gb _ _ _ _ s3 p3 0 0 0 0 ⟨#[]⟩ w5 hO)
    clear hO hb5 HS3 HB5
    go_wp2_with fail
    refine Calls.mono (by exact unhide HS4) ?_
    rintro e w6 ⟨rfl, _, hb6⟩
    have HB7 := hide ((unhide HB6).trans hb6)
    clear hb6 HS4 HB6
    go_wp2
    go_ret
    exact ⟨ret_bool (by simp), unhide HB7⟩
  · have hblk := (hb1.block w.heap.size (by omega)).trans hW
    obtain ⟨c0, c1, _, _, _, _, _⟩ := six_cells hblk
    have hWl := lt_of_block hblk
    have HB := hide (hbel.trans (hb1.mono (by omega)))
    clear hbel hW ht hb1 hblk HL H0
    go_wp2
    go_ret
    exact ⟨rfl, unhide HB⟩
theorem loadsLaw_any (t : ByteArray) (hlt : t.size ≤ 4611686018427387904) (w : World) (ht : Tab w) :
    Calls Tryz.prog 7 #[.string t] w fun e w' => e = .returned (.bool true) ∧ Below w.heap.size w w' := by
  have e : t = bs t.data.toList := by cases t; simp [bs]
  rw [e]
  exact loadsLaw_bs _ (by rw [← bs_size, ← e]; exact hlt) w ht

end Go.Proofs.YtnnnleckoinjoaaGreatDoor
