import Derived.RegionTactic
import Derived.Test.YtnnnleckoinjoaaGreatDoorL7
import Derived.Test.YtnnnleckoinjoaaGreatDoorL8
import Derived.Test.YtnnnleckoinjoaaGreatDoorL9
import Derived.Test.YtnnnleckoinjoaaGreatDoorS6
import Derived.Test.YtnnnleckoinjoaaGreatDoorT5
/- Graphs that were read: given that the program's Load gives what the document asks. -/
namespace Go.Proofs.YtnnnleckoinjoaaGreatDoor
open Go.RowKit
open Pl (It)

/-- the world of a statement, with another side -/
def sideSet (cs : Array Value) (k : Nat) (a b : Value) : Array Value := (cs.setIfInBounds (k * 2) a).setIfInBounds (k * 2 + 1) b

/-- a side set in the world's block -/
theorem side_put {w w2 : World} {W xb gb : Nat} {s : St} {cs : List Value} (k : Nat) (hWl : W < w.heap.size) (hx : w.heap.size ≤ xb) (hg : w.heap.size ≤ gb) (hX : XG w2 xb s) (hY : YG w2 gb s none) (hB : Below w.heap.size w w2) (hW : RowAt w2 W 33 cs) :
    XG ((w2.setCell ⟨W, k, none⟩ (P0 xb)).setCell ⟨W, k + 1, none⟩ (P0 gb)) xb s ∧ YG ((w2.setCell ⟨W, k, none⟩ (P0 xb)).setCell ⟨W, k + 1, none⟩ (P0 gb)) gb s none ∧
    RowAt ((w2.setCell ⟨W, k, none⟩ (P0 xb)).setCell ⟨W, k + 1, none⟩ (P0 gb)) W 33 ((cs.set k (P0 xb)).set (k + 1) (P0 gb)) ∧
    Fr (fun q => q = W) w ((w2.setCell ⟨W, k, none⟩ (P0 xb)).setCell ⟨W, k + 1, none⟩ (P0 gb)) := by
  have hf : Fr (fun q => q = W) w2 ((w2.setCell ⟨W, k, none⟩ (P0 xb)).setCell ⟨W, k + 1, none⟩ (P0 gb)) := ((Fr.refl (fun q => q = W) w2).setCell (p := ⟨W, k, none⟩) (Or.inl rfl) _).setCell (p := ⟨W, k + 1, none⟩) (Or.inl rfl) _
  refine ⟨PF.fr hX hf (by omega), ?_, (hW.set _ _).set _ _, (Fr.of_below hB).trans hf⟩
  refine RG.fr hY hf ?_ (by omega) (by rintro k hk; simp at hk)
  rintro j c f hj rfl
  unfold RowAt at hW
  rw [hW] at hj; simp at hj

set_option maxRecDepth 100000 in
set_option maxHeartbeats 4000000 in
theorem loads_any (W k : Nat) (hk : k = 0 ∨ k = 1) (v0 v1 v2 v3 v4 v5 : Value) (t : List UInt8) (w : World) (ht : Tab w) (hW : w.heap[W]? = some (.cells #[v0, v1, v2, v3, v4, v5] 33 (0, 0)))
    (hP : Calls Tryz.prog 14 #[.string (bs t)] w (LoadPr t w)) :
    Calls Tryz.prog 9 #[P0 W, .int .i64 k, .string (bs t)] w fun e w' => e = .returned (.bool true) ∧
      ((∃ s xb gb, Ok s ∧ s.past = [] ∧ t = Pl.text s.n s.most s.L ∧ XG w' xb s ∧ YG w' gb s none ∧ w.heap.size ≤ xb ∧ w.heap.size ≤ gb ∧ w'.heap[W]? = some (.cells (sideSet #[v0, v1, v2, v3, v4, v5] k (P0 xb) (P0 gb)) 33 (0, 0)) ∧ Fr (fun q => q = W) w w') ∨ Below w.heap.size w w') := by
  have HP := hide hP
  have HT := hide ht
  have HW := hide hW
  have hWl := lt_of_block hW
  clear hP ht hW
  go_enter Tryz.func9, Tryz.ntmps9
  go_wp2_with fail
  refine (unhide HP).mono ?_
  rintro e w1 ⟨hB1, hcase⟩
  have HB1 := hide hB1
  have HR := hide (loadr_any t w1 ((unhide HT).later hB1))
  clear hB1 HP
  rcases hcase with ⟨s, xb, ok, hpast, hm, htx, rfl, hxb, hX1⟩ | ⟨hno, rfl⟩
  · have H1 := hide (And.intro ok (And.intro hpast (And.intro hm (And.intro htx hX1))))
    clear ok hpast hm htx hX1
    go_wp2_with fail
    refine (unhide HR).mono ?_
    rintro e w2 ⟨hB2, hcase⟩
    obtain ⟨ok, hpast, hm, htx, hX1⟩ := unhide H1
    rcases hcase with ⟨n, most, L, gb, hv, ht2, rfl, hgb, hG⟩ | ⟨hno, rfl⟩
    · obtain ⟨e1, e2, e3⟩ := text_inj (ok.gv hm).n30 (ok.gv hm).m60 ok.gl.rng ok.ends ok.wb hv.n30 hv.m60 hv.rng hv.ends hv.wb (htx.symm.trans ht2)
      subst e1
      subst e2
      have hB12 := (unhide HB1).trans (hB2.mono (unhide HB1).size)
      have hW2 := (hB12.block W hWl).trans (unhide HW)
      have hX2 : XG w2 xb s := PF.later hX1 hB2 (Nat.le_refl _)
      have hY2 : YG w2 gb s none := by unfold YG; rw [hpast, e3]; exact hG
      have hgb' : w.heap.size ≤ gb := Nat.le_trans (unhide HB1).size hgb
      obtain ⟨c0, c1, c2, c3, c4, c5, cf⟩ := six_cells hW2
      have cf0 := cf 0
      have cf1 := cf 1
      have cf2 := cf 2
      have cf3 := cf 3
      have H2 := hide (And.intro ok (And.intro (And.intro hpast htx) (And.intro hX2 (And.intro hY2 (And.intro hB12 hW2)))))
      have hWl2 := lt_of_block hW2
      clear ok hpast hm htx hX1 H1 hB2 hv ht2 hG e3 hB12 hW2 hX2 hY2 cf HR
      rcases hk with rfl | rfl
      · go_wp2
        go_ret
        obtain ⟨ok, ⟨hpast, htx⟩, hX2, hY2, hB12, hW2⟩ := unhide H2
        obtain ⟨y1, y2, y3, y4⟩ := side_put 0 hWl hxb hgb' hX2 hY2 hB12 (cs := [v0, v1, v2, v3, v4, v5]) hW2
        exact ⟨rfl, Or.inl ⟨s, xb, gb, ok, hpast, htx, y1, y2, hxb, hgb', y3, y4⟩⟩
      · go_wp2
        go_ret
        obtain ⟨ok, ⟨hpast, htx⟩, hX2, hY2, hB12, hW2⟩ := unhide H2
        obtain ⟨y1, y2, y3, y4⟩ := side_put 2 hWl hxb hgb' hX2 hY2 hB12 (cs := [v0, v1, v2, v3, v4, v5]) hW2
        exact ⟨rfl, Or.inl ⟨s, xb, gb, ok, hpast, htx, y1, y2, hxb, hgb', y3, y4⟩⟩
    · exact absurd htx (hno _ _ _ (ok.gv hm))
  · have HNO := hide hno
    clear hno
    go_wp2_with fail
    refine (unhide HR).mono ?_
    rintro e w2 ⟨hB2, hcase⟩
    rcases hcase with ⟨n, most, L, gb, hv, ht2, rfl, hgb, hG⟩ | ⟨hno, rfl⟩
    · exact absurd ht2 ((unhide HNO) _ _ _ hv)
    · have HF := hide ((unhide HB1).trans (hB2.mono (unhide HB1).size))
      clear hB2 hno HR HB1 HNO
      go_wp2
      go_ret
      exact ⟨rfl, Or.inr (unhide HF)⟩

end Go.Proofs.YtnnnleckoinjoaaGreatDoor

/- The steps of kinds 15 to 18, given what the program's Text and Load must give. -/
namespace Go.Proofs.YtnnnleckoinjoaaGreatDoor
open Go.RowKit
open Pl (It)

/-- the table stays while nothing below B changes -/
def TabB (B : Nat) (w : World) : Prop := ∀ w', Below B w w' → Tab w'
theorem TabB.later {B : Nat} {w w' : World} (h : TabB B w) (hb : Below B w w') : TabB B w' := fun w2 h2 => h w2 (hb.trans h2)
theorem TabB.tab {B : Nat} {w : World} (h : TabB B w) : Tab w := h w (Below.refl _ _)
theorem Tab.b {w : World} (h : Tab w) : TabB w.heap.size w := fun _ hb => h.later hb

/-- what the program's Text must give -/
def TextP : Prop := ∀ (s : St) (xb : Nat) (w : World), Ok s → Tab w → XG w xb s → Calls Tryz.prog 10 #[P0 xb] w fun e w' => e = .returned (.string (bs (Pl.text s.n s.most s.L))) ∧ Below w.heap.size w w'
/-- and its Load -/
def LoadP : Prop := ∀ (t : List UInt8) (w : World), t.length ≤ 4611686018427387904 → Tab w → Calls Tryz.prog 14 #[.string (bs t)] w (LoadPr t w)

theorem textP : TextP := fun s xb w h ht hx => textX s xb w h ht hx
theorem loadP : LoadP := fun t w hl ht => loadp_any t w hl ht
theorem Ok.tlen {s : St} (h : Ok s) : (Pl.text s.n s.most s.L).length ≤ 4611686018427387904 := by
  have h0 := h.n30
  have h5 := h.m60
  have h1 := itoa_two s.n (by omega) (by omega)
  have h2 := itoa_two s.most (by omega) (by omega)
  have h3 := lines_len s.L s.n h.n30 h.gl.rng h.ends h.wb
  have h4 := h.len
  unfold Pl.text
  simp only [List.length_append, List.length_cons, List.length_nil]
  omega
theorem textY (s : St) (gb : Nat) (p : Option Nat) (w : World) (hs : Ok s) (ht : Tab w) (hy : YG w gb s p) : Calls Tryz.prog 24 #[P0 gb] w fun e w' => e = .returned (.string (bs (Pl.text s.n s.most s.L))) ∧ Below w.heap.size w w' :=
  textr_any gb s.n s.most s.L s.past p w hy hs.l100 hs.n30 hs.m60 hs.ends hs.gl.rng hs.wb ht

set_option maxRecDepth 100000 in
set_option maxHeartbeats 4000000 in
theorem whole15 (hP : TextP) (xb gb : Nat) (s : St) (p : Option Nat) (hs : Ok s) (o : Bool) (a b c d : Int) (sx : ByteArray) (w : World) (ht : Tab w) (hx : XG w xb s) (hy : YG w gb s p) :
    Calls Tryz.prog 22 #[sdv xb gb, opv 15 o a b c d sx] w fun e w' => e = .returned (.bool true) ∧ Below w.heap.size w w' := by
  have hx0 := xg_boxes hx (sdo xb gb) (opo 15 o a b c d sx)
  have hB0 := boxes_below w (sdo xb gb) (opo 15 o a b c d sx)
  have hy0 := yg_later hy hB0 (Nat.le_refl _)
  have hz0 := size2 w (sdo xb gb) (opo 15 o a b c d sx)
  have hp := hP s xb _ hs (ht.later hB0) hx0
  have HR := hide (fun W (h1 : Tab W) (h2 : YG W gb s p) => textY s gb p W hs h1 h2)
  have HT := hide ht
  clear ht hs hP
  generalize bs (Pl.text s.n s.most s.L) = r at hp HR
  go_enter Tryz.func22, Tryz.ntmps22
  go_wp2_with fail
  refine hp.mono ?_
  rintro e w1 ⟨rfl, hb1⟩
  rw [hz0] at hb1
  obtain ⟨b0, b1, b2, b3, b4, b5⟩ := boxes hb1
  have hs1 : w.heap.size + 1 + 1 ≤ w1.heap.size := by have := hb1.size; rw [hz0] at this; exact this
  have hB1 := hB0.trans (hb1.mono (by omega))
  have hy1 := yg_later hy0 hb1 (by rw [hz0]; omega)
  have hr := (unhide HR) w1 ((unhide HT).later hB1) hy1
  clear hx hy hx0 hy0 hp hb1 HR HT
  go_wp2_with fail
  refine hr.mono ?_
  rintro e w2 ⟨rfl, hb2⟩
  have hB2 := hB1.trans (hb2.mono (by omega))
  clear hr hy1 hb2 hB0 hB1
  go_wp2
  go_ret
  exact ⟨ret_bool (by simp), hB2⟩

section
variable {B : Nat} {w w' : World} {W x0 g0 x1 g1 : Nat} {vl vm : Value} {ls ms : List Value} {s0 s1 : St} {p0 p1 : Option Nat}

theorem LI.put {q0 q1 q2 q3 a b c d : Value} (h : LI w W q0 q1 q2 q3 vl vm ls ms) (hf : Fr (fun q => q = W) w w') (hW : w'.heap[W]? = some (.cells #[a, b, c, d, vl, vm] 33 (0, 0))) : LI w' W a b c d vl vm ls ms := by
  have hS : ∀ k c t f, w.heap[k]? = some (.cells c t f) → t = 58 ∨ t = 3 → ¬ k = W := by
    rintro k c t f hk ht rfl
    have := h.blk
    rw [hk] at this; simp at this
    rcases ht with e | e <;> rw [e] at this <;> simp at this
  refine ⟨hW, ?_, ?_, h.apart, h.len, h.bnd, ?_, ?_⟩
  · exact row_fr h.hl hf fun k c f hk _ => hS k c _ f hk (Or.inl rfl)
  · exact row_fr h.hm hf fun k c f hk _ => hS k c _ f hk (Or.inl rfl)
  · intro i v hv
    obtain ⟨n, a1, a2⟩ := h.ml i v hv
    exact ⟨n, a1, row_fr a2 hf fun k c f hk _ => hS k c _ f hk (Or.inr rfl)⟩
  · intro i v hv
    obtain ⟨n, a1, a2⟩ := h.mm i v hv
    exact ⟨n, a1, row_fr a2 hf fun k c f hk _ => hS k c _ f hk (Or.inr rfl)⟩

theorem xg_frW {xb : Nat} {s : St} {cs : Array Value} (hW : w.heap[W]? = some (.cells cs 33 (0, 0))) (hf : Fr (fun q => q = W) w w') (hx : XG w xb s) : XG w' xb s := by
  have hX := PF.row hx
  unfold RowAt at hX
  refine PF.fr hx hf ?_
  rintro rfl; rw [hW] at hX; simp at hX
theorem yg_frW {gb : Nat} {s : St} {p : Option Nat} {cs : Array Value} (hW : w.heap[W]? = some (.cells cs 33 (0, 0))) (hf : Fr (fun q => q = W) w w') (hy : YG w gb s p) : YG w' gb s p := by
  refine RG.fr hy hf ?_ ?_ ?_
  · rintro k c f hk rfl; rw [hW] at hk; simp at hk
  · rintro rfl
    obtain ⟨vL, vP, hb, _⟩ := hy
    rw [hW] at hb; simp at hb
  · rintro k hk rfl
    obtain ⟨_, cur, hh⟩ := rg_past hy _ hk
    rw [hW] at hh; simp at hh

/-- a graph takes the place of the first side's -/
theorem TW.put0 {xb gb : Nat} {s : St} (h : TW B w W x0 g0 x1 g1 vl vm ls ms s0 s1 p0 p1) (hk : Ok s) (hx : XG w' xb s) (hy : YG w' gb s none) (hxb : w.heap.size ≤ xb) (hgb : w.heap.size ≤ gb)
    (hW : w'.heap[W]? = some (.cells #[P0 xb, P0 gb, P0 x1, P0 g1, vl, vm] 33 (0, 0))) (hf : Fr (fun q => q = W) w w') :
    TW B w' W xb gb x1 g1 vl vm ls ms s s1 none p1 ∧ Below B w w' := by
  have hB := h.hB
  have l1 := (PF.row h.a1).lt
  have l2 := yg_lt h.b1
  have lo := h.lo
  refine ⟨⟨h.li.put hf hW, hk, h.k1, hx, hy, xg_frW h.li.blk hf h.a1, yg_frW h.li.blk hf h.b1, by omega, by omega, (fun k e => by cases e), ⟨lo.1, by omega, by omega, lo.2.2.2.1, lo.2.2.2.2⟩, ?_, h.lv, Nat.le_trans h.hB hf.size⟩, hf.lowB h.hB (by rintro k rfl; exact lo.1)⟩
  rintro k (e | e)
  · cases e
  · exact h.lp k (Or.inr e)
/-- of the second side's -/
theorem TW.put1 {xb gb : Nat} {s : St} (h : TW B w W x0 g0 x1 g1 vl vm ls ms s0 s1 p0 p1) (hk : Ok s) (hx : XG w' xb s) (hy : YG w' gb s none) (hxb : w.heap.size ≤ xb) (hgb : w.heap.size ≤ gb)
    (hW : w'.heap[W]? = some (.cells #[P0 x0, P0 g0, P0 xb, P0 gb, vl, vm] 33 (0, 0))) (hf : Fr (fun q => q = W) w w') :
    TW B w' W x0 g0 xb gb vl vm ls ms s0 s p0 none ∧ Below B w w' := by
  have hB := h.hB
  have l1 := (PF.row h.a0).lt
  have l2 := yg_lt h.b0
  have lo := h.lo
  refine ⟨⟨h.li.put hf hW, h.k0, hk, xg_frW h.li.blk hf h.a0, yg_frW h.li.blk hf h.b0, hx, hy, by omega, by omega, (fun k _ e => by cases e), ⟨lo.1, lo.2.1, lo.2.2.1, by omega, by omega⟩, ?_, h.lv, Nat.le_trans h.hB hf.size⟩, hf.lowB h.hB (by rintro k rfl; exact lo.1)⟩
  rintro k (e | e)
  · exact h.lp k (Or.inl e)
  · cases e

/-- what a step leaves, whichever graphs the sides hold -/
def SPost4 (B W n : Nat) (w : World) : Ending → World → Prop := fun e w' =>
  e = .returned (.bool true) ∧ (∃ x0 g0 x1 g1 vl vm ls ms s0 s1 p0 p1, TW B w' W x0 g0 x1 g1 vl vm ls ms s0 s1 p0 p1 ∧ ls.length ≤ n) ∧ Below B w w'
theorem SPost.four {n : Nat} {e : Ending} (h : SPost B W x0 g0 x1 g1 n w e w') : SPost4 B W n w e w' := by
  obtain ⟨h1, ⟨vl, vm, ls, ms, s0, s1, p0, p1, h2, h3⟩, h4⟩ := h
  exact ⟨h1, ⟨_, _, _, _, _, _, _, _, _, _, _, _, h2, h3⟩, h4⟩

theorem at_loads (hP : LoadP) (h : TW B w W x0 g0 x1 g1 vl vm ls ms s0 s1 p0 p1) (ht : Tab w) (o : Bool) (t : List UInt8) (hlt : t.length ≤ 4611686018427387904) :
    Calls Tryz.prog 9 #[P0 W, .int .i64 ((bif o then 1 else 0 : Nat) : Int), .string (bs t)] w (SPost4 B W (ls.length + 1) w) := by
  refine (loads_any W (bif o then 1 else 0) (by cases o <;> simp) _ _ _ _ _ _ t w ht h.li.blk (hP t w hlt ht)).mono ?_
  rintro e w' ⟨rfl, ⟨s, xb, gb, q1, _, _, q2, q3, q4, q5, q6, q7⟩ | hb⟩
  · cases o
    · obtain ⟨r1, r2⟩ := h.put0 q1 q2 q3 q4 q5 q6 q7
      exact ⟨rfl, ⟨_, _, _, _, _, _, _, _, _, _, _, _, r1, by omega⟩, r2⟩
    · obtain ⟨r1, r2⟩ := h.put1 q1 q2 q3 q4 q5 q6 q7
      exact ⟨rfl, ⟨_, _, _, _, _, _, _, _, _, _, _, _, r1, by omega⟩, r2⟩
  · exact ⟨rfl, ⟨_, _, _, _, _, _, _, _, _, _, _, _, h.later hb, by omega⟩, hb.mono h.hB⟩
end
end Go.Proofs.YtnnnleckoinjoaaGreatDoor

/- A step of any kind, given what the program's Text and Load must give. -/
namespace Go.Proofs.YtnnnleckoinjoaaGreatDoor
open Go.RowKit
open Pl (It)

theorem bs_back (s : ByteArray) : bs s.data.toList = s := by
  apply ByteArray.ext
  simp [bs]

section
variable {B : Nat} {w : World} {W x0 g0 x1 g1 : Nat} {vl vm : Value} {ls ms : List Value} {s0 s1 : St} {p0 p1 : Option Nat}
theorem at_whole15 (hP : TextP) (h : TW B w W x0 g0 x1 g1 vl vm ls ms s0 s1 p0 p1) (ht : Tab w) (o : Bool) (a b c d : Int) (sx : ByteArray) :
    Calls Tryz.prog 22 #[sdv (bif o then x1 else x0) (bif o then g1 else g0), opv 15 o a b c d sx] w (SPost4 B W (ls.length + 1) w) := by
  cases o
  · refine (whole15 hP x0 g0 s0 p0 h.k0 false a b c d sx w ht h.a0 h.b0).mono ?_
    rintro e w' ⟨rfl, hb⟩
    exact ⟨rfl, ⟨_, _, _, _, _, _, _, _, _, _, _, _, h.later hb, by omega⟩, hb.mono h.hB⟩
  · refine (whole15 hP x1 g1 s1 p1 h.k1 true a b c d sx w ht h.a1 h.b1).mono ?_
    rintro e w' ⟨rfl, hb⟩
    exact ⟨rfl, ⟨_, _, _, _, _, _, _, _, _, _, _, _, h.later hb, by omega⟩, hb.mono h.hB⟩
end

set_option maxRecDepth 100000 in
set_option maxHeartbeats 4000000 in
theorem step15 (hP : TextP) (B W x0 g0 x1 g1 : Nat) (vl vm : Value) (ls ms : List Value) (s0 s1 : St) (p0 p1 : Option Nat) (o : Bool) (a b c d : Int) (sx : ByteArray) (w : World) (ht : Tab w)
    (h : TW B w W x0 g0 x1 g1 vl vm ls ms s0 s1 p0 p1) :
    Calls Tryz.prog 11 #[P0 W, opv 15 o a b c d sx] w (SPost4 B W (ls.length + 1) w) := by
  obtain ⟨c0, c1, c2, c3, _, _, _⟩ := six_cells h.li.blk
  have hWl := lt_of_block h.li.blk
  have hB := h.hB
  have hb2 := boxes_below w (opo 15 o a b c d sx) (sdo (bif o then x1 else x0) (bif o then g1 else g0))
  have h2 := h.later hb2
  have hc := at_whole15 hP h2 (ht.later hb2) o a b c d sx
  clear h h2 ht hP
  cases o
  all_goals
    go_enter Tryz.func11, Tryz.ntmps11
    go_wp2_with fail
    refine (Calls.mono (by exact hc) ?_)
    rintro e w3 ⟨rfl, hT, hb⟩
    clear hc
    go_wp2
    go_ret
    exact ⟨rfl, hT, (hb2.mono hB).trans hb⟩

set_option maxRecDepth 100000 in
set_option maxHeartbeats 4000000 in
theorem step16 (hP : LoadP) (B W x0 g0 x1 g1 : Nat) (vl vm : Value) (ls ms : List Value) (s0 s1 : St) (p0 p1 : Option Nat) (o : Bool) (a b c d : Int) (sx : ByteArray) (hsz : sx.size ≤ 4611686018427387904) (w : World) (ht : Tab w)
    (h : TW B w W x0 g0 x1 g1 vl vm ls ms s0 s1 p0 p1) :
    Calls Tryz.prog 11 #[P0 W, opv 16 o a b c d sx] w (SPost4 B W (ls.length + 1) w) := by
  obtain ⟨c0, c1, c2, c3, _, _, _⟩ := six_cells h.li.blk
  have hWl := lt_of_block h.li.blk
  have hB := h.hB
  have hb2 := boxes_below w (opo 16 o a b c d sx) (sdo (bif o then x1 else x0) (bif o then g1 else g0))
  have h2 := h.later hb2
  have hc := at_loads hP h2 (ht.later hb2) o sx.data.toList (by rw [Array.length_toList]; exact hsz)
  rw [bs_back] at hc
  clear h h2 ht hP
  cases o
  all_goals
    go_enter Tryz.func11, Tryz.ntmps11
    go_wp2_with fail
    refine (Calls.mono (by exact hc) ?_)
    rintro e w3 ⟨rfl, hT, hb⟩
    clear hc
    go_wp2
    go_ret
    exact ⟨rfl, hT, (hb2.mono hB).trans hb⟩

set_option maxRecDepth 100000 in
set_option maxHeartbeats 4000000 in
theorem step17 (hP : LoadP) (B W x0 g0 x1 g1 : Nat) (vl vm : Value) (ls ms : List Value) (s0 s1 : St) (p0 p1 : Option Nat) (o : Bool) (a b c d : Int) (sx : ByteArray) (w : World) (ht : Tab w)
    (h : TW B w W x0 g0 x1 g1 vl vm ls ms s0 s1 p0 p1) :
    Calls Tryz.prog 11 #[P0 W, opv 17 o a b c d sx] w (SPost4 B W (ls.length + 1) w) := by
  obtain ⟨c0, c1, c2, c3, _, _, _⟩ := six_cells h.li.blk
  have hWl := lt_of_block h.li.blk
  have hB := h.hB
  have hb2 := boxes_below w (opo 17 o a b c d sx) (sdo (bif o then x1 else x0) (bif o then g1 else g0))
  have h2 := h.later hb2
  have ht2 := ht.later hb2
  have hc : ∃ t : List UInt8, t.length ≤ 4611686018427387904 ∧ Calls Tryz.prog 24 #[P0 (bif o then g1 else g0)] ((w.alloc (opo 17 o a b c d sx)).alloc (sdo (bif o then x1 else x0) (bif o then g1 else g0))) fun e w' => e = .returned (.string (bs t)) ∧ Below ((w.alloc (opo 17 o a b c d sx)).alloc (sdo (bif o then x1 else x0) (bif o then g1 else g0))).heap.size ((w.alloc (opo 17 o a b c d sx)).alloc (sdo (bif o then x1 else x0) (bif o then g1 else g0))) w' := by
    cases o
    · exact ⟨_, h.k0.tlen, textY s0 g0 p0 _ h.k0 ht2 h2.b0⟩
    · exact ⟨_, h.k1.tlen, textY s1 g1 p1 _ h.k1 ht2 h2.b1⟩
  obtain ⟨t, htl, hc⟩ := hc
  have HL := hide (fun w3 hb => at_loads hP (h2.later (w' := w3) hb) (ht2.later hb) o t htl)
  clear h h2 ht ht2 hP
  cases o
  all_goals
    go_enter Tryz.func11, Tryz.ntmps11
    go_wp2_with fail
    refine (Calls.mono (by exact hc) ?_)
    rintro e w3 ⟨rfl, hb3⟩
    have hl := (unhide HL) w3 hb3
    have HB := hide ((hb2.mono hB).trans (hb3.mono (Nat.le_trans hB hb2.size)))
    clear hc HL hb2 hb3
    go_wp2_with fail
    refine (Calls.mono (by exact hl) ?_)
    rintro e w4 ⟨rfl, hT, hb⟩
    clear hl
    go_wp2
    go_ret
    exact ⟨rfl, hT, (unhide HB).trans hb⟩
end Go.Proofs.YtnnnleckoinjoaaGreatDoor

/- A step of kind 18, and a step of any kind. -/
namespace Go.Proofs.YtnnnleckoinjoaaGreatDoor
open Go.RowKit
open Pl (It)

section
variable {B : Nat} {w2 w3 : World} {W x0 g0 x1 g1 xb gb : Nat} {vl vm : Value} {ls ms : List Value} {s0 s1 s : St} {p0 p1 : Option Nat}
theorem fresh_put0 (h2 : TW B w2 W x0 g0 x1 g1 vl vm ls ms s0 s1 p0 p1) (hk : Ok s) (hxb : w2.heap.size ≤ xb) (hgb : w2.heap.size ≤ gb) (hx : XG w3 xb s) (hy : YG w3 gb s none) (hb3 : Below w2.heap.size w2 w3) (o : Obj) :
    TW B (((w3.alloc o).setCell ⟨W, 0, none⟩ (P0 xb)).setCell ⟨W, 1, none⟩ (P0 gb)).drew W xb gb x1 g1 vl vm ls ms s s1 none p1 ∧ Below B w2 (((w3.alloc o).setCell ⟨W, 0, none⟩ (P0 xb)).setCell ⟨W, 1, none⟩ (P0 gb)).drew := by
  have hWl := lt_of_block h2.li.blk
  have hV : Below w2.heap.size w2 (w3.alloc o) := hb3.alloc hb3.size o
  have ho : Below w3.heap.size w3 (w3.alloc o) := (Below.refl _ _).alloc (Nat.le_refl _) o
  obtain ⟨y1, y2, y3, y4⟩ := side_put 0 hWl hxb hgb (xg_later hx ho (Nat.le_refl _)) (yg_later hy ho (Nat.le_refl _)) hV (cs := [P0 x0, P0 g0, P0 x1, P0 g1, vl, vm]) ((hV.block W hWl).trans h2.li.blk)
  obtain ⟨r1, r2⟩ := h2.put0 hk y1 y2 hxb hgb y3 y4
  have hd := ((Fr.refl (fun _ => False) (((w3.alloc o).setCell ⟨W, 0, none⟩ (P0 xb)).setCell ⟨W, 0 + 1, none⟩ (P0 gb))).drew).below
  exact ⟨r1.later hd, r2.trans (hd.mono r1.hB)⟩
theorem fresh_put1 (h2 : TW B w2 W x0 g0 x1 g1 vl vm ls ms s0 s1 p0 p1) (hk : Ok s) (hxb : w2.heap.size ≤ xb) (hgb : w2.heap.size ≤ gb) (hx : XG w3 xb s) (hy : YG w3 gb s none) (hb3 : Below w2.heap.size w2 w3) (o : Obj) :
    TW B (((w3.alloc o).setCell ⟨W, 2, none⟩ (P0 xb)).setCell ⟨W, 3, none⟩ (P0 gb)).drew W x0 g0 xb gb vl vm ls ms s0 s p0 none ∧ Below B w2 (((w3.alloc o).setCell ⟨W, 2, none⟩ (P0 xb)).setCell ⟨W, 3, none⟩ (P0 gb)).drew := by
  have hWl := lt_of_block h2.li.blk
  have hV : Below w2.heap.size w2 (w3.alloc o) := hb3.alloc hb3.size o
  have ho : Below w3.heap.size w3 (w3.alloc o) := (Below.refl _ _).alloc (Nat.le_refl _) o
  obtain ⟨y1, y2, y3, y4⟩ := side_put 2 hWl hxb hgb (xg_later hx ho (Nat.le_refl _)) (yg_later hy ho (Nat.le_refl _)) hV (cs := [P0 x0, P0 g0, P0 x1, P0 g1, vl, vm]) ((hV.block W hWl).trans h2.li.blk)
  obtain ⟨r1, r2⟩ := h2.put1 hk y1 y2 hxb hgb y3 y4
  have hd := ((Fr.refl (fun _ => False) (((w3.alloc o).setCell ⟨W, 2, none⟩ (P0 xb)).setCell ⟨W, 2 + 1, none⟩ (P0 gb))).drew).below
  exact ⟨r1.later hd, r2.trans (hd.mono r1.hB)⟩
end

set_option maxRecDepth 100000 in
set_option maxHeartbeats 4000000 in
theorem step18 (B W x0 g0 x1 g1 : Nat) (vl vm : Value) (ls ms : List Value) (s0 s1 : St) (p0 p1 : Option Nat) (o : Bool) (a b c d : Int) (sx : ByteArray) (w : World)
    (h : TW B w W x0 g0 x1 g1 vl vm ls ms s0 s1 p0 p1) :
    Calls Tryz.prog 11 #[P0 W, opv 18 o a b c d sx] w (SPost4 B W (ls.length + 1) w) := by
  obtain ⟨c0, c1, c2, c3, _, _, _⟩ := six_cells h.li.blk
  have hWl := lt_of_block h.li.blk
  have hB := h.hB
  have hb2 := boxes_below w (opo 18 o a b c d sx) (sdo (bif o then x1 else x0) (bif o then g1 else g0))
  have h2 := h.later hb2
  have HH := hide (And.intro hb2 h2)
  have hz2 := hb2.size
  by_cases hab : 1 ≤ a ∧ a ≤ 30 ∧ 1 ≤ b ∧ b ≤ 60
  · obtain ⟨h1, h2', h3, h4⟩ := hab
    obtain ⟨v, rfl⟩ := Int.eq_ofNat_of_zero_le (show 0 ≤ a by omega)
    obtain ⟨m, rfl⟩ := Int.eq_ofNat_of_zero_le (show 0 ≤ b by omega)
    have hc := fresh_ok v m ((w.alloc (opo 18 o v m c d sx)).alloc (sdo (bif o then x1 else x0) (bif o then g1 else g0))) (by omega) (by omega) (by omega) (by omega)
    have hok := st0_ok v m (by omega) (by omega) (by omega)
    clear h h2 hb2
    cases o
    · go_enter Tryz.func11, Tryz.ntmps11
      go_wp2_with fail
      refine (Calls.mono (by exact hc) ?_)
      rintro e w3 ⟨xb, gb, rfl, hxb, hgb, hx, hy, hb3⟩
      obtain ⟨hb2, h2⟩ := unhide HH
      have hq := fresh_put0 h2 hok hxb hgb hx hy hb3 (sdo xb gb)
      have hV : Below w3.heap.size w3 (w3.alloc (sdo xb gb)) := (Below.refl _ _).alloc (Nat.le_refl _) _
      have h3' := (h2.later hb3).later hV
      obtain ⟨d0, d1, d2, d3, d4, d5, df⟩ := six_cells h3'.li.blk
      have df0 := df 0
      have df1 := df 1
      obtain ⟨q0, q1, _⟩ := two_cells (heap_alloc_new w3 (sdo xb gb))
      have hWl3 := lt_of_block h3'.li.blk
      have HQ := hide (And.intro hq.1 ((hb2.mono hB).trans hq.2))
      clear hq hx hy hb3 h3' hb2 h2 df hc HH hV hxb hgb
      go_wp2
      generalize hVV : w3.alloc (sdo xb gb) = V at *
      go_region
      go_wp2
      go_ret
      obtain ⟨r1, r2⟩ := unhide HQ
      exact ⟨rfl, ⟨_, _, _, _, _, _, _, _, _, _, _, _, r1, by omega⟩, r2⟩
    · go_enter Tryz.func11, Tryz.ntmps11
      go_wp2_with fail
      refine (Calls.mono (by exact hc) ?_)
      rintro e w3 ⟨xb, gb, rfl, hxb, hgb, hx, hy, hb3⟩
      obtain ⟨hb2, h2⟩ := unhide HH
      have hq := fresh_put1 h2 hok hxb hgb hx hy hb3 (sdo xb gb)
      have hV : Below w3.heap.size w3 (w3.alloc (sdo xb gb)) := (Below.refl _ _).alloc (Nat.le_refl _) _
      have h3' := (h2.later hb3).later hV
      obtain ⟨d0, d1, d2, d3, d4, d5, df⟩ := six_cells h3'.li.blk
      have df0 := df 2
      have df1 := df 3
      obtain ⟨q0, q1, _⟩ := two_cells (heap_alloc_new w3 (sdo xb gb))
      have hWl3 := lt_of_block h3'.li.blk
      have HQ := hide (And.intro hq.1 ((hb2.mono hB).trans hq.2))
      clear hq hx hy hb3 h3' hb2 h2 df hc HH hV hxb hgb
      go_wp2
      generalize hVV : w3.alloc (sdo xb gb) = V at *
      go_region
      go_wp2
      go_ret
      obtain ⟨r1, r2⟩ := unhide HQ
      exact ⟨rfl, ⟨_, _, _, _, _, _, _, _, _, _, _, _, r1, by omega⟩, r2⟩
  · have hc := fresh_no a b ((w.alloc (opo 18 o a b c d sx)).alloc (sdo (bif o then x1 else x0) (bif o then g1 else g0))) hab
    clear h h2 hb2
    cases o
    all_goals
      go_enter Tryz.func11, Tryz.ntmps11
      go_wp2_with fail
      refine (Calls.mono (by exact hc) ?_)
      rintro e w3 ⟨rfl, hb3⟩
      obtain ⟨hb2, h2⟩ := unhide HH
      have HH3 := hide (And.intro (h2.later hb3) ((hb2.mono hB).trans (hb3.mono (Nat.le_trans hB hb2.size))))
      clear hb3 hb2 h2 hc
      go_wp2
      go_ret
      obtain ⟨q1, q2⟩ := unhide HH3
      have ho : Below w3.heap.size w3 (w3.alloc (.cells #[.pointer none, .pointer none] 29)) := (Below.refl _ _).alloc (Nat.le_refl _) _
      exact ⟨rfl, ⟨_, _, _, _, _, _, _, _, _, _, _, _, q1.later ho, by omega⟩, q2.trans (ho.mono q1.hB)⟩

theorem step4 (hT : TextP) (hL : LoadP) (B W x0 g0 x1 g1 : Nat) (vl vm : Value) (ls ms : List Value) (s0 s1 : St) (p0 p1 : Option Nat) (k : Int) (hk : k ≤ 18) (o : Bool) (a b c d : Int) (hd0 : -9223372036854775808 ≤ d) (hd1 : d ≤ 9223372036854775807) (sx : ByteArray) (hsz : sx.size ≤ 4611686018427387904) (w : World) (ht : Tab w)
    (h : TW B w W x0 g0 x1 g1 vl vm ls ms s0 s1 p0 p1) (hcnt : ls.length < 1100000) :
    Calls Tryz.prog 11 #[P0 W, opv k o a b c d sx] w (SPost4 B W (ls.length + 1) w) := by
  have hkk : k ≤ 14 ∨ k = 15 ∨ k = 16 ∨ k = 17 ∨ k = 18 := by omega
  rcases hkk with hk | rfl | rfl | rfl | rfl
  · exact (step_any B W x0 g0 x1 g1 vl vm ls ms s0 s1 p0 p1 k hk o a b c d hd0 hd1 sx w h hcnt).mono fun e w' q => q.four
  · exact step15 hT B W x0 g0 x1 g1 vl vm ls ms s0 s1 p0 p1 o a b c d sx w ht h
  · exact step16 hL B W x0 g0 x1 g1 vl vm ls ms s0 s1 p0 p1 o a b c d sx hsz w ht h
  · exact step17 hL B W x0 g0 x1 g1 vl vm ls ms s0 s1 p0 p1 o a b c d sx w ht h
  · exact step18 B W x0 g0 x1 g1 vl vm ls ms s0 s1 p0 p1 o a b c d sx w h
end Go.Proofs.YtnnnleckoinjoaaGreatDoor

/- Scripts of all kinds of steps, given what the program's Text and Load must give. -/
namespace Go.Proofs.YtnnnleckoinjoaaGreatDoor
open Go.RowKit
open Pl (It)

set_option maxRecDepth 100000 in
set_option maxHeartbeats 8000000 in
theorem plays4 (hTx : TextP) (hLd : LoadP) (T : Int) (hT10 : T ≤ 18) (v m : Nat) (h1 : 1 ≤ v) (h2 : v ≤ 30) (h3 : 1 ≤ m) (h4 : m ≤ 60) (xa : Option Addr) (xb xo len cap : Nat) (I : Nat → OpT) (w : World) (hxa : 0 < len → xa = some ⟨xb, xo, none⟩) (hxb : 0 < len → xb < w.heap.size) (hlen : len ≤ 1048576)
    (hc : ∀ j, j < len → OpAt w xb (xo + j * 7) (I j)) (hsm : ∀ j, j < len → (I j).s.size ≤ 4611686018427387904) (htab : Tab w) :
    Calls Tryz.prog 8 #[.int .i64 v, .int .i64 m, .slice xa len cap, .int .i64 T] w fun e w' => e = .returned (.bool true) ∧ Below w.heap.size w w' := by
  have HC := hide hc
  have HTB := hide (And.intro htab.b (And.intro hTx hLd))
  clear hc htab hTx hLd
  go_enter Tryz.func8, Tryz.ntmps8
  go_wp2_with fail
  refine (fresh_ok v m _ h1 h2 h3 h4).mono ?_
  rintro e w1 ⟨x0, g0, rfl, hx0, hg0, ha0, hb0, hb1⟩
  have hz1 := hb1.size
  go_wp2_with fail
  refine (fresh_ok v m _ h1 h2 h3 h4).mono ?_
  rintro e w2 ⟨x1, g1, rfl, hx1, hg1, ha1, hb1', hb2⟩
  have hz2 := hb2.size
  rw [World.size_alloc] at hz2 hx1 hg1
  have hn1 : w1.heap.size < w2.heap.size := by omega
  have i9 := made_later hb2 (by rw [World.size_alloc]; omega)
  obtain ⟨m0, m1, _⟩ := two_cells i9
  have hB : Below w.heap.size w w2 := (hb1.alloc hz1 _).trans (hb2.mono (by rw [World.size_alloc]; omega))
  have HB := hide (And.intro hB (And.intro hz2 (And.intro ha0 (And.intro hb0 (And.intro ha1 (And.intro hb1' hb2))))))
  clear hB hb1 hb2 ha0 hb0 ha1 hb1' i9
  go_wp2_with fail
  obtain ⟨hB, _, ha0, hb0, ha1, hb1', hb2⟩ := unhide HB
  have hP : PW w.heap.size w w1.heap.size w2.heap.size (w2.heap.size + 1) x0 g0 x1 g1 (st0 v m) #[.pointer none, .pointer none, .pointer none, .pointer none, .slice none 0 0, .slice none 0 0] ((w2.alloc (sdo x1 g1)).alloc (.cells #[.pointer none, .pointer none, .pointer none, .pointer none, .slice none 0 0, .slice none 0 0] 33)) := by
    have hbb := boxes_below w2 (sdo x1 g1) (.cells #[.pointer none, .pointer none, .pointer none, .pointer none, .slice none 0 0, .slice none 0 0] 33)
    have h12 : Below w1.heap.size w1 w2 := ((Below.refl _ _).alloc (Nat.le_refl _) _).trans (hb2.mono (by rw [World.size_alloc]; omega))
    refine ⟨hB.trans (hbb.mono (by omega)), xg_later (xg_later ha0 h12 (Nat.le_refl _)) hbb (Nat.le_refl _), yg_later (yg_later hb0 h12 (Nat.le_refl _)) hbb (Nat.le_refl _), xg_later ha1 hbb (Nat.le_refl _), yg_later hb1' hbb (Nat.le_refl _), ?_, ?_, ?_⟩
    · rw [hbb.block _ (by omega)]; exact made_later hb2 (by rw [World.size_alloc]; omega)
    · rw [Below.heap_alloc _ _ _ (by rw [World.size_alloc]; omega)]; exact heap_alloc_new _ _
    · have := heap_alloc_new (w2.alloc (sdo x1 g1)) (.cells #[.pointer none, .pointer none, .pointer none, .pointer none, .slice none 0 0, .slice none 0 0] 33)
      rw [World.size_alloc] at this; exact this
  have hx01 : x0 ≠ x1 := by have := (PF.row ha0).lt; omega
  have hg01 : g0 ≠ g1 := by have := yg_lt hb0; omega
  clear hB ha0 hb0 ha1 hb1' hb2 HB m0 m1
  generalize (w2.alloc (sdo x1 g1)).alloc (.cells #[.pointer none, .pointer none, .pointer none, .pointer none, .slice none 0 0, .slice none 0 0] 33) = V at hP ⊢
  obtain ⟨q0, q1, _⟩ := two_cells hP.e0
  obtain ⟨d0, d1, d2, d3, d4, d5, df⟩ := six_cells hP.eW
  have df0 := df 0
  have df1 := df 1
  have hW1 : w.heap.size ≤ w2.heap.size + 1 := by omega
  have HP := hide (hP.store hW1 0 1 (P0 x0) (P0 g0))
  clear df hP
  go_region
  generalize ((V.setCell ⟨w2.heap.size + 1, 0, none⟩ (P0 x0)).setCell ⟨w2.heap.size + 1, 1, none⟩ (P0 g0)).drew = V2 at HP ⊢
  clear q0 q1 d0 d1 d2 d3 d4 d5 df0 df1
  go_wp2_with fail
  have hP2 := unhide HP
  obtain ⟨q0, q1, _⟩ := two_cells hP2.e1
  obtain ⟨d0, d1, d2, d3, d4, d5, df⟩ := six_cells hP2.eW
  have df2 := df 2
  have df3 := df 3
  have HP2 := hide (hP2.store hW1 2 3 (P0 x1) (P0 g1))
  clear df hP2 HP
  go_region
  generalize ((V2.setCell ⟨w2.heap.size + 1, 2, none⟩ (P0 x1)).setCell ⟨w2.heap.size + 1, 3, none⟩ (P0 g1)).drew = V4 at HP2 ⊢
  clear q0 q1 d0 d1 d2 d3 d4 d5 df2 df3
  have hP4 := unhide HP2
  have hT : TW w.heap.size V4 (w2.heap.size + 1) x0 g0 x1 g1 (.slice none 0 0) (.slice none 0 0) [] [] (st0 v m) (st0 v m) none none :=
    ⟨⟨hP4.eW, World.ownsRow_nil _ _ _ _, World.ownsRow_nil _ _ _ _, (fun k e => by cases e), rfl, Nat.zero_le _, (fun i v h => by cases h), (fun i v h => by cases h)⟩, st0_ok v m h1 h2 h4, st0_ok v m h1 h2 h4, hP4.a0, hP4.b0, hP4.a1, hP4.b1, hx01, hg01, (fun k e => by cases e), ⟨hW1, hx0, hg0, by omega, by omega⟩, (fun k e => by rcases e with e | e <;> cases e), (fun k e => by rcases e with e | e <;> cases e), hP4.hB.size⟩
  have A0 : Aside (TW w.heap.size V4 (w2.heap.size + 1) x0 g0 x1 g1 (.slice none 0 0) (.slice none 0 0) [] [] (st0 v m) (st0 v m) none none ∧ Below w.heap.size w V4) := ⟨hT, hP4.hB⟩
  generalize w2.heap.size + 1 = W at *
  clear hT hP4 HP2 hx01 hg01 hx0 hg0 hx1 hg1 hz1 hz2 hn1 hW1 h1 h2 h3 h4
  go_wp2
  go_loopg [14] len (fun gk i wr => ∃ k : Nat, k ≤ len ∧ i = .int .i64 k ∧ (∃ x0 g0 x1 g1 vl vm ls ms s0 s1 p0 p1, TW w.heap.size wr W x0 g0 x1 g1 vl vm ls ms s0 s1 p0 p1 ∧ ls.length ≤ k) ∧ Below w.heap.size w wr ∧ len - k ≤ gk)
  case atStart => exact ⟨0, Nat.zero_le _, rfl, ⟨_, _, _, _, _, _, _, _, _, _, _, _, A0.out.1, Nat.le_refl _⟩, A0.out.2, by omega⟩
  case round =>
    obtain ⟨k, hk, rfl, ⟨y0, f0, y1, f1, vl, vm, ls, ms, s0, s1, p0, p1, hT, hls⟩, hB, hgk⟩ := hrel
    by_cases hlt : k < len
    · obtain rfl := hxa (by omega)
      have hO := (unhide HC k hlt).later hB (hxb (by omega))
      have hk1 : (0 : Int) ≤ k := by omega
      have hk2 : (k : Int) < len := by omega
      obtain ⟨t, ht⟩ : ∃ t, t = I k := ⟨_, rfl⟩
      rw [← ht] at hO
      have hts := hsm k hlt
      rw [← ht] at hts
      clear ht
      obtain ⟨tk, tq, ta, tb, tc, td, ts⟩ := t
      obtain ⟨c0, c1, c2, c3, c4, c5, c6, r0, r1⟩ := hO
      simp only at c0 c1 c2 c3 c4 c5 c6 r0 r1 hts
      by_cases h8 : T < tk
      · have HT := hide (And.intro hT hB)
        clear hT hB c1 c2 c3 c4 c5 c6
        go_wp2
        obtain ⟨hT, hB⟩ := unhide HT
        go_roundg (gk - 1)
        case measure => omega
        case rel => exact ⟨k + 1, by omega, by go_num, ⟨_, _, _, _, _, _, _, _, _, _, _, _, hT, by omega⟩, hB, by omega⟩
      · have hst := step4 (unhide HTB).2.1 (unhide HTB).2.2 w.heap.size W y0 f0 y1 f1 vl vm ls ms s0 s1 p0 p1 tk (by omega) tq ta tb tc td r0 r1 ts hts wr ((unhide HTB).1 wr hB) hT (by omega)
        have HS := hide hst
        have HB := hide hB
        clear hT hst hB r0 r1
        go_wp2_with fail
        refine Calls.mono (by exact unhide HS) ?_
        rintro e w3 ⟨rfl, ⟨z0, e0', z1, e1', vl', vm', ls', ms', s0', s1', p0', p1', hT3, hls3⟩, hb3⟩
        have hB3 := (unhide HB).trans hb3
        have hlk := looks_any W (P0 z0) (P0 e0') (P0 z1) (P0 e1') vl' vm' ls' ms' w3 hT3.li
        have HT := hide (And.intro hT3 hB3)
        clear hT3 hB3 HS HB c0 c1 c2 c3 c4 c5 c6 hb3
        go_wp2_with fail
        refine Calls.mono (by exact hlk) ?_
        rintro e w4 ⟨rfl, rfl⟩
        clear hlk
        go_wp2
        obtain ⟨hT, hB⟩ := unhide HT
        go_roundg (gk - 1)
        case measure => omega
        case rel => exact ⟨k + 1, by omega, by go_num, ⟨_, _, _, _, _, _, _, _, _, _, _, _, hT, by omega⟩, hB, by omega⟩
    · clear hT
      go_wp2
      go_ret
      exact ⟨rfl, hB⟩

end Go.Proofs.YtnnnleckoinjoaaGreatDoor

/- The statement's function All, walked. -/
namespace Go.Proofs.YtnnnleckoinjoaaGreatDoor
open Go.RowKit
open Pl (It)

set_option maxRecDepth 100000 in
set_option maxHeartbeats 8000000 in
theorem all_any (v m : Int) (xa : Option Addr) (xb xo len cap : Nat) (I : Nat → OpT) (w : World) (hxa : 0 < len → xa = some ⟨xb, xo, none⟩) (hxb : 0 < len → xb < w.heap.size) (hlen : len ≤ 1048576)
    (hc : ∀ j, j < len → OpAt w xb (xo + j * 7) (I j)) (hsm : ∀ j, j < len → (I j).s.size ≤ 4611686018427387904) (htab : Tab w) :
    Calls Tryz.prog 6 #[.int .i64 v, .int .i64 m, .slice xa len cap] w fun e w' => e = .returned (.bool true) ∧ Below w.heap.size w w' := by
  have hp : Calls Tryz.prog 8 #[.int .i64 v, .int .i64 m, .slice xa len cap, .int .i64 18] w fun e w' => e = .returned (.bool true) ∧ Below w.heap.size w w' := by
    by_cases h : 1 ≤ v ∧ v ≤ 30 ∧ 1 ≤ m ∧ m ≤ 60
    · obtain ⟨h1, h2, h3, h4⟩ := h
      obtain ⟨v', rfl⟩ := Int.eq_ofNat_of_zero_le (show 0 ≤ v by omega)
      obtain ⟨m', rfl⟩ := Int.eq_ofNat_of_zero_le (show 0 ≤ m by omega)
      exact plays4 textP loadP 18 (by decide) v' m' (by omega) (by omega) (by omega) (by omega) xa xb xo len cap I w hxa hxb hlen hc hsm htab
    · exact plays_no 18 v m _ w h
  clear hc htab hsm
  go_enter Tryz.func6, Tryz.ntmps6
  go_wp2_with fail
  refine hp.mono ?_
  rintro e w1 ⟨rfl, hb⟩
  clear hp
  go_wp2
  go_ret
  exact ⟨rfl, hb⟩
end Go.Proofs.YtnnnleckoinjoaaGreatDoor
