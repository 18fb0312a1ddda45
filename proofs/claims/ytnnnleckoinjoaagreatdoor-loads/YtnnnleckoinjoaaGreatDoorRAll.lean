import Derived.Deep.DeepCutAuto
import Derived.Deep.LoopGhost
import Derived.Deep.RegionHeld3
import Derived.Deep.RegionLawGrows
import Derived.Test.YtnnnleckoinjoaaGreatDoorGr
import Derived.Test.YtnnnleckoinjoaaGreatDoorRep
namespace Go.Proofs.YtnnnleckoinjoaaGreatDoor
open Go.RowKit
open Pl (It)

set_option maxHeartbeats 400000 in
theorem lighter_any (a b : It) (w : World) :
    Calls Tryz.prog 107 #[itv a, itv b] w fun e w' => e = .returned (.bool (Pl.lighter a b)) ∧ Below w.heap.size w w' := by
  unfold itv
  go_enter Tryz.func107, Tryz.ntmps107
  go_wp2
  all_goals go_ret
  all_goals refine ⟨ret_bool ?_, ((Below.refl _ _).alloc (Nat.le_refl _) _).alloc (by simp) _⟩
  all_goals (rw [Bool.eq_iff_iff, Pl.lighter_iff]; simp; try omega)


theorem below_snoc (l : List It) (x : It) (k : Nat) (hk : k < l.length) :
    Pl.below (l.take (k + 1)) x = Pl.below (l.take k) x ++ (if Pl.lighter l[k] x then [l[k]] else []) := by
  unfold Pl.below
  rw [List.take_succ_eq_append_getElem hk, List.filter_append, List.filter_cons, List.filter_nil]

/-- four cells of a world that kept what lies below B -/
theorem its_later {w wr : World} {B base g cap : Nat} {l : List It} (h : Its w base (.slice (some ⟨g, 0, none⟩) l.length cap) l) (hb : Below B w wr) (hB : w.heap.size ≤ B) : Its wr base (.slice (some ⟨g, 0, none⟩) l.length cap) l :=
  row_below h hb hB

set_option maxRecDepth 100000 in
set_option maxHeartbeats 1000000 in
theorem below_any (l : List It) (x : It) (a : Option Addr) (cap : Nat) (w : World) (h : Its w 0 (.slice a l.length cap) l) (hl : l.length ≤ 100) :
    Calls Tryz.prog 106 #[.slice a l.length cap, itv x] w fun e w' => ∃ v, e = .returned v ∧ Its w' w.heap.size v (Pl.below l x) ∧ Below w.heap.size w w' := by
  unfold itv
  obtain ⟨i0, hi, hz0, hz1, hz2⟩ := info_parts infoItem
  go_enter Tryz.func106, Tryz.ntmps106
  go_wp2
  go_loopw [5, 6] (fun v i wr => ∃ k : Nat, k ≤ l.length ∧ i = .int .i64 k ∧ Its wr (w.heap.size + 1) v (Pl.below (l.take k) x) ∧
      Below (w.heap.size + 1) (w.alloc (.cells #[.int .i64 x.id, .int .i64 x.u, .int .i64 x.v, .int .i64 x.w] 97)) wr) (fun _ i _ => l.length - (intOf i).toNat)
  case atStart => exact ⟨0, Nat.zero_le _, rfl, World.ownsRow_nil _ _ _ _, Below.refl _ _⟩
  case round =>
    obtain ⟨k, hk, rfl, hown, hb⟩ := hrel
    by_cases hlt : k < l.length
    · obtain ⟨g, rfl⟩ := row_some h (by omega)
      have hI : Its wr 0 (.slice (some ⟨g, 0, none⟩) l.length cap) l := row_below (h.alloc _) hb (by simp)
      obtain ⟨c0, c1, c2, c3⟩ := its_cells hI k hlt
      have d0 : wr.cell? ⟨w.heap.size, 0, none⟩ = some (.int .i64 x.id) := (hb.cell (by simp)).trans (by simp)
      have d1 : wr.cell? ⟨w.heap.size, 1, none⟩ = some (.int .i64 x.u) := (hb.cell (by simp)).trans (by simp)
      have d2 : wr.cell? ⟨w.heap.size, 2, none⟩ = some (.int .i64 x.v) := (hb.cell (by simp)).trans (by simp)
      have d3 : wr.cell? ⟨w.heap.size, 3, none⟩ = some (.int .i64 x.w) := (hb.cell (by simp)).trans (by simp)
      have hk1 : (0 : Int) ≤ k := by omega
      have hk2 : (k : Int) < l.length := by omega
      go_wp2_with fail
      go_region_held3 (fun w' => w'.cell? ⟨g, k * 4, none⟩ = some (.int .i64 l[k].id) ∧ w'.cell? ⟨g, k * 4 + 1, none⟩ = some (.int .i64 l[k].u) ∧ w'.cell? ⟨g, k * 4 + 2, none⟩ = some (.int .i64 l[k].v) ∧ w'.cell? ⟨g, k * 4 + 3, none⟩ = some (.int .i64 l[k].w) ∧ w'.cell? ⟨w.heap.size, 0, none⟩ = some (.int .i64 x.id) ∧ w'.cell? ⟨w.heap.size, 1, none⟩ = some (.int .i64 x.u) ∧ w'.cell? ⟨w.heap.size, 2, none⟩ = some (.int .i64 x.v) ∧ w'.cell? ⟨w.heap.size, 3, none⟩ = some (.int .i64 x.w)) (first | go_keep | (go_split_ands; refine ⟨?_, ?_, ?_, ?_, ?_, ?_, ?_, ?_⟩ <;> (refine cell_later hb1 ?_; first | assumption | simp [*])))
        (first | (go_at_call 107; refine (lighter_any l[k] x _).mono ?_; rintro e w1 ⟨rfl, hb1⟩))
      rename_i hHeld
      have hown1 : Its w1 (w.heap.size + 1) u5 (Pl.below (l.take k) x) := row_below (w := wr.drew) hown hb1 (Nat.le_refl _)
      have hz1' : w.heap.size + 1 ≤ wr.heap.size := by have := hb.size; simp at this; omega
      have hz2' : w.heap.size + 1 ≤ w1.heap.size := by have := hb1.size; simp at this; omega
      have hB : Below (w.heap.size + 1) (w.alloc (.cells #[.int .i64 x.id, .int .i64 x.u, .int .i64 x.v, .int .i64 x.w] 97)) w1 := hb.drew.trans (hb1.mono (by simp; omega))
      have hlen : (Pl.below (l.take k) x).length ≤ k := Nat.le_trans (List.length_filter_le _ _) (by simp; omega)
      obtain ⟨e0, e1, e2, e3, f0⟩ := hHeld
      clear c0 c1 c2 c3 d0 d1 d2 d3 hI hown hb hb1 f0
      have HS : Hid (Pl.below (l.take (k + 1)) x = Pl.below (l.take k) x ++ (if Pl.lighter l[k] x then [l[k]] else [])) := below_snoc l x k hlt
      generalize hq : Pl.lighter l[k] x = q at HS ⊢
      clear hq
      cases q
      rotate_left
      · go_wp2_with (at_builtin; refine wpList_append_item w1 rfl (.tmp 21) (.tmp 26) rfl (w.heap.size + 1) u5 (Pl.below (l.take k) x) rfl hown1 l[k] (by rfl) (by omega) (by omega) ?_; intro v' w2 hown2 hgrow)
        go_roundw
        case rel => exact ⟨k + 1, by omega, by go_num, by rw [HS.out]; exact hown2, hB.trans hgrow⟩
        case measure => simp [intOf]; omega
      · go_wp2
        go_roundw
        case rel => exact ⟨k + 1, by omega, by go_num, by rw [HS.out]; simpa using hown1, hB⟩
        case measure => simp [intOf]; omega
    · have hz1' : w.heap.size + 1 ≤ wr.heap.size := by have := hb.size; simp at this; omega
      have hk' : l.take k = l := List.take_of_length_le (by omega)
      rw [hk'] at hown
      go_wp2
      go_ret
      exact ⟨_, rfl, row_mono hown (by omega), ((Below.refl _ _).alloc (Nat.le_refl _) _).trans (hb.mono (by omega))⟩

end Go.Proofs.YtnnnleckoinjoaaGreatDoor

namespace Go.Proofs.YtnnnleckoinjoaaGreatDoor
open Go.RowKit
open Pl (It)

/-- a row of n bools that the call made: its cells -/
theorem boolrow_cell {w : World} {base g n cap : Nat} {ins : List Bool} (h : w.ownsRow base 4 1 (.slice (some ⟨g, 0, none⟩) n cap) n (ins.map Value.bool)) (hl : ins.length = n) (j : Nat) (hj : j < n) :
    w.cell? ⟨g, j, none⟩ = some (.bool (ins[j]'(by omega))) := by
  rw [World.ownsRow.cellAt h j (by omega)]
  simp [show j < ins.length by omega]
theorem boolrow_set {w : World} {base g n cap : Nat} {ins : List Bool} (h : w.ownsRow base 4 1 (.slice (some ⟨g, 0, none⟩) n cap) n (ins.map Value.bool)) (j : Nat) (b : Bool) :
    (w.setCell ⟨g, j, none⟩ (.bool b)).ownsRow base 4 1 (.slice (some ⟨g, 0, none⟩) n cap) n ((ins.set j b).map Value.bool) := by
  rw [List.map_set]
  exact (World.ownsRow.stored h j (.bool b)).1

theorem ends_get {n : Nat} {l : List It} (h : Pl.Ends n l) (k : Nat) (hk : k < l.length) : ∃ a b : Nat, l[k].u = a ∧ l[k].v = b ∧ a < n ∧ b < n := by
  obtain ⟨h1, h2, h3, h4⟩ := h l[k] (List.getElem_mem hk)
  exact ⟨l[k].u.toNat, l[k].v.toNat, by omega, by omega, by omega, by omega⟩

theorem made_bools {w1 : World} {b n : Nat} (h : w1.ownsRow b 4 1 (.slice (some ⟨b, 0, none⟩) n n) n (madeCells (Value.bool false).cells (n * 1)).toList) :
    w1.ownsRow b 4 1 (.slice (some ⟨b, 0, none⟩) n n) n ((List.replicate n false).map Value.bool) := by
  have e : (madeCells (Value.bool false).cells (n * 1)).toList = (List.replicate n false).map Value.bool := by
    rw [Nat.mul_one, show (Value.bool false).cells = #[Value.bool false] from rfl, toList_madeCells_one]; simp
  rw [← e]; exact h

set_option maxRecDepth 100000 in
set_option maxHeartbeats 2000000 in
theorem spread_any (n : Nat) (l : List It) (u : Nat) (a : Option Addr) (cap : Nat) (w : World) (h : Its w 0 (.slice a l.length cap) l) (hl : l.length ≤ 100) (hn : n ≤ 30) (hu : u < n) (he : Pl.Ends n l) :
    Calls Tryz.prog 85 #[.int .i64 n, .slice a l.length cap, .int .i64 u] w fun e w' => e = .returned (.slice (some ⟨w.heap.size, 0, none⟩) n n) ∧ Bools w' w.heap.size (.slice (some ⟨w.heap.size, 0, none⟩) n n) (Pl.conns n l u) ∧ Below w.heap.size w w' := by
  obtain ⟨i0, hi, hz0, hz1, hz2⟩ := info_parts info4
  have hu1 : (u : Int) < n := by omega
  go_enter Tryz.func85, Tryz.ntmps85
  go_wp2_with (at_make; refine wpList_make_full _ rfl (.tmp 10) (.tmp 10) 119 rfl w.heap.size 4 i0 (.bool false) 1 Tryz.underlying119 hi hz0 hz1 .i64 .i64 n n n rfl rfl rfl rfl (by rw [hz2]; omega) (by unfold maxLen; omega) (Nat.le_refl _) ?_; intro w1 hown0 hgrow; have hown := made_bools hown0; clear hown0; have hf := World.ownsRow.frozenAt hown u; have hc := boolrow_cell hown (by simp) u (by omega))
  have hB1 : Below w.heap.size w (w1.setCell ⟨w.heap.size, u, none⟩ (.bool true)) := ((Below.refl _ _).grown hgrow (Nat.le_refl _) (fun _ h => by cases h)).setCell (Nat.le_refl _) _
  have hown2 := boolrow_set hown u true
  clear hf hc hown hgrow
  go_loopg [8] (2 * n + 1) (fun gk ag wr => ∃ (ins : List Bool) (q : Bool), ag = .bool q ∧ ins.length = n ∧ wr.ownsRow w.heap.size 4 1 (.slice (some ⟨w.heap.size, 0, none⟩) n n) n (ins.map Value.bool) ∧
      Below w.heap.size w wr ∧ Pl.Snd l u ins ∧ Pl.bit ins u = true ∧ (q = false → Pl.Cl l ins) ∧ 2 * Pl.falses ins + (if q then 1 else 0) ≤ gk)
  case atStart =>
    refine ⟨(List.replicate n false).set u true, true, rfl, by simp, hown2, hB1, ?_, ?_, (fun h => by cases h), ?_⟩
    · intro x hx
      rw [Pl.bit_set _ u (by simpa using hu)] at hx
      have hr : (List.replicate n false).getD x false = false := by simp [List.getD, List.getElem?_replicate]; split <;> rfl
      rw [hr] at hx
      have : x = u := by simpa using hx
      subst this; exact Pl.conn_refl _ _
    · unfold Pl.bit; rw [Int.toNat_natCast, Pl.bit_set _ u (by simpa using hu)]; simp
    · have := Pl.falses_le ((List.replicate n false).set u true); simp at this ⊢; omega
  case round =>
    obtain ⟨ins, q, rfl, hlen, hown, hb, hsnd, hbu, hcl, hm⟩ := hrel
    clear hown2 hB1
    cases q with
    | false =>
      have hdone : ins = Pl.conns n l u := Pl.done hlen hbu hsnd (hcl rfl)
      go_wp2
      go_ret
      exact ⟨rfl, by unfold Bools; rw [← hdone, hlen]; exact hown, hb⟩
    | true =>
      have A : Aside (Pl.Snd l u ins ∧ Pl.bit ins u = true ∧ 2 * Pl.falses ins + 1 ≤ gk) := ⟨hsnd, hbu, by simpa using hm⟩
      clear hsnd hbu hcl hm
      go_wp2
      go_loopg [8, 9] l.length (fun gj ag i wr => ∃ (jns : List Bool) (q : Bool) (k : Nat), k ≤ l.length ∧ i = .int .i64 k ∧ ag = .bool q ∧ jns.length = n ∧ wr.ownsRow w.heap.size 4 1 (.slice (some ⟨w.heap.size, 0, none⟩) n n) n (jns.map Value.bool) ∧
        Below w.heap.size w wr ∧ Pl.Snd l u jns ∧ Pl.bit jns u = true ∧ (q = false → Pl.Cl (l.take k) jns ∧ Pl.falses jns = Pl.falses ins) ∧ (q = true → Pl.falses jns < Pl.falses ins) ∧ l.length - k ≤ gj)
      case atStart => exact ⟨ins, false, 0, Nat.zero_le _, rfl, rfl, hlen, hown, hb, A.out.1, A.out.2.1, fun _ => ⟨Pl.cl_nil _, rfl⟩, (fun h => by cases h), by omega⟩
      case round =>
        obtain ⟨jns, q, k, hk, rfl, rfl, hlj, hownj, hbj, hsj, hbuj, hq0, hq1, hgj⟩ := hrel
        by_cases hlt : k < l.length
        · obtain ⟨g, rfl⟩ := row_some h (by omega)
          have hI : Its wr 0 (.slice (some ⟨g, 0, none⟩) l.length cap) l := row_below h hbj (Nat.le_refl _)
          obtain ⟨_, c1, c2, _⟩ := its_cells hI k hlt
          obtain ⟨ea, eb, hea, heb, ha, hb'⟩ := ends_get he k hlt
          rw [hea] at c1
          rw [heb] at c2
          have hk1 : (0 : Int) ≤ k := by omega
          have hk2 : (k : Int) < l.length := by omega
          have ha1 : (ea : Int) < n := by omega
          have hb1 : (eb : Int) < n := by omega
          have ca := boolrow_cell hownj hlj ea ha
          have cb := boolrow_cell hownj hlj eb hb'
          have fa := World.ownsRow.frozenAt hownj ea
          have fb := World.ownsRow.frozenAt hownj eb
          obtain ⟨p, hp⟩ : ∃ p, p = jns[ea]'(by omega) := ⟨_, rfl⟩
          obtain ⟨r, hr⟩ : ∃ r, r = jns[eb]'(by omega) := ⟨_, rfl⟩
          rw [← hp] at ca
          rw [← hr] at cb
          have A2 : Aside (∃ h1 : ea < jns.length, ∃ h2 : eb < jns.length, Pl.Snd l u jns ∧ Pl.bit jns u = true ∧ (q = false → Pl.Cl (l.take k) jns ∧ Pl.falses jns = Pl.falses ins) ∧ (q = true → Pl.falses jns < Pl.falses ins) ∧ jns.length = n ∧ l[k].u = ea ∧ l[k].v = eb ∧ p = jns[ea] ∧ r = jns[eb]) := ⟨by omega, by omega, hsj, hbuj, hq0, hq1, hlj, hea, heb, hp, hr⟩
          clear hI hsj hbuj hq0 hq1 hea heb hp hr hlj
          have same : p = r → jns.length = n ∧ Pl.Snd l u jns ∧ Pl.bit jns u = true ∧ (q = false → Pl.Cl (l.take (k + 1)) jns ∧ Pl.falses jns = Pl.falses ins) ∧ (q = true → Pl.falses jns < Pl.falses ins) := by
            intro e
            obtain ⟨h1, h2, t1, t2, t3, t4, t5, t6, t7, t8, t9⟩ := A2.out
            refine ⟨t5, t1, t2, fun hq => ⟨Pl.cl_snoc hlt rfl (t3 hq).1 ?_, (t3 hq).2⟩, t4⟩
            simp only [Pl.bit, t6, t7, Int.toNat_natCast, List.getD, List.getElem?_eq_getElem h1, List.getElem?_eq_getElem h2, ← t8, ← t9, e]
          have other : p ≠ r → ((jns.set ea true).set eb true).length = n ∧ Pl.Snd l u ((jns.set ea true).set eb true) ∧ Pl.bit ((jns.set ea true).set eb true) u = true ∧ Pl.falses ((jns.set ea true).set eb true) < Pl.falses ins := by
            intro e
            obtain ⟨h1, h2, t1, t2, t3, t4, t5, t6, t7, t8, t9⟩ := A2.out
            obtain ⟨s1, s2⟩ := Pl.brings (List.getElem_mem hlt) t6 t7 h1 h2 t1 (by rw [← t8, ← t9]; exact e)
            refine ⟨by simpa using t5, s1, Pl.bit_keeps _ (by simpa using h2) (Pl.bit_keeps _ h1 t2), ?_⟩
            cases hq : q with
            | false => have := (t3 hq).2; omega
            | true => have := t4 hq; omega
          have hgl : g < w.heap.size := (World.ownsRow.lt h g rfl).2
          have hgne : ¬ g = w.heap.size := by omega
          have S := hide same
          have O := hide other
          clear same other A2
          cases p <;> cases r
          · have S1 := hide (unhide S rfl)
            clear S O
            go_wp2_with fail
            go_quiet (fail)
            go_wp2
            obtain ⟨s1, s2, s3, s4, s5⟩ := unhide S1
            go_roundg (gk - 1)
            case measure => omega
            case rel => exact ⟨jns, q, k + 1, by omega, by go_num, rfl, s1, hownj, below_drewN hbj _, s2, s3, s4, s5, by omega⟩
          · have O1 := hide (unhide O (by decide))
            clear S O
            have hab : ¬ ea = eb := by rintro rfl; rw [ca] at cb; simp at cb
            have hba : ¬ eb = ea := fun e => hab e.symm
            go_wp2_with fail
            go_quiet (fail)
            go_wp2
            obtain ⟨s1, s2, s3, s4⟩ := unhide O1
            go_roundg (gk - 1)
            case measure => omega
            case rel => exact ⟨(jns.set ea true).set eb true, true, k + 1, by omega, by go_num, rfl, s1, boolrow_set (boolrow_set (w := wr.drewN nq) hownj ea true) eb true, ((below_drewN hbj _).setCell (Nat.le_refl _) _).setCell (Nat.le_refl _) _, s2, s3, (fun h => by cases h), fun _ => s4, by omega⟩
          · have O1 := hide (unhide O (by decide))
            clear S O
            have hab : ¬ ea = eb := by rintro rfl; rw [ca] at cb; simp at cb
            have hba : ¬ eb = ea := fun e => hab e.symm
            go_wp2_with fail
            go_quiet (fail)
            go_wp2
            obtain ⟨s1, s2, s3, s4⟩ := unhide O1
            go_roundg (gk - 1)
            case measure => omega
            case rel => exact ⟨(jns.set ea true).set eb true, true, k + 1, by omega, by go_num, rfl, s1, boolrow_set (boolrow_set (w := wr.drewN nq) hownj ea true) eb true, ((below_drewN hbj _).setCell (Nat.le_refl _) _).setCell (Nat.le_refl _) _, s2, s3, (fun h => by cases h), fun _ => s4, by omega⟩
          · have S1 := hide (unhide S rfl)
            clear S O
            go_wp2_with fail
            go_quiet (fail)
            go_wp2
            obtain ⟨s1, s2, s3, s4, s5⟩ := unhide S1
            go_roundg (gk - 1)
            case measure => omega
            case rel => exact ⟨jns, q, k + 1, by omega, by go_num, rfl, s1, hownj, below_drewN hbj _, s2, s3, s4, s5, by omega⟩
        · have e : l.take k = l := List.take_of_length_le (by omega)
          rw [e] at hq0
          have A2 : Aside (Pl.Snd l u jns ∧ Pl.bit jns u = true ∧ (q = false → Pl.Cl l jns ∧ Pl.falses jns = Pl.falses ins) ∧ (q = true → Pl.falses jns < Pl.falses ins)) := ⟨hsj, hbuj, hq0, hq1⟩
          clear hsj hbuj hq0 hq1
          go_wp2
          obtain ⟨hsj, hbuj, hq0, hq1⟩ := A2.out
          cases q with
          | false =>
            go_roundg (2 * Pl.falses jns)
            case measure => have := (hq0 rfl).2; have := A.out.2.2; omega
            case rel => exact ⟨jns, false, rfl, hlj, hownj, hbj, hsj, hbuj, fun _ => (hq0 rfl).1, by simp⟩
          | true =>
            go_roundg (2 * Pl.falses jns + 1)
            case measure => have := hq1 rfl; have := A.out.2.2; omega
            case rel => exact ⟨jns, true, rfl, hlj, hownj, hbj, hsj, hbuj, (fun h => by cases h), by simp⟩
end Go.Proofs.YtnnnleckoinjoaaGreatDoor

namespace Go.Proofs.YtnnnleckoinjoaaGreatDoor
open Go.RowKit
open Pl (It)

theorem spread_int (n : Nat) (l : List It) (u : Int) (a : Option Addr) (cap : Nat) (w : World) (h : Its w 0 (.slice a l.length cap) l) (hl : l.length ≤ 100) (hn : n ≤ 30) (h0 : 0 ≤ u) (hu : u < n) (he : Pl.Ends n l) :
    Calls Tryz.prog 85 #[.int .i64 n, .slice a l.length cap, .int .i64 u] w fun e w' => e = .returned (.slice (some ⟨w.heap.size, 0, none⟩) n n) ∧ Bools w' w.heap.size (.slice (some ⟨w.heap.size, 0, none⟩) n n) (Pl.conns n l u) ∧ Below w.heap.size w w' := by
  obtain ⟨k, rfl⟩ := Int.eq_ofNat_of_zero_le h0
  exact spread_any n l k a cap w h hl hn (by omega) he

theorem below_ends {n : Nat} {l : List It} {x : It} (he : Pl.Ends n l) : Pl.Ends n (Pl.below l x) := fun e h => he e (Pl.mem_below.1 h).1
theorem below_len (l : List It) (x : It) : (Pl.below l x).length ≤ l.length := List.length_filter_le _ _
/-- the bit of a vertex, in what spread hands back -/
theorem conns_cell {w : World} {base g n : Nat} {l : List It} {u v : Int} (h : Bools w base (.slice (some ⟨g, 0, none⟩) n n) (Pl.conns n l u)) (h0 : 0 ≤ v) (hv : v < n) :
    w.cell? ⟨g, v.toNat, none⟩ = some (.bool (Pl.conn l u v)) := by
  obtain ⟨k, rfl⟩ := Int.eq_ofNat_of_zero_le h0
  have hk : k < n := by omega
  have h' : Bools w base (.slice (some ⟨g, 0, none⟩) (Pl.conns n l u).length n) (Pl.conns n l u) := by rw [Pl.conns_length]; exact h
  rw [Int.toNat_natCast, bools_cell h' k (by rw [Pl.conns_length]; exact hk), Pl.conns_get n l u k hk]

set_option maxRecDepth 100000 in
set_option maxHeartbeats 1000000 in
theorem keeps_any (n : Nat) (l : List It) (x : It) (a : Option Addr) (cap : Nat) (w : World) (h : Its w 0 (.slice a l.length cap) l) (hl : l.length ≤ 100) (hn : n ≤ 30) (he : Pl.Ends n l)
    (u0 : 0 ≤ x.u) (u1 : x.u < n) (v0 : 0 ≤ x.v) (v1 : x.v < n) :
    Calls Tryz.prog 82 #[.int .i64 n, .slice a l.length cap, itv x] w fun e w' => e = .returned (.bool (Pl.keeps l x)) ∧ Below w.heap.size w w' := by
  have hbl := below_len l x
  go_enter Tryz.func82, Tryz.ntmps82
  go_wp2_with fail
  go_region_held3 (fun w' => w'.cell? ⟨w.heap.size, 0, none⟩ = some (.int .i64 x.id) ∧ w'.cell? ⟨w.heap.size, 1, none⟩ = some (.int .i64 x.u) ∧ w'.cell? ⟨w.heap.size, 2, none⟩ = some (.int .i64 x.v) ∧ w'.cell? ⟨w.heap.size, 3, none⟩ = some (.int .i64 x.w))
    (first | go_keep | (go_split_ands; refine ⟨?_, ?_, ?_, ?_⟩ <;> (refine cell_later hb1 ?_; first | assumption | simp [*])) | (go_split_ands; refine ⟨?_, ?_, ?_, ?_⟩ <;> (refine cell_later hb2 ?_; first | assumption | simp [*])))
    (first
      | (go_at_call 106; refine (below_any l x a cap _ (by exact (World.ownsRow.alloc h _)) hl).mono ?_; rintro e w1 ⟨vb, rfl, hob, hb1⟩; obtain ⟨a1, cap1, rfl⟩ := row_form hob)
      | (go_at_call 85; refine (spread_int n (Pl.below l x) x.u a1 cap1 _ (by exact row_mono hob (Nat.zero_le _)) (by omega) hn u0 u1 (below_ends he)).mono ?_; rintro e w2 ⟨rfl, hob2, hb2⟩))
  rename_i hHeld
  obtain ⟨_, _, d2, _⟩ := hHeld
  have cc := conns_cell hob2 v0 v1
  have hB : Below w.heap.size w w2 := (((Below.refl _ _).alloc (Nat.le_refl _) _).drew.trans (hb1.mono (by simp))).trans (hb2.mono (by have := hb1.size; simp at this; omega))
  clear hob hob2 hb1 hb2
  go_wp2
  go_ret
  exact ⟨rfl, hB⟩

set_option maxRecDepth 100000 in
set_option maxHeartbeats 1000000 in
theorem forest_any (n : Nat) (l : List It) (a : Option Addr) (cap : Nat) (w : World) (h : Its w 0 (.slice a l.length cap) l) (hl : l.length ≤ 100) (hn : n ≤ 30) (he : Pl.Ends n l) :
    Calls Tryz.prog 87 #[.int .i64 n, .slice a l.length cap] w fun e w' => ∃ v, e = .returned v ∧ Its w' w.heap.size v (Pl.forest l) ∧ Below w.heap.size w w' := by
  go_enter Tryz.func87, Tryz.ntmps87
  go_wp2
  go_loopg [5, 6] l.length (fun gk v i wr => ∃ k : Nat, k ≤ l.length ∧ i = .int .i64 k ∧ Its wr w.heap.size v ((l.take k).filter (Pl.keeps l)) ∧ Below w.heap.size w wr ∧ l.length - k ≤ gk)
  case atStart => exact ⟨0, Nat.zero_le _, rfl, World.ownsRow_nil _ _ _ _, Below.refl _ _, by omega⟩
  case round =>
    obtain ⟨k, hk, rfl, hown, hb, hgk⟩ := hrel
    by_cases hlt : k < l.length
    · obtain ⟨g, rfl⟩ := row_some h (by omega)
      have hI : Its wr 0 (.slice (some ⟨g, 0, none⟩) l.length cap) l := row_below h hb (Nat.le_refl _)
      obtain ⟨c0, c1, c2, c3⟩ := its_cells hI k hlt
      have hk1 : (0 : Int) ≤ k := by omega
      have hk2 : (k : Int) < l.length := by omega
      obtain ⟨u0, u1, v0, v1⟩ := he l[k] (List.getElem_mem hlt)
      have hlen : ((l.take k).filter (Pl.keeps l)).length ≤ k := Nat.le_trans (List.length_filter_le _ _) (by simp; omega)
      have hsz := hb.size
      have HS := hide (Pl.filter_snoc (Pl.keeps l) l k hlt)
      go_wp2_with (first | (go_at_call 82; refine (keeps_any n l l[k] (some ⟨g, 0, none⟩) cap _ (by exact hI) hl hn he u0 u1 v0 v1).mono ?_; rintro e w1 ⟨rfl, hb1⟩; have d0 := cell_later hb1 c0; have d1 := cell_later hb1 c1; have d2 := cell_later hb1 c2; have d3 := cell_later hb1 c3; clear c0 c1 c2 c3; generalize hq : Pl.keeps l l[k] = q at HS ⊢; have HQ := hide hq; clear hq; have hown1 := Its.later hown hb1 (Nat.le_refl _); have hsz1 := hb1.size; have hB := hb.trans (hb1.mono (by omega)); clear hown hb1 hI hb; cases q) | (at_builtin; refine wpList_append_item w1 rfl (.tmp 22) (.tmp 27) rfl w.heap.size u5 ((l.take k).filter (Pl.keeps l)) rfl hown1 l[k] (by rfl) (by omega) (by omega) ?_; intro v' w2 hown2 hgrow))
      · go_roundg (gk - 1)
        case measure => omega
        case rel => exact ⟨k + 1, by omega, by go_num, by rw [unhide HS]; simpa using hown1, hB, by omega⟩
      · go_roundg (gk - 1)
        case measure => omega
        case rel => exact ⟨k + 1, by omega, by go_num, by rw [unhide HS]; exact hown2, hB.trans hgrow, by omega⟩
    · have hk' : l.take k = l := List.take_of_length_le (by omega)
      rw [hk'] at hown
      go_wp2
      go_ret
      exact ⟨_, rfl, hown, hb⟩

end Go.Proofs.YtnnnleckoinjoaaGreatDoor

namespace Go.Proofs.YtnnnleckoinjoaaGreatDoor
open Go.RowKit
open Pl (It)

set_option maxRecDepth 100000 in
set_option maxHeartbeats 1000000 in
theorem find_any (l : List It) (id : Int) (a : Option Addr) (cap : Nat) (w : World) (h : Its w 0 (.slice a l.length cap) l) (hl : l.length ≤ 100) :
    Calls Tryz.prog 70 #[.slice a l.length cap, .int .i64 id] w fun e w' => ∃ r, e = .returned (.int .i64 r) ∧ Pl.FindIs l id r ∧ w = w' := by
  go_enter Tryz.func70, Tryz.ntmps70
  go_wp2
  go_loopg [5] l.length (fun gk i wr => ∃ k : Nat, k ≤ l.length ∧ i = .int .i64 k ∧ w = wr ∧ (∀ e, e ∈ l.take k → e.id ≠ id) ∧ l.length - k ≤ gk)
  case atStart => exact ⟨0, Nat.zero_le _, rfl, rfl, fun e h => by simp at h, by omega⟩
  case round =>
    obtain ⟨k, hk, rfl, rfl, hno, hgk⟩ := hrel
    have HN := hide hno
    clear hno
    by_cases hlt : k < l.length
    · obtain ⟨g, rfl⟩ := row_some h (by omega)
      obtain ⟨c0, _, _, _⟩ := its_cells h k hlt
      have hk1 : (0 : Int) ≤ k := by omega
      have hk2 : (k : Int) < l.length := by omega
      by_cases hq : l[k].id = id
      · have hq' : (l[k].id == id) = true := by simpa using hq
        have HQ := hide hq
        clear hq
        go_wp2
        go_ret
        exact ⟨_, rfl, Or.inr ⟨k, hlt, rfl, unhide HQ⟩, rfl⟩
      · have hq' : (l[k].id == id) = false := by simpa using hq
        have HQ := hide hq
        clear hq
        go_wp2
        go_roundg (gk - 1)
        case measure => omega
        case rel => exact ⟨k + 1, by omega, by go_num, rfl, Pl.none_snoc hlt (unhide HN) (unhide HQ), by omega⟩
    · go_wp2
      go_ret
      exact ⟨_, rfl, Or.inl ⟨rfl, by have := unhide HN; rw [List.take_of_length_le (by omega)] at this; exact this⟩, rfl⟩

set_option maxRecDepth 100000 in
set_option maxHeartbeats 1000000 in
theorem only_any (l m : List It) (a a2 : Option Addr) (cap cap2 : Nat) (w : World) (h : Its w 0 (.slice a l.length cap) l) (hl : l.length ≤ 100) (h2 : Its w 0 (.slice a2 m.length cap2) m) (hm : m.length ≤ 100) :
    Calls Tryz.prog 102 #[.slice a l.length cap, .slice a2 m.length cap2] w fun e w' => e = .returned (.int .i64 (Pl.only l m)) ∧ w = w' := by
  go_enter Tryz.func102, Tryz.ntmps102
  go_wp2
  go_loopg [5] l.length (fun gk i wr => ∃ k : Nat, k ≤ l.length ∧ i = .int .i64 k ∧ w = wr ∧ (∀ e, e ∈ l.take k → Pl.has m e.id = true) ∧ l.length - k ≤ gk)
  case atStart => exact ⟨0, Nat.zero_le _, rfl, rfl, fun e h => by simp at h, by omega⟩
  case round =>
    obtain ⟨k, hk, rfl, rfl, hno, hgk⟩ := hrel
    have HN := hide hno
    clear hno
    by_cases hlt : k < l.length
    · obtain ⟨g, rfl⟩ := row_some h (by omega)
      obtain ⟨c0, _, _, _⟩ := its_cells h k hlt
      have hk1 : (0 : Int) ≤ k := by omega
      have hk2 : (k : Int) < l.length := by omega
      go_wp2_with (go_at_call 70; go_must (refine (find_any m l[k].id a2 cap2 _ (by exact h2) hm).mono ?_); go_must (rintro e w1 ⟨r, rfl, hr, rfl⟩); have HR := hide hr; clear hr; go_must (by_cases hr0 : r < 0))
      · go_ret
        refine ⟨ret_int ?_, rfl⟩
        exact (Pl.only_hit hlt (unhide HN) ((Pl.findIs_has (unhide HR)).2.2 hr0)).symm
      · go_roundg (gk - 1)
        case measure => omega
        case rel => exact ⟨k + 1, by omega, by go_num, rfl, Pl.all_snoc hlt (unhide HN) ((Pl.findIs_has (unhide HR)).1.2 hr0), by omega⟩
    · go_wp2
      go_ret
      refine ⟨ret_int ?_, rfl⟩
      have := unhide HN; rw [List.take_of_length_le (by omega)] at this
      exact (Pl.only_miss this).symm

set_option maxRecDepth 100000 in
set_option maxHeartbeats 1000000 in
theorem ids_any (l : List It) (a : Option Addr) (cap : Nat) (w : World) (h : Its w 0 (.slice a l.length cap) l) (hl : l.length ≤ 100) :
    Calls Tryz.prog 86 #[.slice a l.length cap] w fun e w' => ∃ v, e = .returned v ∧ Nums w' w.heap.size v (l.map It.id) ∧ Below w.heap.size w w' := by
  go_enter Tryz.func86, Tryz.ntmps86
  go_wp2
  go_loopg [3, 4] l.length (fun gk v i wr => ∃ k : Nat, k ≤ l.length ∧ i = .int .i64 k ∧ Nums wr w.heap.size v ((l.take k).map It.id) ∧ Below w.heap.size w wr ∧ l.length - k ≤ gk)
  case atStart => exact ⟨0, Nat.zero_le _, rfl, World.ownsRow_nil _ _ _ _, Below.refl _ _, by omega⟩
  case round =>
    obtain ⟨k, hk, rfl, hown, hb, hgk⟩ := hrel
    by_cases hlt : k < l.length
    · obtain ⟨g, rfl⟩ := row_some h (by omega)
      obtain ⟨c0, _, _, _⟩ := its_cells (h.later hb (Nat.le_refl _)) k hlt
      have hk1 : (0 : Int) ≤ k := by omega
      have hk2 : (k : Int) < l.length := by omega
      have hlen : ((l.take k).map It.id).length ≤ k := by simp; omega
      have hsz := hb.size
      have HS := hide (Pl.ids_snoc l k hlt)
      go_wp2_with (at_builtin; refine wpList_append_num wr rfl (.tmp 11) (.tmp 17) rfl w.heap.size u3 ((l.take k).map It.id) rfl hown l[k].id (by rfl) (by omega) (by omega) ?_; intro v' w2 hown2 hgrow)
      go_roundg (gk - 1)
      case measure => omega
      case rel => exact ⟨k + 1, by omega, by go_num, by rw [unhide HS]; exact hown2, hb.trans hgrow, by omega⟩
    · have hk' : l.take k = l := List.take_of_length_le (by omega)
      rw [hk'] at hown
      go_wp2
      go_ret
      exact ⟨_, rfl, hown, hb⟩

end Go.Proofs.YtnnnleckoinjoaaGreatDoor

namespace Go.Proofs.YtnnnleckoinjoaaGreatDoor
open Go.RowKit
open Pl (It)

set_option maxRecDepth 100000 in
set_option maxHeartbeats 1000000 in
theorem parts_any (n : Nat) (l : List It) (a : Option Addr) (cap : Nat) (w : World) (h : Its w 0 (.slice a l.length cap) l) (hl : l.length ≤ 100) (hn : n ≤ 30) (he : Pl.Ends n l) :
    Calls Tryz.prog 88 #[.int .i64 n, .slice a l.length cap] w fun e w' => e = .returned (.int .i64 (Pl.parts n l)) ∧ Below w.heap.size w w' := by
  go_enter Tryz.func88, Tryz.ntmps88
  go_wp2
  go_loopg [5, 6] n (fun gk c i wr => ∃ u k : Nat, u ≤ n ∧ i = .int .i64 u ∧ c = .int .i64 k ∧ k = ((List.range u).filter (Pl.first l)).length ∧ k ≤ u ∧ Below w.heap.size w wr ∧ n - u ≤ gk)
  case atStart => exact ⟨0, 0, Nat.zero_le _, rfl, rfl, rfl, Nat.le_refl _, Below.refl _ _, by omega⟩
  case round =>
    obtain ⟨u, k, hu, rfl, rfl, hkk, hku, hb, hgk⟩ := hrel
    have HK := hide hkk
    clear hkk
    by_cases hlt : u < n
    · have hu2 : (u : Int) < n := by omega
      have hsz := hb.size
      go_wp2_with (go_at_call 85; refine (spread_int n l u a cap _ (by exact h.later hb (Nat.le_refl _)) hl hn (by omega) (by omega) he).mono ?_; rintro e w1 ⟨rfl, hob, hb1⟩; have hB := hb.trans (hb1.mono (by omega)); clear hb hb1)
      go_loopg [8, 9] u (fun gj f j wr2 => ∃ v : Nat, v ≤ u ∧ j = .int .i64 v ∧ f = .bool (Pl.firstTo l u v) ∧ wr2 = w1 ∧ u - v ≤ gj)
      case atStart => exact ⟨0, Nat.zero_le _, rfl, rfl, rfl, by omega⟩
      case round =>
        obtain ⟨v, hv, rfl, rfl, rfl, hgj⟩ := hrel
        by_cases hvl : v < u
        · have hv2 : (v : Int) < u := by omega
          have hv3 : (v : Int) < n := by omega
          have cc := conns_cell hob (show (0 : Int) ≤ v by omega) hv3
          rw [Int.toNat_natCast] at cc
          have HS := hide (Pl.firstTo_succ l u v)
          generalize hq : Pl.firstTo l u v = q at HS ⊢
          clear hq
          cases q
          · go_wp2
            go_roundg (gk - 1)
            case measure => omega
            case rel => exact ⟨v + 1, by omega, by go_num, by rw [unhide HS]; simp, rfl, by omega⟩
          · go_wp2
            go_roundg (gk - 1)
            case measure => omega
            case rel => exact ⟨v + 1, by omega, by go_num, by rw [unhide HS]; simp, rfl, by omega⟩
        · have hvu : v = u := by omega
          subst hvu
          rw [Pl.firstTo_all]
          have HS := hide (Pl.parts_snoc l v)
          generalize hq : Pl.first l v = q at HS ⊢
          clear hq
          cases q
          · go_wp2
            go_roundg (n - (v + 1))
            case measure => omega
            case rel => exact ⟨v + 1, k, by omega, by go_num, rfl, by rw [unhide HS]; simpa using unhide HK, by omega, hB, by omega⟩
          · go_wp2
            go_roundg (n - (v + 1))
            case measure => omega
            case rel => exact ⟨v + 1, k + 1, by omega, by go_num, by go_num, by rw [unhide HS, ← unhide HK]; simp, by omega, hB, by omega⟩
    · have hun : u = n := by omega
      subst hun
      go_wp2
      go_ret
      exact ⟨ret_int (by rw [unhide HK]; rfl), hb⟩

end Go.Proofs.YtnnnleckoinjoaaGreatDoor

namespace Go.Proofs.YtnnnleckoinjoaaGreatDoor
open Go.RowKit
open Pl (It)

set_option maxRecDepth 100000 in
set_option maxHeartbeats 2000000 in
theorem with_any (l : List It) (x : It) (a : Option Addr) (cap : Nat) (w : World) (h : Its w 0 (.slice a l.length cap) l) (hl : l.length ≤ 100) :
    Calls Tryz.prog 71 #[.slice a l.length cap, itv x] w fun e w' => ∃ v, e = .returned v ∧ Its w' w.heap.size v (Pl.withI l x) ∧ Below w.heap.size w w' := by
  unfold itv
  have hfl := Pl.filter_split l x.id
  go_enter Tryz.func71, Tryz.ntmps71
  go_wp2
  go_loopg [5, 6] l.length (fun gk v i wr => ∃ k : Nat, k ≤ l.length ∧ i = .int .i64 k ∧ Its wr (w.heap.size + 1) v ((l.take k).filter (fun e => decide (e.id < x.id))) ∧
      Below (w.heap.size + 1) (w.alloc (.cells #[.int .i64 x.id, .int .i64 x.u, .int .i64 x.v, .int .i64 x.w] 97)) wr ∧ l.length - k ≤ gk)
  case atStart => exact ⟨0, Nat.zero_le _, rfl, World.ownsRow_nil _ _ _ _, Below.refl _ _, by omega⟩
  case round =>
    obtain ⟨k, hk, rfl, hown, hb, hgk⟩ := hrel
    have hz1' : w.heap.size + 1 ≤ wr.heap.size := by have := hb.size; simp at this; omega
    have d0 : wr.cell? ⟨w.heap.size, 0, none⟩ = some (.int .i64 x.id) := (hb.cell (by simp)).trans (by simp)
    have d1 : wr.cell? ⟨w.heap.size, 1, none⟩ = some (.int .i64 x.u) := (hb.cell (by simp)).trans (by simp)
    have d2 : wr.cell? ⟨w.heap.size, 2, none⟩ = some (.int .i64 x.v) := (hb.cell (by simp)).trans (by simp)
    have d3 : wr.cell? ⟨w.heap.size, 3, none⟩ = some (.int .i64 x.w) := (hb.cell (by simp)).trans (by simp)
    by_cases hlt : k < l.length
    · obtain ⟨g, rfl⟩ := row_some h (by omega)
      have hI : Its wr 0 (.slice (some ⟨g, 0, none⟩) l.length cap) l := row_below (h.alloc _) hb (by simp)
      obtain ⟨c0, c1, c2, c3⟩ := its_cells hI k hlt
      have hk1 : (0 : Int) ≤ k := by omega
      have hk2 : (k : Int) < l.length := by omega
      have hlen : ((l.take k).filter (fun e => decide (e.id < x.id))).length ≤ k := Nat.le_trans (List.length_filter_le _ _) (by simp; omega)
      have HS := hide (Pl.filter_snoc (fun e => decide (e.id < x.id)) l k hlt)
      by_cases hq : l[k].id < x.id
      · go_wp2_with fail
        go_quiet (fail)
        go_wp2_with (at_builtin; refine wpList_append_item (wr.drewN nq) rfl (.tmp 22) (.tmp 27) rfl (w.heap.size + 1) u5 _ rfl (by exact hown) l[k] (by rfl) (by omega) (by exact hz1') ?_; intro v' w2 hown2 hgrow)
        go_roundg (gk - 1)
        case measure => omega
        case rel => exact ⟨k + 1, by omega, by go_num, by rw [unhide HS]; simp only [hq, decide_true, if_true]; exact hown2, (below_drewN hb _).trans hgrow, by omega⟩
      · go_wp2_with fail
        go_quiet (fail)
        go_wp2
        go_roundg (gk - 1)
        case measure => omega
        case rel => exact ⟨k + 1, by omega, by go_num, by rw [unhide HS, if_neg (by simp; omega), List.append_nil]; exact hown, below_drewN hb _, by omega⟩
    · have hk' : l.take k = l := List.take_of_length_le (by omega)
      rw [hk'] at hown
      have hlen : (l.filter (fun e => decide (e.id < x.id))).length ≤ l.length := List.length_filter_le _ _
      go_wp2_with (at_builtin; refine wpList_append_item wr rfl (.tmp 29) (.tmp 31) rfl (w.heap.size + 1) u5 _ rfl hown x (by rfl) (by omega) (by omega) ?_; intro v' w2 hown2 hgrow; have hb2 := hb.trans hgrow; clear hown hb hgrow d0 d1 d2 d3)
      go_loopg [5, 7] l.length (fun gk v i wr => ∃ k : Nat, k ≤ l.length ∧ i = .int .i64 k ∧ Its wr (w.heap.size + 1) v ((l.filter (fun e => decide (e.id < x.id)) ++ [x]) ++ (l.take k).filter (fun e => decide (x.id < e.id))) ∧
          Below (w.heap.size + 1) (w.alloc (.cells #[.int .i64 x.id, .int .i64 x.u, .int .i64 x.v, .int .i64 x.w] 97)) wr ∧ l.length - k ≤ gk)
      case atStart => exact ⟨0, Nat.zero_le _, rfl, by simpa using hown2, hb2, by omega⟩
      case round =>
        clear hown2 hb2 hk hlt hgk
        obtain ⟨k, hk, rfl, hown, hb, hgk⟩ := hrel
        have hz1' : w.heap.size + 1 ≤ wr.heap.size := by have := hb.size; simp at this; omega
        have d0 : wr.cell? ⟨w.heap.size, 0, none⟩ = some (.int .i64 x.id) := (hb.cell (by simp)).trans (by simp)
        by_cases hlt : k < l.length
        · obtain ⟨g, rfl⟩ := row_some h (by omega)
          have hI : Its wr 0 (.slice (some ⟨g, 0, none⟩) l.length cap) l := row_below (h.alloc _) hb (by simp)
          obtain ⟨c0, c1, c2, c3⟩ := its_cells hI k hlt
          have hk1 : (0 : Int) ≤ k := by omega
          have hk2 : (k : Int) < l.length := by omega
          have hlen2 : ((l.filter (fun e => decide (e.id < x.id)) ++ [x]) ++ (l.take k).filter (fun e => decide (x.id < e.id))).length ≤ 300 := by
            have := Nat.le_trans (List.length_filter_le (fun e => decide (x.id < e.id)) (l.take k)) (List.length_take_le _ _)
            simp only [List.length_append, List.length_cons, List.length_nil]; omega
          have HS := hide (Pl.filter_snoc (fun e => decide (x.id < e.id)) l k hlt)
          by_cases hq : x.id < l[k].id
          · go_wp2_with fail
            go_quiet (fail)
            go_wp2_with (at_builtin; refine wpList_append_item (wr.drewN nq) rfl (.tmp 47) (.tmp 52) rfl (w.heap.size + 1) u5 _ rfl (by exact hown) l[k] (by rfl) (by omega) (by exact hz1') ?_; intro v' w2 hown2 hgrow)
            go_roundg (gk - 1)
            case measure => omega
            case rel => exact ⟨k + 1, by omega, by go_num, by rw [unhide HS]; simp only [hq, decide_true, if_true]; rw [← List.append_assoc]; exact hown2, (below_drewN hb _).trans hgrow, by omega⟩
          · go_wp2_with fail
            go_quiet (fail)
            go_wp2
            go_roundg (gk - 1)
            case measure => omega
            case rel => exact ⟨k + 1, by omega, by go_num, by rw [unhide HS, if_neg (by simp; omega), List.append_nil]; exact hown, below_drewN hb _, by omega⟩
        · have hk'' : l.take k = l := List.take_of_length_le (by omega)
          rw [hk''] at hown
          go_wp2
          go_ret
          refine ⟨_, rfl, ?_, ((Below.refl _ _).alloc (Nat.le_refl _) _).trans (hb.mono (by omega))⟩
          have := row_mono hown (show w.heap.size ≤ w.heap.size + 1 by omega)
          unfold Pl.withI
          simpa [Its] using this

end Go.Proofs.YtnnnleckoinjoaaGreatDoor

namespace Go.Proofs.YtnnnleckoinjoaaGreatDoor
open Go.RowKit
open Pl (It)

set_option maxHeartbeats 400000 in
theorem number_any (id : Int) (w : World) :
    Calls Tryz.prog 68 #[.int .i64 id] w fun e w' => e = .returned (.bool (Pl.numB id)) ∧ w = w' := by
  go_enter Tryz.func68, Tryz.ntmps68
  go_wp2
  all_goals go_ret
  all_goals exact ⟨ret_bool (by rw [Bool.eq_iff_iff, Pl.numB_true]; simp; try omega), rfl⟩

set_option maxHeartbeats 400000 in
theorem vertex_any (b n : Nat) (u : Int) (w : World) (h0 : w.cell? ⟨b, 0, none⟩ = some (.int .i64 n)) :
    Calls Tryz.prog 69 #[.pointer (some ⟨b, 0, none⟩), .int .i64 u] w fun e w' => e = .returned (.bool (Pl.verB n u)) ∧ w = w' := by
  go_enter Tryz.func69, Tryz.ntmps69
  go_wp2
  all_goals go_ret
  all_goals exact ⟨ret_bool (by rw [Bool.eq_iff_iff, Pl.verB_true]; simp; try omega), rfl⟩

theorem forest_len (l : List It) : (Pl.forest l).length ≤ l.length := List.length_filter_le _ _

set_option maxRecDepth 100000 in
set_option maxHeartbeats 1000000 in
theorem change_any (n : Nat) (l m : List It) (a a2 : Option Addr) (cap cap2 : Nat) (w : World) (h : Its w 0 (.slice a l.length cap) l) (hl : l.length ≤ 100) (h2 : Its w 0 (.slice a2 m.length cap2) m) (hm : m.length ≤ 100) (hn : n ≤ 30) (he : Pl.Ends n l) (he2 : Pl.Ends n m) :
    Calls Tryz.prog 80 #[.int .i64 n, .slice a l.length cap, .slice a2 m.length cap2] w fun e w' =>
      e = .returned (.agg #[.int .i64 (Pl.only (Pl.forest m) (Pl.forest l)), .int .i64 (Pl.only (Pl.forest l) (Pl.forest m))]) ∧ Below w.heap.size w w' := by
  have hfl := forest_len l
  have hfm := forest_len m
  go_enter Tryz.func80, Tryz.ntmps80
  go_wp2_with fail
  refine (forest_any n l a cap _ (by exact (World.ownsRow.alloc h _)) hl hn he).mono ?_
  rintro e w1 ⟨v1, rfl, o1, b1⟩
  obtain ⟨a1, c1, rfl⟩ := row_form o1
  go_wp2_with fail
  refine (forest_any n m a2 cap2 _ (by exact Its.later (World.ownsRow.alloc h2 _) b1 (Nat.le_refl _)) hm hn he2).mono ?_
  rintro e w2 ⟨v2, rfl, o2, b2⟩
  obtain ⟨a3, c3, rfl⟩ := row_form o2
  have o1' := Its.later o1 b2 (Nat.le_refl _)
  go_wp2_with fail
  refine (only_any (Pl.forest m) (Pl.forest l) a3 a1 c3 c1 _ (by exact row_mono o2 (Nat.zero_le _)) (by omega) (by exact row_mono o1' (Nat.zero_le _)) (by omega)).mono ?_
  rintro e w3 ⟨rfl, rfl⟩
  go_wp2_with fail
  refine (only_any (Pl.forest l) (Pl.forest m) a1 a3 c1 c3 _ (by exact row_mono o1' (Nat.zero_le _)) (by omega) (by exact row_mono o2 (Nat.zero_le _)) (by omega)).mono ?_
  rintro e w4 ⟨rfl, rfl⟩
  have hsz1 := b1.size
  simp only [World.size_alloc] at b1 hsz1
  have hB := b1.trans (b2.mono (by omega))
  obtain ⟨r0, r1, rf⟩ := two_cells (made_later hB (by omega))
  have rf0 := rf 0
  have rf1 := rf 1
  clear rf o1 o2 o1' b1 b2
  go_wp2
  exact bodyPost_ret (v := .agg #[.int .i64 (Pl.only (Pl.forest m) (Pl.forest l)), .int .i64 (Pl.only (Pl.forest l) (Pl.forest m))]) (by simp [results, Tryz.results80, go_sem, r0, r1]) rfl ⟨rfl, ((((Below.refl _ _).alloc (Nat.le_refl _) _).trans (hB.mono (by omega))).setCell (Nat.le_refl _) _).setCell (Nat.le_refl _) _⟩

end Go.Proofs.YtnnnleckoinjoaaGreatDoor

namespace Go.Proofs.YtnnnleckoinjoaaGreatDoor
open Go.RowKit
open Pl (It)


/-- what can be taken back, opened: the value, its cells -/
theorem past_open {w : World} {v : Value} {past : List (List It)} (h : PastAt w v past) :
    ∃ ao cap, v = .slice ao past.length cap ∧ (ao = none → past.length = 0 ∧ cap = 0) ∧ (∀ ad, ao = some ad → ∃ g off cur, ad = ⟨g, off, none⟩ ∧ w.heap[g]? = some (.cells cur 76 (0, 0)) ∧ past.length ≤ cap ∧ off + cap ≤ cur.size ∧ cap ≤ maxLen ∧
      ∀ j (h : j < past.length), ∃ vj, cur[off + j]? = some vj ∧ Its w 0 vj past[j]) := by
  rcases h with ⟨rfl, rfl⟩ | ⟨g, off, cap, cur, rfl, h1, h2, h3, h4, h5⟩
  · exact ⟨none, 0, rfl, fun _ => ⟨rfl, rfl⟩, fun ad e => by cases e⟩
  · refine ⟨_, cap, rfl, (fun e => by cases e), fun ad e => ?_⟩
    cases e
    exact ⟨g, off, cur, rfl, h1, h2, h3, h4, h5⟩

/-- room: the new list is laid behind the others -/
theorem past_room {w : World} {g off cap : Nat} {cur : Array Value} {past : List (List It)} (hh : w.heap[g]? = some (.cells cur 76 (0, 0))) (h1 : past.length + 1 ≤ cap) (h2 : off + cap ≤ cur.size) (h4 : cap ≤ maxLen)
    (h3 : ∀ j (h : j < past.length), ∃ vj, cur[off + j]? = some vj ∧ Its w 0 vj past[j]) (L : List It) (vL : Value) (hL : Its w 0 vL L) :
    PastAt (w.setCell ⟨g, off + past.length, none⟩ vL) (.slice (some ⟨g, off, none⟩) (past.length + 1) cap) (past ++ [L]) := by
  have hf : Fr (fun k => k = g) w (w.setCell ⟨g, off + past.length, none⟩ vL) := Fr.setCell (S := fun k => k = g) (Fr.refl _ _) (p := ⟨g, off + past.length, none⟩) (Or.inl rfl) _
  have hn : NoIt (fun k => k = g) w := by rintro k c f hk rfl; rw [hh] at hk; simp at hk
  refine Or.inr ⟨g, off, cap, cur.setIfInBounds (off + past.length) vL, by simp, heap_setCell_same w g _ cur _ vL hh, by simpa using h1, by simpa using h2, h4, fun j hj => ?_⟩
  by_cases hjp : j < past.length
  · obtain ⟨vj, e1, e2⟩ := h3 j hjp
    refine ⟨vj, ?_, ?_⟩
    · rw [Array.getElem?_setIfInBounds_ne (by omega)]; exact e1
    · rw [List.getElem_append_left hjp]; exact its_fr e2 hf hn
  · have hj' : j = past.length := by simp at hj; omega
    subst hj'
    refine ⟨vL, ?_, ?_⟩
    · rw [Array.getElem?_setIfInBounds_self, if_pos (by omega)]
    · rw [List.getElem_append_right (Nat.le_refl _)]; simpa using its_fr hL hf hn

/-- the oldest of more than twenty can't be taken back any more -/
theorem past_tail {w : World} {g off n cap : Nat} {q : List (List It)} (h : PastAt w (.slice (some ⟨g, off, none⟩) n cap) q) (hq : 0 < q.length) : PastAt w (.slice (some ⟨g, off + 1, none⟩) (n - 1) (cap - 1)) q.tail := by
  rcases h with ⟨h, _⟩ | ⟨g', off', cap', cur, hv, h1, h2, h3, h4, h5⟩
  · cases h
  · simp only [Value.slice.injEq, Option.some.injEq, Addr.mk.injEq, and_true] at hv
    obtain ⟨⟨rfl, rfl⟩, rfl, rfl⟩ := hv
    refine Or.inr ⟨g, off + 1, cap - 1, cur, by simp, h1, by simp; omega, by omega, by omega, fun j hj => ?_⟩
    simp at hj
    obtain ⟨vj, e1, e2⟩ := h5 (j + 1) (by omega)
    exact ⟨vj, by rw [← e1]; congr 1; omega, by simpa using e2⟩

theorem past_grown {w' : World} {base : Nat} {v' : Value} {past : List (List It)} {L : List It} {olds : List Value} {vL : Value} (h : w'.ownsRow base 76 1 v' (past.length + 1) (olds ++ [vL])) (ho : olds.length = past.length)
    (h3 : ∀ j (h : j < past.length), ∃ vj, olds[j]? = some vj ∧ Its w' 0 vj past[j]) (hL : Its w' 0 vL L) : ∃ g cap, v' = .slice (some ⟨g, 0, none⟩) (past.length + 1) cap ∧ base ≤ g ∧ PastAt w' v' (past ++ [L]) := by
  rcases h.2 with ⟨_, h2⟩ | ⟨g, cap, cur, hv, hb, hh, h4, h5, h6, h7⟩
  · omega
  · refine ⟨g, cap, hv, hb, Or.inr ⟨g, 0, cap, cur, by simpa using hv, hh, by simpa using h4, by omega, h5, fun j hj => ?_⟩⟩
    have hc : cur[0 + j]? = (olds ++ [vL])[j]? := by
      rw [← h7, Nat.zero_add]
      simp at hj
      rw [List.getElem?_take_of_lt (by omega), Array.getElem?_toList]
    by_cases hjp : j < past.length
    · obtain ⟨vj, e1, e2⟩ := h3 j hjp
      refine ⟨vj, ?_, ?_⟩
      · rw [hc, List.getElem?_append_left (by omega)]; exact e1
      · rw [List.getElem_append_left hjp]; exact e2
    · have hj' : j = past.length := by simp at hj; omega
      subst hj'
      refine ⟨vL, ?_, ?_⟩
      · rw [hc, List.getElem?_append_right (by omega)]; simp [ho]
      · rw [List.getElem_append_right (Nat.le_refl _)]; simpa using hL

/-- the values of what can be taken back -/
theorem olds_of {w : World} {off : Nat} {cur : Array Value} {past : List (List It)} (h2 : off + past.length ≤ cur.size) (h5 : ∀ j (h : j < past.length), ∃ vj, cur[off + j]? = some vj ∧ Its w 0 vj past[j]) :
    ∃ olds : List Value, olds.length = past.length ∧ (∀ j u, olds[j]? = some u → cur[off + j]? = some u) ∧ ∀ j (h : j < past.length), ∃ vj, olds[j]? = some vj ∧ Its w 0 vj past[j] := by
  refine ⟨(cur.extract off (off + past.length)).toList, by simp; omega, fun j u hu => ?_, fun j hj => ?_⟩
  · rw [Array.getElem?_toList, Array.getElem?_extract] at hu
    split at hu
    · exact hu
    · cases hu
  · obtain ⟨vj, e1, e2⟩ := h5 j hj
    refine ⟨vj, ?_, e2⟩
    rw [Array.getElem?_toList, Array.getElem?_extract, if_pos (by omega)]; exact e1

theorem ne_later {W w1 : World} {B : Nat} (hb : Below B W w1) {b : Nat} (h : b < W.heap.size) : ¬ b = w1.heap.size := by have := hb.size; omega
theorem lt_alloc {b : Nat} {w : World} {o : Obj} (h : b < w.heap.size) : b < (w.alloc o).drew.heap.size := by
  show b < (w.alloc o).heap.size
  rw [World.size_alloc]; omega
theorem var_facts {W w1 : World} {v0 v1 : Value} {t : Nat} (hb : Below (W.alloc (.cells #[v0, v1] t)).drew.heap.size (W.alloc (.cells #[v0, v1] t)).drew w1) :
    w1.cell? ⟨W.heap.size, 0, none⟩ = some v0 ∧ w1.cell? ⟨W.heap.size, 1, none⟩ = some v1 ∧ w1.frozen? ⟨W.heap.size, 0, none⟩ = false ∧ w1.frozen? ⟨W.heap.size, 1, none⟩ = false :=
  ⟨(hb.cell (by simp)).trans (by simp), (hb.cell (by simp)).trans (by simp), (hb.frozen (by simp)).trans (by simp), (hb.frozen (by simp)).trans (by simp)⟩

theorem undrew {B : Nat} {w w1 : World} (h : Below B w.drew w1) : Below B w w1 := ⟨h.os, h.tape, h.output, h.size, h.block⟩
theorem one_new (w : World) (v : Value) (t : Nat) : ∀ j u, [v][j]? = some u → ((w.alloc (.cells #[v] t)).drew).cell? ((⟨w.heap.size, 0, none⟩ : Addr).add j) = some u := by
  intro j u hj
  match j, hj with
  | 0, hj => simp at hj; subst hj; simp [Addr.add]
  | n + 1, hj => simp at hj
theorem cut1 {w w1 : World} {r c : Obj} (hb : Below (w.alloc r).drew.heap.size (w.alloc r).drew w1) :
    w.heap.size < w1.heap.size ∧ (w1.alloc c).heap[w1.heap.size]? = some c ∧ (w1.alloc c).heap[w.heap.size]? = some r ∧ Below w.heap.size w (w1.alloc c) := by
  have hb' : Below (w.heap.size + 1) (w.alloc r) w1 := by
    have e : (w.alloc r).drew.heap.size = w.heap.size + 1 := World.size_alloc _ _
    rw [e] at hb; exact undrew hb
  have hs : w.heap.size + 1 ≤ w1.heap.size := by have := hb'.size; rw [World.size_alloc] at this; exact this
  refine ⟨by omega, heap_alloc_new _ _, ?_, ?_⟩
  · rw [Below.heap_alloc _ _ _ (by omega)]; exact made_later hb' (by omega)
  · exact (((Below.refl _ _).alloc (Nat.le_refl _) _).trans (hb'.mono (by omega))).alloc (by omega) _
theorem cut2 {w w1 : World} {r : Obj} {t : Nat} {x0 y0 x y : Value} (hb : Below ((w.alloc r).alloc (.cells #[x0, y0] t)).drew.heap.size ((w.alloc r).alloc (.cells #[x0, y0] t)).drew w1) :
    w.heap.size < w.heap.size + 1 ∧ ((w1.setCell ⟨w.heap.size + 1, 0, none⟩ x).setCell ⟨w.heap.size + 1, 1, none⟩ y).heap[w.heap.size + 1]? = some (.cells #[x, y] t (0, 0)) ∧
    ((w1.setCell ⟨w.heap.size + 1, 0, none⟩ x).setCell ⟨w.heap.size + 1, 1, none⟩ y).heap[w.heap.size]? = some r ∧ Below w.heap.size w ((w1.setCell ⟨w.heap.size + 1, 0, none⟩ x).setCell ⟨w.heap.size + 1, 1, none⟩ y) := by
  have hb' : Below (w.heap.size + 2) ((w.alloc r).alloc (.cells #[x0, y0] t)) w1 := by
    have e : ((w.alloc r).alloc (.cells #[x0, y0] t)).drew.heap.size = w.heap.size + 2 := by
      show ((w.alloc r).alloc (.cells #[x0, y0] t)).heap.size = _
      rw [World.size_alloc, World.size_alloc]
    rw [e] at hb; exact undrew hb
  have h0 : w1.heap[w.heap.size]? = some r := by
    rw [hb'.block _ (by omega), Below.heap_alloc _ _ _ (by rw [World.size_alloc]; omega)]; exact heap_alloc_new _ _
  have h1 : w1.heap[w.heap.size + 1]? = some (.cells #[x0, y0] t (0, 0)) := by
    rw [hb'.block _ (by omega)]
    have := heap_alloc_new (w.alloc r) (.cells #[x0, y0] t)
    rw [World.size_alloc] at this; exact this
  refine ⟨by omega, set_two h1, ?_, ?_⟩
  · rw [Below.heap_setCell _ _ _ _ (by simp), Below.heap_setCell _ _ _ _ (by simp)]; exact h0
  · exact (((((Below.refl _ _).alloc (Nat.le_refl _) _).alloc (by rw [World.size_alloc]; omega) _).trans (hb'.mono (by omega))).setCell (by simp) _).setCell (by simp) _

theorem turns_end {S : Nat → Prop} {w wc : World} {b n most : Nat} {l : List It} {q : List (List It)} {vL vP vl vP' x y : Value} (hr : wc.heap[w.heap.size]? = some (.cells #[.int .i64 0, .int .i64 0] 73 (0, 0)))
    (m1 : wc.heap[b]? = some (.cells #[.int .i64 n, .int .i64 most, vL, vP] 79 (0, 0))) (hpa : PastAt wc vP' q) (hl : Its wc 0 vl l) (hF : Fr S w wc) (hS : S b) :
    RG ((((wc.setCell ⟨b, 3, none⟩ vP').setCell ⟨b, 2, none⟩ vl).setCell ⟨w.heap.size, 0, none⟩ x).setCell ⟨w.heap.size, 1, none⟩ y) b n most l q vP'.ownBlock ∧
    Fr S w ((((wc.setCell ⟨b, 3, none⟩ vP').setCell ⟨b, 2, none⟩ vl).setCell ⟨w.heap.size, 0, none⟩ x).setCell ⟨w.heap.size, 1, none⟩ y) := by
  have hbr : b ≠ w.heap.size := by rintro rfl; rw [hr] at m1; simp at m1
  have hF2 : Fr (fun k => k = b ∨ k = w.heap.size) wc ((((wc.setCell ⟨b, 3, none⟩ vP').setCell ⟨b, 2, none⟩ vl).setCell ⟨w.heap.size, 0, none⟩ x).setCell ⟨w.heap.size, 1, none⟩ y) := by
    refine Fr.setCell (Fr.setCell (Fr.setCell (Fr.setCell (Fr.refl _ _) ?_ _) ?_ _) ?_ _) ?_ _
    · exact Or.inl (Or.inl rfl)
    · exact Or.inl (Or.inl rfl)
    · exact Or.inl (Or.inr rfl)
    · exact Or.inl (Or.inr rfl)
  have hno : NoIt (fun k => k = b ∨ k = w.heap.size) wc := by
    rintro k c f hk (rfl | rfl)
    · rw [m1] at hk; simp at hk
    · rw [hr] at hk; simp at hk
  refine ⟨⟨vl, vP', ?_, its_fr hl hF2 hno, past_fr hpa hF2 hno ?_, rfl⟩, ?_⟩
  · rw [Below.heap_setCell _ _ _ _ hbr, Below.heap_setCell _ _ _ _ hbr]
    have h1 := heap_setCell_same wc b 3 _ _ vP' m1
    have h2 := heap_setCell_same _ b 2 _ _ vl h1
    rw [h2]; rfl
  · intro k hk
    rcases hpa with ⟨rfl, _⟩ | ⟨g, off, cap, cur, rfl, hh, _⟩
    · cases hk
    · simp [Value.ownBlock] at hk
      subst hk
      rintro (rfl | rfl)
      · rw [m1] at hh; simp at hh
      · rw [hr] at hh; simp at hh
  · refine Fr.setCell (Fr.setCell (Fr.setCell (Fr.setCell hF ?_ _) ?_ _) ?_ _) ?_ _
    · exact Or.inl hS
    · exact Or.inl hS
    · exact Or.inr (Nat.le_refl _)
    · exact Or.inr (Nat.le_refl _)

set_option maxRecDepth 100000 in
set_option maxHeartbeats 2000000 in
theorem turns_any (b n most : Nat) (L l : List It) (past : List (List It)) (p : Option Nat) (a : Option Addr) (cap : Nat) (w : World) (hG : RG w b n most L past p) (h : Its w 0 (.slice a l.length cap) l)
    (hl : l.length ≤ 100) (hL : L.length ≤ 100) (hn : n ≤ 30) (he : Pl.Ends n L) (he2 : Pl.Ends n l) (hp : past.length ≤ 20) :
    Calls Tryz.prog 72 #[.pointer (some ⟨b, 0, none⟩), .slice a l.length cap] w fun e w' =>
      e = .returned (.agg #[.int .i64 (Pl.only (Pl.forest l) (Pl.forest L)), .int .i64 (Pl.only (Pl.forest L) (Pl.forest l))]) ∧ ∃ p', RG w' b n most l (push past L) p' ∧ (p' = p ∨ ∃ k, p' = some k ∧ w.heap.size ≤ k) ∧ Fr (fun k => k = b ∨ p = some k) w w' := by
  obtain ⟨vL, vP, hb, hIL, hP, hpo⟩ := hG
  obtain ⟨aL, capL, rfl⟩ := row_form hIL
  obtain ⟨ao, capP, rfl, hao, hsome⟩ := past_open hP
  obtain ⟨c0, c1, c2, c3, cf⟩ := four_cells hb
  have hbl := lt_of_block hb
  have hbl2 : b < (w.alloc (.cells #[.int .i64 0, .int .i64 0] 73)).heap.size := by rw [World.size_alloc]; omega
  have hbne : ¬ b = w.heap.size := by omega
  have hbne1 : ¬ b = w.heap.size + 1 := by omega
  have hbne2 : ¬ w.heap.size = b := by omega
  have hbne3 : ¬ w.heap.size + 1 = b := by omega
  have Hao := hide hao
  have Hsome := hide hsome
  have Hb := hide hb
  have Hpo := hide hpo
  have Hcf := hide cf
  clear hao hsome hb hpo cf
  have K1 : Aside (Its w 0 (.slice aL L.length capL) L ∧ Its w 0 (.slice a l.length cap) l ∧ PastAt w (.slice ao past.length capP) past) := ⟨hIL, h, hP⟩
  go_enter Tryz.func72, Tryz.ntmps72
  go_upto_region 1 with fail
  go_cut [5] (fun s wx => ∃ gc, s = .pointer (some ⟨gc, 0, none⟩) ∧ w.heap.size < gc ∧ wx.heap[gc]? = some (.cells #[.int .i64 (Pl.only (Pl.forest l) (Pl.forest L)), .int .i64 (Pl.only (Pl.forest L) (Pl.forest l))] 73 (0, 0)) ∧
    wx.heap[w.heap.size]? = some (.cells #[.int .i64 0, .int .i64 0] 73 (0, 0)) ∧ Below w.heap.size w wx)
  case first =>
    go_region_held3 (fun w' => w'.cell? ⟨b, 0, none⟩ = some (.int .i64 n) ∧ w'.cell? ⟨b, 2, none⟩ = some (.slice aL L.length capL))
      ((go_split_ands; refine ⟨?_, ?_⟩ <;> (first | go_keep | (refine cell_later hb1 ?_; first | assumption | simp [*]))))
      (first
        | (go_at_call 80; refine (change_any n L l aL a capL cap _ (by first | exact World.ownsRow.alloc hIL _ | exact World.ownsRow.alloc (World.ownsRow.alloc hIL _) _) hL (by first | exact World.ownsRow.alloc h _ | exact World.ownsRow.alloc (World.ownsRow.alloc h _) _) hl hn he he2).mono ?_; rintro e w1 ⟨rfl, hb1⟩; have q := var_facts hb1; (try simp only [World.size_alloc] at q); obtain ⟨q0, q1, q2, q3⟩ := q; have hbl1 := ne_later hb1 (b := b) (by first | exact lt_alloc hbl | exact lt_alloc hbl2); have z0 : w1.cell? ⟨b, 0, none⟩ = some (.int .i64 n) := cell_later hb1 (by simp [c0, World.cell?_alloc_some]); have z2 : w1.cell? ⟨b, 2, none⟩ = some (.slice aL L.length capL) := cell_later hb1 (by simp [c2, World.cell?_alloc_some])))
    · go_wp2_with fail
      go_meet
      exact ⟨_, rfl, cut1 hb1⟩
    · go_wp2_with fail
      go_meet
      exact ⟨_, rfl, cut2 hb1⟩
  case rest =>
    rename World => wa
    obtain ⟨gc, rfl, hgc, hvc, hvr, hB⟩ := hcut
    obtain ⟨hIL, hI, hP⟩ := K1.out
    have hb := unhide Hb
    have hao := unhide Hao
    have hsome := unhide Hsome
    have hpo := unhide Hpo
    have hbw : wa.heap[b]? = some (.cells #[.int .i64 n, .int .i64 most, .slice aL L.length capL, .slice ao past.length capP] 79 (0, 0)) := by rw [hB.block b hbl]; exact hb
    have hILw := hIL.later hB (Nat.le_refl _)
    have hPw : PastAt wa (.slice ao past.length capP) past := past_fr hP (Fr.of_below (S := fun _ => False) hB) (fun _ _ _ _ f => f) (fun _ _ f => f)
    obtain ⟨d0, d1, d2, d3, df⟩ := four_cells hbw
    obtain ⟨i0, hi, hz0, hz1, hz2⟩ := info_parts infoItems
    have K2 : Aside (wa.heap[b]? = some (.cells #[.int .i64 n, .int .i64 most, .slice aL L.length capL, .slice ao past.length capP] 79 (0, 0)) ∧ Its wa 0 (.slice aL L.length capL) L ∧ PastAt wa (.slice ao past.length capP) past ∧ Its w 0 (.slice a l.length cap) l ∧ Below w.heap.size w wa ∧ (Value.slice ao past.length capP).ownBlock = p ∧ wa.heap[gc]? = some (.cells #[.int .i64 (Pl.only (Pl.forest l) (Pl.forest L)), .int .i64 (Pl.only (Pl.forest L) (Pl.forest l))] 73 (0, 0)) ∧ wa.heap[w.heap.size]? = some (.cells #[.int .i64 0, .int .i64 0] 73 (0, 0))) := ⟨hbw, hILw, hPw, hI, hB, hpo, hvc, hvr⟩
    obtain ⟨ao', capP', hval, hao', hsome'⟩ := past_open hPw
    simp only [Value.slice.injEq, true_and] at hval
    obtain ⟨rfl, rfl⟩ := hval
    clear hb hao hsome hpo hbw hILw hPw hIL hI hP h Hb Hao Hsome Hpo Hcf c0 c1 c2 c3 hvc hvr hB K1
    go_upto_region 2 with fail
    go_cut [6] (fun s wy => ∃ g off cp, s = .slice (some ⟨g, off, none⟩) (past.length + 1) cp ∧ PastAt wy s (past ++ [L]) ∧ (some g = p ∨ w.heap.size ≤ g) ∧ Fr (fun k => p = some k) wa wy)
    case first =>
      by_cases hroom : past.length + 1 ≤ capP
      · obtain ⟨ad, rfl⟩ : ∃ ad, ao = some ad := by
          cases ao with
          | some ad => exact ⟨ad, rfl⟩
          | none => have := (hao' rfl).2; omega
        obtain ⟨g, off, cur, rfl, hh, h1, h2, h4, h5⟩ := hsome' _ rfl
        have A3 : Aside (wa.heap[g]? = some (.cells cur 76 (0, 0)) ∧ off + capP ≤ cur.size ∧ capP ≤ maxLen ∧ ∀ j (h : j < past.length), ∃ vj, cur[off + j]? = some vj ∧ Its wa 0 vj past[j]) := ⟨hh, h2, h4, h5⟩
        have hgb : ¬ g = b := by rintro rfl; rw [K2.out.1] at hh; simp at hh
        have hbg : ¬ b = g := fun e => hgb e.symm
        have hgl := lt_of_block hh
        have hgw : ¬ g = wa.heap.size := by omega
        have hsp : ∀ j, j < 1 → ((wa.alloc (.cells #[.slice aL L.length capL] 76)).cell? ⟨g, off + past.length * 1 + j, none⟩).isSome = true ∧ (wa.alloc (.cells #[.slice aL L.length capL] 76)).frozen? ⟨g, off + past.length * 1 + j, none⟩ = false := by
          intro j hj
          have hc : (wa.alloc (.cells #[.slice aL L.length capL] 76)).heap[g]? = some (.cells cur 76 (0, 0)) := by rw [Below.heap_alloc _ _ _ hgl]; exact hh
          refine ⟨?_, by simp [World.frozen?, hc]⟩
          simp only [World.cell?, hc]
          simp; omega
        have HSP := hide hsp
        clear hsome' hao' hh h2 h4 h5 hsp
        go_region_held3 (fun w' => w'.cell? ⟨b, 3, none⟩ = some (.slice (some ⟨g, off, none⟩) past.length capP) ∧ w'.cell? ⟨b, 2, none⟩ = some (.slice aL L.length capL)) (simp [*, World.setCells, World.cell?_alloc_some, World.cell?_setCell_far])
          ((refine step_append_room rfl (.tmp 20) (.tmp 25) 77 (by rfl) 76 i0 1 Tryz.underlying77 hi hz1 g off past.length capP (by rfl) ⟨wa.heap.size, 0, none⟩ 1 1 [.slice aL L.length capL] (by rfl) rfl (by exact one_new _ _ _) (by intro u hu; simp at hu; subst hu; rfl) hroom (by exact unhide HSP) ?_))
        go_wp2_with fail
        go_meet
        obtain ⟨hh, h2, h4, h5⟩ := A3.out
        obtain ⟨k1, k2, k3, k4, k5, k6, k7, k8⟩ := K2.out
        have hfa : Fr (fun _ => False) wa (wa.alloc (.cells #[.slice aL L.length capL] 76)) := (Fr.refl _ _).alloc _
        have hfr : Fr (fun k => p = some k) wa (((wa.alloc (.cells #[.slice aL L.length capL] 76)).drew).setCell ⟨g, off + past.length, none⟩ (.slice aL L.length capL)) :=
          Fr.setCell (((Fr.refl _ _).alloc _).drew) (p := ⟨g, off + past.length, none⟩) (Or.inl (by rw [← k6]; rfl)) _
        have hpr : PastAt ((wa.alloc (.cells #[.slice aL L.length capL] 76)).setCell ⟨g, off + past.length, none⟩ (.slice aL L.length capL)) (.slice (some ⟨g, off, none⟩) (past.length + 1) capP) (past ++ [L]) :=
          past_room (by rw [Below.heap_alloc _ _ _ hgl]; exact hh) hroom h2 h4 (fun j hj => by
            obtain ⟨vj, e1, e2⟩ := h5 j hj
            exact ⟨vj, e1, its_fr e2 hfa (fun _ _ _ _ f => f)⟩) L _ (its_fr k2 hfa (fun _ _ _ _ f => f))
        refine ⟨g, off, capP, rfl, ?_, Or.inl (by rw [← k6]; rfl), ?_⟩
        · simp only [World.setCells, Nat.mul_one]
          exact hpr
        · simpa [World.setCells] using hfr
      · have hcap : capP < past.length + 1 := by omega
        obtain ⟨olds, ho1, ho2, ho3⟩ : ∃ olds : List Value, olds.length = past.length ∧ (∀ bb, ao = some bb → ∀ j u, olds[j]? = some u → wa.cell? (bb.add j) = some u) ∧ ∀ j (h : j < past.length), ∃ vj, olds[j]? = some vj ∧ Its wa 0 vj past[j] := by
          cases ao with
          | none =>
            have h0 := (hao' rfl).1
            exact ⟨[], h0.symm, (fun bb e => by cases e), fun j hj => by omega⟩
          | some ad =>
            obtain ⟨g, off, cur, rfl, hh, h1, h2, h4, h5⟩ := hsome' _ rfl
            obtain ⟨olds, e1, e2, e3⟩ := olds_of (by omega) h5
            refine ⟨olds, e1, fun bb e j u hu => ?_, e3⟩
            cases e
            rw [Addr.add_mid]
            simp only [World.cell?, hh]
            simpa using e2 j u hu
        have A3 : Aside (olds.length = past.length ∧ ∀ j (h : j < past.length), ∃ vj, olds[j]? = some vj ∧ Its wa 0 vj past[j]) := ⟨ho1, ho3⟩
        have H2 : Hid (∀ bb, ao = some bb → ∀ j u, olds[j]? = some u → ((wa.alloc (.cells #[.slice aL L.length capL] 76)).drew).cell? (bb.add j) = some u) := fun bb e j u hu => by
          have := ho2 bb e j u hu
          exact (World.cell?_alloc_lt _ _ _ (World.block_lt_of_cell? wa _ this)).trans this
        have HD3 : Hid (((wa.alloc (.cells #[.slice aL L.length capL] 76)).drew).cell? ⟨b, 3, none⟩ = some (.slice ao past.length capP)) := (World.cell?_alloc_lt _ _ _ (World.block_lt_of_cell? wa _ d3)).trans d3
        have HD2 : Hid (((wa.alloc (.cells #[.slice aL L.length capL] 76)).drew).cell? ⟨b, 2, none⟩ = some (.slice aL L.length capL)) := (World.cell?_alloc_lt _ _ _ (World.block_lt_of_cell? wa _ d2)).trans d2
        have HA : Hid (ao = none → past.length = 0 ∧ capP = 0) := hao'
        have hol : Hid (olds.length = past.length * 1) := by rw [Nat.mul_one]; exact ho1
        clear hsome' hao' ho1 ho2 ho3
        go_region_held3 (fun w' => w'.cell? ⟨b, 3, none⟩ = some (.slice ao past.length capP) ∧ w'.cell? ⟨b, 2, none⟩ = some (.slice aL L.length capL)) (first | go_keep | exact ⟨z3, z2⟩)
          ((refine step_append_grows rfl (.tmp 20) (.tmp 25) 77 (by rfl) 76 i0 _ 1 24 Tryz.underlying77 hi hz0 hz1 hz2 rfl (by decide) ao past.length capP olds (by rfl) (by exact unhide HA) (by exact unhide hol) (by exact unhide H2) ⟨wa.heap.size, 0, none⟩ 1 1 [.slice aL L.length capL] (by rfl) rfl (by exact one_new _ _ _) (by intro u hu; simp at hu; subst hu; rfl) hcap (by unfold maxLen; omega) (by omega) ?_; intro v' w2 hown2 hgrow; have z3 := World.grownBy.cell hgrow (unhide HD3) (by simp); have z2 := World.grownBy.cell hgrow (unhide HD2) (by simp)))
        obtain ⟨ho1, ho3⟩ := A3.out
        obtain ⟨k1, k2, k3, k4, k5, k6, k7, k8⟩ := K2.out
        have hfr : Fr (fun _ => False) wa w2 := (((Fr.refl _ _).alloc _).drew).grown hgrow (fun k e => by cases e)
        obtain ⟨g, cp, rfl, hg0, hpg⟩ := past_grown hown2 ho1 (fun j hj => by
          obtain ⟨vj, e1, e2⟩ := ho3 j hj
          exact ⟨vj, e1, its_fr e2 hfr (fun _ _ _ _ f => f)⟩) (its_fr k2 hfr (fun _ _ _ _ f => f))
        go_wp2_with fail
        go_meet
        refine ⟨g, 0, cp, rfl, hpg, Or.inr ?_, hfr.mono fun _ _ f => f.elim⟩
        have e1 : (wa.alloc (.cells #[.slice aL L.length capL] 76)).drew.heap.size = wa.heap.size + 1 := World.size_alloc _ _
        rw [e1] at hg0
        have := k5.size
        omega
    case rest =>
      obtain ⟨g, off, cp, rfl, hpa, hgp, hfr⟩ := hcut
      obtain ⟨k1, k2, k3, k4, k5, k6, k7, k8⟩ := K2.out
      have hpty : ∀ k, p = some k → ∃ cur, wa.heap[k]? = some (.cells cur 76 (0, 0)) := by
        intro k hk
        rw [← k6] at hk
        rcases k3 with ⟨e, _⟩ | ⟨g', off', cap', cur, e, hh, _⟩
        · rw [e] at hk; cases hk
        · rw [e] at hk; simp [Value.ownBlock] at hk; subst hk; exact ⟨cur, hh⟩
      have hpne : ∀ k c t, wa.heap[k]? = some (.cells c t (0, 0)) → t ≠ 76 → ¬ p = some k := by
        intro k c t hk ht e
        obtain ⟨cur, hh⟩ := hpty k e
        rw [hk] at hh; simp at hh; exact ht hh.2
      have m1 : wc.heap[b]? = some (.cells #[.int .i64 n, .int .i64 most, .slice aL L.length capL, .slice ao past.length capP] 79 (0, 0)) := (hfr.block b (lt_of_block k1) (hpne b _ _ k1 (by decide))).trans k1
      have m2 := (hfr.block gc (lt_of_block k7) (hpne gc _ _ k7 (by decide))).trans k7
      have m3 := (hfr.block w.heap.size (lt_of_block k8) (hpne w.heap.size _ _ k8 (by decide))).trans k8
      obtain ⟨d0, d1, d2, d3, df⟩ := four_cells m1
      obtain ⟨x0, x1, xf⟩ := two_cells m2
      obtain ⟨y0, y1, yf⟩ := two_cells m3
      have df2 := df 2
      have df3 := df 3
      have yf0 := yf 0
      have yf1 := yf 1
      have hF : Fr (fun k => k = b ∨ p = some k) w wc := (Fr.of_below k5).trans (hfr.mono fun _ _ e => Or.inr e)
      have hIl : Its wc 0 (.slice a l.length cap) l := its_fr (k4.later k5 (Nat.le_refl _)) hfr (fun k c f hk e => by obtain ⟨cur, hh⟩ := hpty k e; rw [hk] at hh; simp at hh)
      have hgt : ∃ cur, wc.heap[g]? = some (.cells cur 76 (0, 0)) := by
        rcases hpa with ⟨e, _⟩ | ⟨g', off', cap', cur, e, hh, _⟩
        · cases e
        · simp only [Value.slice.injEq, Option.some.injEq, Addr.mk.injEq] at e
          rw [← e.1.1] at hh; exact ⟨cur, hh⟩
      have hgb : ¬ g = b := by rintro rfl; obtain ⟨cur, hh⟩ := hgt; rw [m1] at hh; simp at hh
      have hcl : past.length + 1 ≤ cp ∧ cp ≤ maxLen := by
        rcases hpa with ⟨e, _⟩ | ⟨g', off', cap', cur, e, hh, h1, h2, h3, _⟩
        · cases e
        · simp only [Value.slice.injEq] at e
          rw [e.2.2]; simp at h1; omega
      have hbc : ¬ b = gc := by omega
      have hbc2 : ¬ gc = b := by omega
      have hgw : ¬ w.heap.size = gc := by omega
      have hgw2 : ¬ gc = w.heap.size := by omega
      have K3 := hide (And.intro hpa (And.intro hgp (And.intro hF (And.intro hIl (And.intro hgt (And.intro m1 (And.intro k6 m3)))))))
      clear hpa hgp hF hIl hgt m1 m2 m3 k1 k2 k3 k4 k5 k6 k7 k8 hfr hpty hpne df xf yf K2
      obtain ⟨hc1, hc2⟩ := hcl
      clear hao' hsome' d0 d1
      by_cases hlong : 20 < past.length + 1
      · have hl1 : (20 : Int) < past.length + 1 := by omega
        have hc3 : ¬ cp = 1 := by omega
        go_wp2
        obtain ⟨hpa, hgp, hF, hIl, hgt, m1, k6, m3⟩ := unhide K3
        have hpt := past_tail hpa (by simp)
        have e : push past L = (past ++ [L]).tail := by unfold push; rw [if_pos (by simp; omega)]
        have hpt2 : PastAt wc (.slice (some ⟨g, off + 1, none⟩) past.length (cp - 1)) (push past L) := by rw [e]; simpa using hpt
        obtain ⟨t1, t2⟩ := turns_end (S := fun k => k = b ∨ p = some k) (x := .int .i64 (Pl.only (Pl.forest l) (Pl.forest L))) (y := .int .i64 (Pl.only (Pl.forest L) (Pl.forest l))) m3 m1 hpt2 hIl hF (Or.inl rfl)
        refine bodyPost_ret (v := .agg #[.int .i64 (Pl.only (Pl.forest l) (Pl.forest L)), .int .i64 (Pl.only (Pl.forest L) (Pl.forest l))]) (by simp [results, Tryz.results72, go_sem, y0, y1]) rfl ⟨rfl, some g, t1, ?_, t2⟩
        rcases hgp with h | h
        · exact Or.inl h
        · exact Or.inr ⟨g, rfl, h⟩
      · have hl1 : ¬ (20 : Int) < past.length + 1 := by omega
        go_wp2
        obtain ⟨hpa, hgp, hF, hIl, hgt, m1, k6, m3⟩ := unhide K3
        have e : push past L = past ++ [L] := by unfold push; rw [if_neg (by simp; omega)]
        rw [← e] at hpa
        obtain ⟨t1, t2⟩ := turns_end (S := fun k => k = b ∨ p = some k) (x := .int .i64 (Pl.only (Pl.forest l) (Pl.forest L))) (y := .int .i64 (Pl.only (Pl.forest L) (Pl.forest l))) m3 m1 hpa hIl hF (Or.inl rfl)
        refine bodyPost_ret (v := .agg #[.int .i64 (Pl.only (Pl.forest l) (Pl.forest L)), .int .i64 (Pl.only (Pl.forest L) (Pl.forest l))]) (by simp [results, Tryz.results72, go_sem, y0, y1]) rfl ⟨rfl, some g, t1, ?_, t2⟩
        rcases hgp with h | h
        · exact Or.inl h
        · exact Or.inr ⟨g, rfl, h⟩

end Go.Proofs.YtnnnleckoinjoaaGreatDoor

namespace Go.Proofs.YtnnnleckoinjoaaGreatDoor
open Go.RowKit
open Pl (It)

set_option maxHeartbeats 1000000 in
theorem newr_ok (v m : Nat) (w : World) (h1 : 1 ≤ v) (h2 : v ≤ 30) (h3 : 1 ≤ m) (h4 : m ≤ 60) :
    Calls Tryz.prog 26 #[.int .i64 v, .int .i64 m] w fun e w' => e = .returned (.tuple #[.pointer (some ⟨w.heap.size, 0, none⟩), .int .i64 0]) ∧ w' = w.alloc (.cells #[.int .i64 v, .int .i64 m, .slice none 0 0, .slice none 0 0] 79) := by
  go_enter Tryz.func26, Tryz.ntmps26
  go_wp2
  go_ret2
  exact ⟨rfl, rfl⟩

set_option maxHeartbeats 1000000 in
theorem newr_no (v m : Int) (w : World) (h : ¬ (1 ≤ v ∧ v ≤ 30 ∧ 1 ≤ m ∧ m ≤ 60)) :
    Calls Tryz.prog 26 #[.int .i64 v, .int .i64 m] w fun e w' => e = .returned (.tuple #[.pointer none, .int .i64 1]) ∧ w = w' := by
  rcases (show v < 1 ∨ (1 ≤ v ∧ 30 < v) ∨ (1 ≤ v ∧ v ≤ 30 ∧ m < 1) ∨ (1 ≤ v ∧ v ≤ 30 ∧ 1 ≤ m ∧ 60 < m) from by omega) with h | ⟨h, h'⟩ | ⟨h1, h2, h3⟩ | ⟨h1, h2, h3, h4⟩
  all_goals
    go_enter Tryz.func26, Tryz.ntmps26
    go_wp2
    go_ret2
    exact ⟨rfl, rfl⟩

theorem undrewN {B : Nat} {w w1 : World} {n : Nat} (h : Below B (w.drewN n) w1) : Below B w w1 := ⟨h.os, h.tape, h.output, h.size, h.block⟩
theorem rg_past {w : World} {b n most : Nat} {L : List It} {past : List (List It)} {p : Option Nat} (h : RG w b n most L past p) : ∀ k, p = some k → k < w.heap.size ∧ ∃ cur, w.heap[k]? = some (.cells cur 76 (0, 0)) := by
  intro k hk
  obtain ⟨vL, vP, _, _, h3, h4⟩ := h
  rw [← h4] at hk
  rcases h3 with ⟨e, _⟩ | ⟨g', off', cap', cur, e, hh, _⟩
  · rw [e] at hk; cases hk
  · rw [e] at hk; simp [Value.ownBlock] at hk; subst hk; exact ⟨lt_of_block hh, cur, hh⟩
theorem res_cells {w2 : World} {r t : Nat} {v0 v1 : Value} (x y : Value) (hr : w2.heap[r]? = some (.cells #[v0, v1] t (0, 0))) (o : Obj) :
    (((w2.setCell ⟨r, 0, none⟩ x).setCell ⟨r, 1, none⟩ y).alloc o).cell? ⟨r, 0, none⟩ = some x ∧ (((w2.setCell ⟨r, 0, none⟩ x).setCell ⟨r, 1, none⟩ y).alloc o).cell? ⟨r, 1, none⟩ = some y := by
  have h := set_two (x := x) (y := y) hr
  have h2 : (((w2.setCell ⟨r, 0, none⟩ x).setCell ⟨r, 1, none⟩ y).alloc o).heap[r]? = some (.cells #[x, y] t (0, 0)) := by
    rw [Below.heap_alloc _ _ _ (lt_of_block h)]; exact h
  obtain ⟨c0, c1, _⟩ := two_cells h2
  exact ⟨c0, c1⟩
theorem res_end {S : Nat → Prop} {w w2 : World} {b n most : Nat} {L : List It} {past : List (List It)} {p : Option Nat} {x y v0 v1 : Value} {o : Obj} (hr : w2.heap[w.heap.size]? = some (.cells #[v0, v1] 73 (0, 0))) (h : RG w2 b n most L past p) (hF : Fr S w w2) :
    RG (((w2.setCell ⟨w.heap.size, 0, none⟩ x).setCell ⟨w.heap.size, 1, none⟩ y).alloc o) b n most L past p ∧ Fr S w (((w2.setCell ⟨w.heap.size, 0, none⟩ x).setCell ⟨w.heap.size, 1, none⟩ y).alloc o) := by
  have hF2 : Fr (fun k => k = w.heap.size) w2 (((w2.setCell ⟨w.heap.size, 0, none⟩ x).setCell ⟨w.heap.size, 1, none⟩ y).alloc o) := by
    refine Fr.alloc (Fr.setCell (Fr.setCell (Fr.refl _ _) ?_ _) ?_ _) _
    · exact Or.inl rfl
    · exact Or.inl rfl
  refine ⟨h.fr hF2 ?_ ?_ ?_, ?_⟩
  · rintro k c f hk rfl; rw [hr] at hk; simp at hk
  · rintro rfl
    obtain ⟨vL, vP, hb, _⟩ := h
    rw [hr] at hb; simp at hb
  · rintro k hk rfl
    obtain ⟨_, cur, hh⟩ := rg_past h _ hk
    rw [hr] at hh; simp at hh
  · refine Fr.alloc (Fr.setCell (Fr.setCell hF ?_ _) ?_ _) _
    · exact Or.inr (Nat.le_refl _)
    · exact Or.inr (Nat.le_refl _)
theorem rg_open {w : World} {b n most : Nat} {L : List It} {past : List (List It)} {p : Option Nat} (h : RG w b n most L past p) :
    ∃ a cap vP, w.cell? ⟨b, 0, none⟩ = some (.int .i64 n) ∧ w.cell? ⟨b, 1, none⟩ = some (.int .i64 most) ∧ w.cell? ⟨b, 2, none⟩ = some (.slice a L.length cap) ∧ w.cell? ⟨b, 3, none⟩ = some vP ∧ Its w 0 (.slice a L.length cap) L ∧ b < w.heap.size := by
  obtain ⟨vL, vP, hb, hI, _, _⟩ := h
  obtain ⟨a, cap, rfl⟩ := row_form hI
  obtain ⟨c0, c1, c2, c3, _⟩ := four_cells hb
  exact ⟨a, cap, vP, c0, c1, c2, c3, hI, lt_of_block hb⟩

set_option maxRecDepth 100000 in
set_option maxHeartbeats 2000000 in
theorem insr_no (b n most : Nat) (L : List It) (past : List (List It)) (p : Option Nat) (id u v wt : Int) (w : World) (hG : RG w b n most L past p) (hL : L.length ≤ 100) (code : Int)
    (hc : (Pl.numB id = false ∧ code = 2) ∨ (Pl.numB id = true ∧ Pl.verB n u = false ∧ code = 3) ∨ (Pl.numB id = true ∧ Pl.verB n u = true ∧ Pl.verB n v = false ∧ code = 3) ∨ (Pl.numB id = true ∧ Pl.verB n u = true ∧ Pl.verB n v = true ∧ Pl.has L id = true ∧ code = 4) ∨
      (Pl.numB id = true ∧ Pl.verB n u = true ∧ Pl.verB n v = true ∧ Pl.has L id = false ∧ most ≤ L.length ∧ code = 5)) :
    Calls Tryz.prog 33 #[.pointer (some ⟨b, 0, none⟩), .int .i64 id, .int .i64 u, .int .i64 v, .int .i64 wt] w fun e w' => e = .returned (.tuple #[.agg #[.int .i64 0, .int .i64 0], .int .i64 code]) ∧ Below w.heap.size w w' := by
  obtain ⟨a, cap, vP, c0, c1, c2, c3, hI, hbl⟩ := rg_open hG
  have hbne : ¬ b = w.heap.size := by omega
  have hbne2 : ¬ w.heap.size = b := by omega
  have hIa : Its (w.alloc (.cells #[.int .i64 0, .int .i64 0] 73)) 0 (.slice a L.length cap) L := World.ownsRow.alloc hI _
  clear hG
  rcases hc with ⟨h1, rfl⟩ | ⟨h1, h2, rfl⟩ | ⟨h1, h2, h3, rfl⟩ | ⟨h1, h2, h3, h4, rfl⟩ | ⟨h1, h2, h3, h4, h5, rfl⟩
  · go_enter Tryz.func33, Tryz.ntmps33
    go_wp2_with (first
      | (go_at_call 68; refine (number_any _ _).mono ?_; rintro e w1 ⟨rfl, rfl⟩; rw [h1])
      | (go_at_call 69; refine (vertex_any b n _ _ (by simp [c0, World.cell?_alloc_some])).mono ?_; rintro e w1 ⟨rfl, rfl⟩)
      | (go_at_call 70; refine (find_any L id a cap _ hIa hL).mono ?_; rintro e w1 ⟨r, rfl, hr, rfl⟩; have HR := hide hr; clear hr))
    exact bodyPost_ret (v := .tuple #[.agg #[.int .i64 0, .int .i64 0], .int .i64 2]) (by simp [results, Tryz.results33, go_sem]) rfl ⟨rfl, (Below.refl _ _).alloc (Nat.le_refl _) _⟩
  · go_enter Tryz.func33, Tryz.ntmps33
    go_wp2_with (first
      | (go_at_call 68; refine (number_any _ _).mono ?_; rintro e w1 ⟨rfl, rfl⟩; rw [h1])
      | (go_at_call 69; refine (vertex_any b n _ _ (by simp [c0, World.cell?_alloc_some])).mono ?_; rintro e w1 ⟨rfl, rfl⟩; (try rw [h2]))
      | (go_at_call 70; refine (find_any L id a cap _ hIa hL).mono ?_; rintro e w1 ⟨r, rfl, hr, rfl⟩; have HR := hide hr; clear hr))
    exact bodyPost_ret (v := .tuple #[.agg #[.int .i64 0, .int .i64 0], .int .i64 3]) (by simp [results, Tryz.results33, go_sem]) rfl ⟨rfl, (Below.refl _ _).alloc (Nat.le_refl _) _⟩
  · go_enter Tryz.func33, Tryz.ntmps33
    go_wp2_with (first
      | (go_at_call 68; refine (number_any _ _).mono ?_; rintro e w1 ⟨rfl, rfl⟩; rw [h1])
      | (go_at_call 69; refine (vertex_any b n _ _ (by simp [c0, World.cell?_alloc_some])).mono ?_; rintro e w1 ⟨rfl, rfl⟩; (first | rw [h2] | rw [h3]))
      | (go_at_call 70; refine (find_any L id a cap _ hIa hL).mono ?_; rintro e w1 ⟨r, rfl, hr, rfl⟩; have HR := hide hr; clear hr))
    exact bodyPost_ret (v := .tuple #[.agg #[.int .i64 0, .int .i64 0], .int .i64 3]) (by simp [results, Tryz.results33, go_sem]) rfl ⟨rfl, (Below.refl _ _).alloc (Nat.le_refl _) _⟩
  · go_enter Tryz.func33, Tryz.ntmps33
    go_wp2_with (first
      | (go_at_call 68; refine (number_any _ _).mono ?_; rintro e w1 ⟨rfl, rfl⟩; rw [h1])
      | (go_at_call 69; refine (vertex_any b n _ _ (by simp [c0, World.cell?_alloc_some])).mono ?_; rintro e w1 ⟨rfl, rfl⟩; (first | rw [h2] | rw [h3]))
      | (go_at_call 70; refine (find_any L id a cap _ hIa hL).mono ?_; rintro e w1 ⟨r, rfl, hr, rfl⟩; have hr0 := (Pl.findIs_has hr).1.1 h4; have HR := hide hr; clear hr))
    exact bodyPost_ret (v := .tuple #[.agg #[.int .i64 0, .int .i64 0], .int .i64 4]) (by simp [results, Tryz.results33, go_sem]) rfl ⟨rfl, (Below.refl _ _).alloc (Nat.le_refl _) _⟩
  · go_enter Tryz.func33, Tryz.ntmps33
    go_wp2_with (first
      | (go_at_call 68; refine (number_any _ _).mono ?_; rintro e w1 ⟨rfl, rfl⟩; rw [h1])
      | (go_at_call 69; refine (vertex_any b n _ _ (by simp [c0, World.cell?_alloc_some])).mono ?_; rintro e w1 ⟨rfl, rfl⟩; (first | rw [h2] | rw [h3]))
      | (go_at_call 70; refine (find_any L id a cap _ hIa hL).mono ?_; rintro e w1 ⟨r, rfl, hr, rfl⟩; have hr0 := (Pl.findIs_has hr).2.1 h4; have HR := hide hr; clear hr))
    go_quiet (fail)
    go_wp2
    exact bodyPost_ret (v := .tuple #[.agg #[.int .i64 0, .int .i64 0], .int .i64 5]) (by simp [results, Tryz.results33, go_sem]) rfl ⟨rfl, ((below_drewN ((Below.refl _ _).alloc (Nat.le_refl _) _) _).setCell (Nat.le_refl _) _).setCell (Nat.le_refl _) _⟩

set_option maxRecDepth 100000 in
set_option maxHeartbeats 2000000 in
theorem insr_ok (b n most : Nat) (L : List It) (past : List (List It)) (p : Option Nat) (id u v wt : Int) (w : World) (hG : RG w b n most L past p) (hL : L.length ≤ 90) (hn : n ≤ 30) (he : Pl.Ends n L) (hp : past.length ≤ 20)
    (h1 : Pl.numB id = true) (h2 : Pl.verB n u = true) (h3 : Pl.verB n v = true) (h4 : Pl.has L id = false) (h5 : L.length < most) :
    Calls Tryz.prog 33 #[.pointer (some ⟨b, 0, none⟩), .int .i64 id, .int .i64 u, .int .i64 v, .int .i64 wt] w fun e w' =>
      e = .returned (.tuple #[.agg #[.int .i64 (Pl.only (Pl.forest (Pl.withI L ⟨id, u, v, wt⟩)) (Pl.forest L)), .int .i64 (Pl.only (Pl.forest L) (Pl.forest (Pl.withI L ⟨id, u, v, wt⟩)))], .int .i64 0]) ∧
      ∃ p', RG w' b n most (Pl.withI L ⟨id, u, v, wt⟩) (push past L) p' ∧ (p' = p ∨ ∃ k, p' = some k ∧ w.heap.size ≤ k) ∧ Fr (fun k => k = b ∨ p = some k) w w' := by
  obtain ⟨a, cap, vP, c0, c1, c2, c3, hI, hbl⟩ := rg_open hG
  have hbne : ¬ b = w.heap.size := by omega
  have hbne2 : ¬ w.heap.size = b := by omega
  have hIa : Its (w.alloc (.cells #[.int .i64 0, .int .i64 0] 73)) 0 (.slice a L.length cap) L := World.ownsRow.alloc hI _
  have hx := Pl.with_len L ⟨id, u, v, wt⟩
  have hends : Pl.Ends n (Pl.withI L ⟨id, u, v, wt⟩) := Pl.with_ends he ⟨(Pl.verB_true.1 h2).1, (Pl.verB_true.1 h2).2, (Pl.verB_true.1 h3).1, (Pl.verB_true.1 h3).2⟩
  have HG := hide hG
  have h5' : ¬ (most : Int) ≤ L.length := by omega
  have hLen : L.length ≤ 100 := by omega
  clear hG
  go_enter Tryz.func33, Tryz.ntmps33
  go_wp2_with (first
      | (go_at_call 68; refine (number_any _ _).mono ?_; rintro e w1 ⟨rfl, rfl⟩; rw [h1])
      | (go_at_call 69; refine (vertex_any b n _ _ (by simp [c0, World.cell?_alloc_some])).mono ?_; rintro e w1 ⟨rfl, rfl⟩; (first | rw [h2] | rw [h3]))
      | (go_at_call 70; refine (find_any L id a cap _ hIa hLen).mono ?_; rintro e w1 ⟨r, rfl, hr, rfl⟩; have hr0 := (Pl.findIs_has hr).2.1 h4; have HR := hide hr; clear hr))
  go_quiet (fail)
  go_wp2_with fail
  refine (with_any L ⟨id, u, v, wt⟩ a cap _ (by exact hIa) hLen).mono ?_
  rintro e w1 ⟨vw, rfl, ow, bw⟩
  obtain ⟨aw, cw, rfl⟩ := row_form ow
  have hb0 : Below (w.heap.size + 1) (w.alloc (.cells #[.int .i64 0, .int .i64 0] 73)) w1 := undrewN (by
    have e1 : ((w.alloc (.cells #[.int .i64 0, .int .i64 0] 73)).drewN nq).heap.size = w.heap.size + 1 := World.size_alloc _ _
    rw [e1] at bw; exact bw)
  have hb1 : Below w.heap.size w w1 := ((Below.refl _ _).alloc (Nat.le_refl _) _).trans (hb0.mono (by omega))
  have hG1 := (unhide HG).later hb1
  have hres := made_later hb0 (by omega)
  have hpl := rg_past (unhide HG)
  go_wp2_with fail
  refine (turns_any b n most L (Pl.withI L ⟨id, u, v, wt⟩) past p aw cw _ (by exact hG1) (by exact row_mono ow (Nat.zero_le _)) (by omega) hLen hn he hends hp).mono ?_
  rintro e w2 ⟨rfl, p', hG2, hp', hF2⟩
  have hres2 := (hF2.block _ (lt_of_block hres) (by
    rintro (e | e)
    · omega
    · obtain ⟨h6, _⟩ := hpl _ e; omega)).trans hres
  obtain ⟨y0, y1, yf⟩ := two_cells hres2
  have yf0 := yf 0
  have yf1 := yf 1
  have hs2 := lt_of_block hres2
  have hne1 : ¬ w.heap.size = w2.heap.size := by omega
  have hne2 : ¬ w2.heap.size = w.heap.size := by omega
  have hFr : Fr (fun k => k = b ∨ p = some k) w w2 := (Fr.of_below hb1).trans hF2
  have K := hide (And.intro hG2 (And.intro hp' (And.intro hFr (And.intro hb1.size hres2))))
  clear hG2 hp' hFr hF2 hG1 hres hres2 hb0 hb1 bw ow hpl yf hI hIa HR HG c0 c1 c2 c3
  go_wp2
  obtain ⟨hG2, hp', hFr, hsz, hres2⟩ := unhide K
  have z := @res_cells w2 w.heap.size 73 _ _ (.int .i64 (Pl.only (Pl.forest (Pl.withI L ⟨id, u, v, wt⟩)) (Pl.forest L))) (.int .i64 (Pl.only (Pl.forest L) (Pl.forest (Pl.withI L ⟨id, u, v, wt⟩)))) hres2
  refine bodyPost_ret (v := .tuple #[.agg #[.int .i64 (Pl.only (Pl.forest (Pl.withI L ⟨id, u, v, wt⟩)) (Pl.forest L)), .int .i64 (Pl.only (Pl.forest L) (Pl.forest (Pl.withI L ⟨id, u, v, wt⟩)))], .int .i64 0]) (by simp [results, Tryz.results33, go_sem, (z _).1, (z _).2]) rfl ⟨rfl, p', (res_end hres2 hG2 hFr).1, ?_, (res_end hres2 hG2 hFr).2⟩
  rcases hp' with h | ⟨k, h, h'⟩
  · exact Or.inl h
  · exact Or.inr ⟨k, h, by omega⟩

end Go.Proofs.YtnnnleckoinjoaaGreatDoor

namespace Go.Proofs.YtnnnleckoinjoaaGreatDoor
open Go.RowKit
open Pl (It)

theorem four_setCells {w : World} {b t : Nat} {v0 v1 v2 v3 : Value} (h : w.heap[b]? = some (.cells #[v0, v1, v2, v3] t (0, 0))) (x0 x1 x2 x3 : Value) :
    ((((w.setCell ⟨b, 0, none⟩ x0).setCell ⟨b, 1, none⟩ x1).setCell ⟨b, 2, none⟩ x2).setCell ⟨b, 3, none⟩ x3).heap[b]? = some (.cells #[x0, x1, x2, x3] t (0, 0)) := by
  have h1 := heap_setCell_same w b 0 _ _ x0 h
  have h2 := heap_setCell_same _ b 1 _ _ x1 h1
  have h3 := heap_setCell_same _ b 2 _ _ x2 h2
  have h4 := heap_setCell_same _ b 3 _ _ x3 h3
  rw [h4]; rfl

set_option maxRecDepth 100000 in
set_option maxHeartbeats 2000000 in
theorem asked_no (b n most : Nat) (L : List It) (past : List (List It)) (p : Option Nat) (id : Int) (w : World) (hG : RG w b n most L past p) (hL : L.length ≤ 100) (code : Int)
    (hc : (Pl.numB id = false ∧ code = 2) ∨ (Pl.numB id = true ∧ Pl.has L id = false ∧ code = 6)) :
    Calls Tryz.prog 77 #[.pointer (some ⟨b, 0, none⟩), .int .i64 id] w fun e w' => e = .returned (.tuple #[.agg #[.int .i64 0, .int .i64 0, .int .i64 0, .int .i64 0], .int .i64 code]) ∧ Below w.heap.size w w' := by
  obtain ⟨a, cap, vP, c0, c1, c2, c3, hI, hbl⟩ := rg_open hG
  have hbne : ¬ b = w.heap.size := by omega
  have hbne2 : ¬ w.heap.size = b := by omega
  have hIa : Its (w.alloc (.cells #[.int .i64 0, .int .i64 0, .int .i64 0, .int .i64 0] 97)) 0 (.slice a L.length cap) L := World.ownsRow.alloc hI _
  clear hG
  rcases hc with ⟨h1, rfl⟩ | ⟨h1, h4, rfl⟩
  · go_enter Tryz.func77, Tryz.ntmps77
    go_wp2_with (first
      | (go_at_call 68; refine (number_any _ _).mono ?_; rintro e w1 ⟨rfl, rfl⟩; rw [h1]))
    exact bodyPost_ret (v := .tuple #[.agg #[.int .i64 0, .int .i64 0, .int .i64 0, .int .i64 0], .int .i64 2]) (by simp [results, Tryz.results77, go_sem]) rfl ⟨rfl, (Below.refl _ _).alloc (Nat.le_refl _) _⟩
  · go_enter Tryz.func77, Tryz.ntmps77
    go_wp2_with (first
      | (go_at_call 68; refine (number_any _ _).mono ?_; rintro e w1 ⟨rfl, rfl⟩; rw [h1])
      | (go_at_call 70; refine (find_any L id a cap _ hIa hL).mono ?_; rintro e w1 ⟨r, rfl, hr, rfl⟩; have hr0 := (Pl.findIs_has hr).2.1 h4; have HR := hide hr; clear hr))
    exact bodyPost_ret (v := .tuple #[.agg #[.int .i64 0, .int .i64 0, .int .i64 0, .int .i64 0], .int .i64 6]) (by simp [results, Tryz.results77, go_sem]) rfl ⟨rfl, (Below.refl _ _).alloc (Nat.le_refl _) _⟩

theorem findIs_at {L : List It} {id r : Int} (h : Pl.FindIs L id r) (hh : Pl.has L id = true) : ∃ (k : Nat) (hk : k < L.length), r = k ∧ L[k].id = id := by
  rcases h with ⟨rfl, h⟩ | h
  · rw [Pl.has_false.2 h] at hh; cases hh
  · exact h

set_option maxRecDepth 100000 in
set_option maxHeartbeats 2000000 in
theorem asked_ok (b n most : Nat) (L : List It) (past : List (List It)) (p : Option Nat) (id : Int) (w : World) (hG : RG w b n most L past p) (hL : L.length ≤ 100) (h1 : Pl.numB id = true) (h4 : Pl.has L id = true) :
    Calls Tryz.prog 77 #[.pointer (some ⟨b, 0, none⟩), .int .i64 id] w fun e w' => ∃ (k : Nat) (hk : k < L.length), L[k].id = id ∧ e = .returned (.tuple #[itv L[k], .int .i64 0]) ∧ Below w.heap.size w w' := by
  obtain ⟨a, cap, vP, c0, c1, c2, c3, hI, hbl⟩ := rg_open hG
  have hbne : ¬ b = w.heap.size := by omega
  have hbne2 : ¬ w.heap.size = b := by omega
  have hIa : Its (w.alloc (.cells #[.int .i64 0, .int .i64 0, .int .i64 0, .int .i64 0] 97)) 0 (.slice a L.length cap) L := World.ownsRow.alloc hI _
  clear hG
  obtain ⟨g, rfl⟩ := row_some hI (by obtain ⟨e, he, _⟩ := Pl.has_iff.1 h4; exact List.length_pos_of_mem he)
  have hgl : g < w.heap.size := (World.ownsRow.lt hI g rfl).2
  have hgne : ¬ g = w.heap.size := by omega
  have hgne2 : ¬ w.heap.size = g := by omega
  go_enter Tryz.func77, Tryz.ntmps77
  go_wp2_with (go_at_call 68; refine (number_any _ _).mono ?_; rintro e w1 ⟨rfl, rfl⟩; rw [h1])
  refine (find_any L id _ cap _ hIa hL).mono ?_
  rintro e w1 ⟨r, rfl, hr, rfl⟩
  obtain ⟨k, hk, rfl, hkid⟩ := findIs_at hr h4
  have HK := hide hkid
  clear hr hkid
  have hk1 : (0 : Int) ≤ k := by omega
  have hk2 : (k : Int) < L.length := by omega
  obtain ⟨e0, e1, e2, e3⟩ := its_cells hI k hk
  go_wp2
  exact bodyPost_ret (v := .tuple #[itv L[k], .int .i64 0]) (by simp [results, Tryz.results77, go_sem]) rfl ⟨k, hk, unhide HK, rfl, (Below.refl _ _).alloc (Nat.le_refl _) _⟩

end Go.Proofs.YtnnnleckoinjoaaGreatDoor

namespace Go.Proofs.YtnnnleckoinjoaaGreatDoor
open Go.RowKit
open Pl (It)

theorem res3_cells {w2 : World} {r t : Nat} {v0 v1 v2 : Value} (x y z : Value) (hr : w2.heap[r]? = some (.cells #[v0, v1, v2] t (0, 0))) (o : Obj) :
    ((((w2.setCell ⟨r, 0, none⟩ x).setCell ⟨r, 1, none⟩ y).setCell ⟨r, 2, none⟩ z).alloc o).cell? ⟨r, 0, none⟩ = some x ∧ ((((w2.setCell ⟨r, 0, none⟩ x).setCell ⟨r, 1, none⟩ y).setCell ⟨r, 2, none⟩ z).alloc o).cell? ⟨r, 1, none⟩ = some y ∧ ((((w2.setCell ⟨r, 0, none⟩ x).setCell ⟨r, 1, none⟩ y).setCell ⟨r, 2, none⟩ z).alloc o).cell? ⟨r, 2, none⟩ = some z := by
  have h1 := heap_setCell_same w2 r 0 _ _ x hr
  have h2 := heap_setCell_same _ r 1 _ _ y h1
  have h3 := heap_setCell_same _ r 2 _ _ z h2
  have h4 : ((((w2.setCell ⟨r, 0, none⟩ x).setCell ⟨r, 1, none⟩ y).setCell ⟨r, 2, none⟩ z).alloc o).heap[r]? = some (.cells #[x, y, z] t (0, 0)) := by
    rw [Below.heap_alloc _ _ _ (lt_of_block h3)]; rw [h3]; rfl
  obtain ⟨c0, c1, c2, _⟩ := three_cells h4
  exact ⟨c0, c1, c2⟩

set_option maxRecDepth 100000 in
set_option maxHeartbeats 2000000 in
theorem edger_no (b n most : Nat) (L : List It) (past : List (List It)) (p : Option Nat) (id : Int) (w : World) (hG : RG w b n most L past p) (hL : L.length ≤ 100) (code : Int)
    (hc : (Pl.numB id = false ∧ code = 2) ∨ (Pl.numB id = true ∧ Pl.has L id = false ∧ code = 6)) :
    Calls Tryz.prog 42 #[.pointer (some ⟨b, 0, none⟩), .int .i64 id] w fun e w' => e = .returned (.tuple #[.agg #[.int .i64 0, .int .i64 0, .int .i64 0], .int .i64 code]) ∧ Below w.heap.size w w' := by
  have hG1 : RG (w.alloc (.cells #[.int .i64 0, .int .i64 0, .int .i64 0] 51)) b n most L past p := hG.later ((Below.refl _ _).alloc (Nat.le_refl _) _)
  have hcode : (code != 0) = true := by rcases hc with ⟨_, rfl⟩ | ⟨_, _, rfl⟩ <;> rfl
  go_enter Tryz.func42, Tryz.ntmps42
  go_wp2_with fail
  refine (asked_no b n most L past p id _ hG1 hL code hc).mono ?_
  rintro e w1 ⟨rfl, hb⟩
  simp only [World.size_alloc] at hb
  have hres := made_later hb (by omega)
  obtain ⟨r0, r1, r2, rf⟩ := three_cells hres
  have rf0 := rf 0
  have rf1 := rf 1
  have rf2 := rf 2
  have hs := lt_of_block hres
  have hne1 : ¬ w.heap.size = w1.heap.size := by omega
  have hne2 : ¬ w1.heap.size = w.heap.size := by omega
  have HR := hide hres
  clear hc hres rf hG hG1
  go_wp2
  have z := res3_cells (.int .i64 0) (.int .i64 0) (.int .i64 0) (unhide HR)
  exact bodyPost_ret (v := .tuple #[.agg #[.int .i64 0, .int .i64 0, .int .i64 0], .int .i64 code]) (by simp [results, Tryz.results42, go_sem, (z _).1, (z _).2.1, (z _).2.2]) rfl ⟨rfl, (((((((Below.refl _ _).alloc (Nat.le_refl _) _).trans (hb.mono (by omega)))).setCell (Nat.le_refl _) _).setCell (Nat.le_refl _) _).setCell (Nat.le_refl _) _).alloc (by simp; omega) _⟩

set_option maxRecDepth 100000 in
set_option maxHeartbeats 2000000 in
theorem edger_ok (b n most : Nat) (L : List It) (past : List (List It)) (p : Option Nat) (id : Int) (w : World) (hG : RG w b n most L past p) (hL : L.length ≤ 100) (h1 : Pl.numB id = true) (h4 : Pl.has L id = true) :
    Calls Tryz.prog 42 #[.pointer (some ⟨b, 0, none⟩), .int .i64 id] w fun e w' => ∃ (k : Nat) (hk : k < L.length), L[k].id = id ∧ e = .returned (.tuple #[.agg #[.int .i64 L[k].u, .int .i64 L[k].v, .int .i64 L[k].w], .int .i64 0]) ∧ Below w.heap.size w w' := by
  have hG1 : RG (w.alloc (.cells #[.int .i64 0, .int .i64 0, .int .i64 0] 51)) b n most L past p := hG.later ((Below.refl _ _).alloc (Nat.le_refl _) _)
  go_enter Tryz.func42, Tryz.ntmps42
  go_wp2_with fail
  refine (asked_ok b n most L past p id _ hG1 hL h1 h4).mono ?_
  rintro e w1 ⟨k, hk, hkid, rfl, hb⟩
  have HK := hide hkid
  clear hkid
  simp only [World.size_alloc] at hb
  have hres := made_later hb (by omega)
  obtain ⟨r0, r1, r2, rf⟩ := three_cells hres
  have rf0 := rf 0
  have rf1 := rf 1
  have rf2 := rf 2
  have hs := lt_of_block hres
  have hne1 : ¬ w.heap.size = w1.heap.size := by omega
  have hne2 : ¬ w1.heap.size = w.heap.size := by omega
  have HR := hide hres
  clear hres rf hG hG1
  go_wp2
  have z := res3_cells (.int .i64 L[k].u) (.int .i64 L[k].v) (.int .i64 L[k].w) (unhide HR)
  exact bodyPost_ret (v := .tuple #[.agg #[.int .i64 L[k].u, .int .i64 L[k].v, .int .i64 L[k].w], .int .i64 0]) (by simp [results, Tryz.results42, go_sem, (z _).1, (z _).2.1, (z _).2.2]) rfl ⟨k, hk, unhide HK, rfl, (((((((Below.refl _ _).alloc (Nat.le_refl _) _).trans (hb.mono (by omega)))).setCell (Nat.le_refl _) _).setCell (Nat.le_refl _) _).setCell (Nat.le_refl _) _).alloc (by simp; omega) _⟩

set_option maxRecDepth 100000 in
set_option maxHeartbeats 2000000 in
theorem inr_no (b n most : Nat) (L : List It) (past : List (List It)) (p : Option Nat) (id : Int) (w : World) (hG : RG w b n most L past p) (hL : L.length ≤ 100) (code : Int)
    (hc : (Pl.numB id = false ∧ code = 2) ∨ (Pl.numB id = true ∧ Pl.has L id = false ∧ code = 6)) :
    Calls Tryz.prog 44 #[.pointer (some ⟨b, 0, none⟩), .int .i64 id] w fun e w' => e = .returned (.tuple #[.bool false, .int .i64 code]) ∧ Below w.heap.size w w' := by
  have hcode : (code != 0) = true := by rcases hc with ⟨_, rfl⟩ | ⟨_, _, rfl⟩ <;> rfl
  go_enter Tryz.func44, Tryz.ntmps44
  go_wp2_with fail
  refine (asked_no b n most L past p id _ hG hL code hc).mono ?_
  rintro e w1 ⟨rfl, hb⟩
  have hs := hb.size
  clear hc hG
  go_wp2
  go_ret2
  exact ⟨rfl, hb.alloc hs _⟩

set_option maxRecDepth 100000 in
set_option maxHeartbeats 2000000 in
theorem inr_ok (b n most : Nat) (L : List It) (past : List (List It)) (p : Option Nat) (id : Int) (w : World) (hG : RG w b n most L past p) (hL : L.length ≤ 100) (hn : n ≤ 30) (he : Pl.Ends n L) (h1 : Pl.numB id = true) (h4 : Pl.has L id = true) :
    Calls Tryz.prog 44 #[.pointer (some ⟨b, 0, none⟩), .int .i64 id] w fun e w' => ∃ (k : Nat) (hk : k < L.length), L[k].id = id ∧ e = .returned (.tuple #[.bool (Pl.keeps L L[k]), .int .i64 0]) ∧ Below w.heap.size w w' := by
  go_enter Tryz.func44, Tryz.ntmps44
  go_wp2_with fail
  refine (asked_ok b n most L past p id _ hG hL h1 h4).mono ?_
  rintro e w1 ⟨k, hk, hkid, rfl, hb⟩
  have HK := hide hkid
  clear hkid
  obtain ⟨u0, u1, v0, v1⟩ := he L[k] (List.getElem_mem hk)
  have hG1 := hG.later hb
  obtain ⟨a, cap, vP, c0, c1, c2, c3, hI, hbl⟩ := rg_open hG1
  have hs := hb.size
  have hbne : ¬ b = w1.heap.size := by omega
  have hbne2 : ¬ w1.heap.size = b := by omega
  clear hG hG1
  go_wp2_with fail
  go_region_held3 (fun w' => w'.cell? ⟨b, 0, none⟩ = some (.int .i64 n) ∧ w'.cell? ⟨b, 2, none⟩ = some (.slice a L.length cap) ∧ w'.cell? ⟨w1.heap.size, 0, none⟩ = some (.int .i64 L[k].id) ∧ w'.cell? ⟨w1.heap.size, 1, none⟩ = some (.int .i64 L[k].u) ∧ w'.cell? ⟨w1.heap.size, 2, none⟩ = some (.int .i64 L[k].v) ∧ w'.cell? ⟨w1.heap.size, 3, none⟩ = some (.int .i64 L[k].w))
    (first | go_keep | (go_split_ands; refine ⟨?_, ?_, ?_, ?_, ?_, ?_⟩ <;> (refine cell_later hb2 ?_; first | assumption | simp [*])))
    (first | (go_at_call 82; refine (keeps_any n L L[k] a cap _ (by exact World.ownsRow.alloc hI _) hL hn he u0 u1 v0 v1).mono ?_; rintro e w2 ⟨rfl, hb2⟩))
  go_wp2
  go_ret2
  exact ⟨k, hk, unhide HK, rfl, (hb.alloc hs _).drew.trans (hb2.mono (by simp; omega))⟩

end Go.Proofs.YtnnnleckoinjoaaGreatDoor

namespace Go.Proofs.YtnnnleckoinjoaaGreatDoor
open Go.RowKit
open Pl (It)

set_option maxRecDepth 100000 in
set_option maxHeartbeats 1000000 in
theorem liver_any (b n most : Nat) (L : List It) (past : List (List It)) (p : Option Nat) (w : World) (hG : RG w b n most L past p) (hL : L.length ≤ 100) :
    Calls Tryz.prog 47 #[.pointer (some ⟨b, 0, none⟩)] w fun e w' => ∃ v, e = .returned v ∧ Nums w' w.heap.size v (L.map It.id) ∧ Below w.heap.size w w' := by
  obtain ⟨a, cap, vP, c0, c1, c2, c3, hI, hbl⟩ := rg_open hG
  go_enter Tryz.func47, Tryz.ntmps47
  go_wp2_with fail
  refine (ids_any L a cap _ hI hL).mono ?_
  rintro e w1 ⟨v, rfl, hN, hb⟩
  go_wp2
  go_ret
  exact ⟨_, rfl, hN, hb⟩

set_option maxRecDepth 100000 in
set_option maxHeartbeats 1000000 in
theorem forestr_any (b n most : Nat) (L : List It) (past : List (List It)) (p : Option Nat) (w : World) (hG : RG w b n most L past p) (hL : L.length ≤ 100) (hn : n ≤ 30) (he : Pl.Ends n L) :
    Calls Tryz.prog 51 #[.pointer (some ⟨b, 0, none⟩)] w fun e w' => ∃ v, e = .returned v ∧ Nums w' w.heap.size v ((Pl.forest L).map It.id) ∧ Below w.heap.size w w' := by
  obtain ⟨a, cap, vP, c0, c1, c2, c3, hI, hbl⟩ := rg_open hG
  have hfl := forest_len L
  go_enter Tryz.func51, Tryz.ntmps51
  go_wp2_with fail
  go_region_held3 (fun w' => w'.cell? ⟨b, 0, none⟩ = some (.int .i64 n) ∧ w'.cell? ⟨b, 2, none⟩ = some (.slice a L.length cap))
    (first | go_keep | (go_split_ands; refine ⟨?_, ?_⟩ <;> (refine cell_later hb1 ?_; first | assumption | simp [*])) | (go_split_ands; refine ⟨?_, ?_⟩ <;> (refine cell_later hb2 ?_; first | assumption | simp [*])))
    (first
      | (go_at_call 87; refine (forest_any n L a cap _ (by exact hI) hL hn he).mono ?_; rintro e w1 ⟨v1, rfl, ho1, hb1⟩; obtain ⟨a1, cap1, rfl⟩ := row_form ho1)
      | (go_at_call 86; refine (ids_any (Pl.forest L) a1 cap1 _ (by exact row_mono ho1 (Nat.zero_le _)) (by omega)).mono ?_; rintro e w2 ⟨v2, rfl, ho2, hb2⟩))
  go_wp2
  go_ret
  have hs := hb1.size
  exact ⟨_, rfl, row_mono ho2 hs, (undrew hb1).trans (hb2.mono hs)⟩

set_option maxRecDepth 100000 in
set_option maxHeartbeats 1000000 in
theorem compr_any (b n most : Nat) (L : List It) (past : List (List It)) (p : Option Nat) (w : World) (hG : RG w b n most L past p) (hL : L.length ≤ 100) (hn : n ≤ 30) (he : Pl.Ends n L) :
    Calls Tryz.prog 53 #[.pointer (some ⟨b, 0, none⟩)] w fun e w' => e = .returned (.int .i64 (Pl.parts n L)) ∧ Below w.heap.size w w' := by
  obtain ⟨a, cap, vP, c0, c1, c2, c3, hI, hbl⟩ := rg_open hG
  go_enter Tryz.func53, Tryz.ntmps53
  go_wp2_with fail
  go_region_held3 (fun w' => w'.cell? ⟨b, 0, none⟩ = some (.int .i64 n) ∧ w'.cell? ⟨b, 2, none⟩ = some (.slice a L.length cap))
    (first | go_keep | (go_split_ands; refine ⟨?_, ?_⟩ <;> (refine cell_later hb1 ?_; first | assumption | simp [*])))
    (first
      | (go_at_call 88; refine (parts_any n L a cap _ (by exact hI) hL hn he).mono ?_; rintro e w1 ⟨rfl, hb1⟩))
  go_wp2
  go_ret
  exact ⟨rfl, undrew hb1⟩

set_option maxRecDepth 100000 in
set_option maxHeartbeats 2000000 in
theorem connr_no (b n most : Nat) (L : List It) (past : List (List It)) (p : Option Nat) (u v : Int) (w : World) (hG : RG w b n most L past p) (h : Pl.verB n u = false ∨ (Pl.verB n u = true ∧ Pl.verB n v = false)) :
    Calls Tryz.prog 46 #[.pointer (some ⟨b, 0, none⟩), .int .i64 u, .int .i64 v] w fun e w' => e = .returned (.tuple #[.bool false, .int .i64 3]) ∧ Below w.heap.size w w' := by
  obtain ⟨a, cap, vP, c0, c1, c2, c3, hI, hbl⟩ := rg_open hG
  clear hG
  rcases h with h1 | ⟨h1, h2⟩
  · go_enter Tryz.func46, Tryz.ntmps46
    go_wp2_with (go_at_call 69; refine (vertex_any b n _ _ c0).mono ?_; rintro e w1 ⟨rfl, rfl⟩; (try rw [h1]))
    go_ret2
    exact ⟨rfl, Below.refl _ _⟩
  · go_enter Tryz.func46, Tryz.ntmps46
    go_wp2_with (go_at_call 69; refine (vertex_any b n _ _ c0).mono ?_; rintro e w1 ⟨rfl, rfl⟩; (first | rw [h1] | rw [h2]))
    go_ret2
    exact ⟨rfl, Below.refl _ _⟩

set_option maxRecDepth 100000 in
set_option maxHeartbeats 2000000 in
theorem connr_ok (b n most : Nat) (L : List It) (past : List (List It)) (p : Option Nat) (u v : Int) (w : World) (hG : RG w b n most L past p) (hL : L.length ≤ 100) (hn : n ≤ 30) (he : Pl.Ends n L) (h1 : Pl.verB n u = true) (h2 : Pl.verB n v = true) :
    Calls Tryz.prog 46 #[.pointer (some ⟨b, 0, none⟩), .int .i64 u, .int .i64 v] w fun e w' => e = .returned (.tuple #[.bool (Pl.conn L u v), .int .i64 0]) ∧ Below w.heap.size w w' := by
  obtain ⟨a, cap, vP, c0, c1, c2, c3, hI, hbl⟩ := rg_open hG
  obtain ⟨u0, u1⟩ := Pl.verB_true.1 h1
  obtain ⟨v0, v1⟩ := Pl.verB_true.1 h2
  clear hG
  go_enter Tryz.func46, Tryz.ntmps46
  go_wp2_with (go_at_call 69; refine (vertex_any b n _ _ c0).mono ?_; rintro e w1 ⟨rfl, rfl⟩; (first | rw [h1] | rw [h2]))
  go_region_held3 (fun w' => w'.cell? ⟨b, 0, none⟩ = some (.int .i64 n) ∧ w'.cell? ⟨b, 2, none⟩ = some (.slice a L.length cap))
    (first | go_keep | (go_split_ands; refine ⟨?_, ?_⟩ <;> (refine cell_later hb1 ?_; first | assumption | simp [*])))
    (first
      | (go_at_call 85; refine (spread_int n L u a cap _ (by exact hI) hL hn u0 u1 he).mono ?_; rintro e w1 ⟨rfl, ho1, hb1⟩))
  have cc : w1.cell? ⟨w.heap.size, v.toNat, none⟩ = some (.bool (Pl.conn L u v)) := conns_cell ho1 v0 v1
  have hB := undrew hb1
  clear ho1 hb1
  go_wp2
  go_ret2
  exact ⟨rfl, hB⟩

end Go.Proofs.YtnnnleckoinjoaaGreatDoor

namespace Go.Proofs.YtnnnleckoinjoaaGreatDoor
open Go.RowKit
open Pl (It)

theorem split_w (W : Int) (h0 : -9223372036854775808 ≤ W) (h1 : W ≤ 9223372036854775807) : ∃ d r : Int, W = 4294967296 * d + r ∧ 0 ≤ r ∧ r < 4294967296 ∧ -2147483648 ≤ d ∧ d ≤ 2147483647 ∧
    (W - r).tdiv 4294967296 = d ∧ (W.tmod 4294967296 = r ∨ W.tmod 4294967296 = r - 4294967296 ∧ 0 < r) := by
  refine ⟨W / 4294967296, W % 4294967296, by omega, by omega, by omega, by omega, by omega, ?_, ?_⟩
  · have e : W - W % 4294967296 = 4294967296 * (W / 4294967296) := by omega
    rw [e, Int.mul_tdiv_cancel_left _ (by decide)]
  · by_cases h : W < 0
    · have e : W.tmod 4294967296 = -((-W) % 4294967296) := by
        rw [← Int.tmod_eq_emod_of_nonneg (by omega : 0 ≤ -W), Int.neg_tmod]; omega
      rw [e]; omega
    · left; exact Int.tmod_eq_emod_of_nonneg (by omega)
theorem split_s (S : Int) (k : Nat) (hk : k ≤ 1000) (h0 : -9223372036854775808 * (k : Int) ≤ S) (h1 : S ≤ 9223372036854775808 * (k : Int)) : ∃ h o : Int, S = 4294967296 * h + o ∧ 0 ≤ o ∧ o < 4294967296 ∧ -2147483648000 ≤ h ∧ h ≤ 2147483648000 ∧ S / 4294967296 = h ∧ S % 4294967296 = o :=
  ⟨S / 4294967296, S % 4294967296, by omega, by omega, by omega, by omega, by omega, rfl, rfl⟩

set_option maxRecDepth 100000 in
set_option maxHeartbeats 1000000 in
theorem weightr_any (b n most : Nat) (L : List It) (past : List (List It)) (p : Option Nat) (w : World) (hG : RG w b n most L past p) (hL : L.length ≤ 100) (hn : n ≤ 30) (he : Pl.Ends n L) (hw : Pl.WB L) :
    Calls Tryz.prog 55 #[.pointer (some ⟨b, 0, none⟩)] w fun e w' => e = .returned (.tuple #[.int .i64 (Pl.sumw (Pl.forest L) / 4294967296), .int .i64 (Pl.sumw (Pl.forest L) % 4294967296)]) ∧ Below w.heap.size w w' := by
  obtain ⟨a, cap, vP, c0, c1, c2, c3, hI, hbl⟩ := rg_open hG
  have hfl := forest_len L
  have hwF : Pl.WB (Pl.forest L) := fun e h => hw e (List.mem_filter.1 h).1
  clear hG
  go_enter Tryz.func55, Tryz.ntmps55
  go_wp2_with fail
  go_region_held3 (fun w' => w'.cell? ⟨b, 0, none⟩ = some (.int .i64 n) ∧ w'.cell? ⟨b, 2, none⟩ = some (.slice a L.length cap))
    (first | go_keep | (go_split_ands; refine ⟨?_, ?_⟩ <;> (refine cell_later hb1 ?_; first | assumption | simp [*])))
    (first
      | (go_at_call 87; refine (forest_any n L a cap _ (by exact hI) hL hn he).mono ?_; rintro e w1 ⟨v1, rfl, ho1, hb1⟩; obtain ⟨a1, cap1, rfl⟩ := row_form ho1))
  have hB := undrew hb1
  clear hb1 c0 c1 c2 c3 hI
  obtain ⟨F, hF⟩ : ∃ F, F = Pl.forest L := ⟨_, rfl⟩
  rw [← hF] at ho1 hwF hfl
  simp only [← hF]
  have HF := hide hF
  clear hF
  go_wp2
  go_loopg [4, 5, 7] F.length (fun gk hi lo i wr => ∃ k : Nat, k ≤ F.length ∧ i = .int .i64 k ∧ hi = .int .i64 (Pl.sumw (F.take k) / 4294967296) ∧ lo = .int .i64 (Pl.sumw (F.take k) % 4294967296) ∧ wr = w1 ∧ F.length - k ≤ gk)
  case atStart => exact ⟨0, Nat.zero_le _, rfl, rfl, rfl, rfl, by omega⟩
  case round =>
    obtain ⟨k, hk, rfl, rfl, rfl, rfl, hgk⟩ := hrel
    by_cases hlt : k < F.length
    · obtain ⟨g, rfl⟩ := row_some ho1 (by omega)
      obtain ⟨_, _, _, e3⟩ := its_cells ho1 k hlt
      obtain ⟨W0, W1⟩ := hwF F[k] (List.getElem_mem hlt)
      have HS := hide (Pl.sumw_snoc F k hlt)
      obtain ⟨S0, S1⟩ := Pl.sumw_bd _ (Pl.WB_take hwF k)
      have hl' : (F.take k).length = k := by simp; omega
      rw [hl'] at S0 S1
      have hk1 : (0 : Int) ≤ k := by omega
      have hk2 : (k : Int) < F.length := by omega
      have B1 := hide (And.intro hk (And.intro hgk hlt))
      obtain ⟨d, r, hWd, r0, r1, d0, d1, hD, hT⟩ := split_w F[k].w W0 W1
      obtain ⟨h, o, hSo, o0, o1, h0, h1, hSh, hSm⟩ := split_s (Pl.sumw (F.take k)) k (by omega) S0 S1
      rw [hSh, hSm]
      have HQ : Hid (Pl.sumw (F.take (k + 1)) = 4294967296 * (h + d) + (o + r)) := by
        show _ = _
        rw [unhide HS, hSo, hWd]; omega
      have w0 : -9223372036854775808 ≤ F[k].w - r := by omega
      have w1' : F[k].w - r ≤ 9223372036854775807 := by omega
      generalize F[k].w = W at *
      clear HS S0 S1 hSh hSm hSo W0 W1 hWd
      rcases hT with hT | hT
      · go_wp2
        · go_roundg (gk - 1)
          case measure => omega
          case rel => exact ⟨k + 1, by omega, by go_num, by rw [unhide HQ]; exact congrArg _ (by omega), by rw [unhide HQ]; exact congrArg _ (by omega), rfl, by omega⟩
        · go_roundg (gk - 1)
          case measure => omega
          case rel => exact ⟨k + 1, by omega, by go_num, by rw [unhide HQ]; exact congrArg _ (by omega), by rw [unhide HQ]; exact congrArg _ (by omega), rfl, by omega⟩
      · go_wp2
        · go_roundg (gk - 1)
          case measure => omega
          case rel => exact ⟨k + 1, by omega, by go_num, by rw [unhide HQ]; exact congrArg _ (by omega), by rw [unhide HQ]; exact congrArg _ (by omega), rfl, by omega⟩
        · go_roundg (gk - 1)
          case measure => omega
          case rel => exact ⟨k + 1, by omega, by go_num, by rw [unhide HQ]; exact congrArg _ (by omega), by rw [unhide HQ]; exact congrArg _ (by omega), rfl, by omega⟩
    · have hk' : F.take k = F := List.take_of_length_le (by omega)
      rw [hk']
      go_wp2
      go_ret2
      exact ⟨ret_pair (by rw [unhide HF]) (by rw [unhide HF]), hB⟩
end Go.Proofs.YtnnnleckoinjoaaGreatDoor

namespace Go.Proofs.YtnnnleckoinjoaaGreatDoor
open Go.RowKit
open Pl (It)

def Pl.outI (l : List It) (id : Int) : List It := l.filter (fun e => decide (e.id ≠ id))
def Pl.lightI (l : List It) (x : Int) : List It := l.filter (fun e => decide (e.w ≤ x))

set_option maxRecDepth 100000 in
set_option maxHeartbeats 2000000 in
theorem without_any (l : List It) (id : Int) (a : Option Addr) (cap : Nat) (w : World) (h : Its w 0 (.slice a l.length cap) l) (hl : l.length ≤ 100) :
    Calls Tryz.prog 78 #[.slice a l.length cap, .int .i64 id] w fun e w' => ∃ v, e = .returned v ∧ Its w' w.heap.size v (Pl.outI l id) ∧ Below w.heap.size w w' := by
  go_enter Tryz.func78, Tryz.ntmps78
  go_wp2
  go_loopg [5, 6] l.length (fun gk v i wr => ∃ k : Nat, k ≤ l.length ∧ i = .int .i64 k ∧ Its wr w.heap.size v ((l.take k).filter (fun e => decide (e.id ≠ id))) ∧ Below w.heap.size w wr ∧ l.length - k ≤ gk)
  case atStart => exact ⟨0, Nat.zero_le _, rfl, World.ownsRow_nil _ _ _ _, Below.refl _ _, by omega⟩
  case round =>
    obtain ⟨k, hk, rfl, hown, hb, hgk⟩ := hrel
    have hz1' : w.heap.size ≤ wr.heap.size := hb.size
    by_cases hlt : k < l.length
    · obtain ⟨g, rfl⟩ := row_some h (by omega)
      have hI : Its wr 0 (.slice (some ⟨g, 0, none⟩) l.length cap) l := row_below h hb (Nat.le_refl _)
      obtain ⟨c0, c1, c2, c3⟩ := its_cells hI k hlt
      have hk1 : (0 : Int) ≤ k := by omega
      have hk2 : (k : Int) < l.length := by omega
      have hlen : ((l.take k).filter (fun e => decide (e.id ≠ id))).length ≤ k := Nat.le_trans (List.length_filter_le _ _) (by simp; omega)
      have HS := hide (Pl.filter_snoc (fun e => decide (e.id ≠ id)) l k hlt)
      by_cases hq : l[k].id = id
      · have hq' : (l[k].id != id) = false := by simp [hq]
        go_wp2
        go_roundg (gk - 1)
        case measure => omega
        case rel => exact ⟨k + 1, by omega, by go_num, by rw [unhide HS, if_neg (by simp [hq]), List.append_nil]; exact hown, hb, by omega⟩
      · have hq' : (l[k].id != id) = true := by simp [hq]
        go_wp2_with (at_builtin; refine wpList_append_item wr rfl (.tmp 20) (.tmp 25) rfl w.heap.size u5 _ rfl (by exact hown) l[k] (by rfl) (by omega) (by exact hz1') ?_; intro v' w2 hown2 hgrow)
        go_roundg (gk - 1)
        case measure => omega
        case rel => exact ⟨k + 1, by omega, by go_num, by rw [unhide HS, if_pos (by simp [hq])]; exact hown2, hb.trans hgrow, by omega⟩
    · have hk' : l.take k = l := List.take_of_length_le (by omega)
      rw [hk'] at hown
      go_wp2
      go_ret
      exact ⟨_, rfl, hown, hb⟩

set_option maxRecDepth 100000 in
set_option maxHeartbeats 2000000 in
theorem light_any (l : List It) (x : Int) (a : Option Addr) (cap : Nat) (w : World) (h : Its w 0 (.slice a l.length cap) l) (hl : l.length ≤ 100) :
    Calls Tryz.prog 90 #[.slice a l.length cap, .int .i64 x] w fun e w' => ∃ v, e = .returned v ∧ Its w' w.heap.size v (Pl.lightI l x) ∧ Below w.heap.size w w' := by
  go_enter Tryz.func90, Tryz.ntmps90
  go_wp2
  go_loopg [5, 6] l.length (fun gk v i wr => ∃ k : Nat, k ≤ l.length ∧ i = .int .i64 k ∧ Its wr w.heap.size v ((l.take k).filter (fun e => decide (e.w ≤ x))) ∧ Below w.heap.size w wr ∧ l.length - k ≤ gk)
  case atStart => exact ⟨0, Nat.zero_le _, rfl, World.ownsRow_nil _ _ _ _, Below.refl _ _, by omega⟩
  case round =>
    obtain ⟨k, hk, rfl, hown, hb, hgk⟩ := hrel
    have hz1' : w.heap.size ≤ wr.heap.size := hb.size
    by_cases hlt : k < l.length
    · obtain ⟨g, rfl⟩ := row_some h (by omega)
      have hI : Its wr 0 (.slice (some ⟨g, 0, none⟩) l.length cap) l := row_below h hb (Nat.le_refl _)
      obtain ⟨c0, c1, c2, c3⟩ := its_cells hI k hlt
      have hk1 : (0 : Int) ≤ k := by omega
      have hk2 : (k : Int) < l.length := by omega
      have hlen : ((l.take k).filter (fun e => decide (e.w ≤ x))).length ≤ k := Nat.le_trans (List.length_filter_le _ _) (by simp; omega)
      have HS := hide (Pl.filter_snoc (fun e => decide (e.w ≤ x)) l k hlt)
      by_cases hq : l[k].w ≤ x
      · go_wp2_with (at_builtin; refine wpList_append_item wr rfl (.tmp 20) (.tmp 25) rfl w.heap.size u5 _ rfl (by exact hown) l[k] (by rfl) (by omega) (by exact hz1') ?_; intro v' w2 hown2 hgrow)
        go_roundg (gk - 1)
        case measure => omega
        case rel => exact ⟨k + 1, by omega, by go_num, by rw [unhide HS, if_pos (by simp [hq])]; exact hown2, hb.trans hgrow, by omega⟩
      · go_wp2
        go_roundg (gk - 1)
        case measure => omega
        case rel => exact ⟨k + 1, by omega, by go_num, by rw [unhide HS, if_neg (by simp; omega), List.append_nil]; exact hown, hb, by omega⟩
    · have hk' : l.take k = l := List.take_of_length_le (by omega)
      rw [hk'] at hown
      go_wp2
      go_ret
      exact ⟨_, rfl, hown, hb⟩

end Go.Proofs.YtnnnleckoinjoaaGreatDoor

namespace Go.Proofs.YtnnnleckoinjoaaGreatDoor
open Go.RowKit
open Pl (It)

theorem Pl.out_len (l : List It) (id : Int) : (Pl.outI l id).length ≤ l.length := List.length_filter_le _ _
theorem Pl.out_ends {n : Nat} {l : List It} (h : Pl.Ends n l) (id : Int) : Pl.Ends n (Pl.outI l id) := fun e he => h e ((List.mem_filter.1 he).1)

set_option maxRecDepth 100000 in
set_option maxHeartbeats 2000000 in
theorem delr_no (b n most : Nat) (L : List It) (past : List (List It)) (p : Option Nat) (id : Int) (w : World) (hG : RG w b n most L past p) (hL : L.length ≤ 100) (code : Int)
    (hc : (Pl.numB id = false ∧ code = 2) ∨ (Pl.numB id = true ∧ Pl.has L id = false ∧ code = 6)) :
    Calls Tryz.prog 38 #[.pointer (some ⟨b, 0, none⟩), .int .i64 id] w fun e w' => e = .returned (.tuple #[.agg #[.int .i64 0, .int .i64 0], .int .i64 code]) ∧ Below w.heap.size w w' := by
  have hG1 : RG (w.alloc (.cells #[.int .i64 0, .int .i64 0] 73)) b n most L past p := hG.later ((Below.refl _ _).alloc (Nat.le_refl _) _)
  have hcode : (code != 0) = true := by rcases hc with ⟨_, rfl⟩ | ⟨_, _, rfl⟩ <;> rfl
  go_enter Tryz.func38, Tryz.ntmps38
  go_wp2_with fail
  refine (asked_no b n most L past p id _ hG1 hL code hc).mono ?_
  rintro e w1 ⟨rfl, hb⟩
  simp only [World.size_alloc] at hb
  have hres := made_later hb (by omega)
  obtain ⟨r0, r1, rf⟩ := two_cells hres
  have rf0 := rf 0
  have rf1 := rf 1
  have hs := lt_of_block hres
  have hne1 : ¬ w.heap.size = w1.heap.size := by omega
  have hne2 : ¬ w1.heap.size = w.heap.size := by omega
  have HR := hide hres
  clear hc hres rf hG hG1
  go_wp2
  have z := @res_cells w1 w.heap.size 73 _ _ (.int .i64 0) (.int .i64 0) (unhide HR)
  exact bodyPost_ret (v := .tuple #[.agg #[.int .i64 0, .int .i64 0], .int .i64 code]) (by simp [results, Tryz.results38, go_sem, (z _).1, (z _).2]) rfl ⟨rfl, (((((Below.refl _ _).alloc (Nat.le_refl _) _).trans (hb.mono (by omega))).setCell (Nat.le_refl _) _).setCell (Nat.le_refl _) _).alloc (by simp; omega) _⟩

set_option maxRecDepth 100000 in
set_option maxHeartbeats 4000000 in
theorem delr_ok (b n most : Nat) (L : List It) (past : List (List It)) (p : Option Nat) (id : Int) (w : World) (hG : RG w b n most L past p) (hL : L.length ≤ 100) (hn : n ≤ 30) (he : Pl.Ends n L) (hp : past.length ≤ 20)
    (h1 : Pl.numB id = true) (h4 : Pl.has L id = true) :
    Calls Tryz.prog 38 #[.pointer (some ⟨b, 0, none⟩), .int .i64 id] w fun e w' =>
      e = .returned (.tuple #[.agg #[.int .i64 (Pl.only (Pl.forest (Pl.outI L id)) (Pl.forest L)), .int .i64 (Pl.only (Pl.forest L) (Pl.forest (Pl.outI L id)))], .int .i64 0]) ∧
      ∃ p', RG w' b n most (Pl.outI L id) (push past L) p' ∧ (p' = p ∨ ∃ k, p' = some k ∧ w.heap.size ≤ k) ∧ Fr (fun k => k = b ∨ p = some k) w w' := by
  have hG1 : RG (w.alloc (.cells #[.int .i64 0, .int .i64 0] 73)) b n most L past p := hG.later ((Below.refl _ _).alloc (Nat.le_refl _) _)
  have hx := Pl.out_len L id
  have hends := Pl.out_ends he id
  have hbl : b < w.heap.size := by obtain ⟨_, _, h, _⟩ := hG; exact lt_of_block h
  have HG := hide hG
  clear hG
  go_enter Tryz.func38, Tryz.ntmps38
  go_wp2_with fail
  refine (asked_ok b n most L past p id _ hG1 hL h1 h4).mono ?_
  rintro e w1 ⟨k, hk, hkid, rfl, hb⟩
  simp only [World.size_alloc] at hb
  have hs1 : w.heap.size + 1 ≤ w1.heap.size := by have := hb.size; rw [World.size_alloc] at this; exact this
  have hb1 : Below w.heap.size w w1 := ((Below.refl _ _).alloc (Nat.le_refl _) _).trans (hb.mono (by omega))
  obtain ⟨a, cap, vP, c0, c1, c2, c3, hI, _⟩ := rg_open ((unhide HG).later hb1)
  have hres := made_later hb (by omega)
  have hne1 : b < w1.heap.size := by omega
  have hne3 : w.heap.size < w1.heap.size := by omega
  have HK := hide (And.intro hI (And.intro hb1 hres))
  clear hkid hI hb1 hres hb hG1
  go_wp2_with fail
  obtain ⟨hI, hb1, hres⟩ := unhide HK
  refine (without_any L id a cap _ (by exact World.ownsRow.alloc hI _) hL).mono ?_
  rintro e w2 ⟨v2, rfl, ow, bw⟩
  obtain ⟨aw, cw, rfl⟩ := row_form ow
  rw [World.size_alloc] at bw ow
  have hb2 : Below w.heap.size w w2 := (hb1.alloc hb1.size _).trans (bw.mono (by omega))
  have hs2 : w1.heap.size + 1 ≤ w2.heap.size := by have := bw.size; rw [World.size_alloc] at this; exact this
  have hres2 : w2.heap[w.heap.size]? = some (.cells #[.int .i64 0, .int .i64 0] 73 (0, 0)) := by
    rw [bw.block _ (by omega), Below.heap_alloc _ _ _ hne3]; exact hres
  have hG2 := (unhide HG).later hb2
  have hpl := rg_past (unhide HG)
  clear hI hb1 hres HK c0 c1 c2 c3
  go_wp2_with fail
  refine (turns_any b n most L (Pl.outI L id) past p aw cw _ (by exact hG2) (by exact row_mono ow (Nat.zero_le _)) (by omega) hL hn he hends hp).mono ?_
  rintro e w3 ⟨rfl, p', hG3, hp', hF3⟩
  have hres3 := (hF3.block _ (lt_of_block hres2) (by
    rintro (e | e)
    · omega
    · obtain ⟨h6, _⟩ := hpl _ e; omega)).trans hres2
  obtain ⟨y0, y1, yf⟩ := two_cells hres3
  have yf0 := yf 0
  have yf1 := yf 1
  have hs3 := lt_of_block hres3
  have hne4 : ¬ w.heap.size = w3.heap.size := by omega
  have hne5 : ¬ w3.heap.size = w.heap.size := by omega
  have hFr : Fr (fun k => k = b ∨ p = some k) w w3 := (Fr.of_below hb2).trans hF3
  have K := hide (And.intro hG3 (And.intro hp' (And.intro hFr (And.intro hb2.size hres3))))
  clear hG3 hp' hFr hF3 hG2 hres2 hres3 hb2 bw ow hpl yf HG
  go_wp2
  obtain ⟨hG3, hp', hFr, hsz, hres3⟩ := unhide K
  have z := @res_cells w3 w.heap.size 73 _ _ (.int .i64 (Pl.only (Pl.forest (Pl.outI L id)) (Pl.forest L))) (.int .i64 (Pl.only (Pl.forest L) (Pl.forest (Pl.outI L id)))) hres3
  refine bodyPost_ret (v := .tuple #[.agg #[.int .i64 (Pl.only (Pl.forest (Pl.outI L id)) (Pl.forest L)), .int .i64 (Pl.only (Pl.forest L) (Pl.forest (Pl.outI L id)))], .int .i64 0]) (by simp [results, Tryz.results38, go_sem, (z _).1, (z _).2]) rfl ⟨rfl, p', (res_end hres3 hG3 hFr).1, ?_, (res_end hres3 hG3 hFr).2⟩
  rcases hp' with h | ⟨k, h, h'⟩
  · exact Or.inl h
  · exact Or.inr ⟨k, h, by omega⟩

end Go.Proofs.YtnnnleckoinjoaaGreatDoor

namespace Go.Proofs.YtnnnleckoinjoaaGreatDoor
open Go.RowKit
open Pl (It)

set_option maxRecDepth 100000 in
set_option maxHeartbeats 2000000 in
theorem undor_no (b n most : Nat) (L : List It) (p : Option Nat) (w : World) (hG : RG w b n most L [] p) :
    Calls Tryz.prog 40 #[.pointer (some ⟨b, 0, none⟩)] w fun e w' => e = .returned (.tuple #[.agg #[.int .i64 0, .int .i64 0], .int .i64 8]) ∧ Below w.heap.size w w' := by
  obtain ⟨vL, vP, hb, hIL, hP, hpo⟩ := hG
  obtain ⟨ao, capP, rfl, _, _⟩ := past_open hP
  obtain ⟨c0, c1, c2, c3, cf⟩ := four_cells hb
  have hbl := lt_of_block hb
  have hbne : ¬ b = w.heap.size := by omega
  have hbne2 : ¬ w.heap.size = b := by omega
  clear hP hpo hb hIL
  go_enter Tryz.func40, Tryz.ntmps40
  go_wp2
  exact bodyPost_ret (v := .tuple #[.agg #[.int .i64 0, .int .i64 0], .int .i64 8]) (by simp [results, Tryz.results40, go_sem]) rfl ⟨rfl, by repeat (first | exact (Below.refl _ _).alloc (Nat.le_refl _) _ | refine Below.setCell ?_ (Nat.le_refl _) _)⟩

/-- what is left to be taken back -/
theorem past_init {w : World} {g off cap : Nat} {q : List (List It)} {l : List It} (h : PastAt w (.slice (some ⟨g, off, none⟩) (q.length + 1) cap) (q ++ [l])) : PastAt w (.slice (some ⟨g, off, none⟩) q.length cap) q := by
  rcases h with ⟨h, _⟩ | ⟨g', off', cap', cur, hv, h1, h2, h3, h4, h5⟩
  · cases h
  · simp only [Value.slice.injEq, Option.some.injEq, Addr.mk.injEq, and_true, List.length_append, List.length_cons, List.length_nil] at hv
    obtain ⟨⟨rfl, rfl⟩, _, rfl⟩ := hv
    refine Or.inr ⟨g, off, cap, cur, rfl, h1, by simp at h2; omega, h3, h4, fun j hj => ?_⟩
    obtain ⟨vj, e1, e2⟩ := h5 j (by simp; omega)
    rw [List.getElem_append_left hj] at e2
    exact ⟨vj, e1, e2⟩
/-- the last list, its place and its cell -/
theorem past_last {w : World} {v : Value} {q : List (List It)} {l : List It} (h : PastAt w v (q ++ [l])) :
    ∃ g off cap a c, v = .slice (some ⟨g, off, none⟩) (q.length + 1) cap ∧ w.cell? ⟨g, off + q.length, none⟩ = some (.slice a l.length c) ∧ Its w 0 (.slice a l.length c) l ∧ g < w.heap.size ∧ q.length + 1 ≤ cap ∧ ∃ cur, w.heap[g]? = some (.cells cur 76 (0, 0)) := by
  rcases h with ⟨_, h⟩ | ⟨g, off, cap, cur, hv, h1, h2, h3, h4, h5⟩
  · simp at h
  · obtain ⟨vj, e1, e2⟩ := h5 q.length (by simp)
    rw [List.getElem_append_right (Nat.le_refl _)] at e2
    simp at e2
    obtain ⟨a, c, rfl⟩ := row_form e2
    exact ⟨g, off, cap, a, c, by simpa using hv, by simp [World.cell?, h1, e1], e2, lt_of_block h1, by simpa using h2, cur, h1⟩

set_option maxRecDepth 100000 in
set_option maxHeartbeats 4000000 in
theorem undor_ok (b n most : Nat) (L l : List It) (q : List (List It)) (p : Option Nat) (w : World) (hG : RG w b n most L (q ++ [l]) p)
    (hl : l.length ≤ 100) (hL : L.length ≤ 100) (hn : n ≤ 30) (he : Pl.Ends n L) (he2 : Pl.Ends n l) (hp : q.length ≤ 20) :
    Calls Tryz.prog 40 #[.pointer (some ⟨b, 0, none⟩)] w fun e w' =>
      e = .returned (.tuple #[.agg #[.int .i64 (Pl.only (Pl.forest l) (Pl.forest L)), .int .i64 (Pl.only (Pl.forest L) (Pl.forest l))], .int .i64 0]) ∧ RG w' b n most l q p ∧ Fr (fun k => k = b) w w' := by
  obtain ⟨vL, vP, hb, hIL, hP, hpo⟩ := hG
  obtain ⟨aL, capL, rfl⟩ := row_form hIL
  obtain ⟨g, off, capP, a, cap, rfl, cg, h, hgl, hqc, cur, hg⟩ := past_last hP
  obtain ⟨c0, c1, c2, c3, cf⟩ := four_cells hb
  have hbl := lt_of_block hb
  have hbl2 : b < (w.alloc (.cells #[.int .i64 0, .int .i64 0] 73)).heap.size := by rw [World.size_alloc]; omega
  have hbne : ¬ b = w.heap.size := by omega
  have hbne1 : ¬ b = w.heap.size + 1 := by omega
  have hbne2 : ¬ w.heap.size = b := by omega
  have hbne3 : ¬ w.heap.size + 1 = b := by omega
  have hgne : ¬ g = w.heap.size := by omega
  have hi1 : ((q.length + 1 : Nat) : Int) - 1 = q.length := by omega
  have hi2 : (0 : Int) ≤ q.length := by omega
  have hi3 : (q.length : Int) < ((q.length + 1 : Nat) : Int) := by omega
  have K1 : Aside (w.heap[b]? = some (.cells #[.int .i64 n, .int .i64 most, .slice aL L.length capL, .slice (some ⟨g, off, none⟩) (q.length + 1) capP] 79 (0, 0)) ∧ Its w 0 (.slice aL L.length capL) L ∧ Its w 0 (.slice a l.length cap) l ∧ PastAt w (.slice (some ⟨g, off, none⟩) (q.length + 1) capP) (q ++ [l]) ∧ (some g = p) ∧ w.heap[g]? = some (.cells cur 76 (0, 0))) := ⟨hb, hIL, h, hP, hpo, hg⟩
  clear hb hP hpo hg cf
  go_enter Tryz.func40, Tryz.ntmps40
  go_upto_region 5 with fail
  go_cut [6] (fun s wx => ∃ gc, s = .pointer (some ⟨gc, 0, none⟩) ∧ w.heap.size < gc ∧ wx.heap[gc]? = some (.cells #[.int .i64 (Pl.only (Pl.forest l) (Pl.forest L)), .int .i64 (Pl.only (Pl.forest L) (Pl.forest l))] 73 (0, 0)) ∧
    wx.heap[w.heap.size]? = some (.cells #[.int .i64 0, .int .i64 0] 73 (0, 0)) ∧ Below w.heap.size w wx)
  case first =>
    clear hi1 hi2 hi3 cg hgne
    go_region_held3 (fun w' => w'.cell? ⟨b, 0, none⟩ = some (.int .i64 n) ∧ w'.cell? ⟨b, 2, none⟩ = some (.slice aL L.length capL))
      ((go_split_ands; refine ⟨?_, ?_⟩ <;> (first | go_keep | (refine cell_later hb1 ?_; first | assumption | simp [*]))))
      (first
        | (go_at_call 80; refine (change_any n L l aL a capL cap _ (by first | exact World.ownsRow.alloc hIL _ | exact World.ownsRow.alloc (World.ownsRow.alloc hIL _) _) hL (by first | exact World.ownsRow.alloc h _ | exact World.ownsRow.alloc (World.ownsRow.alloc h _) _) hl hn he he2).mono ?_; rintro e w1 ⟨rfl, hb1⟩; have q := var_facts hb1; (try simp only [World.size_alloc] at q); obtain ⟨q0, q1, q2, q3⟩ := q; have hbl1 := ne_later hb1 (b := b) (by first | exact lt_alloc hbl | exact lt_alloc hbl2); have z0 : w1.cell? ⟨b, 0, none⟩ = some (.int .i64 n) := cell_later hb1 (by simp [c0, World.cell?_alloc_some]); have z2 : w1.cell? ⟨b, 2, none⟩ = some (.slice aL L.length capL) := cell_later hb1 (by simp [c2, World.cell?_alloc_some])))
    · go_wp2_with fail
      go_meet
      exact ⟨_, rfl, cut1 hb1⟩
    · go_wp2_with fail
      go_meet
      exact ⟨_, rfl, cut2 hb1⟩
  case rest =>
    rename World => wa
    obtain ⟨gc, rfl, hgc, hvc, hvr, hB⟩ := hcut
    obtain ⟨hb, hIL, hI, hP, hpo, hg⟩ := K1.out
    have hbw : wa.heap[b]? = some (.cells #[.int .i64 n, .int .i64 most, .slice aL L.length capL, .slice (some ⟨g, off, none⟩) (q.length + 1) capP] 79 (0, 0)) := by rw [hB.block b hbl]; exact hb
    have hIw := hI.later hB (Nat.le_refl _)
    have hPw : PastAt wa (.slice (some ⟨g, off, none⟩) q.length capP) q := past_fr (past_init hP) (Fr.of_below (S := fun _ => False) hB) (fun _ _ _ _ f => f) (fun _ _ f => f)
    obtain ⟨d0, d1, d2, d3, df⟩ := four_cells hbw
    have df2 := df 2
    have df3 := df 3
    obtain ⟨e0, e1, _⟩ := two_cells hvc
    obtain ⟨y0, y1, yf⟩ := two_cells hvr
    have yf0 := yf 0
    have yf1 := yf 1
    have hgcb : ¬ gc = b := by omega
    have hbgc : ¬ b = gc := by omega
    have hgr : ¬ gc = w.heap.size := by omega
    have hrg : ¬ w.heap.size = gc := by omega
    have hF : Fr (fun k => k = b) w wa := Fr.of_below hB
    have KE := hide (turns_end (S := fun k => k = b) (x := .int .i64 (Pl.only (Pl.forest l) (Pl.forest L))) (y := .int .i64 (Pl.only (Pl.forest L) (Pl.forest l))) hvr hbw hPw hIw hF rfl)
    have KR := hide hvr
    have hpo' := hide hpo
    clear hF hbw hIw hPw hvc hvr hB hb hIL hI hP hpo hg K1 df yf c0 c1 c2 c3 cg h
    go_wp2
    obtain ⟨r1, r2⟩ := unhide KE
    have hr2 : ((wa.setCell ⟨b, 3, none⟩ (.slice (some ⟨g, off, none⟩) q.length capP)).setCell ⟨b, 2, none⟩ (.slice a l.length cap)).heap[w.heap.size]? = some (.cells #[.int .i64 0, .int .i64 0] 73 (0, 0)) := by
      rw [Below.heap_setCell _ _ _ _ hbne2, Below.heap_setCell _ _ _ _ hbne2]; exact unhide KR
    obtain ⟨z0, z1, _⟩ := two_cells (set_two (x := .int .i64 (Pl.only (Pl.forest l) (Pl.forest L))) (y := .int .i64 (Pl.only (Pl.forest L) (Pl.forest l))) hr2)
    rw [show (Value.slice (some ⟨g, off, none⟩) q.length capP).ownBlock = p from unhide hpo'] at r1
    exact bodyPost_ret (v := .tuple #[.agg #[.int .i64 (Pl.only (Pl.forest l) (Pl.forest L)), .int .i64 (Pl.only (Pl.forest L) (Pl.forest l))], .int .i64 0]) (by simp [results, Tryz.results40, go_sem, z0, z1]) rfl ⟨rfl, r1, r2⟩

end Go.Proofs.YtnnnleckoinjoaaGreatDoor

namespace Go.Proofs.YtnnnleckoinjoaaGreatDoor
open Go.RowKit
open Pl (It)

theorem Pl.light_len (l : List It) (x : Int) : (Pl.lightI l x).length ≤ l.length := List.length_filter_le _ _
theorem Pl.light_ends {n : Nat} {l : List It} (h : Pl.Ends n l) (x : Int) : Pl.Ends n (Pl.lightI l x) := fun e he => h e (List.mem_filter.1 he).1
/-- how many vertices are joined with u -/
def Pl.reachN (n : Nat) (l : List It) (u : Int) : Nat := ((List.range n).filter fun (v : Nat) => Pl.conn l u v).length

set_option maxRecDepth 100000 in
set_option maxHeartbeats 2000000 in
theorem groupsr_any (b n most : Nat) (L : List It) (past : List (List It)) (p : Option Nat) (x : Int) (w : World) (hG : RG w b n most L past p) (hL : L.length ≤ 100) (hn : n ≤ 30) (he : Pl.Ends n L) :
    Calls Tryz.prog 57 #[.pointer (some ⟨b, 0, none⟩), .int .i64 x] w fun e w' => e = .returned (.int .i64 (Pl.parts n (Pl.lightI L x))) ∧ Below w.heap.size w w' := by
  obtain ⟨a, cap, vP, c0, c1, c2, c3, hI, hbl⟩ := rg_open hG
  have hll := Pl.light_len L x
  have hle := Pl.light_ends he x
  clear hG
  go_enter Tryz.func57, Tryz.ntmps57
  go_wp2_with fail
  go_region_held3 (fun w' => w'.cell? ⟨b, 0, none⟩ = some (.int .i64 n) ∧ w'.cell? ⟨b, 2, none⟩ = some (.slice a L.length cap))
    (first | go_keep | (go_split_ands; refine ⟨?_, ?_⟩ <;> (refine cell_later hb1 ?_; first | assumption | simp [*])) | (go_split_ands; refine ⟨?_, ?_⟩ <;> (refine cell_later hb2 ?_; first | assumption | simp [*])))
    (first
      | (go_at_call 90; refine (light_any L x a cap _ (by exact hI) hL).mono ?_; rintro e w1 ⟨v1, rfl, ho1, hb1⟩; obtain ⟨a1, cap1, rfl⟩ := row_form ho1)
      | (go_at_call 88; refine (parts_any n (Pl.lightI L x) a1 cap1 _ (by exact row_mono ho1 (Nat.zero_le _)) (by omega) hn hle).mono ?_; rintro e w2 ⟨rfl, hb2⟩))
  have hB : Below w.heap.size w w2 := (undrew hb1).trans (hb2.mono hb1.size)
  clear ho1 hb1 hb2
  go_wp2
  go_ret
  exact ⟨rfl, hB⟩

set_option maxRecDepth 100000 in
set_option maxHeartbeats 2000000 in
theorem reachr_no (b n most : Nat) (L : List It) (past : List (List It)) (p : Option Nat) (u x : Int) (w : World) (hG : RG w b n most L past p) (h1 : Pl.verB n u = false) :
    Calls Tryz.prog 63 #[.pointer (some ⟨b, 0, none⟩), .int .i64 u, .int .i64 x] w fun e w' => e = .returned (.tuple #[.int .i64 0, .int .i64 3]) ∧ Below w.heap.size w w' := by
  obtain ⟨a, cap, vP, c0, c1, c2, c3, hI, hbl⟩ := rg_open hG
  clear hG
  go_enter Tryz.func63, Tryz.ntmps63
  go_wp2_with (go_at_call 69; refine (vertex_any b n _ _ c0).mono ?_; rintro e w1 ⟨rfl, rfl⟩; (try rw [h1]))
  go_ret2
  exact ⟨rfl, Below.refl _ _⟩

theorem reach_snoc (l : List It) (u : Int) (k : Nat) : Pl.reachN (k + 1) l u = Pl.reachN k l u + if Pl.conn l u k then 1 else 0 := by
  unfold Pl.reachN
  rw [List.range_succ, List.filter_append, List.length_append, List.filter_cons, List.filter_nil]
  split <;> simp
theorem reach_le (l : List It) (u : Int) (k : Nat) : Pl.reachN k l u ≤ k := Nat.le_trans (List.length_filter_le _ _) (by simp)

set_option maxRecDepth 100000 in
set_option maxHeartbeats 4000000 in
theorem reachr_ok (b n most : Nat) (L : List It) (past : List (List It)) (p : Option Nat) (u x : Int) (w : World) (hG : RG w b n most L past p) (hL : L.length ≤ 100) (hn : n ≤ 30) (he : Pl.Ends n L) (h1 : Pl.verB n u = true) :
    Calls Tryz.prog 63 #[.pointer (some ⟨b, 0, none⟩), .int .i64 u, .int .i64 x] w fun e w' => e = .returned (.tuple #[.int .i64 (Pl.reachN n (Pl.lightI L x) u), .int .i64 0]) ∧ Below w.heap.size w w' := by
  obtain ⟨a, cap, vP, c0, c1, c2, c3, hI, hbl⟩ := rg_open hG
  obtain ⟨u0, u1⟩ := Pl.verB_true.1 h1
  have hll := Pl.light_len L x
  have hle := Pl.light_ends he x
  clear hG
  go_enter Tryz.func63, Tryz.ntmps63
  go_wp2_with (go_at_call 69; refine (vertex_any b n _ _ c0).mono ?_; rintro e w1 ⟨rfl, rfl⟩; rw [h1])
  go_region_held3 (fun w' => w'.cell? ⟨b, 0, none⟩ = some (.int .i64 n) ∧ w'.cell? ⟨b, 2, none⟩ = some (.slice a L.length cap))
    (first | go_keep | (go_split_ands; refine ⟨?_, ?_⟩ <;> (refine cell_later hb1 ?_; first | assumption | simp [*])) | (go_split_ands; refine ⟨?_, ?_⟩ <;> (refine cell_later hb2 ?_; first | assumption | simp [*])))
    (first
      | (go_at_call 90; refine (light_any L x a cap _ (by exact hI) hL).mono ?_; rintro e w1 ⟨v1, rfl, ho1, hb1⟩; obtain ⟨a1, cap1, rfl⟩ := row_form ho1)
      | (go_at_call 85; refine (spread_int n (Pl.lightI L x) u a1 cap1 _ (by exact row_mono ho1 (Nat.zero_le _)) (by omega) hn u0 u1 hle).mono ?_; rintro e w2 ⟨rfl, ho2, hb2⟩))
  have hB : Below w.heap.size w w2 := (undrew hb1).trans (hb2.mono hb1.size)
  have d0 : w2.cell? ⟨b, 0, none⟩ = some (.int .i64 n) := (hB.cell (p := ⟨b, 0, none⟩) hbl).trans c0
  clear hb1 hb2 ho1 hI
  go_wp2
  go_loopg [10, 11] n (fun gk c i wr => ∃ k : Nat, k ≤ n ∧ i = .int .i64 k ∧ c = .int .i64 (Pl.reachN k (Pl.lightI L x) u) ∧ w2 = wr ∧ n - k ≤ gk)
  case atStart => exact ⟨0, Nat.zero_le _, rfl, rfl, rfl, by omega⟩
  case round =>
    obtain ⟨k, hk, rfl, rfl, rfl, hgk⟩ := hrel
    by_cases hlt : k < n
    · have hk1 : (0 : Int) ≤ k := by omega
      have hk2 : (k : Int) < n := by omega
      have cc := conns_cell ho2 hk1 hk2
      simp only [Int.toNat_natCast] at cc
      have hle2 := reach_le (Pl.lightI L x) u k
      have hsn := hide (reach_snoc (Pl.lightI L x) u k)
      generalize hq : Pl.reachN k (Pl.lightI L x) u = m at *
      cases hc : Pl.conn (Pl.lightI L x) u k with
      | true =>
        rw [hc] at cc
        go_wp2
        go_roundg (gk - 1)
        case measure => omega
        case rel => exact ⟨k + 1, by omega, by go_num, by rw [unhide hsn, hc]; simp, rfl, by omega⟩
      | false =>
        rw [hc] at cc
        go_wp2
        go_roundg (gk - 1)
        case measure => omega
        case rel => exact ⟨k + 1, by omega, by go_num, by rw [unhide hsn, hc]; simp, rfl, by omega⟩
    · have hk' : k = n := by omega
      subst hk'
      go_wp2
      go_ret2
      exact ⟨rfl, hB⟩

end Go.Proofs.YtnnnleckoinjoaaGreatDoor

namespace Go.Proofs.YtnnnleckoinjoaaGreatDoor
open Go.RowKit
open Pl (It)

/-- the heaviest of the edges whose going parts u and v, step by step -/
def Pl.hstep (l : List It) (u v : Int) (b x : It) : It := if Pl.conn (Pl.outI l x.id) u v then b else if b.id = -1 then x else if Pl.lighter b x then x else b
def Pl.hbest (l : List It) (u v : Int) (F : List It) : It := F.foldl (Pl.hstep l u v) ⟨-1, 0, 0, 0⟩
theorem Pl.hbest_snoc (l : List It) (u v : Int) (k : Nat) (hk : k < l.length) : Pl.hbest l u v (l.take (k + 1)) = Pl.hstep l u v (Pl.hbest l u v (l.take k)) l[k] := by
  unfold Pl.hbest
  rw [List.take_succ_eq_append_getElem hk, List.foldl_append]; rfl

abbrev ito (x : It) : Obj := .cells #[.int .i64 x.id, .int .i64 x.u, .int .i64 x.v, .int .i64 x.w] 97
theorem ito_set {w : World} {b : Nat} {x y : It} (h : w.heap[b]? = some (ito x)) : ((((w.setCell ⟨b, 0, none⟩ (.int .i64 y.id)).setCell ⟨b, 1, none⟩ (.int .i64 y.u)).setCell ⟨b, 2, none⟩ (.int .i64 y.v)).setCell ⟨b, 3, none⟩ (.int .i64 y.w)).heap[b]? = some (ito y) := by
  have h1 := heap_setCell_same w b 0 _ _ (.int .i64 y.id) h
  have h2 := heap_setCell_same _ b 1 _ _ (.int .i64 y.u) h1
  have h3 := heap_setCell_same _ b 2 _ _ (.int .i64 y.v) h2
  have h4 := heap_setCell_same _ b 3 _ _ (.int .i64 y.w) h3
  rw [h4]; rfl

set_option maxRecDepth 100000 in
set_option maxHeartbeats 4000000 in
theorem heaviest_any (n : Nat) (l : List It) (u v : Int) (a : Option Addr) (cap : Nat) (w : World) (h : Its w 0 (.slice a l.length cap) l) (hl : l.length ≤ 100) (hn : n ≤ 30) (he : Pl.Ends n l)
    (u0 : 0 ≤ u) (u1 : u < n) (v0 : 0 ≤ v) (v1 : v < n) :
    Calls Tryz.prog 92 #[.int .i64 n, .slice a l.length cap, .int .i64 u, .int .i64 v] w fun e w' => e = .returned (.int .i64 (Pl.hbest l u v l).id) ∧ Below w.heap.size w w' := by
  go_enter Tryz.func92, Tryz.ntmps92
  go_wp2
  go_loopg [10] l.length (fun gk i wr => ∃ k : Nat, k ≤ l.length ∧ i = .int .i64 k ∧ wr.heap[w.heap.size]? = some (ito (Pl.hbest l u v (l.take k))) ∧ Below w.heap.size w wr ∧ l.length - k ≤ gk)
  case atStart => exact ⟨0, Nat.zero_le _, rfl, heap_alloc_new _ _, (Below.refl _ _).alloc (Nat.le_refl _) _, by omega⟩
  case round =>
    obtain ⟨k, hk, rfl, hbk, hb, hgk⟩ := hrel
    by_cases hlt : k < l.length
    · obtain ⟨g, rfl⟩ := row_some h (by omega)
      have hI : Its wr 0 (.slice (some ⟨g, 0, none⟩) l.length cap) l := row_below h hb (Nat.le_refl _)
      obtain ⟨c0, c1, c2, c3⟩ := its_cells hI k hlt
      have hk1 : (0 : Int) ≤ k := by omega
      have hk2 : (k : Int) < l.length := by omega
      have hol := Pl.out_len l l[k].id
      have hoe := Pl.out_ends he l[k].id
      have HS := hide (Pl.hbest_snoc l u v k hlt)
      have hrs := lt_of_block hbk
      generalize Pl.hbest l u v (l.take k) = b at *
      generalize l[k] = x at *
      have K0 := hide (And.intro hbk hb)
      clear hbk hb
      go_wp2_with fail
      refine (without_any l x.id (some ⟨g, 0, none⟩) cap _ (by exact hI) hl).mono ?_
      rintro e w1 ⟨v1', rfl, ho1, hb1⟩
      obtain ⟨a1, cap1, rfl⟩ := row_form ho1
      go_wp2_with fail
      refine (spread_int n (Pl.outI l x.id) u a1 cap1 _ (by exact row_mono ho1 (Nat.zero_le _)) (by omega) hn u0 u1 hoe).mono ?_
      rintro e w2 ⟨rfl, ho2, hb2⟩
      have cc := conns_cell ho2 v0 v1
      have hB2 : Below wr.heap.size wr w2 := hb1.trans (hb2.mono hb1.size)
      obtain ⟨hbk, hb⟩ := unhide K0
      have hbk2 : w2.heap[w.heap.size]? = some (ito b) := by rw [hB2.block _ hrs]; exact hbk
      have hB : Below w.heap.size w w2 := hb.trans (hB2.mono (by omega))
      have m0 := cell_later hB2 c0
      have m1 := cell_later hB2 c1
      have m2 := cell_later hB2 c2
      have m3 := cell_later hB2 c3
      obtain ⟨d0, d1, d2, d3, df⟩ := four_cells hbk2
      have df0 := df 0
      have df1 := df 1
      have df2 := df 2
      have df3 := df 3
      have hrs2 := lt_of_block hbk2
      have K2 := hide (And.intro hbk2 hB)
      clear hb1 hb2 ho1 ho2 c0 c1 c2 c3 hB2 hbk hb hbk2 hB hI df K0
      cases hcn : Pl.conn (Pl.outI l x.id) u v with
      | true =>
        rw [hcn] at cc
        go_wp2
        go_roundg (gk - 1)
        case measure => omega
        case rel => exact ⟨k + 1, by omega, by go_num, by rw [unhide HS]; unfold Pl.hstep; rw [if_pos hcn]; exact (unhide K2).1, (unhide K2).2, by omega⟩
      | false =>
        rw [hcn] at cc
        have hcn' : ¬ Pl.conn (Pl.outI l x.id) u v = true := by rw [hcn]; simp
        by_cases hbi : b.id = -1
        · go_wp2
          go_roundg (gk - 1)
          case measure => omega
          case rel =>
            refine ⟨k + 1, by omega, by go_num, ?_, ?_, by omega⟩
            · rw [unhide HS]; unfold Pl.hstep; rw [if_neg hcn', if_pos hbi]; exact ito_set (unhide K2).1
            · exact ((((unhide K2).2.setCell (Nat.le_refl _) _).setCell (Nat.le_refl _) _).setCell (Nat.le_refl _) _).setCell (Nat.le_refl _) _
        · have hbi' : (b.id == -1) = false := by simpa using hbi
          go_wp2_with fail
          go_region_held3 (fun w' => w'.cell? ⟨g, k * 4, none⟩ = some (.int .i64 x.id) ∧ w'.cell? ⟨g, k * 4 + 1, none⟩ = some (.int .i64 x.u) ∧ w'.cell? ⟨g, k * 4 + 2, none⟩ = some (.int .i64 x.v) ∧ w'.cell? ⟨g, k * 4 + 3, none⟩ = some (.int .i64 x.w) ∧ w'.cell? ⟨w.heap.size, 0, none⟩ = some (.int .i64 b.id) ∧ w'.cell? ⟨w.heap.size, 1, none⟩ = some (.int .i64 b.u) ∧ w'.cell? ⟨w.heap.size, 2, none⟩ = some (.int .i64 b.v) ∧ w'.cell? ⟨w.heap.size, 3, none⟩ = some (.int .i64 b.w)) (first | go_keep | (go_split_ands; refine ⟨?_, ?_, ?_, ?_, ?_, ?_, ?_, ?_⟩ <;> (refine cell_later hb1 ?_; first | assumption | simp [*])))
            (first | (go_at_call 107; refine (lighter_any b x _).mono ?_; rintro e w3 ⟨rfl, hb1⟩))
          rename_i hHeld
          obtain ⟨e0, e1, e2, e3, _⟩ := hHeld
          obtain ⟨hbk2, hB⟩ := unhide K2
          have hb1' : Below w2.heap.size w2 w3 := undrew hb1
          have hbk3 : w3.heap[w.heap.size]? = some (ito b) := by rw [hb1'.block _ hrs2]; exact hbk2
          have hB3 : Below w.heap.size w w3 := hB.trans (hb1'.mono (by omega))
          clear d0 d1 d2 d3 df0 df1 df2 df3 m0 m1 m2 m3 cc
          obtain ⟨d0, d1, d2, d3, df⟩ := four_cells hbk3
          have df0 := df 0
          have df1 := df 1
          have df2 := df 2
          have df3 := df 3
          have K3 := hide (And.intro hbk3 hB3)
          clear hbk2 hB hb1 hb1' hbk3 hB3 df K2
          cases hlq : Pl.lighter b x with
          | true =>
            go_wp2
            go_roundg (gk - 1)
            case measure => omega
            case rel =>
              refine ⟨k + 1, by omega, by go_num, ?_, ?_, by omega⟩
              · rw [unhide HS]; unfold Pl.hstep; rw [if_neg hcn', if_neg hbi, if_pos hlq]; exact ito_set (unhide K3).1
              · exact ((((unhide K3).2.setCell (Nat.le_refl _) _).setCell (Nat.le_refl _) _).setCell (Nat.le_refl _) _).setCell (Nat.le_refl _) _
          | false =>
            go_wp2
            go_roundg (gk - 1)
            case measure => omega
            case rel => exact ⟨k + 1, by omega, by go_num, by rw [unhide HS]; unfold Pl.hstep; rw [if_neg hcn', if_neg hbi, if_neg (by rw [hlq]; simp)]; exact (unhide K3).1, (unhide K3).2, by omega⟩
    · have hk' : l.take k = l := List.take_of_length_le (by omega)
      rw [hk'] at hbk
      obtain ⟨d0, d1, d2, d3, df⟩ := four_cells hbk
      go_wp2
      go_ret
      exact ⟨rfl, hb⟩

end Go.Proofs.YtnnnleckoinjoaaGreatDoor

namespace Go.Proofs.YtnnnleckoinjoaaGreatDoor
open Go.RowKit
open Pl (It)

theorem forest_ends {n : Nat} {l : List It} (h : Pl.Ends n l) : Pl.Ends n (Pl.forest l) := fun e he => h e (List.mem_filter.1 he).1

set_option maxRecDepth 100000 in
set_option maxHeartbeats 2000000 in
theorem heavr_no (b n most : Nat) (L : List It) (past : List (List It)) (p : Option Nat) (u v : Int) (w : World) (hG : RG w b n most L past p) (hL : L.length ≤ 100) (hn : n ≤ 30) (he : Pl.Ends n L) (code : Int)
    (h : (Pl.verB n u = false ∧ code = 3) ∨ (Pl.verB n u = true ∧ Pl.verB n v = false ∧ code = 3) ∨ (Pl.verB n u = true ∧ Pl.verB n v = true ∧ Pl.conn L u v = false ∧ code = 7)) :
    Calls Tryz.prog 59 #[.pointer (some ⟨b, 0, none⟩), .int .i64 u, .int .i64 v] w fun e w' => e = .returned (.tuple #[.int .i64 0, .int .i64 code]) ∧ Below w.heap.size w w' := by
  rcases h with ⟨h1, rfl⟩ | ⟨h1, h2, rfl⟩ | ⟨h1, h2, h3, rfl⟩
  · have hc := connr_no b n most L past p u v w hG (Or.inl h1)
    clear hG
    go_enter Tryz.func59, Tryz.ntmps59
    go_wp2_with fail
    refine hc.mono ?_
    rintro e w1 ⟨rfl, hb⟩
    clear hc
    go_wp2
    go_ret2
    exact ⟨rfl, hb⟩
  · have hc := connr_no b n most L past p u v w hG (Or.inr ⟨h1, h2⟩)
    clear hG
    go_enter Tryz.func59, Tryz.ntmps59
    go_wp2_with fail
    refine hc.mono ?_
    rintro e w1 ⟨rfl, hb⟩
    clear hc
    go_wp2
    go_ret2
    exact ⟨rfl, hb⟩
  · have hc := connr_ok b n most L past p u v w hG hL hn he h1 h2
    clear hG
    go_enter Tryz.func59, Tryz.ntmps59
    go_wp2_with fail
    refine hc.mono ?_
    rintro e w1 ⟨rfl, hb⟩
    rw [h3]
    clear hc
    go_wp2
    go_ret2
    exact ⟨rfl, hb⟩

set_option maxRecDepth 100000 in
set_option maxHeartbeats 4000000 in
theorem heavr_ok (b n most : Nat) (L : List It) (past : List (List It)) (p : Option Nat) (u v : Int) (w : World) (hG : RG w b n most L past p) (hL : L.length ≤ 100) (hn : n ≤ 30) (he : Pl.Ends n L)
    (h1 : Pl.verB n u = true) (h2 : Pl.verB n v = true) (h3 : Pl.conn L u v = true) :
    Calls Tryz.prog 59 #[.pointer (some ⟨b, 0, none⟩), .int .i64 u, .int .i64 v] w fun e w' => e = .returned (.tuple #[.int .i64 (Pl.hbest (Pl.forest L) u v (Pl.forest L)).id, .int .i64 0]) ∧ Below w.heap.size w w' := by
  have hc := connr_ok b n most L past p u v w hG hL hn he h1 h2
  have hfl := forest_len L
  have hfe := forest_ends he
  obtain ⟨u0, u1⟩ := Pl.verB_true.1 h1
  obtain ⟨v0, v1⟩ := Pl.verB_true.1 h2
  have HG := hide hG
  clear hG
  go_enter Tryz.func59, Tryz.ntmps59
  go_wp2_with fail
  refine hc.mono ?_
  rintro e w1 ⟨rfl, hb⟩
  rw [h3]
  clear hc
  obtain ⟨a, cap, vP, c0, c1, c2, c3, hI, hbl⟩ := rg_open ((unhide HG).later hb)
  go_wp2_with fail
  go_region_held3 (fun w' => w'.cell? ⟨b, 0, none⟩ = some (.int .i64 n) ∧ w'.cell? ⟨b, 2, none⟩ = some (.slice a L.length cap))
    (first | go_keep | (go_split_ands; refine ⟨?_, ?_⟩ <;> (refine cell_later hb1 ?_; first | assumption | simp [*])))
    (first
      | (go_at_call 87; refine (forest_any n L a cap _ (by exact hI) hL hn he).mono ?_; rintro e w2 ⟨v2, rfl, ho2, hb1⟩; obtain ⟨a2, cap2, rfl⟩ := row_form ho2))
  rename_i hHeld
  obtain ⟨d0, d2⟩ := hHeld
  have hB2 : Below w.heap.size w w2 := hb.trans ((undrew hb1).mono hb.size)
  clear c0 c1 c2 c3 hI hb hb1
  go_wp2_with fail
  refine (heaviest_any n (Pl.forest L) u v a2 cap2 _ (by exact row_mono ho2 (Nat.zero_le _)) (by omega) hn hfe u0 u1 v0 v1).mono ?_
  rintro e w3 ⟨rfl, hb3⟩
  have hB3 := hB2.trans (hb3.mono hB2.size)
  clear ho2 hb3
  go_wp2
  go_ret2
  exact ⟨rfl, hB3⟩

end Go.Proofs.YtnnnleckoinjoaaGreatDoor

namespace Go.Proofs.YtnnnleckoinjoaaGreatDoor
open Go.RowKit
open Pl (It)

set_option maxRecDepth 100000 in
set_option maxHeartbeats 2000000 in
theorem otherr_no (b n most : Nat) (L : List It) (past : List (List It)) (p : Option Nat) (id : Int) (w : World) (hG : RG w b n most L past p) (hL : L.length ≤ 100) (code : Int)
    (hc : (Pl.numB id = false ∧ code = 2) ∨ (Pl.numB id = true ∧ Pl.has L id = false ∧ code = 6)) :
    Calls Tryz.prog 61 #[.pointer (some ⟨b, 0, none⟩), .int .i64 id] w fun e w' => e = .returned (.tuple #[.int .i64 0, .int .i64 code]) ∧ Below w.heap.size w w' := by
  have hcode : (code != 0) = true := by rcases hc with ⟨_, rfl⟩ | ⟨_, _, rfl⟩ <;> rfl
  have ha := asked_no b n most L past p id w hG hL code hc
  clear hG hc
  go_enter Tryz.func61, Tryz.ntmps61
  go_wp2_with fail
  refine ha.mono ?_
  rintro e w1 ⟨rfl, hb⟩
  clear ha
  go_wp2
  go_ret2
  exact ⟨rfl, hb.alloc hb.size _⟩

theorem cell_al {w : World} {a : Addr} {v : Value} (h : w.cell? a = some v) (o : Obj) : (w.alloc o).cell? a = some v := (World.cell?_alloc_lt _ _ _ (World.block_lt_of_cell? w _ h)).trans h
theorem blk_lt {w : World} {b j : Nat} {v : Value} (h : w.cell? ⟨b, j, none⟩ = some v) : b < w.heap.size := World.block_lt_of_cell? w _ h
theorem var_facts2 {W w1 : World} {v0 v1 : Value} {t : Nat} (hb : Below (W.alloc (.cells #[v0, v1] t)).heap.size (W.alloc (.cells #[v0, v1] t)) w1) :
    w1.cell? ⟨W.heap.size, 0, none⟩ = some v0 ∧ w1.cell? ⟨W.heap.size, 1, none⟩ = some v1 ∧ w1.frozen? ⟨W.heap.size, 0, none⟩ = false ∧ w1.frozen? ⟨W.heap.size, 1, none⟩ = false :=
  ⟨(hb.cell (by simp)).trans (by simp), (hb.cell (by simp)).trans (by simp), (hb.frozen (by simp)).trans (by simp), (hb.frozen (by simp)).trans (by simp)⟩
/-- a variable of two cells that was made ahead of a call -/
theorem new_var {w w' : World} (hb : Below w.heap.size w w') : ∀ (r j : Nat) (v : Value), w.cell? ⟨r, j, none⟩ = some v → w.frozen? ⟨r, j, none⟩ = false → w'.cell? ⟨r, j, none⟩ = some v ∧ w'.frozen? ⟨r, j, none⟩ = false :=
  fun r j _ h hf => ⟨(hb.cell (p := ⟨r, j, none⟩) (World.block_lt_of_cell? w _ h)).trans h, (hb.frozen (p := ⟨r, j, none⟩) (World.block_lt_of_cell? w _ h)).trans hf⟩

set_option maxRecDepth 100000 in
set_option maxHeartbeats 4000000 in
theorem otherr_ok (b n most : Nat) (L : List It) (past : List (List It)) (p : Option Nat) (id : Int) (w : World) (hG : RG w b n most L past p) (hL : L.length ≤ 100) (hn : n ≤ 30) (he : Pl.Ends n L) (h1 : Pl.numB id = true) (h4 : Pl.has L id = true) :
    Calls Tryz.prog 61 #[.pointer (some ⟨b, 0, none⟩), .int .i64 id] w fun e w' => ∃ (k : Nat) (hk : k < L.length), L[k].id = id ∧
      e = .returned (.tuple #[.int .i64 (if Pl.keeps L L[k] then Pl.only (Pl.forest (Pl.outI L id)) (Pl.forest L) else (Pl.hbest (Pl.forest L) L[k].u L[k].v (Pl.forest L)).id), .int .i64 0]) ∧ Below w.heap.size w w' := by
  have ha := asked_ok b n most L past p id w hG hL h1 h4
  have hfl := forest_len L
  have hfe := forest_ends he
  have hol := Pl.out_len L id
  have hoe := Pl.out_ends he id
  have HG := hide hG
  clear hG
  go_enter Tryz.func61, Tryz.ntmps61
  go_wp2_with fail
  refine ha.mono ?_
  rintro e w1 ⟨k, hk, hkid, rfl, hb⟩
  have HK := hide hkid
  clear ha hkid
  obtain ⟨x0, x1, y0, y1⟩ := he L[k] (List.getElem_mem hk)
  have hb1' : Below w.heap.size w (w1.alloc (ito L[k])) := hb.alloc hb.size _
  obtain ⟨a, cap, vP, c0, c1, c2, c3, hI, hbl⟩ := rg_open ((unhide HG).later hb1')
  obtain ⟨i0, i1, i2, i3, _⟩ := four_cells (heap_alloc_new w1 (ito L[k]))
  have hrl : w1.heap.size < (w1.alloc (ito L[k])).heap.size := by rw [World.size_alloc]; omega
  clear hb c1 c3
  go_wp2_with fail
  generalize hV : w1.alloc (ito L[k]) = V at *
  generalize w1.heap.size = r at *
  clear hV
  go_region_held3 (fun w' => w'.cell? ⟨b, 0, none⟩ = some (.int .i64 n) ∧ w'.cell? ⟨b, 2, none⟩ = some (.slice a L.length cap) ∧ w'.cell? ⟨r, 0, none⟩ = some (.int .i64 L[k].id) ∧ w'.cell? ⟨r, 1, none⟩ = some (.int .i64 L[k].u) ∧ w'.cell? ⟨r, 2, none⟩ = some (.int .i64 L[k].v) ∧ w'.cell? ⟨r, 3, none⟩ = some (.int .i64 L[k].w))
    (first | go_keep | (go_split_ands; refine ⟨?_, ?_, ?_, ?_, ?_, ?_⟩ <;> (refine cell_later hb1 ?_; first | assumption | simp [*])))
    (first
      | (go_at_call 82; refine (keeps_any n L L[k] a cap _ (by exact hI) hL hn he x0 x1 y0 y1).mono ?_; rintro e w2 ⟨rfl, hb1⟩))
  rename_i hHeld
  obtain ⟨d0, d2, j0, j1, j2, j3⟩ := hHeld
  have hb2 : Below V.heap.size V w2 := undrew hb1
  have hI2 := Its.later hI hb2 (Nat.le_refl _)
  have hB2 : Below w.heap.size w w2 := hb1'.trans (hb2.mono hb1'.size)
  have hbl2 : b < w2.heap.size := Nat.lt_of_lt_of_le hbl hb2.size
  have hbne : ¬ b = w2.heap.size := by omega
  have hbne2 : ¬ w2.heap.size = b := by omega
  clear c0 c2 i0 i1 i2 i3 hI hb1 hb2 hb1' hbl hrl
  cases hkp : Pl.keeps L L[k] with
  | true =>
    go_upto_region 6 with fail
    go_cut [9] (fun s wx => ∃ gc, s = .pointer (some ⟨gc, 0, none⟩) ∧ wx.cell? ⟨gc, 0, none⟩ = some (.int .i64 (Pl.only (Pl.forest (Pl.outI L id)) (Pl.forest L))) ∧ Below w2.heap.size w2 wx)
    case first =>
      go_region_held3 (fun w' => w'.cell? ⟨b, 0, none⟩ = some (.int .i64 n) ∧ w'.cell? ⟨b, 2, none⟩ = some (.slice a L.length cap))
        ((go_split_ands; refine ⟨?_, ?_⟩ <;> (first | go_keep | (refine cell_later hb5 ?_; first | assumption | simp [*]) | (refine cell_later hb4 ?_; first | assumption | simp [*]))))
        (first
          | (go_at_call 78; refine (without_any L id a cap _ (by first | exact hI2 | exact World.ownsRow.alloc hI2 _) hL).mono ?_; rintro e w4 ⟨v4, rfl, ho4, hb4⟩; obtain ⟨a4, cap4, rfl⟩ := row_form ho4; have hI4 : Its w4 0 (.slice a L.length cap) L := row_below (by first | exact hI2 | exact World.ownsRow.alloc hI2 _) hb4 (Nat.le_refl _); have z40 : w4.cell? ⟨b, 0, none⟩ = some (.int .i64 n) := cell_later hb4 (by first | exact d0 | exact cell_al d0 _); have z42 : w4.cell? ⟨b, 2, none⟩ = some (.slice a L.length cap) := cell_later hb4 (by first | exact d2 | exact cell_al d2 _); have hbl4 := blk_lt z40; have hbn4 : ¬ b = w4.heap.size := (by omega); have hbn4' : ¬ w4.heap.size = b := (by omega); have hv4 := new_var hb4; (try (have q := var_facts (W := w2) (v0 := .int .i64 0) (v1 := .int .i64 0) (t := 73) hb4; obtain ⟨p0, p1, pf0, pf1⟩ := q)); (try (have q := var_facts2 (W := w2) (v0 := .int .i64 0) (v1 := .int .i64 0) (t := 73) hb4; obtain ⟨p0, p1, pf0, pf1⟩ := q)))
          | (go_at_call 80; refine (change_any n L (Pl.outI L id) a a4 cap cap4 _ (by first | exact hI4 | exact World.ownsRow.alloc hI4 _) hL (by first | exact row_mono ho4 (Nat.zero_le _) | exact World.ownsRow.alloc (row_mono ho4 (Nat.zero_le _)) _) (by omega) hn he hoe).mono ?_; rintro e w5 ⟨rfl, hb5⟩; have z50 : w5.cell? ⟨b, 0, none⟩ = some (.int .i64 n) := cell_later hb5 (by first | exact z40 | exact cell_al z40 _); have z52 : w5.cell? ⟨b, 2, none⟩ = some (.slice a L.length cap) := cell_later hb5 (by first | exact z42 | exact cell_al z42 _); have hbl5 := blk_lt z50; have hbn5 : ¬ b = w5.heap.size := (by omega); have hbn5' : ¬ w5.heap.size = b := (by omega); have hv5 := new_var hb5; (try (have q := hv5 _ _ _ p0 pf0; have q' := hv5 _ _ _ p1 pf1; obtain ⟨s0, sf0⟩ := q; obtain ⟨s1, sf1⟩ := q')); (try (have q := var_facts (W := w4) (v0 := .int .i64 0) (v1 := .int .i64 0) (t := 73) hb5; obtain ⟨s0, s1, sf0, sf1⟩ := q)); (try (have q := var_facts2 (W := w4) (v0 := .int .i64 0) (v1 := .int .i64 0) (t := 73) hb5; obtain ⟨s0, s1, sf0, sf1⟩ := q))))
      · go_wp2_with fail
        go_meet
        have hb4' : Below w2.heap.size w2 w4 := undrew hb4
        have hz4 := hb4'.size
        obtain ⟨t0, _, _⟩ := two_cells (heap_alloc_new w5 (.cells #[.int .i64 (Pl.only (Pl.forest (Pl.outI L id)) (Pl.forest L)), .int .i64 (Pl.only (Pl.forest L) (Pl.forest (Pl.outI L id)))] 73))
        exact ⟨_, rfl, t0, ((hb4'.trans (hb5.mono hz4)).alloc (Nat.le_trans hz4 hb5.size) _)⟩
      · go_wp2_with fail
        go_meet
        have hb4' : Below w2.heap.size w2 w4 := undrew hb4
        have hz4 := hb4'.size
        have e0 : (w4.alloc (.cells #[.int .i64 0, .int .i64 0] 73)).heap.size = w4.heap.size + 1 := World.size_alloc _ _
        have hz5 := hb5.size
        rw [e0] at hb5 hz5
        have hr : w5.heap[w4.heap.size]? = some (.cells #[.int .i64 0, .int .i64 0] 73 (0, 0)) := made_later hb5 (by omega)
        obtain ⟨t0, _, _⟩ := two_cells (set_two (x := .int .i64 (Pl.only (Pl.forest (Pl.outI L id)) (Pl.forest L))) (y := .int .i64 (Pl.only (Pl.forest L) (Pl.forest (Pl.outI L id)))) hr)
        have hA : Below w2.heap.size w2 w5 := (hb4'.alloc hz4 _).trans (hb5.mono (by omega))
        exact ⟨_, rfl, t0, (hA.setCell (p := ⟨w4.heap.size, 0, none⟩) hz4 _).setCell (p := ⟨w4.heap.size, 1, none⟩) hz4 _⟩
      · go_wp2_with fail
        go_meet
        have hb4' : Below (w2.heap.size + 1) (w2.alloc (.cells #[.int .i64 0, .int .i64 0] 73)) w4 := by
          have e0 : (w2.alloc (.cells #[.int .i64 0, .int .i64 0] 73)).drew.heap.size = w2.heap.size + 1 := World.size_alloc _ _
          rw [e0] at hb4; exact undrew hb4
        have hz4 : w2.heap.size + 1 ≤ w4.heap.size := by have := hb4'.size; rw [World.size_alloc] at this; exact this
        have hr4 := made_later hb4' (by omega)
        have hr : w5.heap[w2.heap.size]? = some (.cells #[.int .i64 0, .int .i64 0] 73 (0, 0)) := by rw [hb5.block _ (by omega)]; exact hr4
        obtain ⟨t0, _, _⟩ := two_cells (set_two (x := .int .i64 (Pl.only (Pl.forest (Pl.outI L id)) (Pl.forest L))) (y := .int .i64 (Pl.only (Pl.forest L) (Pl.forest (Pl.outI L id)))) hr)
        exact ⟨_, rfl, t0, ((((((Below.refl _ _).alloc (Nat.le_refl _) _).trans (hb4'.mono (by omega))).trans (hb5.mono (by omega))).setCell (Nat.le_refl _) _).setCell (Nat.le_refl _) _)⟩
    case rest =>
      rename World => wx
      obtain ⟨gc, rfl, t0, hBx⟩ := hcut
      have hB := hB2.trans (hBx.mono hB2.size)
      clear hBx hB2
      go_wp2
      go_ret2
      exact ⟨k, hk, unhide HK, by rw [hkp]; simp, hB⟩
  | false =>
    go_wp2_with fail
    go_region_held3 (fun w' => w'.cell? ⟨b, 0, none⟩ = some (.int .i64 n) ∧ w'.cell? ⟨b, 2, none⟩ = some (.slice a L.length cap) ∧ w'.cell? ⟨r, 1, none⟩ = some (.int .i64 L[k].u) ∧ w'.cell? ⟨r, 2, none⟩ = some (.int .i64 L[k].v))
      (first | go_keep | (go_split_ands; refine ⟨?_, ?_, ?_, ?_⟩ <;> (refine cell_later hb1 ?_; first | assumption | simp [*])))
      (first
        | (go_at_call 87; refine (forest_any n L a cap _ (by exact hI2) hL hn he).mono ?_; rintro e w3 ⟨v3, rfl, ho3, hb1⟩; obtain ⟨a3, cap3, rfl⟩ := row_form ho3))
    rename_i hHeld
    obtain ⟨f0, f2, g1, g2⟩ := hHeld
    have hb3 : Below w2.heap.size w2 w3 := undrew hb1
    have hB3 : Below w.heap.size w w3 := hB2.trans (hb3.mono hB2.size)
    have ho3' : Its w3 0 (.slice a3 (Pl.forest L).length cap3) (Pl.forest L) := row_mono ho3 (Nat.zero_le _)
    clear d0 d2 j0 j1 j2 j3 hI2 hb1 hb3 ho3 hB2
    go_wp2_with fail
    go_region_held3 (fun w' => w'.cell? ⟨b, 0, none⟩ = some (.int .i64 n) ∧ w'.cell? ⟨r, 1, none⟩ = some (.int .i64 L[k].u) ∧ w'.cell? ⟨r, 2, none⟩ = some (.int .i64 L[k].v))
      (first | go_keep | (go_split_ands; refine ⟨?_, ?_, ?_⟩ <;> (refine cell_later hb1 ?_; first | assumption | simp [*])))
      (first
        | (go_at_call 92; refine (heaviest_any n (Pl.forest L) L[k].u L[k].v a3 cap3 _ (by exact ho3') (by omega) hn hfe x0 x1 y0 y1).mono ?_; rintro e w4 ⟨rfl, hb1⟩))
    have hB4 : Below w.heap.size w w4 := hB3.trans ((undrew hb1).mono hB3.size)
    clear hb1 ho3' hB3
    go_wp2
    go_ret2
    exact ⟨k, hk, unhide HK, by rw [hkp]; simp, hB4⟩

end Go.Proofs.YtnnnleckoinjoaaGreatDoor
