import Derived.Test.YtjbhcmmoidmgfaaDoorR1
import Derived.Deep.LoopGhost
namespace Go.Proofs.YtjbhcmmoidmgfaaDoor
open Go.RowKit
open Pl (It)

/-- a row of n bools that the call made: its cells -/
theorem boolrow_cell {w : World} {base g n cap : Nat} {ins : List Bool} (h : w.ownsRow base 4 1 (.slice (some ⟨g, 0, none⟩) n cap) n (ins.map Value.bool)) (hl : ins.length = n) (j : Nat) (hj : j < n) :
    w.cell? ⟨g, j, none⟩ = some (.bool (ins[j]'(by omega))) := by
  rw [World.ownsRow.cellAt h j (by omega)]
  simp [show j < ins.length by omega]
theorem boolrow_set {w : World} {base g n cap : Nat} {ins : List Bool} (h : w.ownsRow base 4 1 (.slice (some ⟨g, 0, none⟩) n cap) n (ins.map Value.bool)) (j : Nat) (b : Bool) :
    (w.setCell ⟨g, j, none⟩ (.bool b)).ownsRow base 4 1 (.slice (some ⟨g, 0, none⟩) n cap) n ((ins.set j b).map Value.bool) := by
  rw [List.map_set]
  exact (World.ownsRow.stored h j (.bool b)).1

theorem ends_get {n : Nat} {l : List It} (h : Pl.Ends n l) (k : Nat) (hk : k < l.length) : ∃ a b : Nat, l[k].u = a ∧ l[k].v = b ∧ a < n ∧ b < n := by
  obtain ⟨h1, h2, h3, h4⟩ := h l[k] (List.getElem_mem hk)
  exact ⟨l[k].u.toNat, l[k].v.toNat, by omega, by omega, by omega, by omega⟩

theorem made_bools {w1 : World} {b n : Nat} (h : w1.ownsRow b 4 1 (.slice (some ⟨b, 0, none⟩) n n) n (madeCells (Value.bool false).cells (n * 1)).toList) :
    w1.ownsRow b 4 1 (.slice (some ⟨b, 0, none⟩) n n) n ((List.replicate n false).map Value.bool) := by
  have e : (madeCells (Value.bool false).cells (n * 1)).toList = (List.replicate n false).map Value.bool := by
    rw [Nat.mul_one, show (Value.bool false).cells = #[Value.bool false] from rfl, toList_madeCells_one]; simp
  rw [← e]; exact h

set_option maxRecDepth 100000 in
set_option maxHeartbeats 2000000 in
theorem spread_any (n : Nat) (l : List It) (u : Nat) (a : Option Addr) (cap : Nat) (w : World) (h : Its w 0 (.slice a l.length cap) l) (hl : l.length ≤ 100) (hn : n ≤ 30) (hu : u < n) (he : Pl.Ends n l) :
    Calls Tryd.prog 72 #[.int .i64 n, .slice a l.length cap, .int .i64 u] w fun e w' => e = .returned (.slice (some ⟨w.heap.size, 0, none⟩) n n) ∧ Bools w' w.heap.size (.slice (some ⟨w.heap.size, 0, none⟩) n n) (Pl.conns n l u) ∧ Below w.heap.size w w' := by
  obtain ⟨i0, hi, hz0, hz1, hz2⟩ := info_parts info4
  have hu1 : (u : Int) < n := by omega
  go_enter Tryd.func72, Tryd.ntmps72
  go_wp2_with (at_make; refine wpList_make_full _ rfl (.tmp 10) (.tmp 10) 108 rfl w.heap.size 4 i0 (.bool false) 1 Tryd.underlying108 hi hz0 hz1 .i64 .i64 n n n rfl rfl rfl rfl (by rw [hz2]; omega) (by unfold maxLen; omega) (Nat.le_refl _) ?_; intro w1 hown0 hgrow; have hown := made_bools hown0; clear hown0; have hf := World.ownsRow.frozenAt hown u; have hc := boolrow_cell hown (by simp) u (by omega))
  have hB1 : Below w.heap.size w (w1.setCell ⟨w.heap.size, u, none⟩ (.bool true)) := ((Below.refl _ _).grown hgrow (Nat.le_refl _) (fun _ h => by cases h)).setCell (Nat.le_refl _) _
  have hown2 := boolrow_set hown u true
  clear hf hc hown hgrow
  go_loopg [8] (2 * n + 1) (fun gk ag wr => ∃ (ins : List Bool) (q : Bool), ag = .bool q ∧ ins.length = n ∧ wr.ownsRow w.heap.size 4 1 (.slice (some ⟨w.heap.size, 0, none⟩) n n) n (ins.map Value.bool) ∧
      Below w.heap.size w wr ∧ Pl.Snd l u ins ∧ Pl.bit ins u = true ∧ (q = false → Pl.Cl l ins) ∧ 2 * Pl.falses ins + (if q then 1 else 0) ≤ gk)
  case atStart =>
    refine ⟨(List.replicate n false).set u true, true, rfl, by simp, hown2, hB1, ?_, ?_, (fun h => by cases h), ?_⟩
    · intro x hx
      rw [Pl.bit_set _ u (by simpa using hu)] at hx
      have hr : (List.replicate n false).getD x false = false := by simp [List.getD, List.getElem?_replicate]; split <;> rfl
      rw [hr] at hx
      have : x = u := by simpa using hx
      subst this; exact Pl.conn_refl _ _
    · unfold Pl.bit; rw [Int.toNat_natCast, Pl.bit_set _ u (by simpa using hu)]; simp
    · have := Pl.falses_le ((List.replicate n false).set u true); simp at this ⊢; omega
  case round =>
    obtain ⟨ins, q, rfl, hlen, hown, hb, hsnd, hbu, hcl, hm⟩ := hrel
    clear hown2 hB1
    cases q with
    | false =>
      have hdone : ins = Pl.conns n l u := Pl.done hlen hbu hsnd (hcl rfl)
      go_wp2
      go_ret
      exact ⟨rfl, by unfold Bools; rw [← hdone, hlen]; exact hown, hb⟩
    | true =>
      have A : Aside (Pl.Snd l u ins ∧ Pl.bit ins u = true ∧ 2 * Pl.falses ins + 1 ≤ gk) := ⟨hsnd, hbu, by simpa using hm⟩
      clear hsnd hbu hcl hm
      go_wp2
      go_loopg [8, 9] l.length (fun gj ag i wr => ∃ (jns : List Bool) (q : Bool) (k : Nat), k ≤ l.length ∧ i = .int .i64 k ∧ ag = .bool q ∧ jns.length = n ∧ wr.ownsRow w.heap.size 4 1 (.slice (some ⟨w.heap.size, 0, none⟩) n n) n (jns.map Value.bool) ∧
        Below w.heap.size w wr ∧ Pl.Snd l u jns ∧ Pl.bit jns u = true ∧ (q = false → Pl.Cl (l.take k) jns ∧ Pl.falses jns = Pl.falses ins) ∧ (q = true → Pl.falses jns < Pl.falses ins) ∧ l.length - k ≤ gj)
      case atStart => exact ⟨ins, false, 0, Nat.zero_le _, rfl, rfl, hlen, hown, hb, A.out.1, A.out.2.1, fun _ => ⟨Pl.cl_nil _, rfl⟩, (fun h => by cases h), by omega⟩
      case round =>
        obtain ⟨jns, q, k, hk, rfl, rfl, hlj, hownj, hbj, hsj, hbuj, hq0, hq1, hgj⟩ := hrel
        by_cases hlt : k < l.length
        · obtain ⟨g, rfl⟩ := row_some h (by omega)
          have hI : Its wr 0 (.slice (some ⟨g, 0, none⟩) l.length cap) l := row_below h hbj (Nat.le_refl _)
          obtain ⟨_, c1, c2, _⟩ := its_cells hI k hlt
          obtain ⟨ea, eb, hea, heb, ha, hb'⟩ := ends_get he k hlt
          rw [hea] at c1
          rw [heb] at c2
          have hk1 : (0 : Int) ≤ k := by omega
          have hk2 : (k : Int) < l.length := by omega
          have ha1 : (ea : Int) < n := by omega
          have hb1 : (eb : Int) < n := by omega
          have ca := boolrow_cell hownj hlj ea ha
          have cb := boolrow_cell hownj hlj eb hb'
          have fa := World.ownsRow.frozenAt hownj ea
          have fb := World.ownsRow.frozenAt hownj eb
          obtain ⟨p, hp⟩ : ∃ p, p = jns[ea]'(by omega) := ⟨_, rfl⟩
          obtain ⟨r, hr⟩ : ∃ r, r = jns[eb]'(by omega) := ⟨_, rfl⟩
          rw [← hp] at ca
          rw [← hr] at cb
          have A2 : Aside (∃ h1 : ea < jns.length, ∃ h2 : eb < jns.length, Pl.Snd l u jns ∧ Pl.bit jns u = true ∧ (q = false → Pl.Cl (l.take k) jns ∧ Pl.falses jns = Pl.falses ins) ∧ (q = true → Pl.falses jns < Pl.falses ins) ∧ jns.length = n ∧ l[k].u = ea ∧ l[k].v = eb ∧ p = jns[ea] ∧ r = jns[eb]) := ⟨by omega, by omega, hsj, hbuj, hq0, hq1, hlj, hea, heb, hp, hr⟩
          clear hI hsj hbuj hq0 hq1 hea heb hp hr hlj
          have same : p = r → jns.length = n ∧ Pl.Snd l u jns ∧ Pl.bit jns u = true ∧ (q = false → Pl.Cl (l.take (k + 1)) jns ∧ Pl.falses jns = Pl.falses ins) ∧ (q = true → Pl.falses jns < Pl.falses ins) := by
            intro e
            obtain ⟨h1, h2, t1, t2, t3, t4, t5, t6, t7, t8, t9⟩ := A2.out
            refine ⟨t5, t1, t2, fun hq => ⟨Pl.cl_snoc hlt rfl (t3 hq).1 ?_, (t3 hq).2⟩, t4⟩
            simp only [Pl.bit, t6, t7, Int.toNat_natCast, List.getD, List.getElem?_eq_getElem h1, List.getElem?_eq_getElem h2, ← t8, ← t9, e]
          have other : p ≠ r → ((jns.set ea true).set eb true).length = n ∧ Pl.Snd l u ((jns.set ea true).set eb true) ∧ Pl.bit ((jns.set ea true).set eb true) u = true ∧ Pl.falses ((jns.set ea true).set eb true) < Pl.falses ins := by
            intro e
            obtain ⟨h1, h2, t1, t2, t3, t4, t5, t6, t7, t8, t9⟩ := A2.out
            obtain ⟨s1, s2⟩ := Pl.brings (List.getElem_mem hlt) t6 t7 h1 h2 t1 (by rw [← t8, ← t9]; exact e)
            refine ⟨by simpa using t5, s1, Pl.bit_keeps _ (by simpa using h2) (Pl.bit_keeps _ h1 t2), ?_⟩
            cases hq : q with
            | false => have := (t3 hq).2; omega
            | true => have := t4 hq; omega
          have hgl : g < w.heap.size := (World.ownsRow.lt h g rfl).2
          have hgne : ¬ g = w.heap.size := by omega
          have S := hide same
          have O := hide other
          clear same other A2
          cases p <;> cases r
          · have S1 := hide (unhide S rfl)
            clear S O
            go_wp2_with fail
            go_quiet (fail)
            go_wp2
            obtain ⟨s1, s2, s3, s4, s5⟩ := unhide S1
            go_roundg (gk - 1)
            case measure => omega
            case rel => exact ⟨jns, q, k + 1, by omega, by go_num, rfl, s1, hownj, below_drewN hbj _, s2, s3, s4, s5, by omega⟩
          · have O1 := hide (unhide O (by decide))
            clear S O
            have hab : ¬ ea = eb := by rintro rfl; rw [ca] at cb; simp at cb
            have hba : ¬ eb = ea := fun e => hab e.symm
            go_wp2_with fail
            go_quiet (fail)
            go_wp2
            obtain ⟨s1, s2, s3, s4⟩ := unhide O1
            go_roundg (gk - 1)
            case measure => omega
            case rel => exact ⟨(jns.set ea true).set eb true, true, k + 1, by omega, by go_num, rfl, s1, boolrow_set (boolrow_set (w := wr.drewN nq) hownj ea true) eb true, ((below_drewN hbj _).setCell (Nat.le_refl _) _).setCell (Nat.le_refl _) _, s2, s3, (fun h => by cases h), fun _ => s4, by omega⟩
          · have O1 := hide (unhide O (by decide))
            clear S O
            have hab : ¬ ea = eb := by rintro rfl; rw [ca] at cb; simp at cb
            have hba : ¬ eb = ea := fun e => hab e.symm
            go_wp2_with fail
            go_quiet (fail)
            go_wp2
            obtain ⟨s1, s2, s3, s4⟩ := unhide O1
            go_roundg (gk - 1)
            case measure => omega
            case rel => exact ⟨(jns.set ea true).set eb true, true, k + 1, by omega, by go_num, rfl, s1, boolrow_set (boolrow_set (w := wr.drewN nq) hownj ea true) eb true, ((below_drewN hbj _).setCell (Nat.le_refl _) _).setCell (Nat.le_refl _) _, s2, s3, (fun h => by cases h), fun _ => s4, by omega⟩
          · have S1 := hide (unhide S rfl)
            clear S O
            go_wp2_with fail
            go_quiet (fail)
            go_wp2
            obtain ⟨s1, s2, s3, s4, s5⟩ := unhide S1
            go_roundg (gk - 1)
            case measure => omega
            case rel => exact ⟨jns, q, k + 1, by omega, by go_num, rfl, s1, hownj, below_drewN hbj _, s2, s3, s4, s5, by omega⟩
        · have e : l.take k = l := List.take_of_length_le (by omega)
          rw [e] at hq0
          have A2 : Aside (Pl.Snd l u jns ∧ Pl.bit jns u = true ∧ (q = false → Pl.Cl l jns ∧ Pl.falses jns = Pl.falses ins) ∧ (q = true → Pl.falses jns < Pl.falses ins)) := ⟨hsj, hbuj, hq0, hq1⟩
          clear hsj hbuj hq0 hq1
          go_wp2
          obtain ⟨hsj, hbuj, hq0, hq1⟩ := A2.out
          cases q with
          | false =>
            go_roundg (2 * Pl.falses jns)
            case measure => have := (hq0 rfl).2; have := A.out.2.2; omega
            case rel => exact ⟨jns, false, rfl, hlj, hownj, hbj, hsj, hbuj, fun _ => (hq0 rfl).1, by simp⟩
          | true =>
            go_roundg (2 * Pl.falses jns + 1)
            case measure => have := hq1 rfl; have := A.out.2.2; omega
            case rel => exact ⟨jns, true, rfl, hlj, hownj, hbj, hsj, hbuj, (fun h => by cases h), by simp⟩
end Go.Proofs.YtjbhcmmoidmgfaaDoor
