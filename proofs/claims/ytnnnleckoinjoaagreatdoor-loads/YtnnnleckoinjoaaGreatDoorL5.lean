import Derived.Test.YtnnnleckoinjoaaGreatDoorL4
import Derived.Deep.CutRange
namespace Go.Proofs.YtnnnleckoinjoaaGreatDoor
open Go.RowKit
open Pl (It)

section
variable {w w' : World} {W : Nat} {x0 g0 x1 g1 : Value} {B : Nat} {mk : Int} {vl vm : Value} {ls ms : List Value} {gv : Value} {n : Nat}
/-- the list itself stands among those that came out -/
theorem KI.listed {vl' : Value} (h : KI w W x0 g0 x1 g1 B mk vl vm ls ms gv n) (hn : n ≤ 1000) (hmk : mk = -1000 - (ls.length : Int)) (h1 : w'.ownsRow 0 58 1 vl' (ls.length + 1) (ls ++ [gv]))
    (h2 : ∀ k, vl'.ownBlock = some k → vl.ownBlock = some k ∨ w.heap.size ≤ k) (h3 : Fr (fun k => vl.ownBlock = some k) w w') :
    KI (w'.setCell ⟨W, 4, none⟩ vl') W x0 g0 x1 g1 B mk vl' vm (ls ++ [gv]) ms gv n := by
  have hty : ∀ k c t f, w.heap[k]? = some (.cells c t f) → t ≠ 58 → ¬ vl.ownBlock = some k := by
    intro k c t f hk ht e
    obtain ⟨cur, hh⟩ := own_ty h.hl k e
    rw [hk] at hh; simp at hh; exact ht hh.2.1
  have hb : w'.heap[W]? = _ := (h3.block W (lt_of_block h.blk) (hty W _ _ _ h.blk (by decide))).trans h.blk
  have hbs : ∀ {base e size n' : Nat} {v : Value} {xs : List Value}, w'.ownsRow base e size v n' xs → e ≠ 33 → (w'.setCell ⟨W, 4, none⟩ vl').ownsRow base e size v n' xs := fun hv he =>
    ownsRow_setCell_other hv (a := ⟨W, 4, none⟩) (fun e1 => by
      obtain ⟨cur, hh⟩ := own_ty hv W e1
      rw [hb] at hh; simp at hh; exact he hh.2.symm) _
  have hi : ∀ {base n' : Nat} {v : Value} {xs : List Value}, w.ownsRow base 3 1 v n' xs → (w'.setCell ⟨W, 4, none⟩ vl').ownsRow base 3 1 v n' xs := fun hv =>
    hbs (row_fr hv h3 fun k c f hk _ => hty k c _ f hk (by decide)) (by decide)
  refine ⟨?_, ?_, ?_, ?_, hi h.own, ?_, ?_⟩
  · rw [heap_setCell_same w' W 4 _ _ vl' hb]; rfl
  · rw [List.length_append]; exact hbs h1 (by decide)
  · exact hbs (row_fr h.hm h3 fun k c f hk e1 e2 => h.apart k e2 e1) (by decide)
  · intro k e1 e2
    rcases h2 k e1 with e3 | e3
    · exact h.apart k e3 e2
    · have := (World.ownsRow.lt h.hm k e2).2; omega
  · intro i v hv
    by_cases hlt : i < ls.length
    · rw [List.getElem?_append_left hlt] at hv
      obtain ⟨n', a1, a2, a3⟩ := h.ml i v hv
      exact ⟨n', a1, hi a2, a3⟩
    · have hlt2 := (List.getElem?_eq_some_iff.1 hv).1
      have hi' : i = ls.length := by simp at hlt2; omega
      subst hi'
      rw [List.getElem?_append_right (Nat.le_refl _)] at hv
      have hv' : v = gv := by simpa using hv.symm
      subst hv'
      rw [← hmk]
      exact ⟨n, hn, row_mono (hi h.own) (Nat.zero_le _), fun _ _ _ => Nat.le_refl _⟩
  · intro i v hv
    obtain ⟨n', a1, a2, a3⟩ := h.mm i v hv
    exact ⟨n', a1, hi a2, a3⟩
/-- the statement's block stays when what it names is written -/
theorem blk_kept {v : Value} {n' : Nat} {xs : List Value} {e : Nat} {vs : Array Value} (hb : w.heap[W]? = some (.cells vs 33 (0, 0))) (ho : w.ownsRow 0 e 1 v n' xs) (he : e ≠ 33) (h3 : Fr (fun k => v.ownBlock = some k) w w') : w'.heap[W]? = some (.cells vs 33 (0, 0)) := by
  rw [h3.block W (lt_of_block hb) fun e1 => by
    obtain ⟨cur, hh⟩ := own_ty ho W e1
    rw [hb] at hh; simp at hh; exact he hh.2.symm]
  exact hb
end

theorem KI.start {w wr : World} {W : Nat} {x0 g0 x1 g1 : Value} {B : Nat} {mk : Int} {vl vm : Value} {ls ms : List Value} {gv : Value} {n : Nat} {xs : List Value} (h : LI w W x0 g0 x1 g1 vl vm ls ms)
    (hol : ∀ (i : Nat) (v : Value), ls[i]? = some v → ∀ k, v.ownBlock = some k → k < B) (hom : ∀ (i : Nat) (v : Value), ms[i]? = some v → ∀ k, v.ownBlock = some k → k < B)
    (hN : w.ownsRow B 3 1 gv n xs) (hf : Fr (fun k => gv.ownBlock = some k) w wr) (ho : wr.ownsRow B 3 1 gv n (reps n mk)) : KI wr W x0 g0 x1 g1 B mk vl vm ls ms gv n := by
  have hty : ∀ k c t f, w.heap[k]? = some (.cells c t f) → t ≠ 3 → ¬ gv.ownBlock = some k := by
    intro k c t f hk ht e
    obtain ⟨cur, hh⟩ := own_ty hN k e
    rw [hk] at hh; simp at hh; exact ht hh.2.1
  have hge : ∀ k, gv.ownBlock = some k → B ≤ k := fun k e => (World.ownsRow.lt hN k e).1
  refine ⟨?_, ?_, ?_, h.apart, ho, ?_, ?_⟩
  · rw [hf.block W (lt_of_block h.blk) (hty W _ _ _ h.blk (by decide))]; exact h.blk
  · exact row_fr h.hl hf fun k c f hk _ => hty k c _ f hk (by decide)
  · exact row_fr h.hm hf fun k c f hk _ => hty k c _ f hk (by decide)
  · intro i v hv
    obtain ⟨n', a1, a2⟩ := h.ml i v hv
    refine ⟨n', a1, row_fr a2 hf fun k c f hk e1 e2 => ?_, fun k e1 e2 => ?_⟩
    · have := hol i v hv k e1; have := hge k e2; omega
    · have := hol i v hv k e1; have := hge k e2; omega
  · intro i v hv
    obtain ⟨n', a1, a2⟩ := h.mm i v hv
    refine ⟨n', a1, row_fr a2 hf fun k c f hk e1 e2 => ?_, fun k e1 e2 => ?_⟩
    · have := hom i v hv k e1; have := hge k e2; omega
    · have := hom i v hv k e1; have := hge k e2; omega
theorem KI.done {w : World} {W : Nat} {x0 g0 x1 g1 : Value} {B : Nat} {mk : Int} {vl vm : Value} {ls ms : List Value} {gv : Value} {n : Nat} (h : KI w W x0 g0 x1 g1 B mk vl vm ls ms gv n) (hlen : ms.length = 3 * ls.length) (hb : ls.length ≤ 1100000) : LI w W x0 g0 x1 g1 vl vm ls ms :=
  ⟨h.blk, h.hl, h.hm, h.apart, hlen, hb, (fun i v hv => by obtain ⟨n', a1, a2, _⟩ := h.ml i v hv; exact ⟨n', a1, a2⟩), fun i v hv => by obtain ⟨n', a1, a2, _⟩ := h.mm i v hv; exact ⟨n', a1, a2⟩⟩

theorem own_oneCell {w : World} {base e size n : Nat} {v : Value} {xs : List Value} (h : w.ownsRow base e size v n xs) : v.oneCell' = true := by
  obtain ⟨a, cap, rfl⟩ := row_form h; rfl

set_option maxRecDepth 100000 in
set_option maxHeartbeats 4000000 in
theorem keep_any (W : Nat) (x0 g0 x1 g1 : Value) (B : Nat) (vl vm : Value) (ls ms : List Value) (l : List Int) (a : Option Addr) (cap : Nat) (w : World) (h : LI w W x0 g0 x1 g1 vl vm ls ms)
    (hol : ∀ (i : Nat) (v : Value), ls[i]? = some v → ∀ k, v.ownBlock = some k → k < B) (hom : ∀ (i : Nat) (v : Value), ms[i]? = some v → ∀ k, v.ownBlock = some k → k < B)
    (hB : B ≤ w.heap.size) (hN : Nums w B (.slice a l.length cap) l) (hl : l.length ≤ 100) (hcnt : ls.length < 1100000) :
    Calls Tryz.prog 49 #[P0 W, .slice a l.length cap] w fun e w' => e = .returned (.tuple #[]) ∧ ∃ vl' vm' ls' ms', LI w' W x0 g0 x1 g1 vl' vm' ls' ms' ∧ ls'.length = ls.length + 1 ∧ Fr (fun k => k = W ∨ vl.ownBlock = some k ∨ vm.ownBlock = some k ∨ B ≤ k) w w' ∧
      (∀ k, vl'.ownBlock = some k → vl.ownBlock = some k ∨ B ≤ k) ∧ (∀ k, vm'.ownBlock = some k → vm.ownBlock = some k ∨ B ≤ k) := by
  obtain ⟨_, _, _, _, c4, c5, _⟩ := six_cells h.blk
  obtain ⟨al, capl, rfl⟩ := row_form h.hl
  obtain ⟨mk, hmk⟩ : ∃ mk : Int, mk = -1000 - (ls.length : Int) := ⟨_, rfl⟩
  have A0 : Aside (LI w W x0 g0 x1 g1 (.slice al ls.length capl) vm ls ms ∧ Nums w B (.slice a l.length cap) l ∧ mk = -1000 - (ls.length : Int)) := ⟨h, hN, hmk⟩
  have hmkr : -1000 - (ls.length : Int) = mk := hmk.symm
  clear h hN hmk
  go_enter Tryz.func49, Tryz.ntmps49
  go_wp2
  go_loopg [5] l.length (fun gk i wr => ∃ k : Nat, k ≤ l.length ∧ i = .int .i64 k ∧ wr.ownsRow B 3 1 (.slice a l.length cap) l.length (reps k mk ++ (l.map (Value.int .i64)).drop k) ∧ Fr (fun k => (Value.slice a l.length cap).ownBlock = some k) w wr ∧ l.length - k ≤ gk)
  case atStart => exact ⟨0, Nat.zero_le _, rfl, A0.out.2.1, Fr.refl _ _, by omega⟩
  case round =>
    obtain ⟨k, hk, rfl, hown, hf, hgk⟩ := hrel
    by_cases hlt : k < l.length
    · obtain ⟨g, rfl⟩ := row_some hown (by omega)
      have fk := World.ownsRow.frozenAt hown k
      obtain ⟨ov, ck, _⟩ := vrow_cell hown k hlt
      have hk1 : (0 : Int) ≤ k := by omega
      have hk2 : (k : Int) < l.length := by omega
      have hst := (World.ownsRow.stored hown k (.int .i64 mk)).1
      have e : (reps k mk ++ (l.map (Value.int .i64)).drop k).set k (.int .i64 mk) = reps (k + 1) mk ++ (l.map (Value.int .i64)).drop (k + 1) := by
        rw [List.set_append_right _ _ (by simp), List.drop_eq_getElem_cons (by simpa using hlt), ← reps_succ]
        simp
      rw [e] at hst
      have HS := hide (And.intro hst hf)
      clear hst hown e hf
      go_wp2
      obtain ⟨hst, hf⟩ := unhide HS
      go_roundg (gk - 1)
      case measure => omega
      case rel => exact ⟨k + 1, by omega, by go_num, hst, Fr.setCell hf (p := ⟨g, k, none⟩) (Or.inl rfl) _, by omega⟩
    · have hk' : k = l.length := by omega
      subst hk'
      have hown' : wr.ownsRow B 3 1 (.slice a l.length cap) l.length (reps l.length mk) := by
        have := hown
        rw [List.drop_eq_nil_of_le (by simp), List.append_nil] at this
        exact this
      obtain ⟨hLI, hN, hmk⟩ := A0.out
      have hge : ∀ k, (Value.slice a l.length cap).ownBlock = some k → B ≤ k := fun k e => (World.ownsRow.lt hN k e).1
      have hK := KI.start hLI hol hom hN hf hown'
      have hF : Fr (fun k => k = W ∨ (Value.slice al ls.length capl).ownBlock = some k ∨ vm.ownBlock = some k ∨ B ≤ k) w wr := hf.mono fun k _ e => Or.inr (Or.inr (Or.inr (hge k e)))
      obtain ⟨_, _, _, _, d4, d5, _⟩ := six_cells hK.blk
      have hsw := hF.size
      have hlen0 := hLI.len
      have HK := hide (And.intro hK (And.intro hF (And.intro hmk hlen0)))
      have hkl := hK.hl
      have hone : (Value.slice a l.length cap).oneCell' = true := rfl
      clear hLI hN hmk hge hK hF hf hown hown' A0 c4 c5 hlen0 hmkr
      go_upto_region 6 with (at_builtin; refine wpList_append_val wr rfl (.tmp 28) (.tmp 30) rfl ls.length ls (.slice al ls.length capl) (.slice a l.length cap) rfl hkl (by rfl) hone (by omega) ?_; intro vl' w2 p1 p2 p3; obtain ⟨av, cv, rfl⟩ := row_form p1; have hbW := blk_kept (unhide HK).1.blk (unhide HK).1.hl (by decide) p3; obtain ⟨_, _, _, _, q4, q5, qf⟩ := six_cells hbW; have qf4 := qf 4; clear qf)
      obtain ⟨hK, hF, hmk, hlen0⟩ := unhide HK
      have hK2 := KI.listed hK (by omega) hmk p1 p2 p3
      have hF2 : Fr (fun k => k = W ∨ (Value.slice al ls.length capl).ownBlock = some k ∨ vm.ownBlock = some k ∨ B ≤ k) w (w2.setCell ⟨W, 4, none⟩ (.slice av (ls.length + 1) cv)) :=
        Fr.setCell (hF.trans' p3 fun k _ e => Or.inr (Or.inl e)) (p := ⟨W, 4, none⟩) (Or.inl (Or.inl rfl)) _
      generalize w2.setCell ⟨W, 4, none⟩ (.slice av (ls.length + 1) cv) = W3 at hK2 hF2 ⊢
      have A1 : Aside (KI W3 W x0 g0 x1 g1 B mk (.slice av (ls.length + 1) cv) vm (ls ++ [.slice a l.length cap]) ms (.slice a l.length cap) l.length ∧ Fr (fun k => k = W ∨ (Value.slice al ls.length capl).ownBlock = some k ∨ vm.ownBlock = some k ∨ B ≤ k) w W3 ∧ mk = -1000 - (ls.length : Int) ∧ ms.length = 3 * ls.length ∧ ∀ k, (Value.slice av (ls.length + 1) cv).ownBlock = some k → (Value.slice al ls.length capl).ownBlock = some k ∨ B ≤ k) := ⟨hK2, hF2, hmk, hlen0, fun k e => (p2 k e).imp id fun h => by omega⟩
      clear hK2 hF2 hmk hlen0 hK hF HK p1 p2 p3 hkl d4 d5 q4 q5 qf4 hbW
      go_wp2
      go_loopg [6, 7] 3 (fun gj gvv i wr2 => ∃ (t : Nat) (vm' : Value) (ms' : List Value), t ≤ 3 ∧ i = .int .i64 t ∧ KI wr2 W x0 g0 x1 g1 B mk (.slice av (ls.length + 1) cv) vm' (ls ++ [.slice a l.length cap]) ms' gvv (l.length + t) ∧ ms'.length = 3 * ls.length + t ∧
        (∀ k, vm'.ownBlock = some k → vm.ownBlock = some k ∨ B ≤ k) ∧ Fr (fun k => k = W ∨ (Value.slice al ls.length capl).ownBlock = some k ∨ vm.ownBlock = some k ∨ B ≤ k) w wr2 ∧ 3 - t ≤ gj)
      case atStart => exact ⟨0, vm, ms, Nat.zero_le _, rfl, A1.out.1, A1.out.2.2.2.1, fun k e => Or.inl e, A1.out.2.1, by omega⟩
      case round =>
        obtain ⟨t, vm', ms', ht, rfl, hK, hml, hvm, hF, hgj⟩ := hrel
        have hmk := A1.out.2.2.1
        by_cases htl : t < 3
        · have ht2 : (t : Int) < 3 := by omega
          obtain ⟨ag, cg, rfl⟩ := row_form hK.own
          obtain ⟨am, cm, rfl⟩ := row_form hK.hm
          have hown := hK.own
          have hsz : B ≤ wr.heap.size := by have := hF.size; omega
          have hmk2 : mk = -1000 - (ms'.length : Int) / 3 := by omega
          have hml2 : ms'.length ≤ 5000000 := by omega
          have HK := hide (And.intro hK (And.intro hvm (And.intro hF (And.intro hmk2 hml))))
          clear hK hvm hF hmk hmk2 hml A1
          go_upto_region 11 with (at_builtin; refine wpList_append_mark wr rfl (.tmp 39) (.tmp 41) rfl B (l.length + t) mk (.slice ag (l.length + t) cg) rfl hown (by rfl) (by omega) hsz ?_; intro gv' w4 p1 p2 p3; obtain ⟨ag', cg', rfl⟩ := row_form p1)
          obtain ⟨hK, hvm, hF, hmk2, hml⟩ := unhide HK
          have hK4 := KI.more hK p1 p2 p3
          have hF4 : Fr (fun k => k = W ∨ (Value.slice al ls.length capl).ownBlock = some k ∨ vm.ownBlock = some k ∨ B ≤ k) w w4 := hF.trans' p3 fun k _ e => Or.inr (Or.inr (Or.inr (World.ownsRow.lt hown k e).1))
          obtain ⟨_, _, _, _, _, d5, _⟩ := six_cells hK4.blk
          have hkm := hK4.hm
          have HK4 := hide (And.intro hK4 (And.intro hvm (And.intro hF4 (And.intro hmk2 hml))))
          clear hK4 hvm hF4 hmk2 hml hK hF p1 p2 p3 hown HK
          go_wp2_with (at_builtin; refine wpList_append_val w4 rfl (.tmp 47) (.tmp 49) rfl ms'.length ms' (.slice am ms'.length cm) (.slice ag' (l.length + t + 1) cg') rfl hkm (by rfl) rfl (by omega) ?_; intro vn w5 p1 p2 p3; obtain ⟨an, cn, rfl⟩ := row_form p1; have hbW := blk_kept (unhide HK4).1.blk (unhide HK4).1.hm (by decide) p3; obtain ⟨_, _, _, _, q4, q5, qf⟩ := six_cells hbW; have qf5 := qf 5; clear qf)
          obtain ⟨hK4, hvm, hF4, hmk2, hml⟩ := unhide HK4
          have hK6 := KI.noted hK4 (by omega) hmk2 p1 p2 p3
          have hF6 : Fr (fun k => k = W ∨ (Value.slice al ls.length capl).ownBlock = some k ∨ vm.ownBlock = some k ∨ B ≤ k) w (w5.setCell ⟨W, 5, none⟩ (.slice an (ms'.length + 1) cn)) :=
            Fr.setCell (hF4.trans' p3 fun k _ e => Or.inr (Or.inr (hvm k e))) (p := ⟨W, 5, none⟩) (Or.inl (Or.inl rfl)) _
          go_roundg (gk - 1)
          case measure => omega
          case rel =>
            refine ⟨t + 1, _, _, by omega, by go_num, hK6, by rw [List.length_append]; simp; omega, ?_, hF6, by omega⟩
            intro k e
            rcases p2 k e with e1 | e1
            · exact hvm k e1
            · have := hF4.size; exact Or.inr (by omega)
        · have ht3 : t = 3 := by omega
          subst ht3
          go_wp2
          go_end0
          refine ⟨rfl, _, _, _, _, KI.done hK (by rw [hml, List.length_append]; simp; omega) (by rw [List.length_append]; simp; omega), by rw [List.length_append]; rfl, hF, A1.out.2.2.2.2, hvm⟩

end Go.Proofs.YtnnnleckoinjoaaGreatDoor
