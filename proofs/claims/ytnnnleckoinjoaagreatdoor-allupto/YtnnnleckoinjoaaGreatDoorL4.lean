import Derived.Test.YtnnnleckoinjoaaGreatDoorL3
namespace Go.Proofs.YtnnnleckoinjoaaGreatDoor
open Go.RowKit
open Pl (It)

abbrev reps (n : Nat) (m : Int) : List Value := List.replicate n (.int .i64 m)
theorem reps_succ (n : Nat) (m : Int) : reps n m ++ [.int .i64 m] = reps (n + 1) m := by
  unfold reps; rw [List.replicate_succ']
theorem reps_set (n : Nat) (m : Int) (j : Nat) (hj : n ≤ j) (u : Value) : (reps n m).set j u = reps n m := List.set_eq_of_length_le (by simpa using hj)

/-- 'g = append(g, mark)' of a list all of whose numbers are the mark: so is the longer one; what lies in g's own memory, and is no longer than g, stays as it was -/
theorem wpList_append_mark {ops : Array Oper} {rest : List Oper} {o : Oper} {a : Act} {Q : Exit → Act → World → Prop} (w : World) (hgd : o.guard = none) (s x : Operand)
    (ho : o.op = .call { callee := .builtin .append, args := #[s, x], argTypes := #[58, 58] }) (B n : Nat) (m : Int) (gv : Value) (hs : a.eval s = gv) (hown : w.ownsRow B 3 1 gv n (reps n m))
    (hx : a.eval x = .slice (some ⟨w.heap.size, 0, none⟩) 1 1) (hn : n ≤ 10000) (hB : B ≤ w.heap.size)
    (h : ∀ gv' w', w'.ownsRow B 3 1 gv' (n + 1) (reps (n + 1) m) →
      (∀ base v n' m', w.ownsRow base 3 1 v n' (reps n' m') → (∀ k, v.ownBlock = some k → gv.ownBlock = some k → n' ≤ n) → (w'.ownsRow base 3 1 v n' (reps n' m') ∧ ∀ k, v.ownBlock = some k → gv'.ownBlock = some k → n' ≤ n + 1)) →
      Fr (fun k => gv.ownBlock = some k) w w' → wpList Tryz.prog ops Q rest (a.put o.dst gv') w') :
    wpList Tryz.prog ops Q (o :: rest) a (w.alloc (.cells #[.int .i64 m] 3)) := by
  obtain ⟨i0, hi, hz0, hz1, hz2⟩ := info_parts info3
  have hnews : ∀ j u, [Value.int .i64 m][j]? = some u → (w.alloc (.cells #[.int .i64 m] 3)).cell? ((⟨w.heap.size, 0, none⟩ : Addr).add j) = some u := by
    intro j u hj
    match j, hj with
    | 0, hj => simp at hj; subst hj; simp [Addr.add]
    | k + 1, hj => simp at hj
  have h1c : ∀ u ∈ [Value.int .i64 m], u.oneCell' = true := by intro u hu; simp at hu; subst hu; rfl
  have grow : ∀ (ao : Option Addr) (cap : Nat), gv = .slice ao n cap → ∀ v' w', w'.ownsRow (w.alloc (.cells #[.int .i64 m] 3)).heap.size 3 1 v' (n + 1) (reps n m ++ [.int .i64 m]) → (w.alloc (.cells #[.int .i64 m] 3)).grownBy w' none → wpList Tryz.prog ops Q rest (a.put o.dst v') w' := by
    intro ao cap _ v' w' ho hg
    rw [reps_succ, World.size_alloc] at ho
    have hb : Below w.heap.size w w' := ((Below.refl _ _).alloc (Nat.le_refl _) _).grown hg (by rw [World.size_alloc]; omega) (fun k e => by cases e)
    refine h v' w' (row_mono ho (by omega)) ?_ (Fr.of_below hb)
    intro base v n' m' hv _
    refine ⟨row_below hv hb (Nat.le_refl _), fun k hk hk2 => ?_⟩
    have := (World.ownsRow.lt hv k hk).2
    have := (World.ownsRow.lt ho k hk2).1
    omega
  rcases hown.2 with ⟨hgv, hn0⟩ | ⟨g, cap, cur, hgv, hbg, hh, hnc, hcm, hcs, htake⟩
  · subst hn0
    refine wpList_append_grows _ hgd s x 58 ho 3 i0 _ 1 8 Tryz.underlying58 hi hz0 hz1 hz2 rfl (by decide) none 0 0 (reps 0 m) (by rw [hs, hgv]) (fun _ => ⟨rfl, rfl⟩) rfl (fun b e => by cases e) ⟨w.heap.size, 0, none⟩ 1 1 [.int .i64 m] hx rfl hnews h1c (by omega) (by unfold maxLen; omega) (by omega) (grow none 0 hgv)
  · have hgl := lt_of_block hh
    have hga : (w.alloc (.cells #[.int .i64 m] 3)).heap[g]? = some (.cells cur 3 (0, 0)) := by rw [Below.heap_alloc _ _ _ hgl]; exact hh
    have hca : ∀ j u, (reps n m)[j]? = some u → (w.alloc (.cells #[.int .i64 m] 3)).cell? ⟨g, 0 + j, none⟩ = some u := by
      intro j u hj
      have hj' : j < n := by have := (List.getElem?_eq_some_iff.1 hj).1; simpa using this
      simp only [World.cell?, hga, Nat.zero_add]
      have e : (cur.toList.take (n * 1))[j]? = some u := by rw [htake]; exact hj
      rw [List.getElem?_take_of_lt (by omega), Array.getElem?_toList] at e
      simpa using e
    refine wpList_append_arg _ hgd s x 58 ho 3 i0 _ 1 8 Tryz.underlying58 hi hz0 hz1 hz2 rfl (by decide) g 0 n cap (reps n m) (by rw [hs, hgv]) (by simp) hca ⟨w.heap.size, 0, none⟩ 1 1 [.int .i64 m] hx rfl hnews h1c ?_ (by unfold maxLen; omega) (by omega) ?_ ?_
    · intro hroom j hj
      have hj0 : j = 0 := by simpa using hj
      subst hj0
      refine ⟨?_, by simp [World.frozen?, hga]⟩
      simp only [World.cell?, hga]
      simp; omega
    · intro hroom
      have e0 : (w.alloc (.cells #[.int .i64 m] 3)).setCells g (0 + n * 1) [.int .i64 m] = (w.alloc (.cells #[.int .i64 m] 3)).setCell ⟨g, n, none⟩ (.int .i64 m) := by simp [World.setCells]
      rw [e0]
      have hownA := World.ownsRow.alloc hown (.cells #[.int .i64 m] 3)
      rw [hgv] at hownA
      refine h _ _ ?_ ?_ ?_
      · refine ⟨by simp, Or.inr ⟨g, cap, cur.setIfInBounds n (.int .i64 m), rfl, hbg, heap_setCell_same _ g n cur _ _ hga, hroom, hcm, by simpa using hcs, ?_⟩⟩
        have hnl : n < cur.toList.length := by rw [Array.length_toList]; omega
        rw [Nat.mul_one] at htake
        rw [Array.toList_setIfInBounds, Nat.mul_one, List.take_succ_eq_append_getElem (by rw [List.length_set]; exact hnl), List.take_set_of_le (Nat.le_refl _), htake, List.getElem_set_self, reps_succ]
      · intro base v n' m' hv hsh
        have hvA := World.ownsRow.alloc hv (.cells #[.int .i64 m] 3)
        refine ⟨?_, fun k hk hk2 => ?_⟩
        · by_cases hsame : v.ownBlock = some g
          · have hle := hsh g hsame (by rw [hgv]; rfl)
            rcases hv.2 with ⟨e, _⟩ | ⟨g2, cap2, cur2, hv2, r⟩
            · rw [e] at hsame; cases hsame
            · rw [hv2] at hsame hvA ⊢
              simp [Value.ownBlock] at hsame
              subst hsame
              have := (World.ownsRow.stored hvA n (.int .i64 m)).1
              rw [reps_set n' m' n hle] at this
              exact this
          · exact ownsRow_setCell_other hvA (a := ⟨g, n, none⟩) hsame _
        · rw [show (Value.slice (some ⟨g, 0, none⟩) (n + 1) cap).ownBlock = some g from rfl] at hk2
          have := hsh k hk (by rw [hgv]; exact hk2)
          omega
      · refine Fr.setCell ((Fr.refl _ _).alloc _) (p := ⟨g, n, none⟩) (Or.inl (by rw [hgv]; rfl)) _
    · intro hfull v' w' ho2 hg2
      exact grow _ _ hgv v' w' ho2 hg2

/-- 'lists = append(lists, u)' -/
theorem wpList_append_val {ops : Array Oper} {rest : List Oper} {o : Oper} {a : Act} {Q : Exit → Act → World → Prop} (w : World) (hgd : o.guard = none) (s x : Operand)
    (ho : o.op = .call { callee := .builtin .append, args := #[s, x], argTypes := #[31, 31] }) (n : Nat) (xs : List Value) (vl u : Value) (hs : a.eval s = vl) (hown : w.ownsRow 0 58 1 vl n xs)
    (hx : a.eval x = .slice (some ⟨w.heap.size, 0, none⟩) 1 1) (hu : u.oneCell' = true) (hn : n ≤ 10000000)
    (h : ∀ vl' w', w'.ownsRow 0 58 1 vl' (n + 1) (xs ++ [u]) → (∀ k, vl'.ownBlock = some k → vl.ownBlock = some k ∨ w.heap.size ≤ k) → Fr (fun k => vl.ownBlock = some k) w w' → wpList Tryz.prog ops Q rest (a.put o.dst vl') w') :
    wpList Tryz.prog ops Q (o :: rest) a (w.alloc (.cells #[u] 58)) := by
  obtain ⟨i0, hi, hz0, hz1, hz2⟩ := info_parts infoInts
  refine wpList_append_lies _ hgd s x 31 ho 0 58 i0 _ 1 24 Tryz.underlying31 hi hz0 hz1 hz2 rfl (by decide) vl n xs hs (World.ownsRow.alloc hown _) ⟨w.heap.size, 0, none⟩ 1 1 [u] hx rfl ?_ ?_ (by decide) (by unfold maxLen; omega) (by omega) (Nat.zero_le _) (w.heap.size + 1) (World.size_alloc _ _) ?_
  · intro j v hj
    match j, hj with
    | 0, hj => simp at hj; subst hj; simp [Addr.add]
    | k + 1, hj => simp at hj
  · intro v hv; simp at hv; subst hv; exact hu
  · intro g cap w' h1 h2 h3 _
    refine h _ w' h1 ?_ ?_
    · intro k hk
      simp [Value.ownBlock] at hk
      subst hk
      rcases h3 with h3 | h3
      · exact Or.inl h3
      · exact Or.inr (by omega)
    · exact ((Fr.refl _ _).alloc _).grown h2 fun k e => Or.inl e

structure KI (w : World) (W : Nat) (x0 g0 x1 g1 : Value) (B : Nat) (mk : Int) (vl vm : Value) (ls ms : List Value) (gv : Value) (n : Nat) : Prop where
  blk : w.heap[W]? = some (.cells #[x0, g0, x1, g1, vl, vm] 33 (0, 0))
  hl : w.ownsRow 0 58 1 vl ls.length ls
  hm : w.ownsRow 0 58 1 vm ms.length ms
  apart : ∀ k, vl.ownBlock = some k → vm.ownBlock = some k → False
  own : w.ownsRow B 3 1 gv n (reps n mk)
  ml : ∀ (i : Nat) (v : Value), ls[i]? = some v → ∃ n', n' ≤ 1000 ∧ w.ownsRow 0 3 1 v n' (reps n' (-1000 - (i : Int))) ∧ ∀ k, v.ownBlock = some k → gv.ownBlock = some k → n' ≤ n
  mm : ∀ (i : Nat) (v : Value), ms[i]? = some v → ∃ n', n' ≤ 1000 ∧ w.ownsRow 0 3 1 v n' (reps n' (-1000 - (i : Int) / 3)) ∧ ∀ k, v.ownBlock = some k → gv.ownBlock = some k → n' ≤ n

theorem own_ty {w : World} {base e size n : Nat} {v : Value} {xs : List Value} (h : w.ownsRow base e size v n xs) (k : Nat) (hk : v.ownBlock = some k) : ∃ cur, w.heap[k]? = some (.cells cur e (0, 0)) := by
  rcases h.2 with ⟨e, _⟩ | ⟨g, cap, cur, e, _, hh, _⟩
  · rw [e] at hk; cases hk
  · rw [e] at hk; simp [Value.ownBlock] at hk; subst hk; exact ⟨cur, hh⟩

section
variable {w w' : World} {W : Nat} {x0 g0 x1 g1 : Value} {B : Nat} {mk : Int} {vl vm : Value} {ls ms : List Value} {gv gv' : Value} {n : Nat}

/-- the mark is appended -/
theorem KI.more (h : KI w W x0 g0 x1 g1 B mk vl vm ls ms gv n) (h1 : w'.ownsRow B 3 1 gv' (n + 1) (reps (n + 1) mk))
    (h2 : ∀ base v n' m', w.ownsRow base 3 1 v n' (reps n' m') → (∀ k, v.ownBlock = some k → gv.ownBlock = some k → n' ≤ n) → (w'.ownsRow base 3 1 v n' (reps n' m') ∧ ∀ k, v.ownBlock = some k → gv'.ownBlock = some k → n' ≤ n + 1))
    (h3 : Fr (fun k => gv.ownBlock = some k) w w') : KI w' W x0 g0 x1 g1 B mk vl vm ls ms gv' (n + 1) := by
  have hty : ∀ k c t f, w.heap[k]? = some (.cells c t f) → t ≠ 3 → ¬ gv.ownBlock = some k := by
    intro k c t f hk ht e
    obtain ⟨cur, hh⟩ := own_ty h.own k e
    rw [hk] at hh; simp at hh; exact ht hh.2.1
  refine ⟨?_, ?_, ?_, h.apart, h1, ?_, ?_⟩
  · rw [h3.block W (lt_of_block h.blk) (hty W _ _ _ h.blk (by decide))]; exact h.blk
  · exact row_fr h.hl h3 fun k c f hk _ => hty k c _ f hk (by decide)
  · exact row_fr h.hm h3 fun k c f hk _ => hty k c _ f hk (by decide)
  · intro i v hv
    obtain ⟨n', a1, a2, a3⟩ := h.ml i v hv
    obtain ⟨b1, b2⟩ := h2 0 v n' _ a2 a3
    exact ⟨n', a1, b1, b2⟩
  · intro i v hv
    obtain ⟨n', a1, a2, a3⟩ := h.mm i v hv
    obtain ⟨b1, b2⟩ := h2 0 v n' _ a2 a3
    exact ⟨n', a1, b1, b2⟩

/-- a list more stands among those behind -/
theorem KI.noted {vm' : Value} (h : KI w W x0 g0 x1 g1 B mk vl vm ls ms gv n) (hn : n ≤ 1000) (hmk : mk = -1000 - (ms.length : Int) / 3) (h1 : w'.ownsRow 0 58 1 vm' (ms.length + 1) (ms ++ [gv]))
    (h2 : ∀ k, vm'.ownBlock = some k → vm.ownBlock = some k ∨ w.heap.size ≤ k) (h3 : Fr (fun k => vm.ownBlock = some k) w w') :
    KI (w'.setCell ⟨W, 5, none⟩ vm') W x0 g0 x1 g1 B mk vl vm' ls (ms ++ [gv]) gv n := by
  have hty : ∀ k c t f, w.heap[k]? = some (.cells c t f) → t ≠ 58 → ¬ vm.ownBlock = some k := by
    intro k c t f hk ht e
    obtain ⟨cur, hh⟩ := own_ty h.hm k e
    rw [hk] at hh; simp at hh; exact ht hh.2.1
  have hb : w'.heap[W]? = _ := (h3.block W (lt_of_block h.blk) (hty W _ _ _ h.blk (by decide))).trans h.blk
  have hbs : ∀ {base e size n' : Nat} {v : Value} {xs : List Value}, w'.ownsRow base e size v n' xs → e ≠ 33 → (w'.setCell ⟨W, 5, none⟩ vm').ownsRow base e size v n' xs := fun hv he =>
    ownsRow_setCell_other hv (a := ⟨W, 5, none⟩) (fun e1 => by
      obtain ⟨cur, hh⟩ := own_ty hv W e1
      rw [hb] at hh; simp at hh; exact he hh.2.symm) _
  have hi : ∀ {base n' : Nat} {v : Value} {xs : List Value}, w.ownsRow base 3 1 v n' xs → (w'.setCell ⟨W, 5, none⟩ vm').ownsRow base 3 1 v n' xs := fun hv =>
    hbs (row_fr hv h3 fun k c f hk _ => hty k c _ f hk (by decide)) (by decide)
  refine ⟨?_, ?_, ?_, ?_, hi h.own, ?_, ?_⟩
  · rw [heap_setCell_same w' W 5 _ _ vm' hb]; rfl
  · exact hbs (row_fr h.hl h3 fun k c f hk e1 e2 => h.apart k e1 e2) (by decide)
  · rw [List.length_append]; exact hbs h1 (by decide)
  · intro k e1 e2
    rcases h2 k e2 with e3 | e3
    · exact h.apart k e1 e3
    · have := (World.ownsRow.lt h.hl k e1).2; omega
  · intro i v hv
    obtain ⟨n', a1, a2, a3⟩ := h.ml i v hv
    exact ⟨n', a1, hi a2, a3⟩
  · intro i v hv
    by_cases hlt : i < ms.length
    · rw [List.getElem?_append_left hlt] at hv
      obtain ⟨n', a1, a2, a3⟩ := h.mm i v hv
      exact ⟨n', a1, hi a2, a3⟩
    · have hlt2 := (List.getElem?_eq_some_iff.1 hv).1
      have hi' : i = ms.length := by simp at hlt2; omega
      subst hi'
      rw [List.getElem?_append_right (Nat.le_refl _)] at hv
      have hv' : v = gv := by simpa using hv.symm
      subst hv'
      rw [← hmk]
      exact ⟨n, hn, row_mono (hi h.own) (Nat.zero_le _), fun _ _ _ => Nat.le_refl _⟩
end

end Go.Proofs.YtnnnleckoinjoaaGreatDoor
