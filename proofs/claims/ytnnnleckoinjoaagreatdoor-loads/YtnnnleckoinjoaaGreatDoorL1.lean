import Derived.Test.YtnnnleckoinjoaaGreatDoorB1
namespace Go.Proofs.YtnnnleckoinjoaaGreatDoor
open Go.RowKit
open Pl (It)

theorem st0_ok (v m : Nat) (h1 : 1 ≤ v) (h2 : v ≤ 30) (h4 : m ≤ 60) : Ok (st0 v m) := ok0 v m h1 h2 h4

set_option maxRecDepth 100000 in
set_option maxHeartbeats 1000000 in
theorem fresh_no (v m : Int) (w : World) (h : ¬ (1 ≤ v ∧ v ≤ 30 ∧ 1 ≤ m ∧ m ≤ 60)) :
    Calls Tryz.prog 12 #[.int .i64 v, .int .i64 m] w fun e w' => e = .returned (.tuple #[.agg #[.pointer none, .pointer none], .bool true]) ∧ Below w.heap.size w w' := by
  go_enter Tryz.func12, Tryz.ntmps12
  go_wp2_with (first
    | (go_at_call 25; refine (newp_no v m _ h).mono ?_; rintro e w1 ⟨rfl, rfl⟩)
    | (go_at_call 26; refine (newr_no v m _ h).mono ?_; rintro e w1 ⟨rfl, rfl⟩))
  exact bodyPost_ret (v := .tuple #[.agg #[.pointer none, .pointer none], .bool true]) (by simp [results, Tryz.results12, go_sem]) rfl ⟨rfl, (Below.refl _ _).alloc (Nat.le_refl _) _⟩

set_option maxRecDepth 100000 in
set_option maxHeartbeats 1000000 in
theorem fresh_ok (v m : Nat) (w : World) (h1 : 1 ≤ v) (h2 : v ≤ 30) (h3 : 1 ≤ m) (h4 : m ≤ 60) :
    Calls Tryz.prog 12 #[.int .i64 v, .int .i64 m] w fun e w' => ∃ xb gb, e = .returned (.tuple #[.agg #[P0 xb, P0 gb], .bool true]) ∧ w.heap.size ≤ xb ∧ w.heap.size ≤ gb ∧ XG w' xb (st0 v m) ∧ YG w' gb (st0 v m) none ∧ Below w.heap.size w w' := by
  go_enter Tryz.func12, Tryz.ntmps12
  go_wp2_with fail
  refine (newX_ok v m _ h1 h2 h3 h4).mono ?_
  rintro e w1 ⟨rfl, hx, hb1, hs1⟩
  simp only [World.size_alloc] at hx hb1 hs1 ⊢
  have hb1' : Below (w.heap.size + 1) (w.alloc (.cells #[.pointer none, .pointer none] 29)) w1 := hb1
  have hres := made_later hb1' (by omega)
  go_wp2_with fail
  refine (newr_ok v m _ h1 h2 h3 h4).mono ?_
  rintro e w2 ⟨rfl, rfl⟩
  obtain ⟨y0, y1, yf⟩ := two_cells hres
  have yf0 := yf 0
  have yf1 := yf 1
  have hs := lt_of_block hres
  have hn1 : ¬ w.heap.size = w1.heap.size := by omega
  have hn2 : ¬ w1.heap.size = w.heap.size := by omega
  have HX := hide (And.intro hx (And.intro hb1' (And.intro hs1 hres)))
  clear hx hb1 hb1' hs1 hres yf
  go_wp2
  obtain ⟨hx, hb1, hs1, hres⟩ := unhide HX
  have z := @res_cells w1 w.heap.size 29 _ _ (P0 (w.heap.size + 1)) (P0 w1.heap.size) hres
  refine bodyPost_ret (v := .tuple #[.agg #[P0 (w.heap.size + 1), P0 w1.heap.size], .bool true]) (by simp [results, Tryz.results12, go_sem, (z _).1, (z _).2]) rfl ⟨_, _, rfl, by omega, by omega, ?_, ?_, ?_⟩
  · exact PF.alloc (PF.other (PF.other hx _ _ (by simp)) _ _ (by simp)) _
  · refine ⟨.slice none 0 0, .slice none 0 0, ?_, World.ownsRow_nil _ _ _ _, Or.inl ⟨rfl, rfl⟩, rfl⟩
    have := heap_alloc_new ((w1.setCell ⟨w.heap.size, 0, none⟩ (P0 (w.heap.size + 1))).setCell ⟨w.heap.size, 1, none⟩ (P0 w1.heap.size)) (.cells #[.int .i64 v, .int .i64 m, .slice none 0 0, .slice none 0 0] 79)
    rw [show ((w1.setCell ⟨w.heap.size, 0, none⟩ (P0 (w.heap.size + 1))).setCell ⟨w.heap.size, 1, none⟩ (P0 w1.heap.size)).heap.size = w1.heap.size by simp [World.setCell]] at this
    exact this
  · exact (((((Below.refl _ _).alloc (Nat.le_refl _) _).trans (hb1.mono (by omega))).setCell (Nat.le_refl _) _).setCell (Nat.le_refl _) _).alloc (by simp [World.setCell]; omega) _

/-- a list all of whose numbers are one mark -/
def Mk (w : World) (v : Value) (n : Nat) (m : Int) : Prop := w.ownsRow 0 3 1 v n (List.replicate n (.int .i64 m))
theorem mk_cell {w : World} {g n cap : Nat} {m : Int} (h : Mk w (.slice (some ⟨g, 0, none⟩) n cap) n m) (k : Nat) (hk : k < n) : w.cell? ⟨g, k, none⟩ = some (.int .i64 m) := by
  rw [World.ownsRow.cellAt h k (by omega)]
  rw [List.getElem?_replicate, if_pos hk]

set_option maxRecDepth 100000 in
set_option maxHeartbeats 1000000 in
theorem mark_any (n : Nat) (m : Int) (a : Option Addr) (cap : Nat) (w : World) (h : Mk w (.slice a n cap) n m) (hn : n ≤ 1000) :
    Calls Tryz.prog 27 #[.slice a n cap, .int .i64 m] w fun e w' => e = .returned (.bool true) ∧ w = w' := by
  have hmm : (m != m) = false := by simp
  go_enter Tryz.func27, Tryz.ntmps27
  go_wp2
  go_loopg [5] n (fun gk i wr => ∃ k : Nat, k ≤ n ∧ i = .int .i64 k ∧ w = wr ∧ n - k ≤ gk)
  case atStart => exact ⟨0, Nat.zero_le _, rfl, rfl, by omega⟩
  case round =>
    obtain ⟨k, hk, rfl, rfl, hgk⟩ := hrel
    by_cases hlt : k < n
    · obtain ⟨g, rfl⟩ := row_some h (by omega)
      have c0 := mk_cell h k hlt
      have hk1 : (0 : Int) ≤ k := by omega
      have hk2 : (k : Int) < n := by omega
      go_wp2
      go_roundg (gk - 1)
      case measure => omega
      case rel => exact ⟨k + 1, by omega, by go_num, rfl, by omega⟩
    · go_wp2
      go_ret
      exact ⟨rfl, rfl⟩

set_option maxRecDepth 100000 in
set_option maxHeartbeats 1000000 in
theorem same_ints (l : List Int) (a a2 : Option Addr) (cap cap2 : Nat) (w : World) (h : Nums w 0 (.slice a l.length cap) l) (h2 : Nums w 0 (.slice a2 l.length cap2) l) (hn : l.length ≤ 1000) :
    Calls Tryz.prog 48 #[.slice a l.length cap, .slice a2 l.length cap2] w fun e w' => e = .returned (.bool true) ∧ ∃ n, w' = w.drewN n := by
  have hlen : ((l.length : Int) != l.length) = false := by simp
  go_enter Tryz.func48, Tryz.ntmps48
  go_wp2
  go_loopg [5] l.length (fun gk i wr => ∃ k n : Nat, k ≤ l.length ∧ i = .int .i64 k ∧ wr = w.drewN n ∧ l.length - k ≤ gk)
  case atStart => exact ⟨0, 0, Nat.zero_le _, rfl, rfl, by omega⟩
  case round =>
    obtain ⟨k, m, hk, rfl, rfl, hgk⟩ := hrel
    by_cases hlt : k < l.length
    · obtain ⟨g, rfl⟩ := row_some h (by omega)
      obtain ⟨g2, rfl⟩ := row_some h2 (by omega)
      have c0 := nums_cell h k hlt
      have c1 := nums_cell h2 k hlt
      have hk1 : (0 : Int) ≤ k := by omega
      have hk2 : (k : Int) < l.length := by omega
      have hmm : (l[k] != l[k]) = false := by simp
      generalize l[k] = x at *
      go_wp2_with fail
      go_quiet (fail)
      go_wp2
      go_roundg (gk - 1)
      case measure => omega
      case rel => exact ⟨k + 1, _, by omega, by go_num, rfl, by omega⟩
    · go_wp2
      go_ret
      exact ⟨rfl, _, rfl⟩

/-- the statement's world: the two sides, the lists that came out, each with its mark, and what was written behind them -/
structure LI (w : World) (W : Nat) (x0 g0 x1 g1 : Value) (vl vm : Value) (ls ms : List Value) : Prop where
  blk : w.heap[W]? = some (.cells #[x0, g0, x1, g1, vl, vm] 33 (0, 0))
  hl : w.ownsRow 0 58 1 vl ls.length ls
  hm : w.ownsRow 0 58 1 vm ms.length ms
  apart : ∀ k, vl.ownBlock = some k → vm.ownBlock = some k → False
  len : ms.length = 3 * ls.length
  bnd : ls.length ≤ 1100000
  ml : ∀ (i : Nat) (v : Value), ls[i]? = some v → ∃ n, n ≤ 1000 ∧ Mk w v n (-1000 - (i : Int))
  mm : ∀ (i : Nat) (v : Value), ms[i]? = some v → ∃ n, n ≤ 1000 ∧ Mk w v n (-1000 - (i : Int) / 3)

theorem six_cells {w : World} {b t : Nat} {v0 v1 v2 v3 v4 v5 : Value} (h : w.heap[b]? = some (.cells #[v0, v1, v2, v3, v4, v5] t (0, 0))) :
    w.cell? ⟨b, 0, none⟩ = some v0 ∧ w.cell? ⟨b, 1, none⟩ = some v1 ∧ w.cell? ⟨b, 2, none⟩ = some v2 ∧ w.cell? ⟨b, 3, none⟩ = some v3 ∧ w.cell? ⟨b, 4, none⟩ = some v4 ∧ w.cell? ⟨b, 5, none⟩ = some v5 ∧ ∀ j, w.frozen? ⟨b, j, none⟩ = false :=
  ⟨by simp [World.cell?, h], by simp [World.cell?, h], by simp [World.cell?, h], by simp [World.cell?, h], by simp [World.cell?, h], by simp [World.cell?, h], fun j => by simp [World.frozen?, h]⟩

theorem vrow_cell {w : World} {base e g n cap : Nat} {xs : List Value} (h : w.ownsRow base e 1 (.slice (some ⟨g, 0, none⟩) n cap) n xs) (k : Nat) (hk : k < n) : ∃ v, w.cell? ⟨g, k, none⟩ = some v ∧ xs[k]? = some v := by
  have hl := h.1
  have := World.ownsRow.cellAt h k (by omega)
  rw [List.getElem?_eq_getElem (by omega)] at this
  exact ⟨_, this, List.getElem?_eq_getElem (by omega)⟩

set_option maxRecDepth 100000 in
set_option maxHeartbeats 2000000 in
theorem looks_any (W : Nat) (x0 g0 x1 g1 : Value) (vl vm : Value) (ls ms : List Value) (w : World) (h : LI w W x0 g0 x1 g1 vl vm ls ms) :
    Calls Tryz.prog 13 #[P0 W] w fun e w' => e = .returned (.bool true) ∧ w = w' := by
  obtain ⟨_, _, _, _, c4, c5, _⟩ := six_cells h.blk
  have hl := h.hl
  have hm := h.hm
  obtain ⟨a, cap, rfl⟩ := row_form hl
  obtain ⟨a2, cap2, rfl⟩ := row_form hm
  have hbnd := h.bnd
  have hlen := h.len
  have H := hide h
  have HL := hide hlen
  have hb2 : ms.length ≤ 3300000 := by omega
  clear h hlen
  go_enter Tryz.func13, Tryz.ntmps13
  go_wp2
  go_loopg [3] ls.length (fun gk i wr => ∃ k : Nat, k ≤ ls.length ∧ i = .int .i64 k ∧ w = wr ∧ ls.length - k ≤ gk)
  case atStart => exact ⟨0, Nat.zero_le _, rfl, rfl, by omega⟩
  case round =>
    obtain ⟨k, hk, rfl, rfl, hgk⟩ := hrel
    by_cases hlt : k < ls.length
    · obtain ⟨g, rfl⟩ := row_some hl (by omega)
      obtain ⟨v, cv, hv⟩ := vrow_cell hl k hlt
      obtain ⟨n, hn, hmk⟩ := (unhide H).ml k v hv
      obtain ⟨av, capv, rfl⟩ := row_form hmk
      have hk1 : (0 : Int) ≤ k := by omega
      have hk2 : (k : Int) < ls.length := by omega
      clear hv
      go_wp2_with (go_at_call 27; refine (mark_any n _ av capv _ (by exact hmk) hn).mono ?_; rintro e w1 ⟨rfl, rfl⟩)
      go_roundg (gk - 1)
      case measure => omega
      case rel => exact ⟨k + 1, by omega, by go_num, rfl, by omega⟩
    · go_wp2
      go_loopg [5] ms.length (fun gk i wr => ∃ k : Nat, k ≤ ms.length ∧ i = .int .i64 k ∧ w = wr ∧ ms.length - k ≤ gk)
      case atStart => exact ⟨0, Nat.zero_le _, rfl, rfl, by omega⟩
      case round =>
        clear hk hlt hgk
        obtain ⟨k, hk, rfl, rfl, hgk⟩ := hrel
        by_cases hlt : k < ms.length
        · obtain ⟨g, rfl⟩ := row_some hm (by omega)
          obtain ⟨v, cv, hv⟩ := vrow_cell hm k hlt
          obtain ⟨n, hn, hmk⟩ := (unhide H).mm k v hv
          obtain ⟨av, capv, rfl⟩ := row_form hmk
          have hk1 : (0 : Int) ≤ k := by omega
          have hk2 : (k : Int) < ms.length := by omega
          clear hv
          go_wp2_with (go_at_call 27; refine (mark_any n _ av capv _ (by exact hmk) hn).mono ?_; rintro e w1 ⟨rfl, rfl⟩)
          go_roundg (gk - 1)
          case measure => omega
          case rel => exact ⟨k + 1, by omega, by go_num, rfl, by omega⟩
        · go_wp2
          go_ret
          exact ⟨rfl, rfl⟩

end Go.Proofs.YtnnnleckoinjoaaGreatDoor
