import Derived.Test.YtjbhcmmoidmgfaaDoorR14
namespace Go.Proofs.YtjbhcmmoidmgfaaDoor
open Go.RowKit
open Pl (It)

theorem Pl.out_len (l : List It) (id : Int) : (Pl.outI l id).length ≤ l.length := List.length_filter_le _ _
theorem Pl.out_ends {n : Nat} {l : List It} (h : Pl.Ends n l) (id : Int) : Pl.Ends n (Pl.outI l id) := fun e he => h e ((List.mem_filter.1 he).1)

set_option maxRecDepth 100000 in
set_option maxHeartbeats 2000000 in
theorem delr_no (b n most : Nat) (L : List It) (past : List (List It)) (p : Option Nat) (id : Int) (w : World) (hG : RG w b n most L past p) (hL : L.length ≤ 100) (code : Int)
    (hc : (Pl.numB id = false ∧ code = 2) ∨ (Pl.numB id = true ∧ Pl.has L id = false ∧ code = 6)) :
    Calls Tryd.prog 22 #[.pointer (some ⟨b, 0, none⟩), .int .i64 id] w fun e w' => e = .returned (.tuple #[.agg #[.int .i64 0, .int .i64 0], .int .i64 code]) ∧ Below w.heap.size w w' := by
  have hG1 : RG (w.alloc (.cells #[.int .i64 0, .int .i64 0] 64)) b n most L past p := hG.later ((Below.refl _ _).alloc (Nat.le_refl _) _)
  have hcode : (code != 0) = true := by rcases hc with ⟨_, rfl⟩ | ⟨_, _, rfl⟩ <;> rfl
  go_enter Tryd.func22, Tryd.ntmps22
  go_wp2_with fail
  refine (asked_no b n most L past p id _ hG1 hL code hc).mono ?_
  rintro e w1 ⟨rfl, hb⟩
  simp only [World.size_alloc] at hb
  have hres := made_later hb (by omega)
  obtain ⟨r0, r1, rf⟩ := two_cells hres
  have rf0 := rf 0
  have rf1 := rf 1
  have hs := lt_of_block hres
  have hne1 : ¬ w.heap.size = w1.heap.size := by omega
  have hne2 : ¬ w1.heap.size = w.heap.size := by omega
  have HR := hide hres
  clear hc hres rf hG hG1
  go_wp2
  have z := @res_cells w1 w.heap.size 64 _ _ (.int .i64 0) (.int .i64 0) (unhide HR)
  exact bodyPost_ret (v := .tuple #[.agg #[.int .i64 0, .int .i64 0], .int .i64 code]) (by simp [results, Tryd.results22, go_sem, (z _).1, (z _).2]) rfl ⟨rfl, (((((Below.refl _ _).alloc (Nat.le_refl _) _).trans (hb.mono (by omega))).setCell (Nat.le_refl _) _).setCell (Nat.le_refl _) _).alloc (by simp; omega) _⟩

set_option maxRecDepth 100000 in
set_option maxHeartbeats 4000000 in
theorem delr_ok (b n most : Nat) (L : List It) (past : List (List It)) (p : Option Nat) (id : Int) (w : World) (hG : RG w b n most L past p) (hL : L.length ≤ 100) (hn : n ≤ 30) (he : Pl.Ends n L) (hp : past.length ≤ 20)
    (h1 : Pl.numB id = true) (h4 : Pl.has L id = true) :
    Calls Tryd.prog 22 #[.pointer (some ⟨b, 0, none⟩), .int .i64 id] w fun e w' =>
      e = .returned (.tuple #[.agg #[.int .i64 (Pl.only (Pl.forest (Pl.outI L id)) (Pl.forest L)), .int .i64 (Pl.only (Pl.forest L) (Pl.forest (Pl.outI L id)))], .int .i64 0]) ∧
      ∃ p', RG w' b n most (Pl.outI L id) (push past L) p' ∧ (p' = p ∨ ∃ k, p' = some k ∧ w.heap.size ≤ k) ∧ Fr (fun k => k = b ∨ p = some k) w w' := by
  have hG1 : RG (w.alloc (.cells #[.int .i64 0, .int .i64 0] 64)) b n most L past p := hG.later ((Below.refl _ _).alloc (Nat.le_refl _) _)
  have hx := Pl.out_len L id
  have hends := Pl.out_ends he id
  have hbl : b < w.heap.size := by obtain ⟨_, _, h, _⟩ := hG; exact lt_of_block h
  have HG := hide hG
  clear hG
  go_enter Tryd.func22, Tryd.ntmps22
  go_wp2_with fail
  refine (asked_ok b n most L past p id _ hG1 hL h1 h4).mono ?_
  rintro e w1 ⟨k, hk, hkid, rfl, hb⟩
  simp only [World.size_alloc] at hb
  have hs1 : w.heap.size + 1 ≤ w1.heap.size := by have := hb.size; rw [World.size_alloc] at this; exact this
  have hb1 : Below w.heap.size w w1 := ((Below.refl _ _).alloc (Nat.le_refl _) _).trans (hb.mono (by omega))
  obtain ⟨a, cap, vP, c0, c1, c2, c3, hI, _⟩ := rg_open ((unhide HG).later hb1)
  have hres := made_later hb (by omega)
  have hne1 : b < w1.heap.size := by omega
  have hne3 : w.heap.size < w1.heap.size := by omega
  have HK := hide (And.intro hI (And.intro hb1 hres))
  clear hkid hI hb1 hres hb hG1
  go_wp2_with fail
  obtain ⟨hI, hb1, hres⟩ := unhide HK
  refine (without_any L id a cap _ (by exact World.ownsRow.alloc hI _) hL).mono ?_
  rintro e w2 ⟨v2, rfl, ow, bw⟩
  obtain ⟨aw, cw, rfl⟩ := row_form ow
  rw [World.size_alloc] at bw ow
  have hb2 : Below w.heap.size w w2 := (hb1.alloc hb1.size _).trans (bw.mono (by omega))
  have hs2 : w1.heap.size + 1 ≤ w2.heap.size := by have := bw.size; rw [World.size_alloc] at this; exact this
  have hres2 : w2.heap[w.heap.size]? = some (.cells #[.int .i64 0, .int .i64 0] 64 (0, 0)) := by
    rw [bw.block _ (by omega), Below.heap_alloc _ _ _ hne3]; exact hres
  have hG2 := (unhide HG).later hb2
  have hpl := rg_past (unhide HG)
  clear hI hb1 hres HK c0 c1 c2 c3
  go_wp2_with fail
  refine (turns_any b n most L (Pl.outI L id) past p aw cw _ (by exact hG2) (by exact row_mono ow (Nat.zero_le _)) (by omega) hL hn he hends hp).mono ?_
  rintro e w3 ⟨rfl, p', hG3, hp', hF3⟩
  have hres3 := (hF3.block _ (lt_of_block hres2) (by
    rintro (e | e)
    · omega
    · obtain ⟨h6, _⟩ := hpl _ e; omega)).trans hres2
  obtain ⟨y0, y1, yf⟩ := two_cells hres3
  have yf0 := yf 0
  have yf1 := yf 1
  have hs3 := lt_of_block hres3
  have hne4 : ¬ w.heap.size = w3.heap.size := by omega
  have hne5 : ¬ w3.heap.size = w.heap.size := by omega
  have hFr : Fr (fun k => k = b ∨ p = some k) w w3 := (Fr.of_below hb2).trans hF3
  have K := hide (And.intro hG3 (And.intro hp' (And.intro hFr (And.intro hb2.size hres3))))
  clear hG3 hp' hFr hF3 hG2 hres2 hres3 hb2 bw ow hpl yf HG
  go_wp2
  obtain ⟨hG3, hp', hFr, hsz, hres3⟩ := unhide K
  have z := @res_cells w3 w.heap.size 64 _ _ (.int .i64 (Pl.only (Pl.forest (Pl.outI L id)) (Pl.forest L))) (.int .i64 (Pl.only (Pl.forest L) (Pl.forest (Pl.outI L id)))) hres3
  refine bodyPost_ret (v := .tuple #[.agg #[.int .i64 (Pl.only (Pl.forest (Pl.outI L id)) (Pl.forest L)), .int .i64 (Pl.only (Pl.forest L) (Pl.forest (Pl.outI L id)))], .int .i64 0]) (by simp [results, Tryd.results22, go_sem, (z _).1, (z _).2]) rfl ⟨rfl, p', (res_end hres3 hG3 hFr).1, ?_, (res_end hres3 hG3 hFr).2⟩
  rcases hp' with h | ⟨k, h, h'⟩
  · exact Or.inl h
  · exact Or.inr ⟨k, h, by omega⟩

end Go.Proofs.YtjbhcmmoidmgfaaDoor
