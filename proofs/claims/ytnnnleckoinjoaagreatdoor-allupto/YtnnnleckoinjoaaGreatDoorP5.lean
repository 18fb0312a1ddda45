import Derived.Test.YtnnnleckoinjoaaGreatDoorP4
namespace Go.Proofs.YtnnnleckoinjoaaGreatDoor
open Go.RowKit
open Pl (It)

/-- the parts' numbers behind joining the edges of m -/
def labs (m : List It) : List Int := (List.range 30).map fun (x : Nat) => Pl.lab m x
theorem labs_len (m : List It) : (labs m).length = 30 := by simp [labs]
theorem labs_get (m : List It) (x : Nat) (h : x < 30) : (labs m)[x]? = some (Pl.lab m x) := by simp [labs, h]
theorem labs_nil : labs [] = idrow := rfl
theorem labs_join (m : List It) (e : It) : joinTo (labs m) (Pl.lab m e.u) (Pl.lab m e.v) 30 = labs (e :: m) := by
  unfold joinTo
  rw [List.take_of_length_le (by rw [labs_len]; omega), List.drop_eq_nil_of_le (by rw [labs_len]; omega), List.append_nil]
  unfold labs
  rw [List.map_map]
  apply List.map_congr_left
  intro x _
  simp only [Function.comp, Pl.lab]

theorem bits_snoc {A : List It} {x : It} (c : Bool) (h0 : 0 ≤ x.id) (h1 : x.id < 100) (hA : Pl.has A x.id = false) : (Pl.bits A).set x.id.toNat c = Pl.bits (A ++ if c then [x] else []) := by
  apply List.ext_getElem (by simp [Pl.bits])
  intro i h2 h3
  have hi : i < 100 := by simpa [Pl.bits] using h3
  rw [List.getElem_set]
  have e2 : ∀ (B : List It) (h : i < (Pl.bits B).length), (Pl.bits B)[i] = Pl.has B i := fun B h => by simp [Pl.bits]
  by_cases e : x.id.toNat = i
  · rw [if_pos e]
    have ei : x.id = (i : Int) := by omega
    rw [ei] at hA
    cases c with
    | true =>
      rw [e2]
      simp [Pl.has, ei]
    | false =>
      rw [e2]
      simp only [Bool.false_eq_true, if_false, List.append_nil]; exact hA.symm
  · rw [if_neg e, e2, e2]
    cases c with
    | true =>
      have : (x.id == (i : Int)) = false := by rw [beq_eq_false_iff_ne]; omega
      simp [Pl.has, this]
    | false => simp
theorem bits_congr {A B : List It} (h : ∀ e, e ∈ A ↔ e ∈ B) : Pl.bits A = Pl.bits B := by
  unfold Pl.bits
  apply List.map_congr_left
  intro i _
  rw [Bool.eq_iff_iff, Pl.has_iff, Pl.has_iff]
  constructor
  · rintro ⟨e, he, h2⟩; exact ⟨e, (h e).1 he, h2⟩
  · rintro ⟨e, he, h2⟩; exact ⟨e, (h e).2 he, h2⟩

/-- what the k-th of the sorted edges does -/
theorem step_kept {L s : List It} (hp : s.Perm L) (hs : Pl.Srt s) (k : Nat) (hk : k < s.length) :
    (!(Pl.lab (s.take k).reverse s[k].u == Pl.lab (s.take k).reverse s[k].v)) = Pl.keeps L s[k] := by
  have h1 := Pl.kept_eq (fun e => hp.mem_iff) hs k hk
  rw [← h1]
  unfold Pl.kept
  rw [← Pl.conn_congr (l := (s.take k).reverse) (m := s.take k) _ _ (fun e => List.mem_reverse)]
  rfl
theorem step_rev {s : List It} (k : Nat) (hk : k < s.length) : (s.take (k + 1)).reverse = s[k] :: (s.take k).reverse := by
  rw [List.take_succ_eq_append_getElem hk, List.reverse_append]; rfl
theorem step_new {L s : List It} (hp : s.Perm L) (hi : Pl.Ids L) (k : Nat) (hk : k < s.length) (p : It → Bool) : Pl.has ((s.take k).filter p) s[k].id = false := by
  refine Pl.has_false.2 fun e he => ?_
  have hnd : s.Pairwise (fun a b => a.id ≠ b.id) := hp.symm.pairwise (hi.imp (fun h => by omega)) (fun h => h.symm)
  obtain ⟨i, hi', rfl⟩ := List.mem_iff_getElem.1 (List.mem_filter.1 he).1
  rw [List.getElem_take]
  rw [List.length_take] at hi'
  exact List.pairwise_iff_getElem.1 hnd i k (by omega) hk (by omega)

def falsev : List Value := (List.replicate 100 false).map Value.bool
theorem bits_nil : Pl.bits [] = List.replicate 100 false := by rfl

set_option maxRecDepth 100000 in
set_option maxHeartbeats 4000000 in
theorem cheapest_any (b n most : Nat) (live : List Bool) (ed : List It) (L : List It) (w : World) (hG : PG w b n most live ed) (hL : Pl.GL L live ed) (hl100 : L.length ≤ 100) (hn : n ≤ 30) (he : Pl.Ends n L) :
    Calls Tryz.prog 81 #[.pointer (some ⟨b, 0, none⟩)] w fun e w' => e = .returned (.agg ((Pl.bits (Pl.forest L)).map Value.bool).toArray) ∧ Below w.heap.size w w' := by
  have hG1 : PG ((w.alloc (.cells falsev.toArray 49)).alloc (.cells falsev.toArray 49)) b n most live ed := (hG.alloc _).alloc _
  have hbl := hG.blt
  go_enter Tryz.func81, Tryz.ntmps81
  go_wp2_with fail
  refine (lightest_any b n most live ed L _ (by exact hG1) hL hl100).mono ?_
  rintro e w1 ⟨a, cap, rfl, s, hperm, hsrt, hN, hb1⟩
  have hb1' : Below (w.heap.size + 1 + 1) ((w.alloc (.cells falsev.toArray 49)).alloc (.cells falsev.toArray 49)) w1 := by
    have h := hb1
    rw [World.size_alloc, World.size_alloc] at h
    exact h
  have hN' : Nums w1 (w.heap.size + 1 + 1) (.slice a L.length cap) (s.map It.id) := by
    have h := hN
    rw [World.size_alloc, World.size_alloc] at h
    exact h
  have r1 : RowAt w1 w.heap.size 49 falsev := RowAt.later (RowAt.alloc (row_new w 49 falsev) _) hb1' (by omega)
  have r2 : RowAt w1 (w.heap.size + 1) 49 falsev := by
    have h := row_new (w.alloc (.cells falsev.toArray 49)) 49 falsev
    rw [World.size_alloc] at h
    exact h.later hb1' (by omega)
  have hB1 : Below w.heap.size w w1 := (((Below.refl _ _).alloc (Nat.le_refl _) _).alloc (by rw [World.size_alloc]; omega) _).trans (hb1'.mono (by omega))
  have hs1 : w.heap.size + 1 + 1 ≤ w1.heap.size := by have := hb1'.size; rw [World.size_alloc, World.size_alloc] at this; exact this
  have A0 : Aside (s.Perm L ∧ Pl.Srt s ∧ Pl.GL L live ed ∧ Pl.Ends n L ∧ PG w b n most live ed) := ⟨hperm, hsrt, hL, he, hG⟩
  clear hb1 hN hb1' hG1 hperm hsrt hL he hG
  go_wp2_with fail
  refine (apart_any _).mono ?_
  rintro e w2 ⟨rfl, hb2⟩
  have r1' := r1.later hb2 (by omega)
  have r2' := r2.later hb2 (by omega)
  have hN2 := Nums.later hN' hb2 (Nat.le_refl _)
  have hB2 := hB1.trans (hb2.mono (by omega))
  have hs2 : w.heap.size + 1 + 1 ≤ w2.heap.size := by have := hb2.size; omega
  have A1 : Aside (RowAt w2 w.heap.size 49 falsev ∧ RowAt w2 (w.heap.size + 1) 49 falsev ∧ Nums w2 (w.heap.size + 1 + 1) (.slice a L.length cap) (s.map It.id) ∧ Below w.heap.size w w2) := ⟨r1', r2', hN2, hB2⟩
  clear r1 r2 r1' r2' hN' hN2 hB1 hB2 hb2 hs1
  have hth : (w2.alloc (.cells (ofc (upTo 0)).toArray 116)).there w2.heap.size 0 30 := (row_new w2 116 (ofc (upTo 0))).there 0 30 (by decide)
  go_wp2_with (refine wpList_store_mid rfl 116 (.tmp 5) (.tmp 11) rfl w2.heap.size 0 (ofc idrow).toArray rfl rfl (by exact hth) infoParts (all_oneCell_toArray (ofc_one _)) ?_)
  have hslen : Hid (s.length = L.length) := A0.out.1.length_eq
  go_loopg [6] L.length (fun gk i wr => ∃ k : Nat, k ≤ L.length ∧ i = .int .i64 k ∧ RowAt wr w.heap.size 49 falsev ∧ RowAt wr (w.heap.size + 1) 49 ((Pl.bits ((s.take k).filter (Pl.keeps L))).map Value.bool) ∧
      RowAt wr w2.heap.size 116 (ofc (labs (s.take k).reverse)) ∧ Nums wr (w.heap.size + 1 + 1) (.slice a L.length cap) (s.map It.id) ∧ Below w.heap.size w wr ∧ L.length - k ≤ gk)
  case atStart =>
    obtain ⟨r1, r2, hN, hB⟩ := A1.out
    refine ⟨0, Nat.zero_le _, rfl, ?_, ?_, ?_, ?_, ?_, by omega⟩
    · unfold RowAt; rw [heap_setCells _ _ _ _ (by omega)]; exact RowAt.alloc r1 _
    · unfold RowAt; rw [heap_setCells _ _ _ _ (by omega)]; exact RowAt.alloc r2 _
    · exact RowAt.whole (row_new w2 116 (ofc (upTo 0))) rfl
    · exact Nums.later hN (below_setCells (Nat.le_refl _) _ _ _ ((Below.refl _ _).alloc (Nat.le_refl _) _)) (Nat.le_refl _)
    · exact below_setCells (by omega) _ _ _ (hB.alloc (by omega) _)
  case round =>
    obtain ⟨k, hk, rfl, r1, r2, r3, hN, hB, hgk⟩ := hrel
    have hsl := unhide hslen
    by_cases hlt : k < L.length
    · obtain ⟨hperm, hsrt, hGL, hends, hG⟩ := A0.out
      have hks : k < s.length := by omega
      unfold Nums at hN
      rw [List.length_map, hsl] at hN
      obtain ⟨g, rfl⟩ := row_some hN (by omega)
      have hxL : s[k] ∈ L := hperm.mem_iff.1 (List.getElem_mem hks)
      obtain ⟨x0, x1⟩ := hGL.rng _ hxL
      obtain ⟨xi, hxi⟩ := Int.eq_ofNat_of_zero_le x0
      have hxi1 : (xi : Int) < 100 := by omega
      have hxi2 : xi < 100 := by omega
      obtain ⟨u0, u1, v0, v1⟩ := hends _ hxL
      obtain ⟨ui, hui⟩ := Int.eq_ofNat_of_zero_le u0
      obtain ⟨vi, hvi⟩ := Int.eq_ofNat_of_zero_le v0
      have hu30 : ui < 30 := by omega
      have hv30 : vi < 30 := by omega
      have hPG : PG wr b n most live ed := hG.later hB (Nat.le_refl _)
      have hex : ed[xi]? = some s[k] := by have := hGL.ed _ hxL; rw [hxi, Int.toNat_natCast] at this; exact this
      obtain ⟨hxe, exe⟩ := List.getElem?_eq_some_iff.1 hex
      obtain ⟨e0, e1, e2⟩ := hPG.ce xi hxe
      rw [exe] at e0 e1 e2
      rw [hui] at e0
      rw [hvi] at e1
      have cid := numrow_cell hN hsl k s[k] (List.getElem?_eq_getElem hks)
      rw [hxi] at cid
      have hk1 : (k : Int) < L.length := by omega
      have hgl := (World.ownsRow.lt hN g rfl)
      have hkept := step_kept hperm hsrt k hks
      rw [hui, hvi] at hkept
      have hrev := step_rev (s := s) k hks
      have hnew := step_new hperm hGL.ids k hks (Pl.keeps L)
      have hbits := bits_snoc (x := s[k]) (Pl.keeps L s[k]) x0 x1 hnew
      rw [hxi, Int.toNat_natCast] at hbits
      have hfs := Pl.filter_snoc (Pl.keeps L) s k hks
      have hjoin := labs_join (s.take k).reverse s[k]
      rw [hui, hvi] at hjoin
      have hp1 := labs_get (s.take k).reverse ui hu30
      have hp2 := labs_get (s.take k).reverse vi hv30
      have hf2 := r2.free xi
      have hc2 := r2.cell xi (by simp [Pl.bits_len]; omega)
      have hs2' := r3.lt
      have hn1 : ¬ w.heap.size + 1 = wr.heap.size := by omega
      have hn2 : ¬ wr.heap.size = w.heap.size + 1 := by omega
      have hn3 : ¬ w2.heap.size = w.heap.size + 1 := by omega
      have hn4 : w.heap.size + 1 < wr.heap.size := by omega
      have H := hide (And.intro r1 (And.intro r2 (And.intro r3 (And.intro hN (And.intro hB (And.intro hkept (And.intro hrev (And.intro hbits (And.intro hfs (And.intro hjoin (And.intro hp1 hp2)))))))))))
      generalize s[k].w = wt at *
      clear hperm hsrt hGL hends hG hxL x0 x1 hxi u0 u1 v0 v1 hui hvi hPG hex exe hnew r1 r2 r3 hN hB hkept hrev hbits hfs hjoin hp1 hp2 hxe
      go_wp2_with fail
      refine (same_any w2.heap.size (labs (s.take k).reverse) ui vi _ _ (unhide H).2.2.2.2.2.2.2.2.2.2.1 (unhide H).2.2.2.2.2.2.2.2.2.2.2 hu30 hv30 _ (by exact (unhide H).2.2.1.alloc _)).mono ?_
      rintro e w3 ⟨rfl, m, rfl⟩
      generalize hz : (Pl.lab (s.take k).reverse (ui : Int) == Pl.lab (s.take k).reverse (vi : Int)) = z
      have HZ := hide hz
      clear hz
      go_wp2_with fail
      obtain ⟨r1, r2, r3, hN, hB, hkept, hrev, hbits, hfs, hjoin, hp1, hp2⟩ := unhide H
      rw [unhide HZ] at hkept
      refine (join_any w2.heap.size (labs (s.take k).reverse) (labs_len _) ui vi _ _ hp1 hp2 _ (by exact RowAt.other (RowAt.alloc r3 _) _ _ hn3)).mono ?_
      rintro e w4 ⟨rfl, hr4, hf4⟩
      rw [hjoin, ← hrev] at hr4
      have hnb : ¬ w.heap.size = w2.heap.size := by omega
      have hnb1 : ¬ w.heap.size + 1 = w2.heap.size := by omega
      have hnb2 : ¬ w.heap.size = w.heap.size + 1 := by omega
      have q1 : RowAt w4 w.heap.size 49 falsev := by
        refine RowAt.fr ?_ hf4 hnb
        exact RowAt.other (RowAt.alloc r1 _) _ _ hnb2
      have q2 : RowAt w4 (w.heap.size + 1) 49 ((Pl.bits ((s.take (k + 1)).filter (Pl.keeps L))).map Value.bool) := by
        rw [hfs, ← hbits, ← hkept, List.map_set]
        refine RowAt.fr ?_ hf4 hnb1
        exact RowAt.set (RowAt.alloc r2 _) xi _
      have q4 : Below w.heap.size w w4 := by
        refine ((below_drewN (hB.alloc (by omega) _) m).setCell (by simp) (.bool (!z)) (p := ⟨w.heap.size + 1, xi, none⟩)).trans ⟨hf4.os, hf4.tape, hf4.output, hf4.size, fun i hi => hf4.block i ?_ (by omega)⟩
        show i < ((wr.alloc _).setCell _ _).heap.size
        have : (wr.alloc (.cells #[.int .i64 ui, .int .i64 vi, .int .i64 wt] 51)).heap.size = wr.heap.size + 1 := World.size_alloc _ _
        simp [World.setCell]; omega
      have q5 : Nums w4 (w.heap.size + 1 + 1) (.slice (some ⟨g, 0, none⟩) L.length cap) (s.map It.id) := by
        unfold Nums
        rw [List.length_map, hsl]
        refine row_fr ?_ hf4 ?_
        · exact ownsRow_setCell_other (World.ownsRow.alloc hN (.cells #[.int .i64 ui, .int .i64 vi, .int .i64 wt] 51)) (a := ⟨w.heap.size + 1, xi, none⟩) (by simp [Value.ownBlock]; omega) (.bool (!z))
        · rintro k' c f hk' h2 h3
          simp [Value.ownBlock] at h2
          subst h2
          subst h3
          have := (RowAt.other (RowAt.alloc r3 (.cells #[.int .i64 ui, .int .i64 vi, .int .i64 wt] 51)) ⟨w.heap.size + 1, xi, none⟩ (.bool (!z)) hn3)
          unfold RowAt at this
          have hk2 : ((wr.alloc (.cells #[.int .i64 ui, .int .i64 vi, .int .i64 wt] 51)).setCell ⟨w.heap.size + 1, xi, none⟩ (.bool (!z))).heap[w2.heap.size]? = some (.cells c 3 f) := hk'
          rw [this] at hk2
          simp at hk2
      have HH := hide (And.intro q1 (And.intro q2 (And.intro hr4 (And.intro q5 q4))))
      clear q1 q2 q4 q5 hr4 hf4 r1 r2 r3 hN hB hkept hrev hbits hfs hjoin hp1 hp2 H HZ e0 e1 e2 cid hc2 hf2
      go_wp2
      obtain ⟨q1, q2, q3, q5, q4⟩ := unhide HH
      go_roundg (gk - 1)
      case measure => omega
      case rel => exact ⟨k + 1, by omega, by go_num, q1, q2, q3, q5, q4, by omega⟩
    · have hk' : s.take k = s := List.take_of_length_le (by omega)
      rw [hk'] at r2
      have hperm := A0.out.1
      have eb : Pl.bits (s.filter (Pl.keeps L)) = Pl.bits (Pl.forest L) := bits_congr fun e => by
        rw [List.mem_filter, hperm.mem_iff]; exact List.mem_filter.symm
      rw [eb] at r2
      go_wp2_with (first
        | (refine wpList_load_row rfl 49 (.tmp 3) rfl (w.heap.size + 1) rfl 49 _ (0, 0) _ r2 Tryz.underlying49 rfl (by rw [List.size_toArray, List.length_map, Pl.bits_len]; exact infoArrB) ?_)
        | (refine wpList_store_mid rfl 49 (.tmp 2) (.tmp 41) rfl w.heap.size 0 ((Pl.bits (Pl.forest L)).map Value.bool).toArray rfl rfl (r1.there 0 _ (by rw [List.size_toArray, List.length_map, Pl.bits_len]; exact Nat.le_of_eq (by decide))) (by rw [List.size_toArray, List.length_map, Pl.bits_len]; exact infoArrB) (all_oneCell_toArray (by intro v hv; simp at hv; rcases hv with ⟨_, rfl⟩ | ⟨_, rfl⟩ <;> rfl)) ?_))
      have hst := RowAt.whole (ys := (Pl.bits (Pl.forest L)).map Value.bool) r1 (by rw [List.length_map, Pl.bits_len]; decide)
      exact bodyPost_ret (results_cell_row (by exact Tryz.results81) _ _ w.heap.size 49 ((Pl.bits (Pl.forest L)).map Value.bool).toArray (0, 0) _ rfl (by exact hst) Tryz.underlying49 rfl (by rw [List.size_toArray, List.length_map, Pl.bits_len]; exact infoArrB)) rfl ⟨rfl, below_setCells (Nat.le_refl _) _ _ _ hB⟩

end Go.Proofs.YtnnnleckoinjoaaGreatDoor
