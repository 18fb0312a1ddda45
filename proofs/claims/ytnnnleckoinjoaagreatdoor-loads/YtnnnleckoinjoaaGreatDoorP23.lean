import Derived.Test.YtnnnleckoinjoaaGreatDoorP22
import Derived.Test.YtnnnleckoinjoaaGreatDoorQ1
namespace Go.Proofs.YtnnnleckoinjoaaGreatDoor
open Go.RowKit
open Pl (It)

theorem infoPG : (Tryz.prog.info? 57).map (·.size) = some 503 := by kernel_rfl
theorem edcs_one (ed : List It) : ∀ v ∈ edcs ed, v.oneCell' = true := by
  intro v hv
  unfold edcs at hv
  obtain ⟨e, _, h⟩ := List.mem_flatMap.1 hv
  simp [edc] at h
  rcases h with rfl | rfl | rfl <;> rfl
theorem pcells_one (sl : List Sl) (k : Nat) : ∀ v ∈ pcells sl k, v.oneCell' = true := by
  intro v hv
  unfold pcells slcs at hv
  rcases List.mem_append.1 hv with h | h
  · obtain ⟨s, _, h2⟩ := List.mem_flatMap.1 h
    exact slc_one s v h2
  · rw [List.mem_singleton.1 h]; rfl
theorem gcells_one (n most : Nat) (live : List Bool) (ed : List It) (tl : List Value) (h : ∀ v ∈ tl, v.oneCell' = true) : ∀ v ∈ gcells n most live ed tl, v.oneCell' = true := by
  intro v hv
  unfold gcells at hv
  rcases List.mem_cons.1 hv with rfl | hv
  · rfl
  rcases List.mem_cons.1 hv with rfl | hv
  · rfl
  rcases List.mem_append.1 hv with hv | hv
  · exact bitsv_one _ v hv
  rcases List.mem_append.1 hv with hv | hv
  · exact edcs_one _ v hv
  · exact h v hv
theorem row_newPG (w : World) : RowAt (w.alloc (.cells Tryz.zeroCells57 57)) w.heap.size 57 (gcells 0 0 (List.replicate 100 false) zeroEd (pcells zeroSls 0)) := by rw [zero55]; exact row_new w _ _
theorem zeroG_len : (gcells 0 0 (List.replicate 100 false) zeroEd (pcells zeroSls 0)).length = 503 := by
  have := congrArg Array.size zero55
  rw [Tryz.zeroCells57_size] at this
  exact List.size_toArray.symm.trans this.symm

set_option maxRecDepth 100000 in
set_option maxHeartbeats 1000000 in
theorem would_any (b n most : Nat) (live : List Bool) (ed L L2 : List It) (sl : List Sl) (k : Nat) (i : Nat) (w : World) (hG : PF w b n most live ed (pcells sl k)) (hL : Pl.GL L live ed) (hL2 : Pl.GL L2 (live.set i false) (ed.set i ⟨i, 0, 0, 0⟩)) (hadj : Pl.Adj L L2)
    (hl : L.length ≤ 100) (hl2 : L2.length ≤ 100) (hn : n ≤ 30) (he : Pl.Ends n L) (he2 : Pl.Ends n L2) (hi : i < 100) :
    Calls Tryz.prog 93 #[.pointer (some ⟨b, 0, none⟩), .int .i64 i] w fun e w' => e = .returned (.int .i64 (Pl.only (Pl.forest L2) (Pl.forest L))) ∧ Below w.heap.size w w' := by
  have hbl := hG.row.lt
  have hlen := hG.len
  have hsz : (gcells n most live ed (pcells sl k)).toArray.size = 503 := by rw [List.size_toArray]; exact hlen
  have hrn := row_newPG w
  have HT : Hid ((w.alloc (.cells Tryz.zeroCells57 57)).there w.heap.size 0 (gcells n most live ed (pcells sl k)).toArray.size) := by
    show World.there _ _ _ _
    rw [hsz]; exact hrn.there 0 503 (by rw [zeroG_len]; omega)
  have HI : Hid ((Tryz.prog.info? 57).map (·.size) = some (gcells n most live ed (pcells sl k)).toArray.size) := by
    show _ = _
    rw [hsz]; exact infoPG
  have HO : Hid ((gcells n most live ed (pcells sl k)).toArray.all (·.oneCell') = true) := all_oneCell_toArray (gcells_one _ _ _ _ _ (pcells_one _ _))
  have hcopy : PF ((w.alloc (.cells Tryz.zeroCells57 57)).setCells w.heap.size 0 (gcells n most live ed (pcells sl k))) w.heap.size n most live ed (pcells sl k) :=
    ⟨RowAt.whole hrn (by rw [hlen, zeroG_len]), hG.ll, hG.le, hG.lt⟩
  have hB : Below w.heap.size w ((w.alloc (.cells Tryz.zeroCells57 57)).setCells w.heap.size 0 (gcells n most live ed (pcells sl k))) := below_setCells (Nat.le_refl _) _ _ _ ((Below.refl _ _).alloc (Nat.le_refl _) _)
  have HS := hide (setp_any w.heap.size n most live ed L L2 (pcells sl k) i false ⟨i, 0, 0, 0⟩ _ hcopy hL hL2 hadj hl hl2 hn he he2 hi)
  have HB := hide hB
  have HR := hide hG.row
  clear hG hL hL2 hadj he he2 hrn hcopy hB
  generalize hgc : gcells n most live ed (pcells sl k) = gc at *
  clear hgc
  go_enter Tryz.func93, Tryz.ntmps93
  go_upto_region 2 with (first
    | (refine wpList_load_row rfl 57 (.tmp 8) rfl b rfl 57 _ (0, 0) _ (unhide HR) Tryz.underlying57 rfl (unhide HI) ?_)
    | (refine wpList_store_mid rfl 57 (.tmp 5) (.tmp 9) rfl w.heap.size 0 gc.toArray rfl rfl (unhide HT) (unhide HI) (unhide HO) ?_))
  generalize (w.alloc (.cells Tryz.zeroCells57 57)).setCells w.heap.size 0 gc = W at *
  clear HT HI HO HR
  go_wp2_with fail
  refine Calls.mono (by exact unhide HS) ?_
  rintro e w2 ⟨rfl, _, hf⟩
  have hB2 : Below w.heap.size w w2 := (unhide HB).trans ⟨hf.os, hf.tape, hf.output, hf.size, fun j hj => hf.block j (by have := (unhide HB).size; omega) (by omega)⟩
  have HB2 := hide hB2
  have hs2 := hB2.size
  clear HS HB hf hB2
  go_wp2
  go_ret
  exact ⟨rfl, (unhide HB2).alloc hs2 _⟩

set_option maxRecDepth 100000 in
set_option maxHeartbeats 1000000 in
theorem otherp_ok (b : Nat) (s : St) (x : It) (hx : x ∈ s.L) (w : World) (hX : XG w b s) (h : Ok s) :
    Calls Tryz.prog 60 #[.pointer (some ⟨b, 0, none⟩), .int .i64 x.id] w fun e w' => e = .returned (.tuple #[.int .i64 (if Pl.keeps s.L x then Pl.only (Pl.forest (Pl.withoutI s.L x.id)) (Pl.forest s.L) else Pl.midI s.L x.u x.v), .int .i64 0]) ∧ Below w.heap.size w w' := by
  obtain ⟨i0, i1⟩ := h.gl.rng x hx
  have hc := inp_ok b _ _ _ _ s.L x hx w hX.pg h.gl h.l100 h.n30 h.ends
  cases hk : Pl.keeps s.L x with
  | true =>
    rw [hk] at hc
    obtain ⟨i, hi'⟩ := Int.eq_ofNat_of_zero_le i0
    have hii : (i : Int) = x.id := hi'.symm
    have hwd := fun (W : World) (hW : XG W b s) => would_any b s.n s.most s.live s.ed s.L (Pl.withoutI s.L i) s.sl s.past.length i W hW h.gl (h.gl.without i _) (h.adjdel i (by rw [hii]; exact Pl.has_iff.2 ⟨x, hx, rfl⟩)) h.l100 (Nat.le_trans (Pl.without_len _ _) h.l100) h.n30 h.ends (Pl.without_ends h.ends _) (by omega)
    rw [hii] at hwd
    have HW := hide (fun W hW => hwd W hW)
    have HX := hide hX
    clear hwd hX hi' hii
    simp only [if_true]
    go_enter Tryz.func60, Tryz.ntmps60
    go_wp2_with fail
    refine hc.mono ?_
    rintro e w1 ⟨rfl, hb⟩
    clear hc
    go_wp2_with fail
    refine ((unhide HW) _ (PF.later (unhide HX) hb (Nat.le_refl _))).mono ?_
    rintro e w2 ⟨rfl, hb2⟩
    go_wp2
    go_ret2
    exact ⟨rfl, hb.trans (hb2.mono hb.size)⟩
  | false =>
    rw [hk] at hc
    obtain ⟨u0, u1, v0, v1⟩ := h.ends x hx
    obtain ⟨ui, hui⟩ := Int.eq_ofNat_of_zero_le u0
    obtain ⟨vi, hvi⟩ := Int.eq_ofNat_of_zero_le v0
    obtain ⟨i, hi'⟩ := Int.eq_ofNat_of_zero_le i0
    have hex := h.gl.ed x hx
    rw [hi', Int.toNat_natCast] at hex
    obtain ⟨hxe, exe⟩ := List.getElem?_eq_some_iff.1 hex
    have n30 := h.n30
    have hh := fun (W : World) (hW : XG W b s) => heavb_any b s.n s.most s.live s.ed s.L ui vi (by omega) (by omega) W hW.pg h.gl h.l100 h.n30 h.ends
    rw [hi'] at hc ⊢
    rw [hui, hvi]
    have hi1 : (i : Int) < 100 := by omega
    have hi0 : (0 : Int) ≤ i := by omega
    have hbl := PF.row hX |>.lt
    have HH := hide (fun W hW => hh W hW)
    have HX := hide hX
    have hce : ∀ W, XG W b s → W.cell? ⟨b, 102 + i * 3, none⟩ = some (.int .i64 ui) ∧ W.cell? ⟨b, 102 + i * 3 + 1, none⟩ = some (.int .i64 vi) ∧ W.cell? ⟨b, 102 + i * 3 + 2, none⟩ = some (.int .i64 x.w) := by
      intro W hW
      obtain ⟨e0, e1, e2⟩ := hW.pg.ce i hxe
      rw [exe] at e0 e1 e2
      rw [hui] at e0
      rw [hvi] at e1
      exact ⟨e0, e1, e2⟩
    have HCE := hide hce
    generalize x.w = wt at *
    clear hh hX hi' hex hxe exe hce hui hvi u0 u1 v0 v1
    simp only [Bool.false_eq_true, if_false]
    go_enter Tryz.func60, Tryz.ntmps60
    go_wp2_with fail
    refine hc.mono ?_
    rintro e w1 ⟨rfl, hb⟩
    clear hc
    have hX1 : XG w1 b s := PF.later (unhide HX) hb (Nat.le_refl _)
    obtain ⟨e0, e1, e2⟩ := (unhide HCE) _ hX1
    have hX2 : ∀ o, XG (w1.alloc o) b s := fun o => PF.alloc hX1 o
    have HX2 := hide hX2
    have hs1 := hb.size
    have hbne : ¬ b = w1.heap.size := by omega
    have hbne2 : ¬ w1.heap.size = b := by omega
    have HB := hide hb
    clear hX1 hX2 HX HCE hb
    go_wp2_with fail
    refine ((unhide HH) _ (by exact (unhide HX2) _)).mono ?_
    rintro e w2 ⟨rfl, hb2⟩
    have hb2' := ((unhide HB).alloc hs1 (.cells #[.int .i64 ui, .int .i64 vi, .int .i64 wt] 51)).trans (hb2.mono (by rw [World.size_alloc]; omega))
    clear hb2
    go_wp2
    go_ret2
    exact ⟨rfl, hb2'⟩

end Go.Proofs.YtnnnleckoinjoaaGreatDoor
