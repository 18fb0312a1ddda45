/- Which vertices edges join with one: by a queue. -/
import Derived.Test.YtnnnleckoinjoaaDoorK37
import Derived.Deep.LoopGhost
namespace Go.Proofs.YtnnnleckoinjoaaDoor
open Go.RowKit
open Pl (It)

structure BF (n : Nat) (M : List It) (u : Int) (ins : List Bool) (todo : List Int) : Prop where
  len : ins.length = n
  snd : Pl.Snd M u ins
  bu : Pl.bit ins u = true
  has : ∀ v : Nat, ins.getD v false = true → (v : Int) ∈ todo
  bits : ∀ t, t ∈ todo → 0 ≤ t ∧ t < n ∧ Pl.bit ins t = true
  fuel : todo.length + Pl.falses ins ≤ n
def DoneE (ins : List Bool) (t : Int) (y : It) : Prop := (y.u = t → Pl.bit ins y.v = true) ∧ (y.v = t → Pl.bit ins y.u = true)
theorem DoneE.mono {ins : List Bool} {t : Int} {y : It} (h : DoneE ins t y) (v : Nat) (hv : v < ins.length) : DoneE (ins.set v true) t y :=
  ⟨fun e => Pl.bit_keeps v hv (h.1 e), fun e => Pl.bit_keeps v hv (h.2 e)⟩
theorem bit_new {ins : List Bool} (v : Nat) (hv : v < ins.length) : Pl.bit (ins.set v true) (v : Int) = true := by
  unfold Pl.bit; rw [Int.toNat_natCast, Pl.bit_set _ v hv]; simp
theorem BF.start {n : Nat} {M : List It} {u : Nat} (hu : u < n) : BF n M u ((List.replicate n false).set u true) [(u : Int)] := by
  have hr : ∀ x, (List.replicate n false).getD x false = false := fun x => by simp [List.getD, List.getElem?_replicate]; split <;> rfl
  have hb : ∀ x, ((List.replicate n false).set u true).getD x false = true → x = u := fun x hx => by
    rw [Pl.bit_set _ u (by simpa using hu), hr] at hx
    simpa using hx
  refine ⟨by simp, fun x hx => ?_, bit_new u (by simpa using hu), fun v hv => ?_, fun t ht => ?_, ?_⟩
  · rw [hb x hx]; exact Pl.conn_refl _ _
  · rw [hb v hv]; exact List.mem_singleton.2 rfl
  · rw [List.mem_singleton.1 ht]; exact ⟨by omega, by omega, bit_new u (by simpa using hu)⟩
  · have h1 := Pl.falses_set_lt (List.replicate n false) u (by rw [List.getElem?_replicate, if_pos hu])
    have h2 := Pl.falses_le (List.replicate n false)
    simp at h2 ⊢; omega
theorem BF.add {n : Nat} {M : List It} {u : Int} {ins : List Bool} {todo : List Int} (h : BF n M u ins todo) {t : Int} (ht : t ∈ todo) {y : It} (hy : y ∈ M) (v : Nat) (hv : v < n) (hyv : (y.u = t ∧ y.v = v) ∨ (y.v = t ∧ y.u = v)) (hf : ins.getD v false = false) :
    BF n M u (ins.set v true) (todo ++ [(v : Int)]) := by
  have hvl : v < ins.length := by rw [h.len]; exact hv
  obtain ⟨t0, t1, tb⟩ := h.bits t ht
  obtain ⟨tn, rfl⟩ := Int.eq_ofNat_of_zero_le t0
  have hct : Pl.conn M u tn = true := h.snd tn (by unfold Pl.bit at tb; rw [Int.toNat_natCast] at tb; exact tb)
  have hcv : Pl.conn M u v = true := by
    rcases hyv with ⟨h1, h2⟩ | ⟨h1, h2⟩
    · have := Pl.conn_edge hy; rw [h1, h2] at this; exact Pl.conn_trans hct this
    · have := Pl.conn_edge hy; rw [h1, h2, Pl.conn_symm] at this; exact Pl.conn_trans hct this
  refine ⟨by rw [List.length_set]; exact h.len, fun x hx => ?_, Pl.bit_keeps v hvl h.bu, fun x hx => ?_, fun s hs => ?_, ?_⟩
  · rw [Pl.bit_set _ v hvl] at hx
    by_cases e : x = v
    · rw [e]; exact hcv
    · exact h.snd x (by simpa [e] using hx)
  · rw [Pl.bit_set _ v hvl] at hx
    by_cases e : x = v
    · rw [e]; exact List.mem_append_right _ (List.mem_singleton.2 rfl)
    · exact List.mem_append_left _ (h.has x (by simpa [e] using hx))
  · rcases List.mem_append.1 hs with h1 | h1
    · obtain ⟨a, b, c⟩ := h.bits s h1
      exact ⟨a, b, Pl.bit_keeps v hvl c⟩
    · rw [List.mem_singleton.1 h1]; exact ⟨by omega, by omega, bit_new v hvl⟩
  · have h1 := Pl.falses_set_lt ins v (by rw [List.getD_eq_getElem?_getD, List.getElem?_eq_getElem hvl] at hf; rw [List.getElem?_eq_getElem hvl]; simpa using hf)
    have := h.fuel
    simp; omega
theorem BF.closed {n : Nat} {M : List It} {u : Int} {ins : List Bool} {todo : List Int} (h : BF n M u ins todo) (he : Pl.Ends n M) (hd : ∀ t, t ∈ todo → ∀ y, y ∈ M → DoneE ins t y) : ins = Pl.conns n M u := by
  refine Pl.done h.len h.bu h.snd fun e hee => ?_
  obtain ⟨u0, u1, v0, v1⟩ := he e hee
  have mem : ∀ x : Int, 0 ≤ x → Pl.bit ins x = true → x ∈ todo := fun x hx hb => by
    obtain ⟨k, rfl⟩ := Int.eq_ofNat_of_zero_le hx
    exact h.has k (by unfold Pl.bit at hb; rw [Int.toNat_natCast] at hb; exact hb)
  rw [Bool.eq_iff_iff]
  exact ⟨fun hb => (hd e.u (mem _ u0 hb) e hee).1 rfl, fun hb => (hd e.v (mem _ v0 hb) e hee).2 rfl⟩

/-- the edges that count -/
def MP (some : Bool) (x : It) (l : List It) : List It := l.filter fun y => !some || Pl.lighter y x
theorem mem_MP {some : Bool} {x y : It} {l : List It} : y ∈ MP some x l ↔ y ∈ l ∧ (!some || Pl.lighter y x) = true := List.mem_filter
theorem MP_true (x : It) (l : List It) : MP true x l = Pl.below l x := by
  unfold MP Pl.below; simp
theorem nums_one {w : World} {base : Nat} {x : Int} (hb : base ≤ w.heap.size) : Nums (w.alloc (.cells #[.int .i64 x] 3)) base (.slice (some ⟨w.heap.size, 0, none⟩) 1 1) [x] := by
  refine ⟨?_, Or.inr ⟨w.heap.size, 1, #[.int .i64 x], rfl, hb, heap_alloc_new _ _, Nat.le_refl _, by unfold maxLen; decide, rfl, rfl⟩⟩
  rfl

end Go.Proofs.YtnnnleckoinjoaaDoor
