/- Plain mathematics: the edge with which they come to be joined is the heaviest on the way. -/
import Derived.Test.YtnnnleckoinjoaaGreatDoorH1
import Derived.Test.YtnnnleckoinjoaaGreatDoorPlainAll
namespace Go.Proofs.YtnnnleckoinjoaaGreatDoor.Pl

theorem Mid.top {L : List It} {u v : Int} {y : It} (hi : Ids L) (h : Mid L u v y) : Top L u v y := by
  have hyF : y ∈ forest L := forest_mem.2 ⟨h.mem, h.keeps⟩
  have hj : conn (y :: below (forest L) y) u v = true := conn_le (fun e he => by
    rcases List.mem_cons.1 he with e1 | e1
    · subst e1; exact conn_edge (List.mem_cons_self ..)
    · exact conn_mono (fun z hz => List.mem_cons_of_mem _ hz) (span_below (conn_edge e1))) h.joins
  have hsub : ∀ {a b : Int}, conn (below (forest L) y) a b = true → conn (withoutI (forest L) y.id) a b = true := fun hc => conn_mono (fun e he => by
    obtain ⟨h1, h2⟩ := mem_below.1 he
    refine mem_without.2 ⟨h1, fun hid => ?_⟩
    have e1 := ids_inj (forest_ids hi) h1 hyF hid
    subst e1
    rw [lighter_irr] at h2; cases h2) hc
  refine ⟨hyF, ?_, ?_⟩
  · cases hc : conn (withoutI (forest L) y.id) u v with
    | false => rfl
    | true =>
      exfalso
      have ha := forest_acyc hi y hyF
      have : conn (withoutI (forest L) y.id) y.u y.v = true := by
        rcases (conn_cons _ _ _ _).1 hj with h1 | ⟨h1, h2⟩ | ⟨h1, h2⟩
        · have := conn_mono (m := below L y) (fun e he => by
            obtain ⟨h3, h4⟩ := mem_below.1 he
            exact mem_below.2 ⟨(forest_mem.1 h3).1, h4⟩) h1
          rw [h.apart] at this; cases this
        · have h3 := hsub h1
          have h4 := hsub h2
          rw [conn_symm] at h3 h4
          exact conn_trans h3 (conn_trans hc h4)
        · have h3 := hsub h1
          have h4 := hsub h2
          rw [conn_symm] at hc
          exact conn_trans h4 (conn_trans hc h3)
      rw [ha] at this; cases this
  · intro z hz hzb
    by_cases hid : z.id = y.id
    · exact Or.inl (ids_inj (forest_ids hi) hz hyF hid)
    · rcases lighter_total hid with h1 | h1
      · exact Or.inr h1
      · exfalso
        have hb := br_iff.1 hzb
        have := conn_mono (m := withoutI (forest L) z.id) (fun e he => by
          rcases List.mem_cons.1 he with e1 | e1
          · subst e1; exact mem_without.2 ⟨hyF, fun e => hid e.symm⟩
          · obtain ⟨h3, h4⟩ := mem_below.1 e1
            refine mem_without.2 ⟨h3, fun e5 => ?_⟩
            have e6 := ids_inj (forest_ids hi) h3 hz e5
            subst e6
            have := lighter_trans h4 h1
            rw [lighter_irr] at this; cases this) hj
        rw [hb] at this; cases this
theorem Top.uniq {L : List It} {u v : Int} {y z : It} (h1 : Top L u v y) (h2 : Top L u v z) : y = z := by
  rcases h1.top z h2.mem (br_iff.2 h2.br) with h | h
  · exact h.symm
  · rcases h2.top y h1.mem (br_iff.2 h1.br) with h3 | h3
    · exact h3
    · have := lighter_trans h h3
      rw [lighter_irr] at this; cases this
theorem mid_best {L : List It} {u v : Int} {y : It} (hi : Ids L) (hr : Rng L) (hc : conn L u v = true) (h : Mid L u v y) : (hbest (forest L) u v (forest L)).id = y.id := by
  rw [Top.uniq (hbest_top hi hr hc h.ne) (h.top hi)]
theorem best_mid {L : List It} {u v : Int} (hi : Ids L) (hr : Rng L) (hc : conn L u v = true) : (hbest (forest L) u v (forest L)).id = midI L u v := by
  by_cases hn : u = v
  · subst hn; rw [hbest_same hi hr, mid_same]
  · obtain ⟨y, hy⟩ := mid_ex hi hc hn
    rw [mid_best hi hr hc hy, hy.is]

end Go.Proofs.YtnnnleckoinjoaaGreatDoor.Pl
