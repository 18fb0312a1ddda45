/- Plain mathematics: spreading over edges again and again comes to what is joined. -/
import Derived.Test.YtnnnleckoinjoaaPlain2
namespace Go.Proofs.Ytnnnleckoinjoaa.Pl

def falses (l : List Bool) : Nat := (l.filter (fun b => !b)).length

theorem falses_set_le (l : List Bool) : ∀ a, falses (l.set a true) ≤ falses l := by
  induction l with
  | nil => intro a; simp [falses]
  | cons b l ih =>
    intro a
    cases a with
    | zero => cases b <;> simp [falses]
    | succ a =>
      have := ih a
      cases b <;> simp [falses] at * <;> omega
theorem falses_set_lt (l : List Bool) : ∀ a, l[a]? = some false → falses (l.set a true) < falses l := by
  induction l with
  | nil => intro a h; simp at h
  | cons b l ih =>
    intro a h
    cases a with
    | zero => simp at h; subst h; simp [falses]
    | succ a =>
      have := ih a (by simpa using h)
      cases b <;> simp [falses] at * <;> omega
theorem falses_le (l : List Bool) : falses l ≤ l.length := List.length_filter_le _ _

/-- which bit a vertex bears -/
def bit (l : List Bool) (x : Int) : Bool := l.getD x.toNat false

/-- no edge parts what is marked from what is not -/
def Cl (l : List It) (ins : List Bool) : Prop := ∀ e, e ∈ l → bit ins e.u = bit ins e.v
/-- what is marked is joined with u -/
def Snd (l : List It) (u : Int) (ins : List Bool) : Prop := ∀ x : Nat, ins.getD x false = true → conn l u x = true

def conns (n : Nat) (l : List It) (u : Int) : List Bool := (List.range n).map fun (x : Nat) => conn l u x
theorem conns_length (n : Nat) (l : List It) (u : Int) : (conns n l u).length = n := by simp [conns]
theorem conns_get (n : Nat) (l : List It) (u : Int) (x : Nat) (h : x < n) : (conns n l u)[x]'(by simpa [conns] using h) = conn l u x := by simp [conns]
theorem conns_bit (n : Nat) (l : List It) (u : Int) (x : Int) (h0 : 0 ≤ x) (h : x < n) : bit (conns n l u) x = conn l u x := by
  obtain ⟨y, rfl⟩ := Int.eq_ofNat_of_zero_le h0
  have hy : y < n := by omega
  simp [bit, conns, List.getD, hy]

theorem done {n : Nat} {l : List It} {u : Int} {ins : List Bool} (hl : ins.length = n) (hu : bit ins u = true) (hs : Snd l u ins) (hc : Cl l ins) : ins = conns n l u := by
  apply List.ext_getElem (by rw [hl, conns_length])
  intro x h1 h2
  rw [conns_get n l u x (by omega)]
  have hx : ins.getD x false = ins[x] := by simp [List.getD, h1]
  cases hb : ins[x] with
  | true => exact (hs x (by rw [hx, hb])).symm
  | false =>
    cases hcx : conn l u x with
    | false => rfl
    | true =>
      have := (conn_iff l u x).1 hcx (fun y => if bit ins y then 1 else 0) (fun e he => by simp [hc e he])
      simp only [hu, if_true] at this
      have hbx : bit ins x = ins[x] := by simp [bit, h1]
      rw [hbx, hb] at this
      simp at this

theorem bit_set (ins : List Bool) (a : Nat) (ha : a < ins.length) (x : Nat) : (ins.set a true).getD x false = (ins.getD x false || decide (x = a)) := by
  by_cases h : x = a
  · subst h; simp [List.getD, ha]
  · have : ¬ a = x := fun e => h e.symm
    simp [List.getD, this, h]

/-- an edge with one end marked brings the other -/
theorem brings {l : List It} {u : Int} {ins : List Bool} {e : It} {a b : Nat} (he : e ∈ l) (hea : e.u = a) (heb : e.v = b) (ha : a < ins.length) (hb : b < ins.length)
    (hs : Snd l u ins) (hne : ins[a] ≠ ins[b]) : Snd l u ((ins.set a true).set b true) ∧ falses ((ins.set a true).set b true) < falses ins := by
  have hab : a ≠ b := fun e => hne (by subst e; rfl)
  have hec : conn l (a : Int) (b : Int) = true := by rw [← hea, ← heb]; exact conn_edge he
  constructor
  · intro x hx
    rw [bit_set _ b (by simpa using hb), bit_set _ a ha] at hx
    simp only [Bool.or_eq_true, decide_eq_true_eq] at hx
    have key : conn l u a = true ∨ conn l u b = true := by
      cases h1 : ins[a] with
      | true => exact Or.inl (hs a (by simp [List.getD, ha, h1]))
      | false =>
        refine Or.inr (hs b ?_)
        have : ins[b] = true := by cases h2 : ins[b] with
          | true => rfl
          | false => exact absurd (h1.trans h2.symm) hne
        simp [List.getD, hb, this]
    rcases hx with (hx | rfl) | rfl
    · exact hs x hx
    · rcases key with h | h
      · exact h
      · exact conn_trans h (by rw [conn_symm]; exact hec)
    · rcases key with h | h
      · exact conn_trans h hec
      · exact h
  · cases h1 : ins[a] with
    | false =>
      have h3 := falses_set_lt ins a (by simp [ha, h1])
      have h4 := falses_set_le (ins.set a true) b
      omega
    | true =>
      have h2 : ins[b] = false := by cases h2 : ins[b] with
        | false => rfl
        | true => exact absurd (h1.trans h2.symm) hne
      have h3 := falses_set_le ins a
      have h4 := falses_set_lt (ins.set a true) b (by rw [List.getElem?_set_ne hab]; simp [hb, h2])
      omega

theorem bit_keeps {ins : List Bool} {u : Int} (a : Nat) (ha : a < ins.length) (h : bit ins u = true) : bit (ins.set a true) u = true := by
  unfold bit at *
  rw [bit_set _ a ha, h]; rfl

theorem cl_snoc {l : List It} {ins : List Bool} {k : Nat} {e : It} (hk : k < l.length) (he : l[k] = e) (h : Cl (l.take k) ins) (hb : bit ins e.u = bit ins e.v) : Cl (l.take (k + 1)) ins := by
  intro d hd
  rw [List.take_succ_eq_append_getElem hk] at hd
  rcases List.mem_append.1 hd with hd | hd
  · exact h d hd
  · rw [List.mem_singleton.1 hd, he]; exact hb
theorem cl_nil (ins : List Bool) : Cl [] ins := by intro e h; cases h

end Go.Proofs.Ytnnnleckoinjoaa.Pl
