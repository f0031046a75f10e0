/- Texts of fractions, in plain Lean: digits, their number, the automaton that reads a text. No Go in sight. -/
namespace Go.Proofs.Ytkmbcbjholpfbaa.Tx
def isD (c : UInt8) : Bool := decide (48 ≤ c.toNat ∧ c.toNat ≤ 57)
theorem isD_t {c : UInt8} (h : isD c = true) : 48 ≤ c.toNat ∧ c.toNat ≤ 57 := by simpa [isD] using h
theorem isD_f {c : UInt8} (h : isD c = false) : c.toNat < 48 ∨ 57 < c.toNat := by simp [isD] at h; omega
def AllD (l : List UInt8) : Prop := ∀ c ∈ l, isD c = true
/-- What follows does not begin with a digit. -/
def NoD (l : List UInt8) : Prop := ∀ c t, l = c :: t → isD c = false
theorem split (l : List UInt8) : ∃ ds r, l = ds ++ r ∧ AllD ds ∧ NoD r := by
  induction l with
  | nil => exact ⟨[], [], rfl, (fun c h => by cases h), fun c t h => by cases h⟩
  | cons c l ih =>
    cases h : isD c with
    | false => exact ⟨[], c :: l, rfl, (fun c h => by cases h), fun d t e => by cases e; exact h⟩
    | true =>
      obtain ⟨ds, r, rfl, h1, h2⟩ := ih
      exact ⟨c :: ds, r, rfl, (fun d hd => by rcases List.mem_cons.1 hd with rfl | hd; exact h; exact h1 d hd), h2⟩
/-- The states: 0 at the start, 1 behind the minus, 2 in the digits ahead, 3 behind the sign, 4 in the digits behind, 5 stuck. -/
def delta (q c : Int) : Int :=
  if 48 ≤ c ∧ c ≤ 57 then (if q = 3 ∨ q = 4 then 4 else 2) else if c = 45 ∧ q = 0 then 1 else if (c = 46 ∨ c = 47) ∧ q = 2 then 3 else 5
theorem delta_rng (q c : Int) : 1 ≤ delta q c ∧ delta q c ≤ 5 := by
  unfold delta; repeat' split
  all_goals omega
theorem delta_high (q c : Int) (h : 128 ≤ c) : delta q c = 5 := by
  unfold delta; rw [if_neg (by omega), if_neg (by omega), if_neg (by omega)]
theorem delta_head (q : Int) (c : UInt8) (h : isD c = true) (hq : q ≠ 3 ∧ q ≠ 4) : delta q c.toNat = 2 := by
  have := isD_t h; unfold delta; rw [if_pos (by omega), if_neg (by omega)]
theorem delta_tail (q : Int) (c : UInt8) (h : isD c = true) (hq : q = 3 ∨ q = 4) : delta q c.toNat = 4 := by
  have := isD_t h; unfold delta; rw [if_pos (by omega), if_pos hq]
/-- Where the automaton is stuck, from state q at place p on; -1 if it is a fraction's text. -/
def stuck : Int → Nat → List UInt8 → Int
  | q, p, [] => if q = 2 ∨ q = 4 then -1 else p
  | q, p, c :: cs => if delta q c.toNat = 5 then p else stuck (delta q c.toNat) (p + 1) cs
theorem stuck_cons (q : Int) (p : Nat) (c : UInt8) (cs : List UInt8) : stuck q p (c :: cs) = if delta q c.toNat = 5 then (p : Int) else stuck (delta q c.toNat) (p + 1) cs := rfl
theorem stuck_two : ∀ (ds r : List UInt8) (p : Nat), AllD ds → stuck 2 p (ds ++ r) = stuck 2 (p + ds.length) r
  | [], r, p, _ => by simp
  | c :: ds, r, p, h => by
    have hc := delta_head 2 c (h c (by simp)) (by omega)
    rw [List.cons_append, stuck_cons, hc, if_neg (by omega), stuck_two ds r (p + 1) (fun d hd => h d (by simp [hd]))]
    rw [List.length_cons]; congr 1; omega
theorem stuck_four : ∀ (ds r : List UInt8) (p : Nat), AllD ds → stuck 4 p (ds ++ r) = stuck 4 (p + ds.length) r
  | [], r, p, _ => by simp
  | c :: ds, r, p, h => by
    have hc := delta_tail 4 c (h c (by simp)) (by omega)
    rw [List.cons_append, stuck_cons, hc, if_neg (by omega), stuck_four ds r (p + 1) (fun d hd => h d (by simp [hd]))]
    rw [List.length_cons]; congr 1; omega
theorem stuck_head (q : Int) (ds r : List UInt8) (p : Nat) (h : AllD ds) (hne : ds ≠ []) (hq : q = 0 ∨ q = 1) : stuck q p (ds ++ r) = stuck 2 (p + ds.length) r := by
  match ds, hne with
  | c :: ds, _ =>
    have hc := delta_head q c (h c (by simp)) (by omega)
    rw [List.cons_append, stuck_cons, hc, if_neg (by omega), stuck_two ds r (p + 1) (fun d hd => h d (by simp [hd]))]
    rw [List.length_cons]; congr 1; omega
theorem stuck_tail (ds r : List UInt8) (p : Nat) (h : AllD ds) (hne : ds ≠ []) : stuck 3 p (ds ++ r) = stuck 4 (p + ds.length) r := by
  match ds, hne with
  | c :: ds, _ =>
    have hc := delta_tail 3 c (h c (by simp)) (by omega)
    rw [List.cons_append, stuck_cons, hc, if_neg (by omega), stuck_four ds r (p + 1) (fun d hd => h d (by simp [hd]))]
    rw [List.length_cons]; congr 1; omega
/-- The number that digits tell. -/
def num (l : List UInt8) : Int := l.foldl (fun a c => a * 10 + ((c.toNat : Int) - 48)) 0
theorem num_nil : num [] = 0 := rfl
theorem num_snoc (l : List UInt8) (c : UInt8) : num (l ++ [c]) = num l * 10 + ((c.toNat : Int) - 48) := by simp [num, List.foldl_append]
theorem num_bd (l : List UInt8) (h : AllD l) : 0 ≤ num l ∧ num l < 10 ^ l.length := by
  have : ∀ n, ∀ l : List UInt8, l.length = n → AllD l → 0 ≤ num l ∧ num l < 10 ^ l.length := by
    intro n
    induction n with
    | zero => intro l hl _; cases l with
      | nil => exact ⟨by decide, by decide⟩
      | cons c l => simp at hl
    | succ n ih =>
      intro l hl h
      have hne : l ≠ [] := by intro e; subst e; simp at hl
      have hsp : l = l.dropLast ++ [l.getLast hne] := (List.dropLast_concat_getLast hne).symm
      have hdl : l.dropLast.length = n := by rw [List.length_dropLast]; omega
      obtain ⟨h1, h2⟩ := ih l.dropLast hdl (fun d hd => h d (List.dropLast_subset l hd))
      have hd := isD_t (h (l.getLast hne) (List.getLast_mem hne))
      have e : num l = num l.dropLast * 10 + (((l.getLast hne).toNat : Int) - 48) := by
        conv => lhs; rw [hsp]
        exact num_snoc _ _
      have el : (10 : Int) ^ l.length = 10 ^ l.dropLast.length * 10 := by rw [hl, hdl, Int.pow_succ]
      rw [el, e]
      omega
  exact this l.length l rfl h
theorem pow_le : ∀ n, n ≤ 18 → (10 : Int) ^ n ≤ 1000000000000000000 := by
  intro n h
  have : ∀ m : Fin 19, (10 : Int) ^ m.val ≤ 1000000000000000000 := by decide
  exact this ⟨n, by omega⟩
theorem pow17 (n : Nat) (h : n ≤ 17) : (10 : Int) ^ n ≤ 100000000000000000 := by
  have : ∀ m : Fin 18, (10 : Int) ^ m.val ≤ 100000000000000000 := by decide
  exact this ⟨n, by omega⟩
theorem num_lt (l : List UInt8) (h : AllD l) (hl : l.length ≤ 17) : 0 ≤ num l ∧ num l < 100000000000000000 := by
  have := num_bd l h; have := pow17 l.length hl; omega
theorem pow_pos (n : Nat) : 1 ≤ (10 : Int) ^ n := by
  induction n with
  | zero => decide
  | succ n ih => rw [Int.pow_succ]; omega
theorem num_le (l : List UInt8) (h : AllD l) (hl : l.length ≤ 18) : 0 ≤ num l ∧ num l ≤ 999999999999999999 := by
  have := num_bd l h; have := pow_le l.length hl; omega
theorem take_snoc (l : List UInt8) (k : Nat) (h : k < l.length) : l.take (k + 1) = l.take k ++ [l[k]] := List.take_succ_eq_append_getElem h
theorem num_take (l : List UInt8) (k : Nat) (h : k < l.length) : num (l.take (k + 1)) = num (l.take k) * 10 + ((l[k].toNat : Int) - 48) := by
  rw [take_snoc l k h, num_snoc]
theorem allD_take {l : List UInt8} (h : AllD l) (k : Nat) : AllD (l.take k) := fun c hc => h c (List.mem_of_mem_take hc)
theorem num_ten : ∀ k, num (49 :: List.replicate k 48) = 10 ^ k := by
  intro k
  induction k with
  | zero => decide
  | succ k ih =>
    rw [List.replicate_succ', ← List.cons_append, num_snoc, ih, Int.pow_succ]
    have : ((48 : UInt8).toNat : Int) - 48 = 0 := by decide
    omega
/-- The minus ahead of a text, or nothing. -/
def sgn (m : Bool) : List UInt8 := if m then [45] else []
def fac (m : Bool) : Int := if m then -1 else 1
theorem sgn_len (m : Bool) : (sgn m).length ≤ 1 := by cases m <;> decide
theorem ne45 {ds t : List UInt8} (h : AllD ds) (hne : ds ≠ []) : ∀ u, ds ++ t ≠ 45 :: u := by
  match ds, hne with
  | c :: ds, _ =>
    intro u e
    simp only [List.cons_append, List.cons.injEq] at e
    have := h c (by simp)
    rw [e.1] at this
    exact absurd this (by decide)
theorem pre45 (m : Bool) (ds t : List UInt8) (h : AllD ds) (hne : ds ≠ []) : [45].isPrefixOf (sgn m ++ (ds ++ t)) = m := by
  cases m with
  | true => simp [sgn]
  | false =>
    match ds, hne with
    | c :: ds, _ =>
      have := isD_t (h c (by simp))
      have h45 : ((45 : UInt8) == c) = false := by
        rw [beq_eq_false_iff_ne]; intro e; rw [← e] at this; revert this; decide
      show (((45 : UInt8) == c) && [].isPrefixOf (ds ++ t)) = false
      rw [h45]; rfl
theorem ascii_d {l : List UInt8} (h : AllD l) : ∀ c ∈ l, c.toNat < 128 := fun c hc => by have := isD_t (h c hc); omega
theorem not_mark {c : UInt8} (h : isD c = true) : ([46, 47] : List UInt8).contains c = false := by
  have := isD_t h
  simp only [List.contains_cons, List.contains_nil, Bool.or_false, Bool.or_eq_false_iff, beq_eq_false_iff_ne]
  exact ⟨by intro e; rw [e] at this; revert this; decide, by intro e; rw [e] at this; revert this; decide⟩
end Go.Proofs.Ytkmbcbjholpfbaa.Tx
