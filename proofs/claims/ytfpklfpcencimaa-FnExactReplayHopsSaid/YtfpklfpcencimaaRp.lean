/- What hops made one behind the other lead to, plainly. -/
import Derived.Test.YtfpklfpcencimaaWa
namespace Go.Proofs.Ytfpklfpcencimaa
open Go.RowKit
set_option linter.unusedVariables false
set_option linter.unusedSimpArgs false
def stepN (F : Nat → Fb) (ns : List Int) (k n f : Int) : List Int := if k = 1 then ns ++ [Nt.oth (F f.toNat) n] else if k = 5 then ns.dropLast else ns
def stepP (ps : List Int) (k f : Int) : List Int := if k = 1 then ps ++ [f] else if k = 5 then ps.dropLast else ps
/-- Nodes and path behind so many hops; none: one of them could not be made. -/
def rps (nf : Nat) (F : Nat → Fb) (fr : Int) (H : Nat → Fb) : Nat → Option (List Int × List Int)
  | 0 => some ([fr], [])
  | k + 1 => match rps nf F fr H k with
    | none => none
    | some (ns, ps) => if alw nf F ns ps (H k).a (H k).b (H k).km then some (stepN F ns (H k).a (H k).b (H k).km, stepP ps (H k).a (H k).km) else none
section
variable {nf : Nat} {F : Nat → Fb} {fr : Int} {H : Nat → Fb}
theorem rps_no {k : Nat} (h : rps nf F fr H k = none) : ∀ {n : Nat}, k ≤ n → rps nf F fr H n = none := by
  intro n hn
  induction n with
  | zero => have : k = 0 := by omega
            subst this; exact h
  | succ n ih =>
    by_cases e : k = n + 1
    · subst e; exact h
    · rw [rps, ih (by omega)]
theorem rps_bad {k : Nat} {ns ps : List Int} (h : rps nf F fr H k = some (ns, ps)) (ha : alw nf F ns ps (H k).a (H k).b (H k).km = false) : rps nf F fr H (k + 1) = none := by
  rw [rps, h]; simp [ha]
theorem rps_ok {k : Nat} {ns ps : List Int} (h : rps nf F fr H k = some (ns, ps)) (ha : alw nf F ns ps (H k).a (H k).b (H k).km = true) : rps nf F fr H (k + 1) = some (stepN F ns (H k).a (H k).b (H k).km, stepP ps (H k).a (H k).km) := by
  rw [rps, h]; simp [ha]
/-- What holds of nodes and path. -/
structure Way (nf : Nat) (F : Nat → Fb) (k : Nat) (ns ps : List Int) : Prop where
  len : ns.length = ps.length + 1
  few : ps.length ≤ k
  fib : ∀ j, j < ps.length → Nt.isFi nf (ps.getD j 0) = true
  joi : ∀ j, j < ps.length → 0 ≤ Nt.oth (F (ps.getD j 0).toNat) (ns.getD (j + 1) 0)
theorem oth_back {nodes slots : Int} (G : Nt.Good nodes slots nf F) {i : Nat} (hi : i < nf) {n : Int} (h : 0 ≤ Nt.oth (F i) n) : 0 ≤ Nt.oth (F i) (Nt.oth (F i) n) := by
  have hk := Nt.okF_all (G.ok i hi)
  unfold Nt.oth at h ⊢
  split at h
  · rename_i e
    rw [if_pos e]
    split
    · omega
    · split
      · omega
      · rename_i c; exact absurd rfl c
  · rename_i e
    split at h
    · rename_i e2
      rw [if_neg e, if_pos e2]
      rw [if_pos rfl]
      omega
    · omega
theorem getD_snoc_lt {xs : List Int} {x : Int} {j : Nat} (h : j < xs.length) : (xs ++ [x]).getD j 0 = xs.getD j 0 := by
  simp [List.getD, List.getElem?_append_left h]
theorem getD_snoc {xs : List Int} {x : Int} : (xs ++ [x]).getD xs.length 0 = x := by simp [List.getD]
theorem snoc_of {xs : List Int} (h : xs ≠ []) : xs = xs.dropLast ++ [lst xs] := by
  have := (List.dropLast_concat_getLast h).symm
  have e : lst xs = xs.getLast h := by
    unfold lst
    rw [List.getLast_eq_getElem]
    have : xs.length - 1 < xs.length := by have := List.length_pos_iff.2 h; omega
    simp [List.getD, this]
  rw [e]; exact this
theorem getD_drop {xs : List Int} {j : Nat} (h : j < xs.length - 1) : xs.dropLast.getD j 0 = xs.getD j 0 := by
  rw [List.dropLast_eq_take]
  have h2 : j < xs.length := by omega
  simp [List.getD, List.getElem?_take, h, h2]
theorem Way.drop {k : Nat} {ns ps : List Int} (h : Way nf F k ns ps) (h0 : ps ≠ []) : Way nf F (k + 1) ns.dropLast ps.dropLast := by
  have hp := List.length_pos_iff.2 h0
  have hl := h.len
  refine ⟨by simp; omega, by have := h.few; simp; omega, fun j hj => ?_, fun j hj => ?_⟩
  · have hj' : j < ps.length - 1 := by simpa using hj
    have e : ps.dropLast.getD j 0 = ps.getD j 0 := getD_drop hj'
    rw [e]; exact h.fib j (by omega)
  · have hj' : j < ps.length - 1 := by simpa using hj
    have e : ps.dropLast.getD j 0 = ps.getD j 0 := getD_drop hj'
    have e2 : ns.dropLast.getD (j + 1) 0 = ns.getD (j + 1) 0 := getD_drop (by omega)
    rw [e, e2]; exact h.joi j (by omega)
theorem Way.back {k : Nat} {ns0 ps : List Int} {x : Int} (h : Way nf F k (ns0 ++ [x]) ps) (h0 : ps ≠ []) : 0 ≤ Nt.oth (F (lst ps).toNat) x := by
  have hp := List.length_pos_iff.2 h0
  have hl := h.len
  have h1 := h.joi (ps.length - 1) (by omega)
  have e : ps.length - 1 + 1 = ns0.length := by simp at hl; omega
  rw [e, getD_snoc] at h1
  exact h1
theorem alw_fib {ns ps : List Int} {k n f : Int} (h : alw nf F ns ps k n f = true) : n = lst ns ∧ Nt.isFi nf f = true := by
  unfold alw at h
  split at h
  · simp at h
  · rename_i c
    exact ⟨Classical.not_not.1 fun e => c (Or.inl e), by cases hh : Nt.isFi nf f; exact absurd (Or.inr hh) c; rfl⟩
theorem alw_one {ns ps : List Int} {n f : Int} (h : alw nf F ns ps 1 n f = true) : 0 ≤ Nt.oth (F f.toNat) n := by
  obtain ⟨h1, h2⟩ := alw_fib h
  unfold alw at h
  rw [if_neg (by rw [h2]; simp [h1]), if_pos rfl] at h
  simp at h
  exact h.1
theorem alw_five {ns ps : List Int} {n f : Int} (h : alw nf F ns ps 5 n f = true) : f = cam ps ∧ ps ≠ [] := by
  obtain ⟨h1, h2⟩ := alw_fib h
  unfold alw at h
  rw [if_neg (by rw [h2]; simp [h1])] at h
  simp at h
  refine ⟨h, ?_⟩
  rintro rfl
  have := (Nt.isFi_iff.1 h2).1
  rw [h, cam_nil] at this
  omega
theorem Way.step {nodes slots : Int} (G : Nt.Good nodes slots nf F) {q : Nat} {ns ps : List Int} {k n f : Int} (h : Way nf F q ns ps) (ha : alw nf F ns ps k n f = true) : Way nf F (q + 1) (stepN F ns k n f) (stepP ps k f) := by
  obtain ⟨h1, h2⟩ := alw_fib ha
  unfold stepN stepP
  by_cases k1 : k = 1
  · subst k1
    rw [if_pos rfl, if_pos rfl]
    have ho := alw_one ha
    have hfi := Nt.isFi_iff.1 h2
    refine ⟨by simp; exact h.len, by have := h.few; simp; omega, fun j hj => ?_, fun j hj => ?_⟩
    · by_cases e : j < ps.length
      · rw [getD_snoc_lt e]; exact h.fib j e
      · obtain rfl : j = ps.length := by simp at hj; omega
        rw [getD_snoc]; exact h2
    · by_cases e : j < ps.length
      · rw [getD_snoc_lt e, getD_snoc_lt (by have := h.len; omega)]; exact h.joi j e
      · obtain rfl : j = ps.length := by simp at hj; omega
        rw [getD_snoc, ← h.len, getD_snoc]
        exact oth_back G (by omega) ho
  · rw [if_neg k1, if_neg k1]
    by_cases k5 : k = 5
    · subst k5
      rw [if_pos rfl, if_pos rfl]
      exact h.drop (alw_five ha).2
    · rw [if_neg k5, if_neg k5]
      exact ⟨h.len, by have := h.few; omega, h.fib, h.joi⟩
theorem rps_way {nodes slots : Int} (G : Nt.Good nodes slots nf F) : ∀ {k : Nat} {ns ps : List Int}, rps nf F fr H k = some (ns, ps) → Way nf F k ns ps
  | 0, ns, ps, h => by
    simp [rps] at h
    obtain ⟨rfl, rfl⟩ := h
    exact ⟨rfl, Nat.le_refl _, fun j hj => absurd hj (Nat.not_lt_zero _), fun j hj => absurd hj (Nat.not_lt_zero _)⟩
  | k + 1, ns, ps, h => by
    rw [rps] at h
    cases hr : rps nf F fr H k with
    | none => rw [hr] at h; simp at h
    | some s =>
      obtain ⟨ns0, ps0⟩ := s
      rw [hr] at h
      have ih := rps_way G hr
      cases ha : alw nf F ns0 ps0 (H k).a (H k).b (H k).km with
      | false => simp [ha] at h
      | true =>
        simp [ha] at h
        obtain ⟨rfl, rfl⟩ := h
        exact ih.step G ha
end
def rcode (nodes slots : Int) (nf : Nat) (F : Nat → Fb) (fr tt : Int) (n : Nat) (H : Nat → Fb) : Int := if Nt.efault nodes slots nf F fr tt ≠ 0 then Nt.efault nodes slots nf F fr tt else if (rps nf F fr H n).isSome then 0 else 1
def rlist (nf : Nat) (F : Nat → Fb) (fr : Int) (n : Nat) (H : Nat → Fb) : List Int := ((rps nf F fr H n).getD ([], [])).2
theorem rcode_ef {nodes slots : Int} {nf : Nat} {F : Nat → Fb} {fr tt : Int} {n : Nat} {H : Nat → Fb} (h : Nt.efault nodes slots nf F fr tt ≠ 0) : rcode nodes slots nf F fr tt n H = Nt.efault nodes slots nf F fr tt := if_pos h
theorem rcode_bad {nodes slots : Int} {nf : Nat} {F : Nat → Fb} {fr tt : Int} {n : Nat} {H : Nat → Fb} (h : Nt.efault nodes slots nf F fr tt = 0) (hr : rps nf F fr H n = none) : rcode nodes slots nf F fr tt n H = 1 := by
  unfold rcode; rw [if_neg (by simp [h]), hr]; rfl
theorem rcode_ok {nodes slots : Int} {nf : Nat} {F : Nat → Fb} {fr tt : Int} {n : Nat} {H : Nat → Fb} {ns ps : List Int} (h : Nt.efault nodes slots nf F fr tt = 0) (hr : rps nf F fr H n = some (ns, ps)) : rcode nodes slots nf F fr tt n H = 0 := by
  unfold rcode; rw [if_neg (by simp [h]), hr]; rfl
theorem rlist_ok {nf : Nat} {F : Nat → Fb} {fr : Int} {n : Nat} {H : Nat → Fb} {ns ps : List Int} (hr : rps nf F fr H n = some (ns, ps)) : rlist nf F fr n H = ps := by unfold rlist; rw [hr]; rfl
end Go.Proofs.Ytfpklfpcencimaa
