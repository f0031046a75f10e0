/- Tidying, plainly: steps, rounds, and where they end. -/
import Derived.Test.YtinfbbbgfkaioaaNz
namespace Go.Proofs.Ytinfbbbgfkaioaa.Nt
set_option linter.unusedVariables false
/-- The lights and the slides so far. -/
structure Td where
  L : Nat → Li
  sl : List (Int × Int)
/-- How far down light i can go. -/
def lwt (n : Nat) (L : Nat → Li) (i : Nat) : Nat := lowR (fun f s => bk L n f s) (L i).p (L i).np (L i).id (L i).fi.toNat
theorem lwt_le (n : Nat) (L : Nat → Li) (i : Nat) : lwt n L i ≤ (L i).fi.toNat := lowR_le _ _ _ _ _
/-- Light i slides, if it can. -/
def stp2 (n : Nat) (s : Td) (i : Nat) : Td := if lwt n s.L i < (s.L i).fi.toNat then ⟨mov s.L i (lwt n s.L i : Nat), s.sl ++ [((s.L i).id, ((lwt n s.L i : Nat) : Int))]⟩ else s
theorem stp_go {n : Nat} {s : Td} {i : Nat} (h : lwt n s.L i < (s.L i).fi.toNat) : stp2 n s i = ⟨mov s.L i (lwt n s.L i : Nat), s.sl ++ [((s.L i).id, ((lwt n s.L i : Nat) : Int))]⟩ := by unfold stp2; rw [if_pos h]
theorem stp_stay {n : Nat} {s : Td} {i : Nat} (h : ¬ lwt n s.L i < (s.L i).fi.toNat) : stp2 n s i = s := by unfold stp2; rw [if_neg h]
/-- The first i lights, one behind the other. -/
def pss (n : Nat) (s : Td) : Nat → Td
  | 0 => s
  | i + 1 => stp2 n (pss n s i) i
/-- So many times round. -/
def rds (n : Nat) : Nat → Td → Td
  | 0, s => s
  | r + 1, s => rds n r (pss n s n)
theorem rds_next (n : Nat) : ∀ (r : Nat) (s : Td), rds n (r + 1) s = pss n (rds n r s) n
  | 0, s => rfl
  | r + 1, s => by
    show rds n (r + 1) (pss n s n) = pss n (rds n r (pss n s n)) n
    rw [rds_next n r]
theorem rds_fix {n : Nat} {s : Td} (h : pss n s n = s) : ∀ r, rds n r s = s
  | 0 => rfl
  | r + 1 => by show rds n r (pss n s n) = s; rw [h]; exact rds_fix h r
theorem rds_add (n : Nat) : ∀ (a b : Nat) (s : Td), rds n (a + b) s = rds n b (rds n a s)
  | 0, b, s => by rw [Nat.zero_add]; rfl
  | a + 1, b, s => by
    rw [show a + 1 + b = (a + b) + 1 by omega]
    show rds n (a + b) (pss n s n) = rds n b (rds n a (pss n s n))
    exact rds_add n a b _
/-- A step, or a round, leaves all as it was, or the first slots fall by one slide each at least. -/
theorem stp_falls {n : Nat} {s : Td} {i : Nat} (hi : i < n) : stp2 n s i = s ∨ (fsum (stp2 n s i).L n < fsum s.L n ∧ (stp2 n s i).sl.length = s.sl.length + 1) := by
  by_cases h : lwt n s.L i < (s.L i).fi.toNat
  · refine Or.inr ?_
    rw [stp_go h]
    have := fsum_mov (L := s.L) (k := i) (t := lwt n s.L i) hi
    refine ⟨?_, by simp⟩
    show fsum (mov s.L i (lwt n s.L i : Nat)) n < _
    omega
  · exact Or.inl (stp_stay h)
theorem pss_falls {n : Nat} {s : Td} : ∀ {i : Nat}, i ≤ n → (pss n s i = s) ∨ (fsum (pss n s i).L n < fsum s.L n)
  | 0, _ => Or.inl rfl
  | i + 1, h => by
    show stp2 n (pss n s i) i = s ∨ fsum (stp2 n (pss n s i) i).L n < _
    rcases stp_falls (n := n) (s := pss n s i) (i := i) (by omega) with a | a
    · rw [a]; exact pss_falls (by omega)
    · rcases pss_falls (n := n) (s := s) (i := i) (by omega) with b | b
      · rw [b] at a; rw [b]; exact Or.inr a.1
      · exact Or.inr (by omega)
theorem pss_room {n : Nat} {s : Td} : ∀ {i : Nat}, i ≤ n → (pss n s i).sl.length + fsum (pss n s i).L n ≤ s.sl.length + fsum s.L n
  | 0, _ => Nat.le_refl _
  | i + 1, h => by
    have ih := pss_room (n := n) (s := s) (i := i) (by omega)
    show (stp2 n (pss n s i) i).sl.length + fsum (stp2 n (pss n s i) i).L n ≤ _
    rcases stp_falls (n := n) (s := pss n s i) (i := i) (by omega) with a | a
    · rw [a]; exact ih
    · omega
theorem rds_room {n : Nat} : ∀ {r : Nat} {s : Td}, (rds n r s).sl.length + fsum (rds n r s).L n ≤ s.sl.length + fsum s.L n
  | 0, s => Nat.le_refl _
  | r + 1, s => by
    have a := rds_room (n := n) (r := r) (s := pss n s n)
    have b := pss_room (n := n) (s := s) (Nat.le_refl n)
    show (rds n r (pss n s n)).sl.length + _ ≤ _
    exact Nat.le_trans a b
theorem pss_nil {n : Nat} {s : Td} (h : fsum s.L n = 0) : pss n s n = s := by
  rcases pss_falls (n := n) (s := s) (Nat.le_refl n) with a | a
  · exact a
  · omega
theorem rds_end {n : Nat} : ∀ (N : Nat) (s : Td), fsum s.L n ≤ N → pss n (rds n N s) n = rds n N s
  | 0, s, h => by
    have e : fsum s.L n = 0 := by omega
    exact pss_nil e
  | N + 1, s, h => by
    show pss n (rds n N (pss n s n)) n = rds n N (pss n s n)
    rcases pss_falls (n := n) (s := s) (Nat.le_refl n) with a | a
    · rw [a, rds_fix a]; exact a
    · exact rds_end N _ (by omega)
/-- The lights and slides at the end. -/
def fin (n : Nat) (L : Nat → Li) : Td := rds n (fsum L n) ⟨L, []⟩
theorem fin_is {n : Nat} {L : Nat → Li} {r : Nat} (h : pss n (rds n r ⟨L, []⟩) n = rds n r ⟨L, []⟩) : rds n r ⟨L, []⟩ = fin n L := by
  have hN := rds_end (n := n) (fsum L n) ⟨L, []⟩ (Nat.le_refl _)
  unfold fin
  by_cases e : r ≤ fsum L n
  · obtain ⟨m, hm⟩ : ∃ m, fsum L n = r + m := ⟨fsum L n - r, by omega⟩
    rw [hm, rds_add, rds_fix h]
  · obtain ⟨m, hm⟩ : ∃ m, r = fsum L n + m := ⟨r - fsum L n, by omega⟩
    rw [hm, rds_add, rds_fix hN]
/-- The steps keep a right list right, and its lights but for their first slots. -/
theorem stp_ok {nodes slots : Int} {nf : Nat} {F : Nat → Fb} {n : Nat} {s : Td} (h : AllOk nodes slots nf F n s.L) {i : Nat} (hi : i < n) : AllOk nodes slots nf F n (stp2 n s i).L := by
  by_cases g : lwt n s.L i < (s.L i).fi.toNat
  · rw [stp_go g]; exact h.mov hi
  · rw [stp_stay g]; exact h
theorem pss_ok {nodes slots : Int} {nf : Nat} {F : Nat → Fb} {n : Nat} {s : Td} (h : AllOk nodes slots nf F n s.L) : ∀ {i : Nat}, i ≤ n → AllOk nodes slots nf F n (pss n s i).L
  | 0, _ => h
  | i + 1, hi => stp_ok (pss_ok h (by omega)) (by omega)
theorem rds_ok {nodes slots : Int} {nf : Nat} {F : Nat → Fb} {n : Nat} : ∀ {r : Nat} {s : Td}, AllOk nodes slots nf F n s.L → AllOk nodes slots nf F n (rds n r s).L
  | 0, s, h => h
  | r + 1, s, h => rds_ok (r := r) (pss_ok h (Nat.le_refl _))
/-- What a slide does to the rows. -/
def giv (R : Nat → Nat → Int) (p : Nat → Int) (np a m : Nat) (v : Int) (f s : Nat) : Int := if has p np f = true ∧ a ≤ s ∧ s < a + m then v else R f s
theorem bk_alike {L L' : Nat → Li} {f s : Int} : ∀ {n : Nat}, (∀ i, i < n → hasS (L i) f s = hasS (L' i) f s ∧ (L i).id = (L' i).id) → bk L n f s = bk L' n f s
  | 0, _ => rfl
  | n + 1, h => by
    show (if hasS (L n) f s = true then (L n).id else bk L n f s) = if hasS (L' n) f s = true then (L' n).id else bk L' n f s
    rw [(h n (by omega)).1, (h n (by omega)).2, bk_alike fun i hi => h i (by omega)]
theorem giv_bk {nodes slots : Int} {nf : Nat} {F : Nat → Fb} {n : Nat} {L : Nat → Li} (h : AllOk nodes slots nf F n L) {k : Nat} (hk : k < n) (f s : Nat) :
    giv (giv (fun f s => bk L n f s) (L k).p (L k).np (L k).fi.toNat (L k).wd.toNat 0) (L k).p (L k).np (lwt n L k) (L k).wd.toNat (L k).id f s = bk (mov L k (lwt n L k : Nat)) n f s := by
  have o := h.ok k hk
  have f0 := o.f0
  have w1 := o.w1
  have hm := h.mov hk
  have hm' : AllOk nodes slots nf F n (mov L k (lwt n L k : Nat)) := hm
  have e1 : (has (L k).p (L k).np f = true ∧ lwt n L k ≤ s ∧ s < lwt n L k + (L k).wd.toNat) ↔ hasS (mov L k (lwt n L k : Nat) k) f s = true := by
    rw [mov_at, hasS_iff]
    show _ ↔ (∃ q, q < (L k).np ∧ (L k).p q = f) ∧ ((lwt n L k : Nat) : Int) ≤ s ∧ (s : Int) < (lwt n L k : Nat) + (L k).wd
    rw [has_iff]
    constructor
    · rintro ⟨a, b, c⟩; exact ⟨a, by omega, by omega⟩
    · rintro ⟨a, b, c⟩; exact ⟨a, by omega, by omega⟩
  have e2 : (has (L k).p (L k).np f = true ∧ (L k).fi.toNat ≤ s ∧ s < (L k).fi.toNat + (L k).wd.toNat) ↔ hasS (L k) f s = true := by
    rw [hasS_iff, has_iff]
    constructor
    · rintro ⟨a, b, c⟩; exact ⟨a, by omega, by omega⟩
    · rintro ⟨a, b, c⟩; exact ⟨a, by omega, by omega⟩
  unfold giv
  by_cases c1 : hasS (mov L k (lwt n L k : Nat) k) f s = true
  · rw [if_pos (e1.2 c1), hm'.bk hk c1, mov_id]
  · rw [if_neg (fun a => c1 (e1.1 a))]
    by_cases c2 : hasS (L k) f s = true
    · rw [if_pos (e2.2 c2)]
      refine (bk_no fun i hi => ?_).symm
      by_cases e : i = k
      · subst e; simpa using c1
      · rw [mov_else e]; exact h.off hk hi (fun a => e a.symm) c2
    · rw [if_neg (fun a => c2 (e2.1 a))]
      refine bk_alike fun i hi => ⟨?_, (mov_id _ _ _ _).symm⟩
      by_cases e : i = k
      · subst e
        rw [Bool.eq_iff_iff]
        exact ⟨fun a => absurd a c2, fun a => absurd a c1⟩
      · rw [mov_else e]
end Go.Proofs.Ytinfbbbgfkaioaa.Nt
