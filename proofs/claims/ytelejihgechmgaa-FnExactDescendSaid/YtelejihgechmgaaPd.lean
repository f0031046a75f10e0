/- Points brought down, plainly: both packages take the same points. No program. -/
import Derived.Test.YtelejihgechmgaaPl
namespace Go.Proofs.Ytelejihgechmgaa
namespace Mt
abbrev Pnt := Nat → Int
/-- A point with one number turned. -/
def nb (x : Pnt) (k : Nat) (y : Int) : Pnt := fun j => if j = k then x j + y else x j
def btr (A : Nat → Am) (n d : Nat) (x y : Pnt) : Bool := decide (tcode A n d y = 0) && decide (merit A n d y < merit A n d x)
theorem btr_iff {A : Nat → Am} {n d : Nat} {x y : Pnt} : btr A n d x y = true ↔ tcode A n d y = 0 ∧ merit A n d y < merit A n d x := by unfold btr; simp
def lst (ps : List Pnt) : Pnt := ps.getLastD (fun _ => 0)
theorem lst_snoc (ps : List Pnt) (x : Pnt) : lst (ps ++ [x]) = x := by unfold lst; simp
def tk (A : Nat → Am) (n d : Nat) (ps : List Pnt) (k : Nat) (y : Int) : List Pnt := if btr A n d (lst ps) (nb (lst ps) k y) = true then ps ++ [nb (lst ps) k y] else ps
def tk2 (A : Nat → Am) (n d : Nat) (ps : List Pnt) (k : Nat) (s : Int) : List Pnt := if btr A n d (lst ps) (nb (lst ps) k s) = true then ps ++ [nb (lst ps) k s] else tk A n d ps k (-s)
def rnd (A : Nat → Am) (n d : Nat) (ps : List Pnt) (s : Int) : Nat → List Pnt
  | 0 => ps
  | k + 1 => tk2 A n d (rnd A n d ps s k) k s
def run (A : Nat → Am) (n d : Nat) : Nat → List Pnt → Int → List Pnt
  | 0, ps, _ => ps
  | r + 1, ps, s => if 0 < s then run A n d r (rnd A n d ps s d) (if (rnd A n d ps s d).length = ps.length then s / 2 else s) else ps
/-- Points all of which are within their bounds. -/
structure Fine (A : Nat → Am) (n d : Nat) (ps : List Pnt) : Prop where
  ne : 0 < ps.length
  ok : ∀ p, p ∈ ps → tcode A n d p = 0
theorem Fine.snoc {A : Nat → Am} {n d : Nat} {ps : List Pnt} {x : Pnt} (h : Fine A n d ps) (hx : tcode A n d x = 0) : Fine A n d (ps ++ [x]) :=
  ⟨by simp, fun p hp => by
    rcases List.mem_append.1 hp with h1 | h1
    · exact h.ok p h1
    · simp at h1; rw [h1]; exact hx⟩
theorem Fine.last {A : Nat → Am} {n d : Nat} {ps : List Pnt} (h : Fine A n d ps) : tcode A n d (lst ps) = 0 := by
  have hne : ps ≠ [] := by intro e; have := h.ne; rw [e] at this; simp at this
  have : lst ps = ps.getLast hne := by unfold lst; rw [List.getLastD_eq_getLast?, List.getLast?_eq_some_getLast hne]; rfl
  rw [this]
  exact h.ok _ (List.getLast_mem hne)
theorem tk_step {A : Nat → Am} {n d : Nat} {ps : List Pnt} (h : Fine A n d ps) (k : Nat) (y : Int) : Fine A n d (tk A n d ps k y) ∧ ps.length ≤ (tk A n d ps k y).length ∧ (tk A n d ps k y).length ≤ ps.length + 1 := by
  unfold tk
  split
  · rename_i e
    exact ⟨h.snoc (btr_iff.1 e).1, by simp, by simp⟩
  · exact ⟨h, by omega, by omega⟩
theorem tk2_step {A : Nat → Am} {n d : Nat} {ps : List Pnt} (h : Fine A n d ps) (k : Nat) (y : Int) : Fine A n d (tk2 A n d ps k y) ∧ ps.length ≤ (tk2 A n d ps k y).length ∧ (tk2 A n d ps k y).length ≤ ps.length + 1 := by
  unfold tk2
  split
  · rename_i e
    exact ⟨h.snoc (btr_iff.1 e).1, by simp, by simp⟩
  · exact tk_step h k (-y)
theorem rnd_step {A : Nat → Am} {n d : Nat} {ps : List Pnt} (h : Fine A n d ps) (s : Int) : ∀ k, Fine A n d (rnd A n d ps s k) ∧ ps.length ≤ (rnd A n d ps s k).length ∧ (rnd A n d ps s k).length ≤ ps.length + k
  | 0 => ⟨h, by simp [rnd], by simp [rnd]⟩
  | k + 1 => by
    obtain ⟨h1, h2, h3⟩ := rnd_step h s k
    obtain ⟨g1, g2, g3⟩ := tk2_step h1 k s
    exact ⟨g1, by show _ ≤ (tk2 _ _ _ _ _ _).length; omega, by show (tk2 _ _ _ _ _ _).length ≤ _; omega⟩
theorem run_step {A : Nat → Am} {n d : Nat} : ∀ (r : Nat) {ps : List Pnt} (s : Int), Fine A n d ps → Fine A n d (run A n d r ps s) ∧ (run A n d r ps s).length ≤ ps.length + r * d
  | 0, ps, s, h => ⟨h, by simp [run]⟩
  | r + 1, ps, s, h => by
    unfold run
    split
    · obtain ⟨h1, h2, h3⟩ := rnd_step h s d
      obtain ⟨g1, g2⟩ := run_step r (if (rnd A n d ps s d).length = ps.length then s / 2 else s) h1
      refine ⟨g1, ?_⟩
      rw [Nat.succ_mul]
      omega
    · exact ⟨h, by omega⟩
theorem nb_b {A : Nat → Am} {n d : Nat} {x : Pnt} {k : Nat} (h : tcode A n d x = 0) (hk : k < d) : -12000 ≤ x k ∧ x k ≤ 12000 := by
  have : place x d = true := by
    unfold tcode at h
    split at h
    · split at h
      · assumption
      · omega
    · contradiction
  exact place_at this k hk
/-- The codes and the path that Descend answers. -/
def dcode (A : Nat → Am) (n d : Nat) (x : Pnt) (s r : Int) : Int := if tcode A n d x = 0 then (if inR s 1 1000 && inR r 0 200 then 0 else 3) else tcode A n d x
def dpath (A : Nat → Am) (n d : Nat) (x : Pnt) (s r : Int) : List Pnt := run A n d r.toNat [x] s
end Mt
end Go.Proofs.Ytelejihgechmgaa
