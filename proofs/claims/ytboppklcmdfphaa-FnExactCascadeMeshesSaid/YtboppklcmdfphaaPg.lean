/- Meshes: their cells, faults, what light comes out, and how one is programmed: plain laws, no program. That the rows of a matrix can be cleared does not hang on whether they are divided on the way. -/
import Derived.Test.YtboppklcmdfphaaFer
namespace Go.Proofs.Ytboppklcmdfphaa.Rm

/-- A cell. -/
structure Ce where
  i : Int
  j : Int
  a : Int
  b : Int
  c : Int
  d : Int
def swapC (i j : Int) : Ce := ⟨i, j, 0, 1, 1, 0⟩
def leakC (i j f : Int) : Ce := ⟨i, j, 1, 0, f, 1⟩
def nilC : Ce := ⟨0, 0, 0, 0, 0, 0⟩

/-! ### What is programmed -/
def fac (W : Mx) (c r : Nat) : Int := mulM (W r c) (invM (W c c))
def less1 (W : Mx) (c i j : Nat) : Int := addM (W i j) (-(mulM (fac W c i) (W c j)))
/-- The rows above k cleared. -/
def clrP (W : Mx) (c k : Nat) : Mx := fun i j => if i < k ∧ i ≠ c ∧ W i c ≠ 0 then less1 W c i j else W i j
/-- The cells that are noted meanwhile. -/
def nk (W : Mx) (c : Nat) : Nat → List Ce
  | 0 => []
  | k + 1 => if k = c ∨ W k c = 0 then nk W c k else nk W c k ++ [leakC c k (fac W c k)]
def lift1 (c p : Nat) : List Ce := if p = c then [] else [swapC c p]
/-- The rows behind c columns, and what was noted; none: they can't be turned round. -/
def pg (n : Nat) (M : Mx) : Nat → Option (Mx × List Ce)
  | 0 => some (M, [])
  | c + 1 => (pg n M c).bind fun s => if pv s.1 c (n - c) < 0 then none else
      some (clrP (swp s.1 c (pv s.1 c (n - c)).toNat) c n, (s.2 ++ lift1 c (pv s.1 c (n - c)).toNat) ++ nk (swp s.1 c (pv s.1 c (n - c)).toNat) c n)
theorem pg_go {n : Nat} {M W : Mx} {N : List Ce} {c : Nat} (h : pg n M c = some (W, N)) (hp : 0 ≤ pv W c (n - c)) :
    pg n M (c + 1) = some (clrP (swp W c (pv W c (n - c)).toNat) c n, (N ++ lift1 c (pv W c (n - c)).toNat) ++ nk (swp W c (pv W c (n - c)).toNat) c n) := by
  rw [pg, h]; simp only [Option.bind_some]; rw [if_neg (by omega)]
theorem pg_no {n : Nat} {M W : Mx} {N : List Ce} {c : Nat} (h : pg n M c = some (W, N)) (hp : pv W c (n - c) < 0) : pg n M (c + 1) = none := by
  rw [pg, h]; simp only [Option.bind_some]; rw [if_pos hp]
theorem pg_none {n : Nat} {M : Mx} {c : Nat} (h : pg n M c = none) : ∀ k, pg n M (c + k) = none
  | 0 => h
  | k + 1 => by rw [← Nat.add_assoc, pg, pg_none h k]; rfl
theorem pg_none' {n : Nat} {M : Mx} {c d : Nat} (h : pg n M c = none) (hd : c ≤ d) : pg n M d = none := by
  have := pg_none h (d - c)
  rwa [Nat.add_sub_cancel' hd] at this
theorem pg_some {n : Nat} {M : Mx} {c d : Nat} (h : pg n M d ≠ none) (hd : c ≤ d) : ∃ W N, pg n M c = some (W, N) := by
  cases e : pg n M c with
  | none => exact absurd (pg_none' e hd) h
  | some s => exact ⟨s.1, s.2, rfl⟩
theorem res_clrP {n m c k : Nat} {W : Mx} (h : Res n m W) : Res n m (clrP W c k) := by
  intro i j hi hj
  unfold clrP
  split
  · exact ⟨addM_lo _ _, addM_hi _ _⟩
  · exact h _ _ hi hj
theorem res_pg {n m : Nat} {M : Mx} (h : Res n m M) : ∀ c, c ≤ n → ∀ W N, pg n M c = some (W, N) → Res n m W
  | 0, _, W, N, e => by simp [pg] at e; rw [← e.1]; exact h
  | c + 1, hc, W, N, e => by
    obtain ⟨W0, N0, e0⟩ := pg_some (c := c) (by rw [e]; simp) (Nat.le_succ c)
    by_cases hp : pv W0 c (n - c) < 0
    · rw [pg_no e0 hp] at e; simp at e
    · rw [pg_go e0 (by omega)] at e
      simp only [Option.some.injEq, Prod.mk.injEq] at e
      rw [← e.1]
      have := pv_hi W0 c (n - c)
      exact res_clrP (res_swp (res_pg h c (by omega) W0 N0 e0) (by omega) (by omega))
theorem nk_len (W : Mx) (c : Nat) : ∀ k, (nk W c k).length ≤ if c < k then k - 1 else k
  | 0 => by simp [nk]
  | k + 1 => by
    have := nk_len W c k
    unfold nk
    split
    · split at this <;> split <;> omega
    · rename_i h
      rw [List.length_append]
      simp only [List.length_cons, List.length_nil]
      split at this <;> split <;> omega
theorem pg_len {n : Nat} {M : Mx} : ∀ c, c ≤ n → ∀ W N, pg n M c = some (W, N) → N.length ≤ c * n
  | 0, _, W, N, e => by simp [pg] at e; rw [e.2]; simp
  | c + 1, hc, W, N, e => by
    obtain ⟨W0, N0, e0⟩ := pg_some (c := c) (by rw [e]; simp) (Nat.le_succ c)
    by_cases hp : pv W0 c (n - c) < 0
    · rw [pg_no e0 hp] at e; simp at e
    · rw [pg_go e0 (by omega)] at e
      simp only [Option.some.injEq, Prod.mk.injEq] at e
      rw [← e.2, List.length_append, List.length_append]
      have h1 := pg_len c (by omega) W0 N0 e0
      have h2 := nk_len (swp W0 c (pv W0 c (n - c)).toNat) c n
      rw [if_pos (by omega)] at h2
      have h3 : (lift1 c (pv W0 c (n - c)).toNat).length ≤ 1 := by unfold lift1; split <;> simp
      rw [Nat.succ_mul]
      omega

/-! ### Both ways of clearing go through, or none -/
theorem modw {x y : Int} (h : ∃ k, x = y + 998244353 * k) : x % 998244353 = y % 998244353 := by
  obtain ⟨k, rfl⟩ := h
  omega
theorem wmod (x : Int) : ∃ k, x % 998244353 = x + 998244353 * k := ⟨-(x / 998244353), by omega⟩
theorem one_mod {x : Int} (h : x % 998244353 = 1) : ∃ k, x = 1 + 998244353 * k := ⟨x / 998244353, by omega⟩
/-- A's rows are W's, each times a number of its own. -/
def Alike (n : Nat) (A W : Mx) : Prop := ∃ s : Nat → Int, ∀ i, i < n → md (s i) ≠ 0 ∧ ∀ j, j < n → A i j = mulM (s i) (W i j)
theorem Alike.nought {n : Nat} {A W : Mx} (h : Alike n A W) (hr : Res n n W) {i j : Nat} (hi : i < n) (hj : j < n) : A i j = 0 ↔ W i j = 0 := by
  obtain ⟨s, hs⟩ := h
  rw [(hs i hi).2 j hj, mulM_nought, md_id (hr i j hi hj).1 (hr i j hi hj).2]
  exact ⟨fun h => h.resolve_left (hs i hi).1, Or.inr⟩
theorem Alike.pv {n c : Nat} {A W : Mx} (h : Alike n A W) (hr : Res n n W) : ∀ k, c + k ≤ n → pv A c k = pv W c k
  | 0, _ => rfl
  | k + 1, hk => by
    rw [Rm.pv, Rm.pv, h.pv hr k (by omega)]
    have := h.nought hr (i := c + k) (j := c) (by omega) (by omega)
    by_cases e : W (c + k) c = 0
    · rw [if_pos e, if_pos (this.2 e)]
    · rw [if_neg e, if_neg (fun e' => e (this.1 e'))]
theorem Alike.swp {n c t : Nat} {A W : Mx} (h : Alike n A W) (hc : c < n) (ht : t < n) : Alike n (swp A c t) (swp W c t) := by
  obtain ⟨s, hs⟩ := h
  refine ⟨fun i => if i = c then s t else if i = t then s c else s i, fun i hi => ?_⟩
  unfold Rm.swp
  by_cases h1 : i = c
  · simp only [h1, if_true]; exact hs t ht
  · by_cases h2 : i = t
    · simp only [h2, if_true]
      by_cases h3 : t = c
      · simp only [h3, if_true]; exact hs c hc
      · simp only [h3, if_false]; exact hs c hc
    · simp only [h1, h2, if_false]; exact hs i hi
theorem less_all {n c i j : Nat} {W : Mx} (hr : Res n n W) (hi : i < n) (hj : j < n) (hic : i ≠ c) : clrP W c n i j = less1 W c i j := by
  unfold clrP
  by_cases h : W i c = 0
  · rw [if_neg (by simp [h])]
    unfold less1 fac
    rw [h, addM_eq, mulM_eq, mulM_eq]
    have := hr i j hi hj
    simp
    omega
  · rw [if_pos ⟨hi, hic, h⟩]
theorem key_eq (x y z t s r iA u : Int) (h1 : u * z % 998244353 = 1) (h2 : iA * (r * z % 998244353) % 998244353 = 1) :
    addM (mulM s x) (mulM (-(mulM s y)) (mulM (mulM r t) iA)) = mulM s (addM x (-(mulM (mulM y u) t))) := by
  simp only [addM_eq, mulM_eq]
  obtain ⟨k1, e1⟩ := one_mod h1
  obtain ⟨k2, e2⟩ := one_mod h2
  obtain ⟨k3, e3⟩ := wmod (r * z)
  rw [e3] at e2
  obtain ⟨k4, e4⟩ := wmod (s * x)
  obtain ⟨k5, e5⟩ := wmod (s * y)
  obtain ⟨k6, e6⟩ := wmod (r * t)
  rw [e4, e5, e6]
  obtain ⟨k7, e7⟩ := wmod ((r * t + 998244353 * k6) * iA)
  rw [e7]
  obtain ⟨k8, e8⟩ := wmod (-(s * y + 998244353 * k5) * ((r * t + 998244353 * k6) * iA + 998244353 * k7))
  rw [e8]
  obtain ⟨k9, e9⟩ := wmod (y * u)
  rw [e9]
  obtain ⟨k10, e10⟩ := wmod ((y * u + 998244353 * k9) * t)
  rw [e10]
  obtain ⟨k11, e11⟩ := wmod (x + -((y * u + 998244353 * k9) * t + 998244353 * k10))
  rw [e11]
  clear e3 e4 e5 e6 e7 e8 e9 e10 e11 h1 h2
  -- u - r iA is a multiple
  have hq : u - r * iA = 998244353 * (r * iA * k1 - u * k2 + u * iA * k3) := by grind
  obtain ⟨q, hq2⟩ : ∃ q, q = r * iA * k1 - u * k2 + u * iA * k3 := ⟨_, rfl⟩
  rw [← hq2] at hq
  have hu : u = r * iA + 998244353 * q := by omega
  clear hq hq2 e1 e2 k1 k2 k3
  subst hu
  refine modw ⟨k4 + k8 - s * k11 - y * s * k7 - k5 * (r * t * iA + 998244353 * k6 * iA + 998244353 * k7) - s * y * k6 * iA + s * y * q * t + s * k9 * t + s * k10, ?_⟩
  grind
theorem Alike.step {n c : Nat} {A W : Mx} (h : Alike n A W) (hr : Res n n W) (hc : c < n) (hp : W c c ≠ 0) : Alike n (clr (scl A c) c) (clrP W c n) := by
  have hA := h.nought hr hc hc
  obtain ⟨s, hs⟩ := h
  have hWc := hr c c hc hc
  have hz : md (W c c) ≠ 0 := by rw [md_id hWc.1 hWc.2]; exact hp
  have hAc : md (A c c) ≠ 0 := by
    rw [(hs c hc).2 c hc, md_id (mulM_lo _ _) (mulM_hi _ _)]
    intro e
    rcases mulM_nought.1 e with e | e
    · exact (hs c hc).1 e
    · exact hz e
  refine ⟨fun i => if i = c then mulM (s c) (invM (A c c)) else s i, fun i hi => ?_⟩
  by_cases h1 : i = c
  · subst h1
    refine ⟨?_, fun j hj => ?_⟩
    · simp only [if_true]
      rw [md_id (mulM_lo _ _) (mulM_hi _ _)]
      intro e
      rcases mulM_nought.1 e with e | e
      · exact (hs i hi).1 e
      · exact invM_no hAc e
    · simp only [if_true]
      unfold clr scl clrP
      simp only [if_true]
      rw [if_neg (by simp), (hs i hi).2 j hj]
      simp only [mulM_eq]
      rw [mul_emod_l, mul_emod_l]
      congr 1
      grind
  · simp only [h1, if_false]
    refine ⟨(hs i hi).1, fun j hj => ?_⟩
    rw [less_all hr hi hj h1]
    unfold clr clr1 scl less1 fac
    simp only [h1, if_false, if_true]
    rw [(hs i hi).2 j hj, (hs i hi).2 c hc, (hs c hc).2 j hj]
    refine key_eq _ _ _ _ _ _ _ _ (invM_mul hz) ?_
    have := invM_mul hAc
    rw [(hs c hc).2 c hc, mulM_eq] at this ⊢
    exact this
/-- The rows that the inverse's way has, and those of the mesh's. -/
theorem both_pg {n : Nat} {A M : Mx} (hr : Res n n M) (h0 : Alike n A M) : ∀ c, c ≤ n → (elim n A c = none ∧ pg n M c = none) ∨ ∃ B W N, elim n A c = some B ∧ pg n M c = some (W, N) ∧ Alike n B W
  | 0, _ => Or.inr ⟨A, M, [], rfl, rfl, h0⟩
  | c + 1, hc => by
    rcases both_pg hr h0 c (by omega) with ⟨h1, h2⟩ | ⟨B, W, N, h1, h2, h3⟩
    · exact Or.inl ⟨elim_none h1 1, pg_none h2 1⟩
    · have hW := res_pg hr c (by omega) W N h2
      have hpv := h3.pv (c := c) hW (n - c) (by omega)
      by_cases hp : pv W c (n - c) < 0
      · exact Or.inl ⟨by rw [elim, h1]; simp only [Option.bind_some]; rw [hpv, if_pos hp], pg_no h2 hp⟩
      · have h4 := pv_hi W c (n - c)
        have h5 := pv_ne W c (n - c) (by omega)
        obtain ⟨t, ht⟩ : ∃ t : Nat, t = (pv W c (n - c)).toNat := ⟨_, rfl⟩
        refine Or.inr ⟨_, _, _, elim_go h1 (by omega), pg_go h2 (by omega), ?_⟩
        rw [hpv, ← ht]
        rw [← ht] at h5
        unfold el1
        exact (h3.swp (by omega) (by omega)).step (res_swp hW (by omega) (by omega)) (by omega) (by unfold Rm.swp; simpa using h5)
end Go.Proofs.Ytboppklcmdfphaa.Rm
