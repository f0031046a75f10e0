/- Rows that are built one behind another; the first row with a pivot: plain laws for ProgramMesh of the specification. -/
import Derived.Test.YtboppklcmdfphaaPi
import Derived.Test.YtboppklcmdfphaaSr
import Derived.Test.YtboppklcmdfphaaSx
namespace Go.Proofs.Ytboppklcmdfphaa
open Go.RowKit
set_option linter.unusedVariables false
set_option linter.unusedSimpArgs false
namespace Rm
theorem pv_neg (M : Mx) (c : Nat) : ∀ k, pv M c k < 0 → ∀ j, j < k → M (c + j) c = 0
  | 0, _, j, hj => absurd hj (Nat.not_lt_zero _)
  | k + 1, h, j, hj => by
    rw [pv] at h
    split at h
    · omega
    · rename_i h1
      split at h
      · rename_i h2
        by_cases e : j = k
        · subst e; exact h2
        · exact pv_neg M c k (by omega) j (by omega)
      · omega
theorem pv_first (M : Mx) (c : Nat) : ∀ k, 0 ≤ pv M c k → ∀ r, c ≤ r → (r : Int) < pv M c k → M r c = 0
  | 0, h, _, _, _ => by simp [pv] at h
  | k + 1, h, r, hr, hlt => by
    rw [pv] at hlt
    split at hlt
    · rename_i h1; exact pv_first M c k h1 r hr hlt
    · rename_i h1
      split at hlt
      · omega
      · have := pv_neg M c k (by omega) (r - c) (by omega)
        rwa [Nat.add_sub_cancel' hr] at this
theorem fac_nought {F : Mx} {n c k : Nat} (hr : Res n n F) (hc : c < n) (hk : k < n) (hp : F c c ≠ 0) : fac F c k = 0 ↔ F k c = 0 := by
  have h1 := hr c c hc hc
  have h2 := hr k c hk hc
  unfold fac
  rw [mulM_nought, md_id h2.1 h2.2]
  have h3 : md (invM (F c c)) ≠ 0 := invM_no (by rw [md_id h1.1 h1.2]; exact hp)
  exact ⟨fun h => h.resolve_right h3, Or.inl⟩
theorem clrP_skip {F : Mx} {c k : Nat} (h : k = c ∨ F k c = 0) (r t : Nat) : clrP F c k r t = clrP F c (k + 1) r t := by
  unfold clrP
  by_cases e : r < k ∧ r ≠ c ∧ F r c ≠ 0
  · rw [if_pos e, if_pos ⟨by omega, e.2⟩]
  · rw [if_neg e, if_neg (fun e' => e ⟨by
      by_cases q : r = k
      · subst q; rcases h with h | h
        · exact absurd h e'.2.1
        · exact absurd h e'.2.2
      · omega, e'.2⟩)]
theorem clrP_next {F : Mx} {c k : Nat} (h : ¬ (k = c ∨ F k c = 0)) (n : Nat) (r t : Nat) (ht : t < n) : (if r = k ∧ t < n then less1 F c k t else clrP F c k r t) = clrP F c (k + 1) r t := by
  unfold clrP
  by_cases q : r = k
  · subst q
    rw [if_pos ⟨rfl, ht⟩, if_pos ⟨by omega, fun e => h (Or.inl e), fun e => h (Or.inr e)⟩]
  · rw [if_neg (by omega)]
    by_cases e : r < k ∧ r ≠ c ∧ F r c ≠ 0
    · rw [if_pos e, if_pos ⟨by omega, e.2⟩]
    · rw [if_neg e, if_neg (fun e' => e ⟨by omega, e'.2⟩)]
end Rm
/-- Rows that are built one behind another. -/
structure Rc (lo : Nat) (W : World) (i n : Nat) (M : Rm.Mx) (v : Value) (bs cs : Nat → Nat) : Prop where
  own : W.ownsRow lo 32 1 v i ((List.range i).map fun r => .slice (some ⟨bs r, 0, none⟩) n (cs r))
  rows : ∀ r, r < i → lo ≤ bs r ∧ Seg W (bs r) 2 0 n (fun j => .int .i64 (M r j))
  apart : ∀ r s, r < i → s < i → bs r = bs s → r = s
theorem Rc.step {lo : Nat} {wo W w1 : World} {i n g cp : Nat} {M : Rm.Mx} {v v1 : Value} {bs cs : Nat → Nat} {o : Obj} (h : Rc lo wo i n M v bs cs) (hb : Below wo.heap.size wo W) (hl : lo ≤ wo.heap.size) (hg : wo.heap.size ≤ g) (ho : Seg W g 2 0 n (fun j => .int .i64 (M i j)))
    (hown : w1.ownsRow lo 32 1 v1 (i + 1) (((List.range i).map fun r => .slice (some ⟨bs r, 0, none⟩) n (cs r)) ++ [.slice (some ⟨g, 0, none⟩) n cp]))
    (hgr : (W.alloc o).grownBy w1 v.ownBlock) : Rc lo w1 (i + 1) n M v1 (fun r => if r = i then g else bs r) (fun r => if r = i then cp else cs r) := by
  have hO : W.ownsRow lo 32 1 v i ((List.range i).map fun r => .slice (some ⟨bs r, 0, none⟩) n (cs r)) := owns_later h.own hb
  have old : ∀ (b : Nat) (f : Nat → Value), Seg W b 2 0 n f → Seg w1 b 2 0 n f := fun b f hf => (hf.alloc _).grown hgr (owns_ne hO hf (by decide))
  refine ⟨?_, fun r hr => ?_, fun r s hr hs e => ?_⟩
  · have e : (List.range (i + 1)).map (fun r => Value.slice (some ⟨if r = i then g else bs r, 0, none⟩) n (if r = i then cp else cs r)) = ((List.range i).map fun r => Value.slice (some ⟨bs r, 0, none⟩) n (cs r)) ++ [Value.slice (some ⟨g, 0, none⟩) n cp] := by
      rw [List.range_succ, List.map_append]
      congr 1
      · exact List.map_congr_left fun r hr => by
          have := List.mem_range.1 hr
          rw [if_neg (by omega), if_neg (by omega)]
      · simp
    rw [e]
    exact hown
  · by_cases e : r = i
    · subst e
      simp only [if_true]
      exact ⟨by omega, old _ _ ho⟩
    · simp only [e, if_false]
      have := h.rows r (by omega)
      exact ⟨this.1, old _ _ (this.2.of_block (hb.block _ this.2.lt))⟩
  · by_cases e1 : r = i
    · by_cases e2 : s = i
      · omega
      · simp only [e1, e2, if_true, if_false] at e
        have := (h.rows s (by omega)).2.lt
        omega
    · by_cases e2 : s = i
      · simp only [e1, e2, if_true, if_false] at e
        have := (h.rows r (by omega)).2.lt
        omega
      · simp only [e1, e2, if_false] at e
        exact h.apart r s (by omega) (by omega) e
theorem Rc.mat {lo : Nat} {W : World} {n g cap : Nat} {M : Rm.Mx} {v : Value} {bs cs : Nat → Nat} (h : Rc lo W n n M v bs cs) (hs : Seg W g 32 0 n (fun r => .slice (some ⟨bs r, 0, none⟩) n (cs r))) (hg : lo ≤ g) :
    Mat lo W.heap.size W ⟨g, cap, bs, fun _ => 0, cs⟩ n (fun _ => n) M :=
  ⟨hs, fun r hr => (h.rows r hr).2, hg, hs.lt, fun r hr => (h.rows r hr).1, fun r hr => (h.rows r hr).2.lt, h.apart⟩
theorem ownsL_empty (w : World) : OwL w.heap.size (w.alloc (.cells #[] 77)) (.slice (some ⟨w.heap.size, 0, none⟩) 0 0) [] :=
  ⟨rfl, Or.inr ⟨w.heap.size, 0, #[], rfl, Nat.le_refl _, heap_alloc_new _ _, Nat.le_refl _, Nat.zero_le _, rfl, rfl⟩⟩
theorem OwL.keeps {base : Nat} {W W' : World} {v : Value} {N : List Ce} (h : OwL base W v N) (hk : ∀ q, base ≤ q → q < W.heap.size → W'.heap[q]? = W.heap[q]?) : OwL base W' v N := by
  refine ⟨h.1, ?_⟩
  rcases h.2 with h | ⟨g, cp, cur, hv, hg, hb, rest⟩
  · exact Or.inl h
  · exact Or.inr ⟨g, cp, cur, hv, hg, (hk g hg (Array.getElem?_eq_some_iff.1 hb).1).trans hb, rest⟩
theorem pcd_none {n : Nat} {L : Nat → Nat} {A : Rm.Mx} (h : pcd n L A ≠ 0) : pgo n L A = none := by
  unfold pcd at h
  by_cases hf : faultOf n L = 0
  · rw [if_neg (by simp [hf])] at h
    cases e : pgo n L A with
    | none => rfl
    | some s => rw [e] at h; simp at h
  · unfold pgo; rw [if_neg hf]
theorem pcd_zero {n : Nat} {L : Nat → Nat} {A : Rm.Mx} (h : pcd n L A = 0) : faultOf n L = 0 ∧ Rm.pg n (rsm A) n ≠ none := by
  unfold pcd at h
  by_cases hf : faultOf n L = 0
  · refine ⟨hf, fun e => ?_⟩
    have : pgo n L A = none := by unfold pgo; rw [if_pos hf, e]
    rw [if_neg (by simp [hf]), this] at h
    simp at h
  · rw [if_pos hf] at h; exact absurd h hf
theorem sMulB_any (a b : Int) (w : World) : Calls Try.prog 79 #[.int .i64 a, .int .i64 b] w fun e w' => e = .returned (.int .i64 (Rm.mulM a b)) ∧ Below w.heap.size w w' := (sMul_any a b w).mono fun e w' ⟨h, k⟩ => ⟨h, k ▸ Below.refl _ _⟩
theorem sAddB_any (a b : Int) (w : World) : Calls Try.prog 80 #[.int .i64 a, .int .i64 b] w fun e w' => e = .returned (.int .i64 (Rm.addM a b)) ∧ Below w.heap.size w w' := (sAdd_any a b w).mono fun e w' ⟨h, k⟩ => ⟨h, k ▸ Below.refl _ _⟩
theorem OutR.form {w : World} {c : Int} {v : Value} {n : Nat} {F : Rm.Mx} (h : OutR w c v n F) : ∃ ao k cap, v = .slice ao k cap := by
  rcases h with ⟨_, h⟩ | ⟨_, h⟩
  · exact ⟨none, 0, 0, h⟩
  · obtain ⟨ao, cap, e⟩ := h.shape
    exact ⟨ao, n, cap, e⟩
end Go.Proofs.Ytboppklcmdfphaa
