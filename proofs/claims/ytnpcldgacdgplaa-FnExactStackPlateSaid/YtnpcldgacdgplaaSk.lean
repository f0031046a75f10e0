/- Rows of plates that a call builds; what an append leaves alone; a chain of plates by its classes. -/
import Derived.Test.YtnpcldgacdgplaaPr
import Derived.Test.YtnpcldgacdgplaaChi
import Derived.Test.YtnpcldgacdgplaaRv
import Derived.Deep.RegionHeldLaw
namespace Go.Proofs.Ytnpcldgacdgplaa
open Go.RowKit Fl
set_option linter.unusedVariables false
set_option linter.unusedSimpArgs false
def rowP (f : Nat → Nat → Nat) : Nat → List Value
  | 0 => []
  | n + 1 => rowP f n ++ [.float .f64 (f n 0), .float .f64 (f n 1), .float .f64 (f n 2), .float .f64 (f n 3), .float .f64 (f n 4), .float .f64 (f n 5), .float .f64 (f n 6), .float .f64 (f n 7)]
theorem rowP_len (f : Nat → Nat → Nat) : ∀ n, (rowP f n).length = n * 8
  | 0 => rfl
  | n + 1 => by simp only [rowP, List.length_append, rowP_len f n, List.length_cons, List.length_nil]; omega
theorem rowP_get (f : Nat → Nat → Nat) : ∀ n i, i < n → ∀ j, j < 8 → (rowP f n)[i * 8 + j]? = some (.float .f64 (f i j))
  | 0, i, hi, _, _ => by omega
  | n + 1, i, hi, j, hj => by
    simp only [rowP]
    by_cases e : i = n
    · subst e
      rw [List.getElem?_append_right (by rw [rowP_len]; omega), rowP_len, show i * 8 + j - i * 8 = j by omega]
      match j, hj with
      | 0, _ => rfl
      | 1, _ => rfl
      | 2, _ => rfl
      | 3, _ => rfl
      | 4, _ => rfl
      | 5, _ => rfl
      | 6, _ => rfl
      | 7, _ => rfl
    · rw [List.getElem?_append_left (by rw [rowP_len]; omega)]
      exact rowP_get f n i (by omega) j hj
theorem rowP_congr {f g : Nat → Nat → Nat} : ∀ n, (∀ i, i < n → ∀ j, j < 8 → f i j = g i j) → rowP f n = rowP g n
  | 0, _ => rfl
  | n + 1, h => by
    simp only [rowP]
    rw [rowP_congr n fun i hi => h i (by omega), h n (by omega) 0 (by omega), h n (by omega) 1 (by omega), h n (by omega) 2 (by omega), h n (by omega) 3 (by omega), h n (by omega) 4 (by omega), h n (by omega) 5 (by omega), h n (by omega) 6 (by omega), h n (by omega) 7 (by omega)]
theorem owned_segM {w : World} {base n : Nat} {v : Value} {f : Nat → Nat → Nat} (h : w.ownsRow base 43 8 v n (rowP f n)) (hv : v ≠ .slice none 0 0) : ∃ g cap, v = .slice (some ⟨g, 0, none⟩) n cap ∧ SegM w g 43 n 8 f := by
  obtain ⟨_, h | ⟨g, cap, cur, hv, hg, hh, h1, h2, h3, h4⟩⟩ := h
  · exact absurd h.1 hv
  · refine ⟨g, cap, hv, cur, hh, fun i hi j hj => ?_⟩
    have h5 := rowP_get f n i hi j hj
    rw [← h4, List.getElem?_take_of_lt (by omega), Array.getElem?_toList] at h5
    exact h5
/-- 'append(row, plate)' as one step of a region that draws its order. -/
theorem step_pushP {ops : Array Oper} {o : Oper} {a : Act} {K : Act → World → Prop} {Q : Exit → Act → World → Prop} {E : Prop} (hg : o.guard = none) (s x : Operand)
    (hop : o.op = Op.call { callee := Callee.builtin Builtin.append, args := #[s, x], argTypes := #[75, 75] }) {W : World} (w : World) (a0 a1 a2 a3 a4 a5 a6 a7 : Nat) (hW : W = w.alloc (.cells #[.float .f64 a0, .float .f64 a1, .float .f64 a2, .float .f64 a3, .float .f64 a4, .float .f64 a5, .float .f64 a6, .float .f64 a7] 43))
    (base : Nat) (v : Value) (n : Nat) (xs : List Value) (hs : a.eval s = v) (hown : w.ownsRow base 43 8 v n xs) (c : Nat) (hx : a.eval x = .slice (some ⟨w.heap.size, 0, none⟩) 1 c) (hn : n ≤ 1000000) (hbase : base ≤ w.heap.size)
    (hK : ∀ v' w', w'.ownsRow base 43 8 v' (n + 1) (xs ++ [.float .f64 a0, .float .f64 a1, .float .f64 a2, .float .f64 a3, .float .f64 a4, .float .f64 a5, .float .f64 a6, .float .f64 a7]) → (w.alloc (.cells #[.float .f64 a0, .float .f64 a1, .float .f64 a2, .float .f64 a3, .float .f64 a4, .float .f64 a5, .float .f64 a6, .float .f64 a7] 43)).grownBy w' v.ownBlock → v' ≠ .slice none 0 0 → K (a.put o.dst v') w') :
    if Region.wanted o (yielded ops a.tmps) = true then Oper.wp Try.prog o a W K Q else E := by
  subst hW
  have hw : Region.wanted o (yielded ops a.tmps) = true := by simp [Region.wanted, hg]
  rw [if_pos hw]
  obtain ⟨i, h1, h2, h3, h4⟩ := info_parts info54
  obtain ⟨v', w', hrun, r1, r2, r3⟩ := run_append_own (P := Try.prog) (w.alloc (.cells #[.float .f64 a0, .float .f64 a1, .float .f64 a2, .float .f64 a3, .float .f64 a4, .float .f64 a5, .float .f64 a6, .float .f64 a7] 43)) base 75 o.type 43 i (Pv 0 0 0 0 0 0 0 0) 8 64 Try.underlying75 h1 h2 h3 h4 rfl (by decide) v n xs (hown.alloc _) ⟨w.heap.size, 0, none⟩ 1 c [.float .f64 a0, .float .f64 a1, .float .f64 a2, .float .f64 a3, .float .f64 a4, .float .f64 a5, .float .f64 a6, .float .f64 a7] rfl
    (by
      intro j y hj
      match j, hj with
      | 0, hj => simp at hj; subst hj; simp [Addr.add]
      | 1, hj => simp at hj; subst hj; simp [Addr.add]
      | 2, hj => simp at hj; subst hj; simp [Addr.add]
      | 3, hj => simp at hj; subst hj; simp [Addr.add]
      | 4, hj => simp at hj; subst hj; simp [Addr.add]
      | 5, hj => simp at hj; subst hj; simp [Addr.add]
      | 6, hj => simp at hj; subst hj; simp [Addr.add]
      | 7, hj => simp at hj; subst hj; simp [Addr.add])
    (by intro u hu; simp at hu; rcases hu with rfl | rfl | rfl | rfl | rfl | rfl | rfl | rfl <;> rfl) (by unfold maxLen; omega) (by omega) (by simp; omega)
  unfold Oper.wp
  simp [execOp, hop, resolve, invoke, builtin, hs, hx, hrun, Result.andThen]
  exact hK v' w' r1 r2 (fun e => by have := (r3.1 e).2; omega)
theorem grown_refl (Z : World) (ob : Option Nat) : Z.grownBy Z ob := ⟨rfl, rfl, rfl, Nat.le_refl _, fun _ _ _ => rfl⟩
theorem grown_call {Z W W' : World} {ob : Option Nat} (h : Z.grownBy W ob) (b : Below W.heap.size W W') : Z.grownBy W' ob :=
  ⟨b.os.trans h.os, b.tape.trans h.tape, b.output.trans h.output, Nat.le_trans h.size b.size, fun k hk hne => (b.block k (Nat.lt_of_lt_of_le hk h.size)).trans (h.block k hk hne)⟩
theorem grown_drew {Z W : World} {ob : Option Nat} (h : Z.grownBy W ob) : Z.grownBy W.drew ob := grown_call h ((Below.refl _ _).drew)
theorem grown_alloc {Z W : World} {ob : Option Nat} (h : Z.grownBy W ob) (o : Obj) : Z.grownBy (W.alloc o) ob := grown_call h ((Below.refl _ _).alloc (Nat.le_refl _) _)
theorem grown_trans {Z W W' : World} {ob : Option Nat} (h : Z.grownBy W ob) (k : W.grownBy W' ob) : Z.grownBy W' ob :=
  ⟨k.os.trans h.os, k.tape.trans h.tape, k.output.trans h.output, Nat.le_trans h.size k.size, fun i hi hne => (k.block i (Nat.lt_of_lt_of_le hi h.size) hne).trans (h.block i hi hne)⟩
theorem own_grown {B : Nat} {X W W' : World} {r n base : Nat} {t : TypeId} {ob : Option Nat} (h : Own B X r n t W) (g : W.grownBy W' ob) (hr : r < base) (hob : ∀ k, ob = some k → base ≤ k) : Own B X r n t W' := by
  have hl := h.lower
  have hlt := h.lt
  refine ⟨h.below.grown g (by omega) (fun k hk => by have := hob k hk; omega), h.lower, ?_⟩
  rw [g.block r hlt (fun e => by have := hob r e.symm; omega)]
  exact h.block
theorem owns_later {w w' : World} {base n m : Nat} {t : TypeId} {v : Value} {xs : List Value} (h : w.ownsRow base t m v n xs) (hb : Below w.heap.size w w') : w'.ownsRow base t m v n xs := by
  obtain ⟨h0, h | ⟨g, cap, cur, hv, hg, hh, r⟩⟩ := h
  · exact ⟨h0, Or.inl h⟩
  · exact ⟨h0, Or.inr ⟨g, cap, cur, hv, hg, (hb.block g (Array.getElem?_eq_some_iff.1 hh).1).trans hh, r⟩⟩
/-- A chain of plates, by its classes. -/
def chainP (Q : Nat → P4) : Nat → P4
  | 0 => ⟨(cl 4607182418800017408, cl 0), (cl 0, cl 0), (cl 0, cl 0), (cl 4607182418800017408, cl 0)⟩
  | k + 1 => mulP (chainP Q k) (Q k)
theorem clP_of {f : Nat → Nat} {q : P4} (h : Pc (f 0) (f 1) (f 2) (f 3) (f 4) (f 5) (f 6) (f 7) q) : clP f = q := by
  obtain ⟨z0, z1, z2, z3⟩ := h
  obtain ⟨A, B, C, D⟩ := q
  unfold clP
  rw [z0.c, z1.c, z2.c, z3.c]
theorem chain_eq {f : Nat → Nat → Nat} {Q : Nat → P4} : ∀ n, (∀ i, i < n → Pc (f i 0) (f i 1) (f i 2) (f i 3) (f i 4) (f i 5) (f i 6) (f i 7) (Q i)) → chainL f n = chainP Q n
  | 0, _ => rfl
  | n + 1, h => by simp only [chainL, chainP]; rw [chain_eq n fun i hi => h i (by omega), clP_of (h n (by omega))]
theorem pc_self {f : Nat → Nat} {q : P4} (h : Pc (f 0) (f 1) (f 2) (f 3) (f 4) (f 5) (f 6) (f 7) q) : Pc (f 0) (f 1) (f 2) (f 3) (f 4) (f 5) (f 6) (f 7) (clP f) := by rw [clP_of h]; exact h
theorem sChainP {b n cap : Nat} {f : Nat → Nat → Nat} {Q : Nat → P4} {w : World} (hn : n ≤ 1000000000000) (hs : SegM w b 43 n 8 f) (hf : ∀ i, i < n → Pc (f i 0) (f i 1) (f i 2) (f i 3) (f i 4) (f i 5) (f i 6) (f i 7) (Q i)) : PV 46 #[.slice (some ⟨b, 0, none⟩) n cap] w (chainP Q n) := by
  rw [← chain_eq n hf]
  exact sChain_any b n cap f w hn hs fun i hi => pc_self (hf i hi)
theorem iChainP {b n cap : Nat} {f : Nat → Nat → Nat} {Q : Nat → P4} {w : World} (hn : n ≤ 1000000000000) (hs : SegM w b 43 n 8 f) (hf : ∀ i, i < n → Pc (f i 0) (f i 1) (f i 2) (f i 3) (f i 4) (f i 5) (f i 6) (f i 7) (Q i)) : PV 80 #[.slice (some ⟨b, 0, none⟩) n cap] w (chainP Q n) := by
  rw [← chain_eq n hf]
  exact iChain_any b n cap f w hn hs fun i hi => pc_self (hf i hi)
/-- One plate more. -/
def addP (f : Nat → Nat → Nat) (k a0 a1 a2 a3 a4 a5 a6 a7 : Nat) (i j : Nat) : Nat :=
  if i = k then (if j = 0 then a0 else if j = 1 then a1 else if j = 2 then a2 else if j = 3 then a3 else if j = 4 then a4 else if j = 5 then a5 else if j = 6 then a6 else a7) else f i j
theorem rowP_add (f : Nat → Nat → Nat) (k a0 a1 a2 a3 a4 a5 a6 a7 : Nat) : rowP f k ++ [.float .f64 a0, .float .f64 a1, .float .f64 a2, .float .f64 a3, .float .f64 a4, .float .f64 a5, .float .f64 a6, .float .f64 a7] = rowP (addP f k a0 a1 a2 a3 a4 a5 a6 a7) (k + 1) := by
  simp only [rowP]
  rw [rowP_congr (f := f) (g := addP f k a0 a1 a2 a3 a4 a5 a6 a7) k (fun i hi j _ => by unfold addP; rw [if_neg (by omega)])]
  simp [addP]
theorem pc_add {f : Nat → Nat → Nat} {Q : Nat → P4} {k a0 a1 a2 a3 a4 a5 a6 a7 : Nat} (h : ∀ i, i < k → Pc (f i 0) (f i 1) (f i 2) (f i 3) (f i 4) (f i 5) (f i 6) (f i 7) (Q i)) (hk : Pc a0 a1 a2 a3 a4 a5 a6 a7 (Q k)) :
    ∀ i, i < k + 1 → Pc (addP f k a0 a1 a2 a3 a4 a5 a6 a7 i 0) (addP f k a0 a1 a2 a3 a4 a5 a6 a7 i 1) (addP f k a0 a1 a2 a3 a4 a5 a6 a7 i 2) (addP f k a0 a1 a2 a3 a4 a5 a6 a7 i 3) (addP f k a0 a1 a2 a3 a4 a5 a6 a7 i 4) (addP f k a0 a1 a2 a3 a4 a5 a6 a7 i 5) (addP f k a0 a1 a2 a3 a4 a5 a6 a7 i 6) (addP f k a0 a1 a2 a3 a4 a5 a6 a7 i 7) (Q i) := by
  intro i hi
  by_cases e : i = k
  · subst e
    simpa [addP] using hk
  · have := h i (by omega)
    simpa [addP, e] using this
end Go.Proofs.Ytnpcldgacdgplaa
