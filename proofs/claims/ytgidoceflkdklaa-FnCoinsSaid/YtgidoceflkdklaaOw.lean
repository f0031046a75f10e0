/- Lists that a call owns: where they lie; marks in lists of floats. Plain laws on worlds, and the laws' own helpers over lists of floats. -/
import Derived.Test.YtgidoceflkdklaaSums
import Derived.Test.YtgidoceflkdklaaRw
namespace Go.Proofs.Ytgidoceflkdklaa
open Go.RowKit Fl
set_option linter.unusedVariables false
/-- v is nil, or a list of n values F in a block from lo on, below hi. -/
def OwS (t : TypeId) (lo hi : Nat) (w : World) (v : Value) (n : Nat) (F : Nat → Value) : Prop :=
  (v = .slice none 0 0 ∧ n = 0) ∨ ∃ g cap, v = .slice (some ⟨g, 0, none⟩) n cap ∧ lo ≤ g ∧ g < hi ∧ Seg w g t 0 n F
namespace OwS
variable {t : TypeId} {lo hi : Nat} {w w' : World} {v : Value} {n : Nat} {F G : Nat → Value}
theorem later (h : OwS t lo hi w v n F) (b : Below w.heap.size w w') : OwS t lo hi w' v n F := by
  rcases h with h | ⟨g, cap, rfl, h1, h2, h3⟩
  · exact Or.inl h
  · exact Or.inr ⟨g, cap, rfl, h1, h2, h3.below b⟩
theorem under (h : OwS t lo hi w v n F) {a c : Nat} (b : Within a c w w') (hh : hi ≤ a ∨ c ≤ lo) : OwS t lo hi w' v n F := by
  rcases h with h | ⟨g, cap, rfl, h1, h2, h3⟩
  · exact Or.inl h
  · refine Or.inr ⟨g, cap, rfl, h1, h2, h3.of_block ?_⟩
    rcases hh with hh | hh
    · exact b.below.block g (by omega)
    · exact b.above g (by omega) h3.lt
theorem congr (h : OwS t lo hi w v n F) (e : ∀ i, i < n → F i = G i) : OwS t lo hi w v n G := by
  rcases h with h | ⟨g, cap, rfl, h1, h2, h3⟩
  · exact Or.inl h
  · exact Or.inr ⟨g, cap, rfl, h1, h2, h3.congr e⟩
theorem form (h : OwS t lo hi w v n F) : ∃ ao cap, v = .slice ao n cap := by
  rcases h with ⟨rfl, rfl⟩ | ⟨g, cap, rfl, _⟩
  · exact ⟨none, 0, rfl⟩
  · exact ⟨_, cap, rfl⟩
end OwS
theorem OwS.rd {t : TypeId} {lo hi : Nat} {w : World} {v : Value} {n : Nat} {f : Nat → Nat} (h : OwS t lo hi w v n (fun i => .float .f64 (f i))) : RdF w v n f := by
  rcases h with ⟨rfl, rfl⟩ | ⟨g, cap, rfl, _, _, h⟩
  · exact Or.inl ⟨none, 0, rfl, rfl⟩
  · exact h.rd
theorem Within.later {lo hi : Nat} {a w w' : World} (h : Within lo hi a w) (b : Below w.heap.size w w') (hl : lo ≤ w.heap.size) : Within lo hi a w' :=
  ⟨h.below.trans (b.mono hl), fun k h1 h2 => (b.block k (Nat.lt_of_lt_of_le h2 h.below.size)).trans (h.above k h1 h2)⟩
theorem Blk.under {w w' : World} {b : Nat} {cs : Array Value} {t : TypeId} (h : Blk w b cs t) {a c : Nat} (k : Within a c w w') (hh : b < a ∨ c ≤ b) : Blk w' b cs t := by
  rcases hh with hh | hh
  · exact (k.below.block b hh).trans h
  · exact (k.above b hh h.lt).trans h
theorem Blk.later {w w' : World} {b : Nat} {cs : Array Value} {t : TypeId} (h : Blk w b cs t) (k : Below w.heap.size w w') : Blk w' b cs t := h.old k
/-- Cells read off a list that append has built. -/
theorem owned_seg {w : World} {base n : Nat} {t : TypeId} {v : Value} {xs : List Value} {F : Nat → Value} (h : w.ownsRow base t 1 v n xs) (hF : ∀ i, i < n → xs[i]? = some (F i)) : OwS t base w.heap.size w v n F := by
  obtain ⟨hl, h | ⟨g, cap, cur, hv, hg, hh, h1, h2, h3, h4⟩⟩ := h
  · exact Or.inl h
  · refine Or.inr ⟨g, cap, hv, hg, (Array.getElem?_eq_some_iff.1 hh).1, cur, hh, fun i hi => ?_⟩
    rw [← hF i hi, ← h4, Nat.zero_add, Nat.mul_one, List.getElem?_take_of_lt hi, ← Array.getElem?_toList]
/-! ### marks in lists of floats -/
abbrev mk (k : Int) : Nat := floatOfInt .f64 k
theorem mk_lt (k : Int) : mk k < 18446744073709551616 := by
  unfold mk
  simpa [Lit.wf] using floatOfInt_wf .f64 k
theorem mk_self {k : Int} (h0 : 0 ≤ k) (h1 : k ≤ 1000000000000) : FloatKind.f64.format.order (mk k) (mk k) = some .eq := by
  obtain ⟨n, rfl⟩ := Int.eq_ofNat_of_zero_le h0
  rw [mk, floatOfInt_F]
  obtain ⟨r, r1, r2, _⟩ := rep_word (rep_int (m := n) (by omega)) false
  refine order_self' (Ieee.double.nearest_lt false n 0) ?_
  rw [r2, dW_false]
  unfold Num
  omega
theorem drew_below {P : Prop} {w w' : World} (h : P ∧ ∃ q, w' = w.drewN q) : P ∧ Below w.heap.size w w' := by
  obtain ⟨h1, q, rfl⟩ := h
  exact ⟨h1, below_drewN (Below.refl _ _) q⟩
end Go.Proofs.Ytgidoceflkdklaa
