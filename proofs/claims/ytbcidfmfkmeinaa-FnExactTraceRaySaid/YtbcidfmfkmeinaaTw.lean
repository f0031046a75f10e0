/- Lists of rays in answers of a trace: kept, marked, looked for marks. -/
import Derived.Test.YtbcidfmfkmeinaaTz
namespace Go.Proofs.Ytbcidfmfkmeinaa
open Go.RowKit Fl
set_option linter.unusedVariables false
set_option linter.unusedSimpArgs false
/-- Stores between lo and hi alone, and new blocks. -/
structure Within (lo hi : Nat) (w w' : World) : Prop where
  below : Below lo w w'
  above : ∀ k, hi ≤ k → k < w.heap.size → w'.heap[k]? = w.heap[k]?
theorem Within.refl (lo hi : Nat) (w : World) : Within lo hi w w := ⟨Below.refl _ _, fun _ _ _ => rfl⟩
theorem Within.trans {lo hi : Nat} {a b c : World} (h : Within lo hi a b) (k : Within lo hi b c) : Within lo hi a c :=
  ⟨h.below.trans k.below, fun i h1 h2 => (k.above i h1 (Nat.lt_of_lt_of_le h2 h.below.size)).trans (h.above i h1 h2)⟩
theorem Within.setCell {lo hi : Nat} {a w : World} (h : Within lo hi a w) {p : Addr} (h1 : lo ≤ p.block) (h2 : p.block < hi) (u : Value) : Within lo hi a (w.setCell p u) :=
  h.trans ⟨(Below.refl _ _).setCell h1 u, fun k hk _ => Below.heap_setCell _ _ _ _ (by omega)⟩
theorem Within.mono {lo hi lo' hi' : Nat} {a w : World} (h : Within lo hi a w) (h1 : lo' ≤ lo) (h2 : hi ≤ hi') : Within lo' hi' a w := ⟨h.below.mono h1, fun k hk hs => h.above k (by omega) hs⟩
theorem Within.later {lo hi : Nat} {a w w' : World} (h : Within lo hi a w) (b : Below w.heap.size w w') (hl : lo ≤ w.heap.size) : Within lo hi a w' :=
  ⟨h.below.trans (b.mono hl), fun k h1 h2 => (b.block k (Nat.lt_of_lt_of_le h2 h.below.size)).trans (h.above k h1 h2)⟩
theorem Blk.under {w w' : World} {b : Nat} {cs : Array Value} {t : TypeId} (h : Blk w b cs t) {a c : Nat} (k : Within a c w w') (hh : b < a ∨ c ≤ b) : Blk w' b cs t := by
  rcases hh with hh | hh
  · exact (k.below.block b hh).trans h
  · exact (k.above b hh h.lt).trans h
/-- v is empty, or a list of n values of m cells in a block from lo on, below hi. -/
def OwW (t m : Nat) (lo hi : Nat) (w : World) (v : Value) (n : Nat) (f : Nat → Nat → Value) : Prop :=
  (n = 0 ∧ ∃ ao cap, v = .slice ao 0 cap) ∨ ∃ g cap, v = .slice (some ⟨g, 0, none⟩) n cap ∧ lo ≤ g ∧ g < hi ∧ SegV w g t n m f
namespace OwW
variable {t m lo hi : Nat} {w w' : World} {v : Value} {n : Nat} {f : Nat → Nat → Value}
theorem later (h : OwW t m lo hi w v n f) (b : Below w.heap.size w w') : OwW t m lo hi w' v n f := by
  rcases h with h | ⟨g, cap, rfl, h1, h2, h3⟩
  · exact Or.inl h
  · exact Or.inr ⟨g, cap, rfl, h1, h2, h3.below b⟩
theorem under (h : OwW t m lo hi w v n f) {a c : Nat} (b : Within a c w w') (hh : hi ≤ a ∨ c ≤ lo) : OwW t m lo hi w' v n f := by
  rcases h with h | ⟨g, cap, rfl, h1, h2, h3⟩
  · exact Or.inl h
  · refine Or.inr ⟨g, cap, rfl, h1, h2, h3.of_block ?_⟩
    rcases hh with hh | hh
    · exact b.below.block g (by omega)
    · exact b.above g (by omega) h3.lt
theorem form (h : OwW t m lo hi w v n f) : ∃ ao cap, v = .slice ao n cap := by
  rcases h with ⟨rfl, ao, cap, rfl⟩ | ⟨g, cap, rfl, _⟩
  · exact ⟨ao, cap, rfl⟩
  · exact ⟨_, cap, rfl⟩
end OwW
/-- The rays of an answer, between its own bounds. -/
theorem OwR.bounds {W : World} {lo : Nat} {v : Value} {n : Nat} {R : Nat → Nat → Nat} (h : OwR W lo v n R) : OwW 33 6 lo W.heap.size W v n (fun i j => fcl (R i) j) := by
  rcases h with h | ⟨g, cap, rfl, h1, h2⟩
  · exact Or.inl h
  · exact Or.inr ⟨g, cap, rfl, h1, h2.lt, h2⟩
theorem OwW.rays {W : World} {lo hi : Nat} {v : Value} {n : Nat} {R : Nat → Nat → Nat} (h : OwW 33 6 lo hi W v n (fun i j => fcl (R i) j)) : OwR W lo v n R := by
  rcases h with h | ⟨g, cap, rfl, h1, h2, h3⟩
  · exact Or.inl h
  · exact Or.inr ⟨g, cap, rfl, h1, h3⟩
abbrev mk6 (k0 : Nat) : Nat → Nat → Value := fun i j => fcl (mfl 6 k0 i) j
theorem markRs_own {lo hi : Nat} {w : World} {v : Value} {n : Nat} {f : Nat → Nat → Value} (h : OwW 33 6 lo hi w v n f) (hfl : ∀ i, i < n → ∀ j, j < 6 → ∃ x, f i j = .float .f64 x) (k0 : Nat) (hn : n ≤ 1048576) (hk0 : k0 ≤ 1000000) :
    Calls Try.prog 22 #[v, .int .i64 k0] w fun e w' => e = .returned (.int .i64 ((k0 : Int) + 6 * n)) ∧ OwW 33 6 lo hi w' v n (mk6 k0) ∧ Within lo hi w w' ∧ w'.heap.size = w.heap.size := by
  by_cases h0 : n = 0
  · subst h0
    obtain ⟨ao, cap, rfl⟩ := h.form
    refine (markRa_none ao cap k0 w).mono ?_
    rintro e w' ⟨rfl, rfl⟩
    exact ⟨by simp, Or.inl ⟨rfl, ao, cap, rfl⟩, Within.refl _ _ _, rfl⟩
  · rcases h with ⟨rfl, _⟩ | ⟨g, cap, rfl, h1, h2, h3⟩
    · exact absurd rfl h0
    refine (markRa_some g n cap k0 f lo w w hn hk0 h3 hfl (Below.refl _ _) h1).mono ?_
    rintro e w' ⟨rfl, s, b, o, z⟩
    exact ⟨rfl, Or.inr ⟨g, cap, rfl, h1, h2, s⟩, ⟨b, fun k hk _ => o k (by omega)⟩, z⟩
theorem heldRs_own {lo hi : Nat} {w : World} {v : Value} {n k0 : Nat} (h : OwW 33 6 lo hi w v n (mk6 k0)) (hn : n ≤ 1048576) (hk0 : k0 ≤ 1000000) :
    Calls Try.prog 23 #[v, .int .i64 k0] w fun e w' => e = .returned (.int .i64 ((k0 : Int) + 6 * n)) ∧ w = w' := by
  by_cases h0 : n = 0
  · subst h0
    obtain ⟨ao, cap, rfl⟩ := h.form
    refine (heldRa_none ao cap k0 w).mono ?_
    rintro e w' ⟨rfl, rfl⟩
    exact ⟨by simp, rfl⟩
  · rcases h with ⟨rfl, _⟩ | ⟨g, cap, rfl, h1, h2, h3⟩
    · exact absurd rfl h0
    exact heldRa_some g n cap k0 w hn hk0 h3
set_option maxRecDepth 20000 in
theorem markTR_own {lo hi : Nat} {w : World} {v : Value} {n : Nat} {f : Nat → Nat → Value} {c at' : Int} {p : Nat} (h : OwW 33 6 lo hi w v n f) (hfl : ∀ i, i < n → ∀ j, j < 6 → ∃ x, f i j = .float .f64 x) (hl : lo ≤ w.heap.size) (k0 : Nat) (hn : n ≤ 1048576) (hk0 : k0 ≤ 1000000) :
    Calls Try.prog 12 #[Tv c at' p v, .int .i64 k0] w fun e w' => e = .returned (.int .i64 ((k0 : Int) + 6 * n)) ∧ OwW 33 6 lo hi w' v n (mk6 k0) ∧ Within lo hi w w' ∧ w.heap.size ≤ w'.heap.size := by
  obtain ⟨ao, cap, rfl⟩ := h.form
  obtain ⟨w2, hw2⟩ : ∃ W, W = w.alloc (.cells #[.int .i64 c, .int .i64 at', .float .f64 p, .slice ao n cap] 29) := ⟨_, rfl⟩
  have hb : Below w.heap.size w w2 := by rw [hw2]; exact (Below.refl _ _).alloc (Nat.le_refl _) _
  have W0 : Within lo hi w w2 := (Within.refl lo hi w).later hb hl
  have HM : Hid (Calls Try.prog 22 #[.slice ao n cap, .int .i64 k0] w2 fun e w' => e = .returned (.int .i64 ((k0 : Int) + 6 * n)) ∧ (OwW 33 6 lo hi w' (.slice ao n cap) n (mk6 k0) ∧ Within lo hi w w' ∧ w.heap.size ≤ w'.heap.size)) := by
    refine (markRs_own (h.later hb) hfl k0 hn hk0).mono ?_
    rintro e w' ⟨rfl, a, b, z⟩
    exact ⟨rfl, a, W0.trans b, by have := hb.size; omega⟩
  clear h hb W0 hfl
  obtain ⟨M, hM⟩ : ∃ M : Int, M = (k0 : Int) + 6 * n := ⟨_, rfl⟩
  rw [← hM] at HM ⊢
  clear hM
  go_enter Try.func12, Try.ntmps12
  go_wp2_with fail
  rw [← hw2]
  refine HM.out.mono ?_
  rintro e w3 ⟨rfl, h9⟩
  replace h9 : Hid _ := h9
  go_wp2
  go_ret
  exact ⟨rfl, h9.out⟩
set_option maxRecDepth 20000 in
theorem heldTR_own {lo hi : Nat} {w : World} {v : Value} {n k0 : Nat} {c at' : Int} {p : Nat} (h : OwW 33 6 lo hi w v n (mk6 k0)) (hn : n ≤ 1048576) (hk0 : k0 ≤ 1000000) :
    Calls Try.prog 13 #[Tv c at' p v, .int .i64 k0] w fun e w' => e = .returned (.int .i64 ((k0 : Int) + 6 * n)) ∧ Below w.heap.size w w' := by
  obtain ⟨ao, cap, rfl⟩ := h.form
  obtain ⟨w2, hw2⟩ : ∃ W, W = w.alloc (.cells #[.int .i64 c, .int .i64 at', .float .f64 p, .slice ao n cap] 29) := ⟨_, rfl⟩
  have hb : Below w.heap.size w w2 := by rw [hw2]; exact (Below.refl _ _).alloc (Nat.le_refl _) _
  obtain ⟨M, hM⟩ : ∃ M : Int, M = (k0 : Int) + 6 * n := ⟨_, rfl⟩
  have hM0 : ¬ M < 0 := by omega
  have HM : Hid (Calls Try.prog 23 #[.slice ao n cap, .int .i64 k0] w2 fun e w' => e = .returned (.int .i64 M) ∧ w2 = w') := by
    rw [hM]
    exact heldRs_own (h.later hb) hn hk0
  rw [← hM]
  have HB : Hid (Below w.heap.size w w2) := hb
  clear h hb hM
  go_enter Try.func13, Try.ntmps13
  go_wp2_with fail
  rw [← hw2]
  clear hw2
  refine HM.out.mono ?_
  rintro e w3 ⟨rfl, rfl⟩
  go_wp2
  go_ret
  exact ⟨rfl, HB.out⟩
end Go.Proofs.Ytbcidfmfkmeinaa
