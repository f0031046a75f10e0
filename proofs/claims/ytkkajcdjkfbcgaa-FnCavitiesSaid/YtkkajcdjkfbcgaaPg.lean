/- Lists of parts that are answered: owned, compared, marked, looked at. -/
import Derived.Test.YtkkajcdjkfbcgaaPe
namespace Go.Proofs.Ytkkajcdjkfbcgaa
open Go.RowKit
set_option linter.unusedVariables false
set_option linter.unusedSimpArgs false
/-- v is a list of m parts in a block from lo on, or none. -/
def OwL (w : World) (lo : Nat) (v : Value) (m : Nat) (F : Nat → Pt) : Prop :=
  (v = .slice none 0 0 ∧ m = 0) ∨ ∃ g cp, v = .slice (some ⟨g, 0, none⟩) m cp ∧ lo ≤ g ∧ SegV w g 111 m 3 (fun i j => tcell (F i) j)
/-- Its block lies below B. -/
def Up (v : Value) (B : Nat) : Prop := ∀ g n c, v = .slice (some ⟨g, 0, none⟩) n c → g < B
theorem OwL.form {w : World} {lo m : Nat} {v : Value} {F : Nat → Pt} (h : OwL w lo v m F) : ∃ ao cp, v = .slice ao m cp := by
  rcases h with ⟨rfl, rfl⟩ | ⟨g, cp, rfl, _⟩
  · exact ⟨_, _, rfl⟩
  · exact ⟨_, _, rfl⟩
theorem OwL.below {w w' : World} {lo m : Nat} {v : Value} {F : Nat → Pt} (h : OwL w lo v m F) (k : Below w.heap.size w w') : OwL w' lo v m F := by
  rcases h with h | ⟨g, cp, rfl, h1, h2⟩
  · exact Or.inl h
  · exact Or.inr ⟨g, cp, rfl, h1, h2.below k⟩
theorem OwL.up {w : World} {lo m : Nat} {v : Value} {F : Nat → Pt} (h : OwL w lo v m F) : Up v w.heap.size := by
  intro g n c e
  rcases h with ⟨rfl, _⟩ | ⟨g', cp, rfl, h1, h2⟩
  · simp at e
  · simp only [Value.slice.injEq, Option.some.injEq, Addr.mk.injEq] at e
    rw [← e.1.1]; exact h2.lt
theorem OwL.low {w w' : World} {lo m B : Nat} {v : Value} {F : Nat → Pt} (h : OwL w lo v m F) (u : Up v B) (k : Below B w w') : OwL w' lo v m F := by
  rcases h with h | ⟨g, cp, rfl, h1, h2⟩
  · exact Or.inl h
  · exact Or.inr ⟨g, cp, rfl, h1, h2.keep k (u _ _ _ rfl)⟩
theorem OwL.other {w w' : World} {lo m X : Nat} {v : Value} {F : Nat → Pt} (h : OwL w lo v m F) (o : ∀ b, b ≠ X → w'.heap[b]? = w.heap[b]?) (hn : Up v X ∨ X < lo) : OwL w' lo v m F := by
  rcases h with h | ⟨g, cp, rfl, h1, h2⟩
  · exact Or.inl h
  · refine Or.inr ⟨g, cp, rfl, h1, h2.of_block (o g ?_)⟩
    rcases hn with hn | hn
    · exact Nat.ne_of_lt (hn _ _ _ rfl)
    · omega
theorem OwL.eq {w : World} {lo lo' m : Nat} {v v' : Value} {F : Nat → Pt} (h : OwL w lo v m F) (h' : OwL w lo' v' m F) (hm : m ≤ 1000) : Calls Try.prog 91 #[v, v'] w fun e w' => e = .returned (.bool true) ∧ Below w.heap.size w w' := by
  by_cases e : m = 0
  · subst e
    obtain ⟨ao, cp, rfl⟩ := h.form
    obtain ⟨ao', cp', rfl⟩ := h'.form
    exact eqPts_none _ _ _ _ _
  · rcases h with h | ⟨g, cp, rfl, h1, h2⟩
    · exact absurd h.2 e
    rcases h' with h' | ⟨g', cp', rfl, h1', h2'⟩
    · exact absurd h'.2 e
    exact eqPts_same g cp g' cp' m F w (by omega) h2 h2'
set_option maxHeartbeats 1600000 in
theorem eqList {w : World} {lo lo' m : Nat} {v v' : Value} {F : Nat → Pt} (c : Int) (h : OwL w lo v m F) (h' : OwL w lo' v' m F) (hm : m ≤ 1000) : Calls Try.prog 39 #[.agg #[.int .i64 c, v], .agg #[.int .i64 c, v']] w fun e w' => e = .returned (.bool true) ∧ Below w.heap.size w w' := by
  have H : Hid (∀ W, Below w.heap.size w W → Calls Try.prog 91 #[v, v'] W fun e w' => e = .returned (.bool true) ∧ Below W.heap.size W w') := fun W k => (h.below k).eq (h'.below k) hm
  obtain ⟨ao, cp, rfl⟩ := h.form
  obtain ⟨ao', cp', rfl⟩ := h'.form
  clear h h'
  go_enter Try.func39, Try.ntmps39
  go_wp2_with fail
  refine Calls.mono (H.out _ ?_) ?_
  · go_grown
  rintro e w1 ⟨rfl, b1⟩
  have A1 : Hid (Below w.heap.size w w1) := Below.trans (by go_grown) (b1.mono (by simp <;> omega))
  clear b1
  go_wp2
  go_ret
  exact ⟨rfl, A1.out⟩
set_option maxHeartbeats 1600000 in
theorem markList {w : World} {lo m : Nat} {v : Value} {F : Nat → Pt} (c : Int) (h : OwL w lo v m F) (hlo : lo ≤ w.heap.size) (hm : m ≤ 1000) : Calls Try.prog 40 #[.agg #[.int .i64 c, v], .int .i64 1] w fun e w' => e = .returned (.int .i64 (nK 1 m)) ∧ OwL w' lo v m (fun i => mpt (nK 1 i)) ∧ Below lo w w' ∧ ∀ b, b < w.heap.size → Up v b → w'.heap[b]? = w.heap[b]? := by
  rcases h with ⟨rfl, rfl⟩ | ⟨g, cp, rfl, h1, h2⟩
  · have hk : nK 1 0 = 1 := rfl
    rw [hk]
    have HM : Hid (∀ W, Calls Try.prog 92 #[.slice none 0 0, .int .i64 1] W fun e w' => e = .returned (.int .i64 1) ∧ W = w') := fun W => markPt_none _ _ 1 W
    go_enter Try.func40, Try.ntmps40
    go_wp2_with (go_at_call 92; refine (HM.out _).mono ?_; rintro e w' ⟨rfl, rfl⟩)
    go_ret
    exact ⟨rfl, Or.inl ⟨rfl, rfl⟩, (Below.refl _ _).alloc hlo _, fun b hb _ => Below.heap_alloc _ _ _ hb⟩
  · have HM : Hid (∀ W, Below w.heap.size w W → Below lo w W → Calls Try.prog 92 #[.slice (some ⟨g, 0, none⟩) m cp, .int .i64 1] W fun e w' => e = .returned (.int .i64 (nK 1 m)) ∧ SegV w' g 111 m 3 (fun i j => tcell (mpt (nK 1 i)) j) ∧ Below lo w w' ∧ (∀ b, b ≠ g → w'.heap[b]? = W.heap[b]?) ∧ w'.heap.size = W.heap.size) := fun W k k2 => markPt_some g m cp 1 _ lo w W (by omega) (by omega) (h2.below k) k2 h1
    have HL : Hid (lo ≤ g ∧ lo ≤ w.heap.size) := ⟨h1, hlo⟩
    clear h1 h2 hlo
    go_enter Try.func40, Try.ntmps40
    go_wp2_with fail
    refine Calls.mono (HM.out _ ((Below.refl _ _).alloc (Nat.le_refl _) _) ((Below.refl _ _).alloc HL.out.2 _)) ?_
    rintro e w1 ⟨rfl, s1, b1, o1, _⟩
    have A : Hid (SegV w1 g 111 m 3 (fun i j => tcell (mpt (nK 1 i)) j) ∧ Below lo w w1 ∧ ∀ b, b < w.heap.size → b ≠ g → w1.heap[b]? = w.heap[b]?) := ⟨s1, b1, fun b hb hn => (o1 b hn).trans (Below.heap_alloc _ _ _ hb)⟩
    clear s1 b1 o1 HM
    go_wp2
    go_ret
    exact ⟨rfl, Or.inr ⟨g, cp, rfl, HL.out.1, A.out.1⟩, A.out.2.1, fun b hb hu => A.out.2.2 b hb (Nat.ne_of_gt (hu _ _ _ rfl))⟩
set_option maxHeartbeats 1600000 in
theorem heldList {w : World} {lo m : Nat} {v : Value} (c : Int) (h : OwL w lo v m (fun i => mpt (nK 1 i))) (hm : m ≤ 1000) : Calls Try.prog 41 #[.agg #[.int .i64 c, v], .int .i64 1] w fun e w' => e = .returned (.int .i64 (nK 1 m)) ∧ Below w.heap.size w w' := by
  have HM : Hid (∀ W, Below w.heap.size w W → Calls Try.prog 93 #[v, .int .i64 1] W fun e w' => e = .returned (.int .i64 (nK 1 m)) ∧ W = w') := by
    intro W k
    rcases h.below k with ⟨rfl, rfl⟩ | ⟨g, cp, rfl, h1, h2⟩
    · exact heldPt_none _ _ 1 W
    · exact heldPt_some g m cp 1 W (by omega) (by omega) h2
  obtain ⟨ao, cp, rfl⟩ := h.form
  clear h
  have h0 : 0 ≤ nK 1 m := by unfold nK; omega
  have h1 : nK 1 m ≤ 1000000 := by unfold nK; omega
  generalize nK 1 m = M at HM h0 h1 ⊢
  go_enter Try.func41, Try.ntmps41
  go_wp2_with fail
  refine Calls.mono (HM.out _ ((Below.refl _ _).alloc (Nat.le_refl _) _)) ?_
  rintro e w1 ⟨rfl, rfl⟩
  go_wp2
  go_ret
  exact ⟨rfl, (Below.refl _ _).alloc (Nat.le_refl _) _⟩

end Go.Proofs.Ytkkajcdjkfbcgaa
