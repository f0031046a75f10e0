/- Copies of lists of fibres; nets that are answered: marked, looked for: contracts. -/
import Derived.Test.YthdiodibcebbbaaNh
import Derived.Test.YthdiodibcebbbaaLk
namespace Go.Proofs.Ythdiodibcebbbaa
open Go.RowKit
set_option linter.unusedVariables false
set_option linter.unusedSimpArgs false
/-- A fibre's cells as a list. -/
def frow (x : Fb) : List Value := [.int .i64 x.a, .int .i64 x.b, .int .i64 x.km]
theorem frow_at (x : Fb) : ∀ j, j < 3 → (frow x)[j]? = some (fcell x j)
  | 0, _ => rfl
  | 1, _ => rfl
  | 2, _ => rfl
  | n + 3, h => absurd h (by omega)
theorem frow_one (x : Fb) : ∀ u ∈ frow x, u.oneCell' = true := by
  intro u hu
  simp only [frow, List.mem_cons, List.not_mem_nil, or_false] at hu
  rcases hu with rfl | rfl | rfl <;> rfl
theorem app_fbs {ops : Array Oper} {rest : List Oper} {o : Oper} {a : Act} {Q : Exit → Act → World → Prop} (hgd : o.guard = none) (s x : Operand)
    (ho : o.op = .call { callee := .builtin .append, args := #[s, x], argTypes := #[30, 30] }) (w : World) (F : Nat → Fb) (n : Nat)
    (hs : a.eval s = .slice (some ⟨w.heap.size, 0, none⟩) 0 0) (b off c : Nat) (hx : a.eval x = .slice (some ⟨b, off, none⟩) n c) (hc : ∀ i, i < n → ∀ j, j < 3 → w.cell? ⟨b, off + i * 3 + j, none⟩ = some (fcell (F i) j)) (hn : n ≤ 2000000)
    (h : ∀ g cap w', n ≤ cap → w.heap.size ≤ g → SegV w' g 112 n 3 (fun i j => fcell (F i) j) → Below w.heap.size w w' → wpList Try.prog ops Q rest (a.put o.dst (.slice (some ⟨g, 0, none⟩) n cap)) w') : wpList Try.prog ops Q (o :: rest) a (w.alloc (.cells #[] 112)) :=
  app_whole hgd s x 30 ho 112 (.agg #[.int .i64 0, .int .i64 0, .int .i64 0]) 3 24 Try.underlying30 infoFb rfl (by decide) (by decide) w (fun i => frow (F i)) (fun _ => rfl) (fun i => frow_one _) (fun i j => fcell (F i) j) n (fun i hi j hj => frow_at _ j hj) hs b off c hx hc hn h
set_option maxRecDepth 20000 in
set_option maxHeartbeats 1600000 in
theorem cloneF_any {w : World} {b off n cap : Nat} {F : Nat → Fb} (h : ∀ i, i < n → ∀ j, j < 3 → w.cell? ⟨b, off + i * 3 + j, none⟩ = some (fcell (F i) j)) (hn : n ≤ 1048576) :
    Calls Try.prog 76 #[.slice (some ⟨b, off, none⟩) n cap] w fun e w' => ∃ (g c : Nat), e = .returned (.slice (some ⟨g, 0, none⟩) n c) ∧ n ≤ c ∧ w.heap.size ≤ g ∧ SegV w' g 112 n 3 (fun i j => fcell (F i) j) ∧ Below w.heap.size w w' := by
  have H : Hid (∀ i, i < n → ∀ j, j < 3 → w.cell? ⟨b, off + i * 3 + j, none⟩ = some (fcell (F i) j)) := h
  clear h
  have q30 : ∀ (w : World), (binOp .eql 30 (.slice (some ⟨b, off, none⟩) n cap) (.slice none 0 0)).run Try.prog w = .ok (.bool false) w := fun w => run_eql_nil_slice w 30 112 (some ⟨b, off, none⟩) n cap 0 0 Try.underlying30
  go_enter Try.func76, Try.ntmps76
  go_wp2_with (first | (at_builtin; refine app_fbs rfl (.tmp 5) (.tmp 6) rfl _ F n rfl b off cap rfl H.out (by omega) ?_; intro g cp w1 hcp hg hsg hb1))
  have H1 : Hid (n ≤ cp ∧ w.heap.size ≤ g ∧ SegV w1 g 112 n 3 (fun i j => fcell (F i) j) ∧ Below w.heap.size w w1) := ⟨hcp, hg, hsg, hb1⟩
  clear hg hsg hb1 hcp
  go_wp2
  go_ret
  exact ⟨g, cp, rfl, H1.out⟩
set_option maxRecDepth 20000 in
set_option maxHeartbeats 1600000 in
theorem markNet2_any {lo hi : Nat} {w : World} {g n cp : Nat} {nodes slots : Int} {F : Nat → Fb} (k0 : Int) (h : OwB lo hi w g n F) (h0 : 0 ≤ k0) (h1 : k0 ≤ 10000000) (hn : n ≤ 1048576) (hhi : hi ≤ w.heap.size) :
    Calls Try.prog 13 #[.agg #[.int .i64 nodes, .int .i64 slots, .slice (some ⟨g, 0, none⟩) n cp], .int .i64 k0] w fun e w' => e = .returned (.int .i64 (mF k0 n)) ∧ OwB lo hi w' g n (fun i => mfb (mF k0 i)) ∧ Within lo hi w w' := by
  have H : ∀ o, Hid (SegV (w.alloc o) g 112 n 3 (fun i j => fcell (F i) j)) := fun o => h.seg.below ((Below.refl w.heap.size w).alloc (Nat.le_refl _) o)
  have HH : Hid (lo ≤ g ∧ g < hi ∧ hi ≤ w.heap.size) := ⟨h.lo, h.hi, hhi⟩
  clear h hhi
  go_enter Try.func13, Try.ntmps13
  go_wp2_with fail
  refine (markFb_some _ _ _ k0 _ _ hn h0 (by omega) (H _).out).mono ?_
  rintro e w1 ⟨rfl, hf, hw, hz⟩
  have HT : Hid (Within lo hi w w1) := ((Within.refl _ _ _).alloc (by have := HH.out; omega) _).trans (hw.mono HH.out.1 HH.out.2.1)
  have HF : Hid (OwB lo hi w1 g n (fun i => mfb (mF k0 i))) := ⟨HH.out.1, HH.out.2.1, hf⟩
  clear hf hw hz H
  go_wp2
  go_ret
  exact ⟨rfl, HF.out, HT.out⟩
set_option maxRecDepth 20000 in
set_option maxHeartbeats 1600000 in
theorem heldFb_any {w : World} {g n cap : Nat} (k0 : Int) (h : SegV w g 112 n 3 (fun i j => fcell (mfb (mF k0 i)) j)) (h0 : 0 ≤ k0) (h1 : k0 ≤ 10000000) (hn : n ≤ 1048576) :
    Calls Try.prog 79 #[.slice (some ⟨g, 0, none⟩) n cap, .int .i64 k0] w fun e w' => e = .returned (.int .i64 (mF k0 n)) ∧ w = w' := by
  have HS : Hid (SegV w g 112 n 3 (fun i j => fcell (mfb (mF k0 i)) j)) := h
  have hnI : (n : Int) ≤ 1048576 := by omega
  clear h
  go_enter Try.func79, Try.ntmps79
  go_wp2_with fail
  go_loopw [1, 5] (fun s1 s5 wr => wr = w ∧ ∃ i : Nat, i ≤ n ∧ s1 = .int .i64 (mF k0 i) ∧ s5 = .int .i64 i) (fun _ s5 _ => n - (intOf s5).toNat)
  case atStart => exact ⟨rfl, 0, Nat.zero_le _, by simp [mF], rfl⟩
  case round =>
    obtain ⟨rfl, i, hle, rfl, rfl⟩ := hrel
    by_cases hin : i < n
    · have a0 := HS.out.cell hin (show 0 < 3 by omega)
      have a1 := HS.out.cell hin (show 1 < 3 by omega)
      have a2 := HS.out.cell hin (show 2 < 3 by omega)
      simp only [Nat.add_zero, fcell, mfb] at a0 a1 a2
      have hiI : (i : Int) < n := by omega
      have hKn : mF k0 (i + 1) = mF k0 i + 1 + 1 + 1 := by unfold mF; omega
      have hK0 : 0 ≤ mF k0 i := by unfold mF; omega
      have hK1 : mF k0 i ≤ 500000000 := by unfold mF; omega
      obtain ⟨K, hK⟩ : ∃ K : Int, K = mF k0 i := ⟨_, rfl⟩
      have HK : Hid (mF k0 (i + 1) = K + 1 + 1 + 1) := by rw [hK]; exact hKn
      rw [← hK] at hK0 hK1 a0 a1 a2 ⊢
      clear hKn hK
      go_wp2
      go_roundw
      case rel => exact ⟨by trivial, i + 1, by omega, by rw [HK.out], by simp⟩
      case measure => simp [intOf]; omega
    · obtain rfl : n = i := by omega
      go_wp2
      go_ret
      exact ⟨rfl, rfl⟩
set_option maxRecDepth 20000 in
set_option maxHeartbeats 1600000 in
theorem heldNet_any {lo hi : Nat} {w : World} {g n cp : Nat} {nodes slots : Int} (k0 : Int) (h : OwB lo hi w g n (fun i => mfb (mF k0 i))) (h0 : 0 ≤ k0) (h1 : k0 ≤ 10000000) (hn : n ≤ 1048576) :
    Calls Try.prog 33 #[.agg #[.int .i64 nodes, .int .i64 slots, .slice (some ⟨g, 0, none⟩) n cp], .int .i64 k0] w fun e w' => e = .returned (.int .i64 (mF k0 n)) ∧ Below w.heap.size w w' := by
  have H : ∀ o, Hid (SegV (w.alloc o) g 112 n 3 (fun i j => fcell (mfb (mF k0 i)) j)) := fun o => h.seg.below ((Below.refl w.heap.size w).alloc (Nat.le_refl _) o)
  clear h
  have hnI : (n : Int) ≤ 1048576 := by omega
  have hr : ¬ mF k0 n < 0 := by unfold mF; omega
  go_enter Try.func33, Try.ntmps33
  go_wp2_with fail
  refine (heldFb_any k0 (H _).out h0 h1 hn).mono ?_
  rintro e w1 ⟨rfl, rfl⟩
  obtain ⟨K, hK⟩ : ∃ K : Int, K = mF k0 n := ⟨_, rfl⟩
  have HK : Hid (mF k0 n = K) := hK.symm
  rw [← hK] at hr ⊢
  clear hK
  go_wp2
  go_ret
  exact ⟨by rw [HK.out]; rfl, by go_grown⟩
end Go.Proofs.Ythdiodibcebbbaa
