/- Lists of faces and of rays: marks, and looking for them. -/
import Derived.Test.YtcmgafgboepllaaFs
import Derived.Test.YtcmgafgboepllaaFi
namespace Go.Proofs.Ytcmgafgboepllaa
open Go.RowKit Fl
set_option linter.unusedVariables false
set_option linter.unusedSimpArgs false
/-- A whole number as a float. -/
def fi (z : Int) : Nat := floatOfInt .f64 z
theorem fi_nat {z : Int} (h : 0 ≤ z) : fi z = F false z.toNat 0 := by
  have e : ((z.toNat : Nat) : Int) = z := by omega
  have h2 := floatOfInt_F z.toNat
  rw [e] at h2
  exact h2
theorem conv3_run : ∀ (z : Int) (w : World), (convert 3 24 (.int .i64 z)).run Try.prog w = .ok (.float .f64 (fi z)) w := fun z w => run_convert_int_float w 3 24 .i64 .f64 z (by rw [Try.underlying3]; rfl) Try.underlying24
theorem fi_fin {z : Int} (h0 : 0 ≤ z) (h : z < 9007199254740992) : fi z < 9218868437227405312 := by
  rw [fi_nat h0]
  obtain ⟨r, hr, e, _⟩ := rep_word (rep_int (m := z.toNat) (by omega)) false
  rw [e, dW_false]; exact hr
theorem fi_self {z : Int} (h0 : 0 ≤ z) (h : z < 9007199254740992) : (FloatKind.f64.format.order (fi z) (fi z) != some .eq) = false := by
  have hf := fi_fin h0 h
  have : FloatKind.f64.format.order (fi z) (fi z) = some .eq := order_self (by omega) (by unfold Num; omega)
  rw [this]; rfl
def mfl (m k0 i : Nat) : Nat → Nat := fun j => fi ((k0 : Int) + m * i + j)
set_option maxRecDepth 20000 in
set_option maxHeartbeats 3200000 in
theorem markDo_some (g n cap k0 : Nat) (f : Nat → Nat → Value) (lo : Nat) (X w : World) (hn : n ≤ 1048576) (hk0 : k0 ≤ 1000000) (hs : SegV w g 78 n 2 f) (hfl : ∀ i, i < n → ∀ j, j < 2 → ∃ x, f i j = .float .f64 x) (hB : Below lo X w) (hlo : lo ≤ g) :
    Calls Try.prog 46 #[.slice (some ⟨g, 0, none⟩) n cap, .int .i64 k0] w fun e w' => e = .returned (.int .i64 ((k0 : Int) + 2 * n)) ∧ SegV w' g 78 n 2 (fun i j => fcl (mfl 2 k0 i) j) ∧ Below lo X w' ∧ (∀ b, b ≠ g → w'.heap[b]? = w.heap[b]?) ∧ w'.heap.size = w.heap.size := by
  have HS : Hid (SegV w g 78 n 2 f ∧ Below lo X w ∧ lo ≤ g) := ⟨hs, hB, hlo⟩
  have HF : Hid (∀ i, i < n → ∀ j, j < 2 → ∃ x, f i j = .float .f64 x) := hfl
  have hst := st64
  have hcv := conv3_run
  clear hs hB hlo hfl
  have hnI : (n : Int) ≤ 1048576 := by omega
  have hkI : (k0 : Int) ≤ 1000000 := by omega
  go_enter Try.func46, Try.ntmps46
  go_wp2_with fail
  go_loopw [1, 5] (fun s1 s5 wr => ∃ i : Nat, i ≤ n ∧ s1 = .int .i64 ((k0 : Int) + 2 * i) ∧ s5 = .int .i64 i ∧ Hid (SegV wr g 78 n 2 (fun a j => if a < i then fcl (mfl 2 k0 a) j else f a j) ∧ Below lo X wr ∧ (∀ b, b ≠ g → wr.heap[b]? = w.heap[b]?) ∧ wr.heap.size = w.heap.size)) (fun _ s5 _ => n - (intOf s5).toNat)
  case atStart => exact ⟨0, Nat.zero_le _, by simp, rfl, HS.out.1.congr (fun a _ j _ => by simp), HS.out.2.1, fun _ _ => rfl, rfl⟩
  case round =>
    obtain ⟨i, hi, rfl, rfl, HH⟩ := hrel
    by_cases hin : i < n
    · obtain ⟨x0, e0⟩ := HF.out i hin 0 (by omega)
      have a0 := HH.out.1.cell hin (show 0 < 2 by omega)
      obtain ⟨x1, e1⟩ := HF.out i hin 1 (by omega)
      have a1 := HH.out.1.cell hin (show 1 < 2 by omega)
      have fz : ∀ j, wr.frozen? ⟨g, j, none⟩ = false := fun j => HH.out.1.frozen j
      simp only [Nat.add_zero, Nat.lt_irrefl, if_false, e0, e1] at a0 a1
      clear e0 e1
      have hiI : (i : Int) < n := by omega
      obtain ⟨K, hK⟩ : ∃ K : Int, K = (k0 : Int) + 2 * i := ⟨_, rfl⟩
      have hK0 : 0 ≤ K := by omega
      have hK1 : K ≤ 8000000 := by omega
      have HK : Hid (K = (k0 : Int) + 2 * i) := hK
      rw [← hK]
      have HW : Hid (SegV ((wr.setCell ⟨g, i * 2, none⟩ (.float .f64 (fi (K)))).setCell ⟨g, i * 2 + 1, none⟩ (.float .f64 (fi (K + 1)))) g 78 n 2 (fun a j => if a < i + 1 then fcl (mfl 2 k0 a) j else f a j) ∧ Below lo X ((wr.setCell ⟨g, i * 2, none⟩ (.float .f64 (fi (K)))).setCell ⟨g, i * 2 + 1, none⟩ (.float .f64 (fi (K + 1)))) ∧ (∀ b, b ≠ g → ((wr.setCell ⟨g, i * 2, none⟩ (.float .f64 (fi (K)))).setCell ⟨g, i * 2 + 1, none⟩ (.float .f64 (fi (K + 1)))).heap[b]? = w.heap[b]?) ∧ ((wr.setCell ⟨g, i * 2, none⟩ (.float .f64 (fi (K)))).setCell ⟨g, i * 2 + 1, none⟩ (.float .f64 (fi (K + 1)))).heap.size = w.heap.size) := by
        refine ⟨SegV.congr (SegV.set (SegV.set HH.out.1 hin (show 0 < 2 by omega) (.float .f64 (fi (K)))) hin (show 1 < 2 by omega) (.float .f64 (fi (K + 1)))) fun a ha j hj => ?_, (Below.setCell (Below.setCell HH.out.2.1 HS.out.2.2 _) HS.out.2.2 _), fun b hb => ?_, ?_⟩
        · by_cases c : a = i
          · subst c
            have e3 : a < a + 1 := by omega
            match j, hj with
            | 0, _ => simp [fcl, mfl, hK, e3]
            | 1, _ => simp [fcl, mfl, hK, e3]
          · by_cases c2 : a < i
            · simp [c, c2, Nat.lt_succ_of_lt c2]
            · have c3 : ¬ a < i + 1 := by omega
              simp [c, c2, c3]
        · rw [Below.heap_setCell _ _ _ _ (by simpa using hb), Below.heap_setCell _ _ _ _ (by simpa using hb)]
          exact HH.out.2.2.1 b hb
        · simpa using HH.out.2.2.2
      clear hK HH
      go_wp2
      go_roundw
      case rel => exact ⟨i + 1, by omega, by have := HK.out; congr 1; omega, by simp, HW⟩
      case measure => simp [intOf]; omega
    · obtain rfl : i = n := by omega
      go_wp2
      go_ret
      exact ⟨rfl, HH.out.1.congr fun a ha j _ => by simp [ha], HH.out.2⟩
set_option maxHeartbeats 1600000 in
theorem markDo_none (ao : Option Addr) (cap k0 : Nat) (w : World) : Calls Try.prog 46 #[.slice ao 0 cap, .int .i64 k0] w fun e w' => e = .returned (.int .i64 (k0 : Int)) ∧ w = w' := by
  go_enter Try.func46, Try.ntmps46
  go_wp2_with fail
  refine wp_loop_rounds 1 ?_
  rw [rounds_succ]
  go_wp2
  go_ret
  exact ⟨rfl, rfl⟩
theorem SegV.later {w w' : World} {b : Nat} {t : TypeId} {n m : Nat} {f : Nat → Nat → Value} (h : SegV w b t n m f) (k : Below w.heap.size w w') : SegV w' b t n m f := h.below k
theorem SegV.under {w w' : World} {b : Nat} {t : TypeId} {n m : Nat} {f : Nat → Nat → Value} (h : SegV w b t n m f) {a c : Nat} (k : Within a c w w') (hh : b < a ∨ c ≤ b) : SegV w' b t n m f := by
  rcases hh with hh | hh
  · exact h.of_block (k.below.block b hh)
  · exact h.of_block (k.above b hh h.lt)
theorem markDo_own {w : World} {g n cap : Nat} {F : Nat → Nat → Nat} (hn : n ≤ 1048576) (h : SegV w g 78 n 2 (fun i j => fcl (F i) j)) :
    Calls Try.prog 46 #[.slice (some ⟨g, 0, none⟩) n cap, .int .i64 1] w fun e w' => e = .returned (.int .i64 (1 + 2 * n)) ∧ True ∧ Within g (g + 1) w w' ∧ w'.heap.size = w.heap.size := by
  refine (markDo_some g n cap 1 _ g w w hn (by omega) h (fun i _ j _ => ⟨_, rfl⟩) (Below.refl _ _) (Nat.le_refl _)).mono ?_
  rintro e w' ⟨rfl, _, b, o, z⟩
  exact ⟨rfl, trivial, ⟨b, fun k h1 _ => o k (by omega)⟩, z⟩
theorem flux_both (n c : Nat) (s : Int) (G : Nat → Nat → Nat) (hn : n ≤ 1000000000000) (hc : W64 c) (hG : ∀ i, i < n → ∀ j, j < 2 → W64 (G i j)) : ∃ (cd : Int) (N : Nat) (F : Nat → Int) (l : Int), N ≤ 400 ∧ (∀ W b, SegV W b 78 n 2 (fun i j => fcl (G i) j) → FX 43 #[.slice (some ⟨b, 0, none⟩) n n, .int .i64 s, .float .f64 c] W cd N F l) ∧ (∀ W b, SegV W b 78 n 2 (fun i j => fcl (G i) j) → FX 44 #[.slice (some ⟨b, 0, none⟩) n n, .int .i64 s, .float .f64 c] W cd N F l) := by
  by_cases h1 : 400 < n
  · exact ⟨2, 0, fun _ => 0, 0, by omega, fun W b _ => (sFlux_many _ n n c s hn h1 W).mono fun e w' ⟨h1, h2⟩ => ⟨_, h1, Or.inl ⟨rfl, rfl⟩, h2⟩, fun W b _ => (iFlux_many _ n n c s hn h1 W).mono fun e w' ⟨h1, h2⟩ => ⟨_, h1, Or.inl ⟨rfl, rfl⟩, h2⟩⟩
  by_cases h2 : (1 ≤ s ∧ s ≤ 20) ∧ okCell c
  · obtain ⟨S, rfl⟩ := Int.eq_ofNat_of_zero_le (show 0 ≤ s by omega)
    refine ⟨0, S * S, fcell G S (cl c) n, flost G S (cl c) n, sq_le20 (by omega), fun W b h => ?_, fun W b h => ?_⟩
    · exact sFlux_ok b 0 n n c S (cl c) G W (by omega) (by omega) (by omega) (fc_own hc) h2.2 (fun i hi j hj => by have := h.cell hi hj; simpa using this) hG
    · exact iFlux_ok b 0 n n c S (cl c) G W (by omega) (by omega) (by omega) (fc_own hc) h2.2 (fun i hi j hj => by have := h.cell hi hj; simpa using this) hG
  · exact ⟨1, 0, fun _ => 0, 0, by omega, fun W b _ => (sFlux_form _ n n c s (by omega) h2 W).mono fun e w' ⟨h1, h2⟩ => ⟨_, h1, Or.inl ⟨rfl, rfl⟩, h2⟩, fun W b _ => (iFlux_form _ n n c s (by omega) h2 W).mono fun e w' ⟨h1, h2⟩ => ⟨_, h1, Or.inl ⟨rfl, rfl⟩, h2⟩⟩
end Go.Proofs.Ytcmgafgboepllaa
