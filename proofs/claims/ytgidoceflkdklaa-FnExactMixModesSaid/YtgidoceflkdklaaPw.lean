/- Powers of a field: both packages. -/
import Derived.Test.YtgidoceflkdklaaZl
namespace Go.Proofs.Ytgidoceflkdklaa
open Go.RowKit Fl
set_option linter.unusedVariables false
set_option linter.unusedSimpArgs false
/-- The class of the sum of the first k norms. -/
def powC (o : Nat → Option Nat × Option Nat) : Nat → Option Nat
  | 0 => cl 0
  | k + 1 => opC .add (powC o k) (normC (o k))
set_option maxRecDepth 20000 in
set_option maxHeartbeats 3200000 in
theorem sPow_any {w : World} {v : Value} {n : Nat} {f : Nat → Nat → Nat} {o : Nat → Option Nat × Option Nat} (h : RdM w v n 2 f) (hn : n ≤ 1000000000000) (hf : ∀ i, i < n → Zc (f i 0) (f i 1) (o i)) :
    FV 40 #[v] w (powC o n) := by
  unfold FV
  have later : ∀ (wr : World) (p : Addr) {v : Value}, w.cell? p = some v → Below w.heap.size w wr → wr.cell? p = some v := fun wr p v h hb => (hb.cell (World.block_lt_of_cell? _ _ h)).trans h
  have HF : Hid (∀ i, i < n → Zc (f i 0) (f i 1) (o i)) := hf
  have HR : Hid (RdM w v n 2 f) := h
  obtain ⟨ao, cap, rfl⟩ := h.form
  clear hf h
  have hst := st64
  go_enter Try.func40, Try.ntmps40
  go_wp2_with fail
  go_loopw [3, 4] (fun x i wr => ∃ k s : Nat, k ≤ n ∧ i = .int .i64 k ∧ x = .float .f64 s ∧ Fc s (powC o k) ∧ Below w.heap.size w wr) (fun _ i _ => n - (intOf i).toNat)
  case atStart => exact ⟨0, 0, Nat.zero_le _, rfl, rfl, ⟨by decide, rfl⟩, Below.refl _ _⟩
  case round =>
    obtain ⟨k, s, hk, rfl, rfl, hs, hb⟩ := hrel
    by_cases hkn : k < n
    · obtain ⟨b, off, cp, e, hc⟩ : ∃ b off cp, Value.slice ao n cap = .slice (some ⟨b, off, none⟩) n cp ∧ ∀ i, i < n → ∀ j, j < 2 → w.cell? ⟨b, off + i * 2 + j, none⟩ = some (.float .f64 (f i j)) := by
        rcases HR.out with ⟨_, _, _, e⟩ | ⟨b, off, cp, e, hc⟩
        · omega
        · exact ⟨b, off, cp, e, hc⟩
      simp only [Value.slice.injEq, true_and] at e
      obtain ⟨rfl, rfl⟩ := e
      have HZ := HF.out k hkn
      have p0 : wr.cell? ⟨b, off + k * 2, none⟩ = some (.float .f64 (f k 0)) := later wr _ (hc k hkn 0 (by omega)) hb
      have p1 : wr.cell? ⟨b, off + k * 2 + 1, none⟩ = some (.float .f64 (f k 1)) := later wr _ (hc k hkn 1 (by omega)) hb
      have HS : Hid (Fc s (powC o k) ∧ Below w.heap.size w wr) := ⟨hs, hb⟩
      clear hc later HF HR hs hb
      go_wp2_with fail
      refine (sNorm_any HZ _).mono ?_
      rintro e w1 ⟨y, rfl, hy, hb1⟩
      obtain ⟨z, q, hz, cz⟩ := flop .add (by simp) HS.out.1 hy w1
      have HB : Hid (Fc z (powC o (k + 1)) ∧ Below w.heap.size w (w1.drewN q)) := ⟨cz, below_drewN (HS.out.2.trans ((Below.refl _ _).mono HS.out.2.size |>.trans (hb1.mono (by have := HS.out.2.size; simp <;> omega)))) q⟩
      clear hb1 cz hy HS p0 p1
      go_wp2
      go_roundw
      case rel => exact ⟨k + 1, z, by omega, by simp, rfl, HB.out.1, HB.out.2⟩
      case measure => simp [intOf]; omega
    · obtain rfl : k = n := by omega
      clear later HF HR
      go_wp2
      go_ret
      exact ⟨s, rfl, hs, hb⟩
set_option maxRecDepth 20000 in
set_option maxHeartbeats 3200000 in
theorem iPow_any {w : World} {v : Value} {n : Nat} {f : Nat → Nat → Nat} {o : Nat → Option Nat × Option Nat} (h : RdM w v n 2 f) (hn : n ≤ 1000000000000) (hf : ∀ i, i < n → Zc (f i 0) (f i 1) (o i)) :
    FV 41 #[v] w (powC o n) := by
  unfold FV
  have later : ∀ (wr : World) (p : Addr) {v : Value}, w.cell? p = some v → Below w.heap.size w wr → wr.cell? p = some v := fun wr p v h hb => (hb.cell (World.block_lt_of_cell? _ _ h)).trans h
  have HF : Hid (∀ i, i < n → Zc (f i 0) (f i 1) (o i)) := hf
  have HR : Hid (RdM w v n 2 f) := h
  obtain ⟨ao, cap, rfl⟩ := h.form
  clear hf h
  have hst := st64
  go_enter Try.func41, Try.ntmps41
  go_wp2_with fail
  go_loopw [3, 8] (fun x i wr => ∃ k s : Nat, k ≤ n ∧ i = .int .i64 k ∧ x = .float .f64 s ∧ Fc s (powC o k) ∧ Below w.heap.size w wr) (fun _ i _ => n - (intOf i).toNat)
  case atStart => exact ⟨0, 0, Nat.zero_le _, rfl, rfl, ⟨by decide, rfl⟩, Below.refl _ _⟩
  case round =>
    obtain ⟨k, s, hk, rfl, rfl, hs, hb⟩ := hrel
    by_cases hkn : k < n
    · obtain ⟨b, off, cp, e, hc⟩ : ∃ b off cp, Value.slice ao n cap = .slice (some ⟨b, off, none⟩) n cp ∧ ∀ i, i < n → ∀ j, j < 2 → w.cell? ⟨b, off + i * 2 + j, none⟩ = some (.float .f64 (f i j)) := by
        rcases HR.out with ⟨_, _, _, e⟩ | ⟨b, off, cp, e, hc⟩
        · omega
        · exact ⟨b, off, cp, e, hc⟩
      simp only [Value.slice.injEq, true_and] at e
      obtain ⟨rfl, rfl⟩ := e
      have HZ := HF.out k hkn
      have p0 : wr.cell? ⟨b, off + k * 2, none⟩ = some (.float .f64 (f k 0)) := later wr _ (hc k hkn 0 (by omega)) hb
      have p1 : wr.cell? ⟨b, off + k * 2 + 1, none⟩ = some (.float .f64 (f k 1)) := later wr _ (hc k hkn 1 (by omega)) hb
      have HS : Hid (Fc s (powC o k) ∧ Below w.heap.size w wr) := ⟨hs, hb⟩
      clear hc later HF HR hs hb
      go_wp2_with fail
      refine (iNorm_any HZ _).mono ?_
      rintro e w1 ⟨y, rfl, hy, hb1⟩
      obtain ⟨z, q, hz, cz⟩ := flop .add (by simp) HS.out.1 hy w1
      have HB : Hid (Fc z (powC o (k + 1)) ∧ Below w.heap.size w (w1.drewN q)) := ⟨cz, below_drewN (HS.out.2.trans (((Below.refl _ _).alloc (Nat.le_refl _) _).mono HS.out.2.size |>.trans (hb1.mono (by have := HS.out.2.size; simp <;> omega)))) q⟩
      clear hb1 cz hy HS p0 p1
      go_wp2
      go_roundw
      case rel => exact ⟨k + 1, z, by omega, by simp, rfl, HB.out.1, HB.out.2⟩
      case measure => simp [intOf]; omega
    · obtain rfl : k = n := by omega
      clear later HF HR
      go_wp2
      go_ret
      exact ⟨s, rfl, hs, hb⟩
end Go.Proofs.Ytgidoceflkdklaa
