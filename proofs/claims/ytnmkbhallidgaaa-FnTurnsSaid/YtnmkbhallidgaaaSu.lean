/- Sums of lists of complex numbers: contracts of the specification's and the program's. -/
import Derived.Test.YtnmkbhallidgaaaTz
import Derived.Test.YtnmkbhallidgaaaOwn2
namespace Go.Proofs.Ytnmkbhallidgaaa
open Go.RowKit Fl
set_option linter.unusedVariables false
set_option linter.unusedSimpArgs false
/-- The class of the i-th number. -/
def clZ (f : Nat → Nat → Nat) (i : Nat) : Option Nat × Option Nat := (cl (f i 0), cl (f i 1))
def sumL (f : Nat → Nat → Nat) : Nat → Option Nat × Option Nat
  | 0 => (cl 0, cl 0)
  | k + 1 => sumC .add (sumL f k) (clZ f k)
theorem cell_alloc_old' {W : World} {o : Obj} {p : Addr} {v : Value} (h : W.cell? p = some v) : (W.alloc o).cell? p = some v :=
  (((Below.refl W.heap.size W).alloc (Nat.le_refl _) o).cell (World.block_lt_of_cell? _ _ h)).trans h
set_option maxHeartbeats 3200000 in
theorem sSum_any (b n cap : Nat) (f : Nat → Nat → Nat) (w : World) (hn : n ≤ 1000000000000) (hs : SegM w b 28 n 2 f) (hf : ∀ i, i < n → Zc (f i 0) (f i 1) (clZ f i)) :
    ZV 33 #[.slice (some ⟨b, 0, none⟩) n cap] w (sumL f n) := by
  unfold ZV
  have later : ∀ (wr : World) (p : Addr) {v : Value}, w.cell? p = some v → Below w.heap.size w wr → wr.cell? p = some v := fun wr p v h hb => (hb.cell (World.block_lt_of_cell? _ _ h)).trans h
  have HF : Hid (∀ i, i < n → Zc (f i 0) (f i 1) (clZ f i)) := hf
  have hst := st64
  clear hf
  have h0 : Two w.heap.size w w.heap.size (w.heap.size + 1) 2 28 ((w.alloc (.cells #[.float .f64 0, .float .f64 0] 28)).alloc (.cells #[.float .f64 0, .float .f64 0] 28)) := by
    have h1 := own_made (X := w) (B := w.heap.size) (t := 28) #[.float .f64 0, .float .f64 0] (Nat.le_refl _)
    have h2 := own_made (X := w.alloc (.cells #[.float .f64 0, .float .f64 0] 28)) (B := w.heap.size) (t := 28) #[.float .f64 0, .float .f64 0] (by simp)
    refine ⟨h1.alloc _, ⟨h1.below.trans h2.below, by omega, ?_⟩, by omega⟩
    have := h2.block
    simpa using this
  go_enter Try.func33, Try.ntmps33
  go_wp2_with fail
  go_loopw [4] (fun i wr => ∃ k x y : Nat, k ≤ n ∧ i = .int .i64 k ∧ Two w.heap.size w w.heap.size (w.heap.size + 1) 2 28 wr ∧ wr.cell? ⟨w.heap.size + 1, 0, none⟩ = some (.float .f64 x) ∧ wr.cell? ⟨w.heap.size + 1, 1, none⟩ = some (.float .f64 y) ∧ Zc x y (sumL f k)) (fun i _ => n - (intOf i).toNat)
  case atStart =>
    refine ⟨0, 0, 0, Nat.zero_le _, rfl, ?_, ?_, ?_, ⟨by omega, by omega, rfl⟩⟩
    · first | exact h0 | exact (h0.setB _ _).setB _ _
    · simp
    · simp
  case round =>
    obtain ⟨k, x, y, hk, rfl, ht, c0, c1, hz⟩ := hrel
    clear h0
    by_cases hkn : k < n
    · have hz2 := HF.out k hkn
      have p0 : ∀ W, Two w.heap.size w w.heap.size (w.heap.size + 1) 2 28 W → W.cell? ⟨b, k * 2, none⟩ = some (.float .f64 (f k 0)) := fun W h => later W _ (hs.cell hkn (show 0 < 2 by omega)) h.a.below
      have p1 : ∀ W, Two w.heap.size w w.heap.size (w.heap.size + 1) 2 28 W → W.cell? ⟨b, k * 2 + 1, none⟩ = some (.float .f64 (f k 1)) := fun W h => later W _ (hs.cell hkn (show 1 < 2 by omega)) h.a.below
      clear hs later HF
      go_wp2_with fail
      have p0' := p0 _ ht
      have p1' := p1 _ ht
      go_region_with (first | (go_at_call 74; refine (sAdd_any hz hz2 _).mono ?_; rintro e w1 ⟨x', y', rfl, hz', hb1⟩; have hR1 := Two.call (Two.drew ht) hb1; have e0 := Own.cell hR1.b (show 0 < 2 by omega); have e1 := Own.cell hR1.b (show 1 < 2 by omega); have ef := fun j => Own.frozen hR1.b j))
      all_goals
        have HT : Hid (Two w.heap.size w w.heap.size (w.heap.size + 1) 2 28 ((w1.setCell ⟨w.heap.size + 1, 0, none⟩ (.float .f64 x')).setCell ⟨w.heap.size + 1, 1, none⟩ (.float .f64 y'))) := (hR1.setB _ _).setB _ _
        clear p0 p1 p0' p1' ht c0 c1 hb1 ef
        go_wp2
        go_roundw
        case rel => exact ⟨k + 1, x', y', by omega, by simp, HT.out, by go_simp, by go_simp, hz'⟩
        case measure => simp [intOf]; omega
    · obtain rfl : k = n := by omega
      have e0 := Own.cell ht.a (show 0 < 2 by omega)
      have e1 := Own.cell ht.a (show 1 < 2 by omega)
      have ef := fun j => Own.frozen ht.a j
      clear hs later HF
      go_wp2
      refine bodyPost_ret (v := Zv _ _) (by simp [results, Try.results33, go_sem, e0, e1] <;> exact ⟨rfl, rfl⟩) rfl ⟨_, _, rfl, hz, ((ht.setA _ _).setA _ _).a.below⟩
set_option maxHeartbeats 3200000 in
theorem iSum_any (b n cap : Nat) (f : Nat → Nat → Nat) (w : World) (hn : n ≤ 1000000000000) (hs : SegM w b 28 n 2 f) (hf : ∀ i, i < n → Zc (f i 0) (f i 1) (clZ f i)) :
    ZV 35 #[.slice (some ⟨b, 0, none⟩) n cap] w (sumL f n) := by
  unfold ZV
  have later : ∀ (wr : World) (p : Addr) {v : Value}, w.cell? p = some v → Below w.heap.size w wr → wr.cell? p = some v := fun wr p v h hb => (hb.cell (World.block_lt_of_cell? _ _ h)).trans h
  have HF : Hid (∀ i, i < n → Zc (f i 0) (f i 1) (clZ f i)) := hf
  have hst := st64
  clear hf
  have h0 : Two w.heap.size w w.heap.size (w.heap.size + 1) 2 28 ((w.alloc (.cells #[.float .f64 0, .float .f64 0] 28)).alloc (.cells #[.float .f64 0, .float .f64 0] 28)) := by
    have h1 := own_made (X := w) (B := w.heap.size) (t := 28) #[.float .f64 0, .float .f64 0] (Nat.le_refl _)
    have h2 := own_made (X := w.alloc (.cells #[.float .f64 0, .float .f64 0] 28)) (B := w.heap.size) (t := 28) #[.float .f64 0, .float .f64 0] (by simp)
    refine ⟨h1.alloc _, ⟨h1.below.trans h2.below, by omega, ?_⟩, by omega⟩
    have := h2.block
    simpa using this
  go_enter Try.func35, Try.ntmps35
  go_wp2_with fail
  go_loopw [9] (fun i wr => ∃ k x y : Nat, k ≤ n ∧ i = .int .i64 k ∧ Two w.heap.size w w.heap.size (w.heap.size + 1) 2 28 wr ∧ wr.cell? ⟨w.heap.size + 1, 0, none⟩ = some (.float .f64 x) ∧ wr.cell? ⟨w.heap.size + 1, 1, none⟩ = some (.float .f64 y) ∧ Zc x y (sumL f k)) (fun i _ => n - (intOf i).toNat)
  case atStart =>
    refine ⟨0, 0, 0, Nat.zero_le _, rfl, ?_, ?_, ?_, ⟨by omega, by omega, rfl⟩⟩
    · first | exact h0 | exact (h0.setB _ _).setB _ _
    · simp
    · simp
  case round =>
    obtain ⟨k, x, y, hk, rfl, ht, c0, c1, hz⟩ := hrel
    clear h0
    by_cases hkn : k < n
    · have hz2 := HF.out k hkn
      have p0 : wr.cell? ⟨b, k * 2, none⟩ = some (.float .f64 (f k 0)) := later wr _ (hs.cell hkn (show 0 < 2 by omega)) ht.a.below
      have p1 : wr.cell? ⟨b, k * 2 + 1, none⟩ = some (.float .f64 (f k 1)) := later wr _ (hs.cell hkn (show 1 < 2 by omega)) ht.a.below
      have hlt := ht.b.lt
      have HT0 : Hid (Two w.heap.size w w.heap.size (w.heap.size + 1) 2 28 wr) := ht
      have q0 : ∀ o, (wr.alloc o).cell? ⟨w.heap.size + 1, 0, none⟩ = some (.float .f64 x) := fun o => cell_alloc_old' c0
      have q1 : ∀ o, (wr.alloc o).cell? ⟨w.heap.size + 1, 1, none⟩ = some (.float .f64 y) := fun o => cell_alloc_old' c1
      have hne : ¬ w.heap.size + 1 = wr.heap.size := by omega
      clear hs later HF ht c0 c1
      go_wp2_with fail
      refine (iAdd_any hz hz2 _).mono ?_
      rintro e w1 ⟨x', y', rfl, hz', hb1⟩
      have hR1 : Two w.heap.size w w.heap.size (w.heap.size + 1) 2 28 w1 := by
        refine Two.call ?_ hb1
        exact HT0.out.alloc _
      have e0 := Own.cell hR1.b (show 0 < 2 by omega)
      have e1 := Own.cell hR1.b (show 1 < 2 by omega)
      have ef := fun j => Own.frozen hR1.b j
      have HT : Hid (Two w.heap.size w w.heap.size (w.heap.size + 1) 2 28 ((w1.setCell ⟨w.heap.size + 1, 0, none⟩ (.float .f64 x')).setCell ⟨w.heap.size + 1, 1, none⟩ (.float .f64 y'))) := (hR1.setB _ _).setB _ _
      clear p0 p1 q0 q1 hR1 hb1
      go_wp2
      go_roundw
      case rel => exact ⟨k + 1, x', y', by omega, by simp, HT.out, by go_simp, by go_simp, hz'⟩
      case measure => simp [intOf]; omega
    · obtain rfl : k = n := by omega
      have e0 := Own.cell ht.a (show 0 < 2 by omega)
      have e1 := Own.cell ht.a (show 1 < 2 by omega)
      have ef := fun j => Own.frozen ht.a j
      clear hs later HF
      go_wp2
      refine bodyPost_ret (v := Zv _ _) (by simp [results, Try.results35, go_sem, e0, e1] <;> exact ⟨rfl, rfl⟩) rfl ⟨_, _, rfl, hz, ((ht.setA _ _).setA _ _).a.below⟩
end Go.Proofs.Ytnmkbhallidgaaa
