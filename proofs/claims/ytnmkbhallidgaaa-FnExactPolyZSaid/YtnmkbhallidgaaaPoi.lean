/- Polynomials of complex numbers: contracts of the specification's and the program's. -/
import Derived.Test.YtnmkbhallidgaaaPo
namespace Go.Proofs.Ytnmkbhallidgaaa
open Go.RowKit Fl
set_option linter.unusedVariables false
set_option linter.unusedSimpArgs false
set_option maxHeartbeats 6400000 in
theorem iPoly_any (b n cap : Nat) (f : Nat → Nat → Nat) {c d : Nat} {q : Option Nat × Option Nat} (w : World) (hn : n ≤ 1000000000000) (hs : SegM w b 28 n 2 f) (hf : ∀ i, i < n → Zc (f i 0) (f i 1) (clZ f i)) (hq : Zc c d q) :
    ZV 38 #[.slice (some ⟨b, 0, none⟩) n cap, Zv c d] w (polyL f n q n) := by
  unfold ZV
  have later : ∀ (wr : World) (p : Addr) {v : Value}, w.cell? p = some v → Two (w.heap.size + 1) (w.alloc (.cells #[.float .f64 c, .float .f64 d] 28)) (w.heap.size + 1) (w.heap.size + 1 + 1) 2 28 wr → wr.cell? p = some v := fun wr p v h hb => by
    have hlt := World.block_lt_of_cell? _ _ h
    rw [hb.a.below.cell (by omega)]
    exact cell_alloc_old' h
  have HF : Hid (∀ i, i < n → Zc (f i 0) (f i 1) (clZ f i)) := hf
  have hst := st64
  clear hf
  have h0 : Two (w.heap.size + 1) (w.alloc (.cells #[.float .f64 c, .float .f64 d] 28)) (w.heap.size + 1) (w.heap.size + 1 + 1) 2 28 (((w.alloc (.cells #[.float .f64 c, .float .f64 d] 28)).alloc (.cells #[.float .f64 0, .float .f64 0] 28)).alloc (.cells #[.float .f64 0, .float .f64 0] 28)) := by
    have h1 := own_made (X := (w.alloc (.cells #[.float .f64 c, .float .f64 d] 28))) (B := w.heap.size + 1) (t := 28) #[.float .f64 0, .float .f64 0] (by simp)
    have h2 := own_made (X := (w.alloc (.cells #[.float .f64 c, .float .f64 d] 28)).alloc (.cells #[.float .f64 0, .float .f64 0] 28)) (B := w.heap.size + 1) (t := 28) #[.float .f64 0, .float .f64 0] (by simp)
    refine ⟨?_, ⟨h1.below.trans h2.below, by omega, ?_⟩, by omega⟩
    · have := h1.alloc (.cells #[.float .f64 0, .float .f64 0] 28)
      simpa using this
    · have := h2.block
      simpa using this
  have zz : ∀ W, Two (w.heap.size + 1) (w.alloc (.cells #[.float .f64 c, .float .f64 d] 28)) (w.heap.size + 1) (w.heap.size + 1 + 1) 2 28 W → W.cell? ⟨w.heap.size, 0, none⟩ = some (.float .f64 c) ∧ W.cell? ⟨w.heap.size, 1, none⟩ = some (.float .f64 d) := fun W h => ⟨by rw [h.a.below.cell (by simp)]; simp, by rw [h.a.below.cell (by simp)]; simp⟩
  go_enter Try.func38, Try.ntmps38
  go_wp2_with fail
  go_loopw [10] (fun i wr => ∃ k x y : Nat, k ≤ n ∧ i = .int .i64 (k) ∧ Two (w.heap.size + 1) (w.alloc (.cells #[.float .f64 c, .float .f64 d] 28)) (w.heap.size + 1) (w.heap.size + 1 + 1) 2 28 wr ∧ wr.cell? ⟨w.heap.size + 1 + 1, 0, none⟩ = some (.float .f64 x) ∧ wr.cell? ⟨w.heap.size + 1 + 1, 1, none⟩ = some (.float .f64 y) ∧ Zc x y (polyL f n q k)) (fun i _ => n - (intOf i).toNat)
  case atStart =>
    refine ⟨0, 0, 0, Nat.zero_le _, rfl, ?_, ?_, ?_, ⟨by omega, by omega, rfl⟩⟩
    · exact h0
    · go_simp
    · go_simp
  case round =>
    obtain ⟨k, x, y, hk, rfl, ht, c0, c1, hz⟩ := hrel
    clear h0
    by_cases hkn : k < n
    · obtain ⟨m, hm⟩ : ∃ m : Nat, (n : Int) - 1 - k = m := ⟨n - 1 - k, by omega⟩
      have hmn : m < n := by omega
      have em : n - 1 - k = m := by omega
      have hz2 := HF.out m hmn
      have p0 : ∀ W, Two (w.heap.size + 1) (w.alloc (.cells #[.float .f64 c, .float .f64 d] 28)) (w.heap.size + 1) (w.heap.size + 1 + 1) 2 28 W → W.cell? ⟨b, m * 2, none⟩ = some (.float .f64 (f m 0)) := fun W h => later W _ (hs.cell hmn (show 0 < 2 by omega)) h
      have p1 : ∀ W, Two (w.heap.size + 1) (w.alloc (.cells #[.float .f64 c, .float .f64 d] 28)) (w.heap.size + 1) (w.heap.size + 1 + 1) 2 28 W → W.cell? ⟨b, m * 2 + 1, none⟩ = some (.float .f64 (f m 1)) := fun W h => later W _ (hs.cell hmn (show 1 < 2 by omega)) h
      have z0 : ∀ W, Two (w.heap.size + 1) (w.alloc (.cells #[.float .f64 c, .float .f64 d] 28)) (w.heap.size + 1) (w.heap.size + 1 + 1) 2 28 W → W.cell? ⟨w.heap.size, 0, none⟩ = some (.float .f64 c) := fun W h => (zz W h).1
      have z1 : ∀ W, Two (w.heap.size + 1) (w.alloc (.cells #[.float .f64 c, .float .f64 d] 28)) (w.heap.size + 1) (w.heap.size + 1 + 1) 2 28 W → W.cell? ⟨w.heap.size, 1, none⟩ = some (.float .f64 d) := fun W h => (zz W h).2
      have HM : Hid ((n : Int) - 1 - k = m ∧ n - 1 - k = m) := ⟨hm, em⟩
      skip
      have i0 : 0 ≤ (n : Int) - 1 - k := by omega
      have i1 : (n : Int) - 1 - k < n := by omega
      have i2 : ((n : Int) - 1 - k).toNat = m := by omega
      have i3 : IntKind.i64.wrap ((n : Int) - 1) = n - 1 := by rw [IntKind.wrap_i64]; omega
      have i4 : IntKind.i64.wrap ((n : Int) - 1 - k) = n - 1 - k := by rw [IntKind.wrap_i64]; omega
      clear hs later HF zz em hm
      go_wp2_with fail
      have p0' := p0 _ ht
      have p1' := p1 _ ht
      have z0' := z0 _ ht
      have z1' := z1 _ ht
      go_region_with (first | (go_at_call 25; refine (iMul_any hz hq _).mono ?_; rintro e w1 ⟨x1, y1, rfl, hz1, hb1⟩; have hR1 := Two.call (Two.drew ht) hb1; have r0 := p0 _ hR1; have r1 := p1 _ hR1) | (go_at_call 75; refine (iAdd_any hz1 hz2 _).mono ?_; rintro e w2 ⟨x', y', rfl, hz', hb2⟩; have hR2 := Two.call hR1 hb2; have e0 := Own.cell hR2.b (show 0 < 2 by omega); have e1 := Own.cell hR2.b (show 1 < 2 by omega); have ef := fun j => Own.frozen hR2.b j))
      all_goals
        have HT : Hid (Two (w.heap.size + 1) (w.alloc (.cells #[.float .f64 c, .float .f64 d] 28)) (w.heap.size + 1) (w.heap.size + 1 + 1) 2 28 ((w2.setCell ⟨w.heap.size + 1 + 1, 0, none⟩ (.float .f64 x')).setCell ⟨w.heap.size + 1 + 1, 1, none⟩ (.float .f64 y'))) := (hR2.setB _ _).setB _ _
        clear p0 p1 p0' p1' z0 z1 z0' z1' r0 r1 ht c0 c1 hb1 hb2 ef hR1 hR2 i0 i1 i2 i3 i4
        go_wp2
        go_roundw
        case rel => exact ⟨k + 1, x', y', by omega, by simp, HT.out, by go_simp, by go_simp, by have e := HM.out.2; unfold polyL; rw [e]; exact hz'⟩
        case measure => simp [intOf]; omega
    · obtain rfl : k = n := by omega
      have e0 := Own.cell ht.a (show 0 < 2 by omega)
      have e1 := Own.cell ht.a (show 1 < 2 by omega)
      have ef := fun j => Own.frozen ht.a j
      clear hs later HF zz
      go_wp2
      refine bodyPost_ret (v := Zv _ _) (by simp [results, Try.results38, go_sem, e0, e1] <;> exact ⟨rfl, rfl⟩) rfl ⟨_, _, rfl, hz, Below.trans ?_ (((ht.setA _ _).setA _ _).a.below.mono (by omega))⟩
      go_grown
end Go.Proofs.Ytnmkbhallidgaaa
