/- Chains of plates: contracts of the specification's and the program's. -/
import Derived.Test.YtnpcldgacdgplaaCh
namespace Go.Proofs.Ytnpcldgacdgplaa
open Go.RowKit Fl
set_option linter.unusedVariables false
set_option linter.unusedSimpArgs false
set_option maxHeartbeats 6400000 in
theorem iChain_any (b n cap : Nat) (f : Nat → Nat → Nat) (w : World) (hn : n ≤ 1000000000000) (hs : SegM w b 43 n 8 f) (hf : ∀ i, i < n → Pc (f i 0) (f i 1) (f i 2) (f i 3) (f i 4) (f i 5) (f i 6) (f i 7) (clP (f i))) :
    PV 80 #[.slice (some ⟨b, 0, none⟩) n cap] w (chainL f n) := by
  unfold PV
  have later : ∀ (wr : World) (p : Addr) {v : Value}, w.cell? p = some v → Below w.heap.size w wr → wr.cell? p = some v := fun wr p v h hb => (hb.cell (World.block_lt_of_cell? _ _ h)).trans h
  have HF : Hid (∀ i, i < n → Pc (f i 0) (f i 1) (f i 2) (f i 3) (f i 4) (f i 5) (f i 6) (f i 7) (clP (f i))) := hf
  have hst := st64
  clear hf
  have h0 : Two w.heap.size w w.heap.size (w.heap.size + 1) 8 43 ((w.alloc (.cells #[.float .f64 0, .float .f64 0, .float .f64 0, .float .f64 0, .float .f64 0, .float .f64 0, .float .f64 0, .float .f64 0] 43)).alloc (.cells #[.float .f64 4607182418800017408, .float .f64 0, .float .f64 0, .float .f64 0, .float .f64 0, .float .f64 0, .float .f64 4607182418800017408, .float .f64 0] 43)) := by
    have h1 := own_made (X := w) (B := w.heap.size) (t := 43) #[.float .f64 0, .float .f64 0, .float .f64 0, .float .f64 0, .float .f64 0, .float .f64 0, .float .f64 0, .float .f64 0] (Nat.le_refl _)
    have h2 := own_made (X := w.alloc (.cells #[.float .f64 0, .float .f64 0, .float .f64 0, .float .f64 0, .float .f64 0, .float .f64 0, .float .f64 0, .float .f64 0] 43)) (B := w.heap.size) (t := 43) #[.float .f64 4607182418800017408, .float .f64 0, .float .f64 0, .float .f64 0, .float .f64 0, .float .f64 0, .float .f64 4607182418800017408, .float .f64 0] (by simp)
    refine ⟨h1.alloc _, ⟨h1.below.trans h2.below, by omega, ?_⟩, by omega⟩
    have := h2.block
    simpa using this
  go_enter Try.func80, Try.ntmps80
  go_wp2_with fail
  go_loopw [11] (fun i wr => ∃ k x0 x1 x2 x3 x4 x5 x6 x7 : Nat, k ≤ n ∧ i = .int .i64 k ∧ Two w.heap.size w w.heap.size (w.heap.size + 1) 8 43 wr ∧ wr.cell? ⟨w.heap.size + 1, 0, none⟩ = some (.float .f64 x0) ∧ wr.cell? ⟨w.heap.size + 1, 1, none⟩ = some (.float .f64 x1) ∧ wr.cell? ⟨w.heap.size + 1, 2, none⟩ = some (.float .f64 x2) ∧ wr.cell? ⟨w.heap.size + 1, 3, none⟩ = some (.float .f64 x3) ∧ wr.cell? ⟨w.heap.size + 1, 4, none⟩ = some (.float .f64 x4) ∧ wr.cell? ⟨w.heap.size + 1, 5, none⟩ = some (.float .f64 x5) ∧ wr.cell? ⟨w.heap.size + 1, 6, none⟩ = some (.float .f64 x6) ∧ wr.cell? ⟨w.heap.size + 1, 7, none⟩ = some (.float .f64 x7) ∧ Pc x0 x1 x2 x3 x4 x5 x6 x7 (chainL f k)) (fun i _ => n - (intOf i).toNat)
  case atStart =>
    refine ⟨0, 4607182418800017408, 0, 0, 0, 0, 0, 4607182418800017408, 0, Nat.zero_le _, rfl, ?_, ?_, ?_, ?_, ?_, ?_, ?_, ?_, ?_, ?_⟩
    · exact h0
    · go_simp
    · go_simp
    · go_simp
    · go_simp
    · go_simp
    · go_simp
    · go_simp
    · go_simp
    · exact ⟨⟨by omega, by omega, rfl⟩, ⟨by omega, by omega, rfl⟩, ⟨by omega, by omega, rfl⟩, ⟨by omega, by omega, rfl⟩⟩
  case round =>
    obtain ⟨k, x0, x1, x2, x3, x4, x5, x6, x7, hk, rfl, ht, c0, c1, c2, c3, c4, c5, c6, c7, hz⟩ := hrel
    clear h0
    by_cases hkn : k < n
    · have hz2 := HF.out k hkn
      have p0 : wr.cell? ⟨b, k * 8, none⟩ = some (.float .f64 (f k 0)) := later wr _ (hs.cell hkn (show 0 < 8 by omega)) ht.a.below
      have p1 : wr.cell? ⟨b, k * 8 + 1, none⟩ = some (.float .f64 (f k 1)) := later wr _ (hs.cell hkn (show 1 < 8 by omega)) ht.a.below
      have p2 : wr.cell? ⟨b, k * 8 + 2, none⟩ = some (.float .f64 (f k 2)) := later wr _ (hs.cell hkn (show 2 < 8 by omega)) ht.a.below
      have p3 : wr.cell? ⟨b, k * 8 + 3, none⟩ = some (.float .f64 (f k 3)) := later wr _ (hs.cell hkn (show 3 < 8 by omega)) ht.a.below
      have p4 : wr.cell? ⟨b, k * 8 + 4, none⟩ = some (.float .f64 (f k 4)) := later wr _ (hs.cell hkn (show 4 < 8 by omega)) ht.a.below
      have p5 : wr.cell? ⟨b, k * 8 + 5, none⟩ = some (.float .f64 (f k 5)) := later wr _ (hs.cell hkn (show 5 < 8 by omega)) ht.a.below
      have p6 : wr.cell? ⟨b, k * 8 + 6, none⟩ = some (.float .f64 (f k 6)) := later wr _ (hs.cell hkn (show 6 < 8 by omega)) ht.a.below
      have p7 : wr.cell? ⟨b, k * 8 + 7, none⟩ = some (.float .f64 (f k 7)) := later wr _ (hs.cell hkn (show 7 < 8 by omega)) ht.a.below
      have hlt := ht.b.lt
      have HT0 : Hid (Two w.heap.size w w.heap.size (w.heap.size + 1) 8 43 wr) := ht
      have q0 : ∀ o, (wr.alloc o).cell? ⟨w.heap.size + 1, 0, none⟩ = some (.float .f64 x0) := fun o => alloc_keeps c0
      have q1 : ∀ o, (wr.alloc o).cell? ⟨w.heap.size + 1, 1, none⟩ = some (.float .f64 x1) := fun o => alloc_keeps c1
      have q2 : ∀ o, (wr.alloc o).cell? ⟨w.heap.size + 1, 2, none⟩ = some (.float .f64 x2) := fun o => alloc_keeps c2
      have q3 : ∀ o, (wr.alloc o).cell? ⟨w.heap.size + 1, 3, none⟩ = some (.float .f64 x3) := fun o => alloc_keeps c3
      have q4 : ∀ o, (wr.alloc o).cell? ⟨w.heap.size + 1, 4, none⟩ = some (.float .f64 x4) := fun o => alloc_keeps c4
      have q5 : ∀ o, (wr.alloc o).cell? ⟨w.heap.size + 1, 5, none⟩ = some (.float .f64 x5) := fun o => alloc_keeps c5
      have q6 : ∀ o, (wr.alloc o).cell? ⟨w.heap.size + 1, 6, none⟩ = some (.float .f64 x6) := fun o => alloc_keeps c6
      have q7 : ∀ o, (wr.alloc o).cell? ⟨w.heap.size + 1, 7, none⟩ = some (.float .f64 x7) := fun o => alloc_keeps c7
      have hne : ¬ w.heap.size + 1 = wr.heap.size := by omega
      clear hs later HF ht c0 c1 c2 c3 c4 c5 c6 c7
      go_wp2_with fail
      refine (iMulP_any hz hz2 _).mono ?_
      rintro e w1 ⟨y0, y1, y2, y3, y4, y5, y6, y7, rfl, hz', hb1⟩
      have hR1 : Two w.heap.size w w.heap.size (w.heap.size + 1) 8 43 w1 := Two.call (HT0.out.alloc _) hb1
      have e0 := Own.cell hR1.b (show 0 < 8 by omega)
      have e1 := Own.cell hR1.b (show 1 < 8 by omega)
      have e2 := Own.cell hR1.b (show 2 < 8 by omega)
      have e3 := Own.cell hR1.b (show 3 < 8 by omega)
      have e4 := Own.cell hR1.b (show 4 < 8 by omega)
      have e5 := Own.cell hR1.b (show 5 < 8 by omega)
      have e6 := Own.cell hR1.b (show 6 < 8 by omega)
      have e7 := Own.cell hR1.b (show 7 < 8 by omega)
      have ef := fun j => Own.frozen hR1.b j
      have HT : Hid (Two w.heap.size w w.heap.size (w.heap.size + 1) 8 43 ((((((((w1.setCell ⟨w.heap.size + 1, 0, none⟩ (.float .f64 y0)).setCell ⟨w.heap.size + 1, 1, none⟩ (.float .f64 y1)).setCell ⟨w.heap.size + 1, 2, none⟩ (.float .f64 y2)).setCell ⟨w.heap.size + 1, 3, none⟩ (.float .f64 y3)).setCell ⟨w.heap.size + 1, 4, none⟩ (.float .f64 y4)).setCell ⟨w.heap.size + 1, 5, none⟩ (.float .f64 y5)).setCell ⟨w.heap.size + 1, 6, none⟩ (.float .f64 y6)).setCell ⟨w.heap.size + 1, 7, none⟩ (.float .f64 y7))) := ((((((((hR1.setB _ _).setB _ _).setB _ _).setB _ _).setB _ _).setB _ _).setB _ _).setB _ _)
      clear p0 q0 p1 q1 p2 q2 p3 q3 p4 q4 p5 q5 p6 q6 p7 q7 hR1 hb1
      go_wp2
      go_roundw
      case rel => exact ⟨k + 1, y0, y1, y2, y3, y4, y5, y6, y7, by omega, by simp, HT.out, by go_simp, by go_simp, by go_simp, by go_simp, by go_simp, by go_simp, by go_simp, by go_simp, hz'⟩
      case measure => simp [intOf]; omega
    · obtain rfl : k = n := by omega
      have e0 := Own.cell ht.a (show 0 < 8 by omega)
      have e1 := Own.cell ht.a (show 1 < 8 by omega)
      have e2 := Own.cell ht.a (show 2 < 8 by omega)
      have e3 := Own.cell ht.a (show 3 < 8 by omega)
      have e4 := Own.cell ht.a (show 4 < 8 by omega)
      have e5 := Own.cell ht.a (show 5 < 8 by omega)
      have e6 := Own.cell ht.a (show 6 < 8 by omega)
      have e7 := Own.cell ht.a (show 7 < 8 by omega)
      have ef := fun j => Own.frozen ht.a j
      clear hs later HF
      go_wp2
      refine bodyPost_ret (v := Pv _ _ _ _ _ _ _ _) (by simp [results, Try.results80, go_sem, e0, e1, e2, e3, e4, e5, e6, e7] <;> exact ⟨rfl, rfl, rfl, rfl, rfl, rfl, rfl, rfl⟩) rfl ⟨_, _, _, _, _, _, _, _, rfl, hz, Own.below (B := w.heap.size) (r := w.heap.size) (n := 8) (t := 43) (Two.a (s := w.heap.size + 1) ?_)⟩
      with_reducible exact ((((((((ht.setA _ _).setA _ _).setA _ _).setA _ _).setA _ _).setA _ _).setA _ _).setA _ _)
end Go.Proofs.Ytnpcldgacdgplaa
