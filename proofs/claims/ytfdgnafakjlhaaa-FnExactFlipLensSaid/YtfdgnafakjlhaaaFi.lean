/- FlipLens, as the program has it. -/
import Derived.Test.YtfdgnafakjlhaaaFl
import Derived.Test.YtfdgnafakjlhaaaPb
import Derived.Handy
import Derived.Deep.RegionHeld3
namespace Go.Proofs.Ytfdgnafakjlhaaa
open Go.RowKit
set_option linter.unusedVariables false
set_option linter.unusedSimpArgs false
theorem make0Ps (n : Nat) (hn : n ≤ 100000000) (w : World) : (Instr.makeSlice 31 (.int .i64 0) (.int .i64 (n : Int))).run Try.prog w = .ok (.slice (some ⟨w.heap.size, 0, none⟩) 0 n) (w.alloc (.cells (madeCells #[.int .i64 0, .int .i64 0, .int .i64 0, .int .i64 0, .int .i64 0, .int .i64 0, .int .i64 0, .int .i64 0, .int .i64 0, .int .i64 0, .bool false] (n * 11)) 45)) := by
  obtain ⟨i, hi, hzz⟩ := Option.map_eq_some_iff.1 infoPs
  simp only [Prod.mk.injEq] at hzz
  obtain ⟨hz, hs, hb⟩ := hzz
  have hr := run_make (P := Try.prog) w 31 45 i _ Try.underlying31 hi hz .i64 .i64 0 n (by omega) (by omega) (by rw [hb]; omega) (by omega)
  rw [hs] at hr
  simpa [Value.cells] using hr
set_option maxRecDepth 20000 in
set_option maxHeartbeats 3200000 in
theorem iflip_some (b off n cap : Nat) (G : Nat → Ps) (w : World) (hn : n ≤ 100000000) (hc : ∀ i, i < n → ∀ j, j < 11 → w.cell? ⟨b, off + i * 11 + j, none⟩ = some (pcell (G i) j)) :
    Calls Try.prog 33 #[.slice (some ⟨b, off, none⟩) n cap] w fun e w' => ∃ g cp, e = .returned (.slice (some ⟨g, 0, none⟩) n cp) ∧ w.heap.size ≤ g ∧ SegV w' g 45 n 11 (fun i j => pcell (flip G n i) j) ∧ Below w.heap.size w w' := by
  have HC : Hid (∀ (W : World), Below w.heap.size w W → ∀ i, i < n → ∀ j, j < 11 → W.cell? ⟨b, off + i * 11 + j, none⟩ = some (pcell (G i) j)) := fun W hb i hi j hj => (hb.cell (World.block_lt_of_cell? _ _ (hc i hi j hj))).trans (hc i hi j hj)
  clear hc
  have HZ : Hid (Fl w G n (w.alloc (.cells (madeCells #[.int .i64 0, .int .i64 0, .int .i64 0, .int .i64 0, .int .i64 0, .int .i64 0, .int .i64 0, .int .i64 0, .int .i64 0, .int .i64 0, .bool false] (n * 11)) 45)) (.slice (some ⟨w.heap.size, 0, none⟩) 0 n) 0) := ⟨owns_made w _ n 11 45 (by unfold maxLen; omega), by simp, (Below.refl _ _).alloc (Nat.le_refl _) _⟩
  have hmk := make0Ps n hn
  go_enter Try.func33, Try.ntmps33
  go_wp2_with fail
  clear hmk
  go_loopw [3, 4] (fun v i wr => ∃ m k : Nat, m + k = n ∧ i = .int .i64 ((m : Int) - 1) ∧ Hid (Fl w G n wr v k)) (fun _ i _ => ((intOf i) + 1).toNat)
  case atStart => exact ⟨n, 0, rfl, by first | rfl | simp, HZ⟩
  case round =>
    obtain ⟨m, k, hm, rfl, HF⟩ := hrel
    clear HZ
    rcases m with _ | I
    · obtain rfl : k = n := by omega
      obtain ⟨g, cp, rfl, hg, hs⟩ := owned_segV (f := fun i j => pcell (flip G k i) j) (fun i => pl_len _) (fun i _ j hj => pl_at _ j hj) HF.out.own HF.out.nn
      have HS : Hid (SegV wr g 45 k 11 (fun i j => pcell (flip G k i) j) ∧ Below w.heap.size w wr) := ⟨hs, HF.out.below⟩
      clear hs
      rw [show (((0 : Nat) : Int) - 1) = -1 from rfl]
      go_wp2
      go_ret
      exact ⟨g, cp, rfl, hg, HS.out⟩
    · have hIn : I < n := by omega
      rw [show (((I + 1 : Nat) : Int) - 1) = (I : Int) by omega]
      have hII : (I : Int) < n := by omega
      have g0 : wr.cell? ⟨b, off + I * 11, none⟩ = some (.int .i64 (G I).c.n) := HC.out wr HF.out.below I hIn 0 (by omega)
      have g1 : wr.cell? ⟨b, off + I * 11 + 1, none⟩ = some (.int .i64 (G I).c.d) := HC.out wr HF.out.below I hIn 1 (by omega)
      have g2 : wr.cell? ⟨b, off + I * 11 + 2, none⟩ = some (.int .i64 (G I).g.n) := HC.out wr HF.out.below I hIn 2 (by omega)
      have g3 : wr.cell? ⟨b, off + I * 11 + 3, none⟩ = some (.int .i64 (G I).g.d) := HC.out wr HF.out.below I hIn 3 (by omega)
      have g4 : wr.cell? ⟨b, off + I * 11 + 4, none⟩ = some (.int .i64 (G I).x.n) := HC.out wr HF.out.below I hIn 4 (by omega)
      have g5 : wr.cell? ⟨b, off + I * 11 + 5, none⟩ = some (.int .i64 (G I).x.d) := HC.out wr HF.out.below I hIn 5 (by omega)
      have g6 : wr.cell? ⟨b, off + I * 11 + 6, none⟩ = some (.int .i64 (G I).s.n) := HC.out wr HF.out.below I hIn 6 (by omega)
      have g7 : wr.cell? ⟨b, off + I * 11 + 7, none⟩ = some (.int .i64 (G I).s.d) := HC.out wr HF.out.below I hIn 7 (by omega)
      have g8 : wr.cell? ⟨b, off + I * 11 + 8, none⟩ = some (.int .i64 (G I).k.n) := HC.out wr HF.out.below I hIn 8 (by omega)
      have g9 : wr.cell? ⟨b, off + I * 11 + 9, none⟩ = some (.int .i64 (G I).k.d) := HC.out wr HF.out.below I hIn 9 (by omega)
      have g10 : wr.cell? ⟨b, off + I * 11 + 10, none⟩ = some (.bool (G I).t) := HC.out wr HF.out.below I hIn 10 (by omega)
      go_wp2_with fail
      refine (iwhole_any 0 _).mono ?_
      rintro e w1 ⟨rfl, hb⟩
      have c1_0 : w1.cell? ⟨wr.heap.size, 0, none⟩ = some (.int .i64 (wrap64 (-(G I).c.n))) := (hb.cell (p := ⟨wr.heap.size, 0, none⟩) (by first | (simp; done) | (simp; omega))).trans (by go_simp)
      have c1_1 : w1.cell? ⟨wr.heap.size, 1, none⟩ = some (.int .i64 (G I).c.d) := (hb.cell (p := ⟨wr.heap.size, 1, none⟩) (by first | (simp; done) | (simp; omega))).trans (by go_simp)
      have c1_2 : w1.cell? ⟨wr.heap.size, 2, none⟩ = some (.int .i64 (G I).g.n) := (hb.cell (p := ⟨wr.heap.size, 2, none⟩) (by first | (simp; done) | (simp; omega))).trans (by go_simp)
      have c1_3 : w1.cell? ⟨wr.heap.size, 3, none⟩ = some (.int .i64 (G I).g.d) := (hb.cell (p := ⟨wr.heap.size, 3, none⟩) (by first | (simp; done) | (simp; omega))).trans (by go_simp)
      have c1_4 : w1.cell? ⟨wr.heap.size, 4, none⟩ = some (.int .i64 (G I).x.n) := (hb.cell (p := ⟨wr.heap.size, 4, none⟩) (by first | (simp; done) | (simp; omega))).trans (by go_simp)
      have c1_5 : w1.cell? ⟨wr.heap.size, 5, none⟩ = some (.int .i64 (G I).x.d) := (hb.cell (p := ⟨wr.heap.size, 5, none⟩) (by first | (simp; done) | (simp; omega))).trans (by go_simp)
      have c1_6 : w1.cell? ⟨wr.heap.size, 6, none⟩ = some (.int .i64 (G I).s.n) := (hb.cell (p := ⟨wr.heap.size, 6, none⟩) (by first | (simp; done) | (simp; omega))).trans (by go_simp)
      have c1_7 : w1.cell? ⟨wr.heap.size, 7, none⟩ = some (.int .i64 (G I).s.d) := (hb.cell (p := ⟨wr.heap.size, 7, none⟩) (by first | (simp; done) | (simp; omega))).trans (by go_simp)
      have c1_8 : w1.cell? ⟨wr.heap.size, 8, none⟩ = some (.int .i64 (G I).k.n) := (hb.cell (p := ⟨wr.heap.size, 8, none⟩) (by first | (simp; done) | (simp; omega))).trans (by go_simp)
      have c1_9 : w1.cell? ⟨wr.heap.size, 9, none⟩ = some (.int .i64 (G I).k.d) := (hb.cell (p := ⟨wr.heap.size, 9, none⟩) (by first | (simp; done) | (simp; omega))).trans (by go_simp)
      have c1_10 : w1.cell? ⟨wr.heap.size, 10, none⟩ = some (.bool (G I).t) := (hb.cell (p := ⟨wr.heap.size, 10, none⟩) (by first | (simp; done) | (simp; omega))).trans (by go_simp)
      have c1_f : ∀ j, w1.frozen? ⟨wr.heap.size, j, none⟩ = false := fun j => (hb.frozen (p := ⟨wr.heap.size, j, none⟩) (by first | (simp; done) | (simp; omega))).trans (by go_simp)
      have HO : Hid (Below wr.heap.size wr w1) := by refine box_step ?_ hb (by simp <;> omega); go_grown
      have z1 : wr.heap.size < w1.heap.size := World.block_lt_of_cell? _ _ c1_0
      clear hb g0 g1 g2 g3 g4 g5 g6 g7 g8 g9 g10
      go_wp2_with fail
      refine (iwhole_any 1 _).mono ?_
      rintro e w2 ⟨rfl, hb⟩
      have c2_0 : w2.cell? ⟨wr.heap.size, 0, none⟩ = some (.int .i64 (wrap64 (-(G I).c.n))) := (hb.cell (p := ⟨wr.heap.size, 0, none⟩) (by first | (simp; done) | (simp; omega))).trans (by go_simp)
      have c2_1 : w2.cell? ⟨wr.heap.size, 1, none⟩ = some (.int .i64 (G I).c.d) := (hb.cell (p := ⟨wr.heap.size, 1, none⟩) (by first | (simp; done) | (simp; omega))).trans (by go_simp)
      have c2_2 : w2.cell? ⟨wr.heap.size, 2, none⟩ = some (.int .i64 (G I).g.n) := (hb.cell (p := ⟨wr.heap.size, 2, none⟩) (by first | (simp; done) | (simp; omega))).trans (by go_simp)
      have c2_3 : w2.cell? ⟨wr.heap.size, 3, none⟩ = some (.int .i64 (G I).g.d) := (hb.cell (p := ⟨wr.heap.size, 3, none⟩) (by first | (simp; done) | (simp; omega))).trans (by go_simp)
      have c2_4 : w2.cell? ⟨wr.heap.size, 4, none⟩ = some (.int .i64 (G I).x.n) := (hb.cell (p := ⟨wr.heap.size, 4, none⟩) (by first | (simp; done) | (simp; omega))).trans (by go_simp)
      have c2_5 : w2.cell? ⟨wr.heap.size, 5, none⟩ = some (.int .i64 (G I).x.d) := (hb.cell (p := ⟨wr.heap.size, 5, none⟩) (by first | (simp; done) | (simp; omega))).trans (by go_simp)
      have c2_6 : w2.cell? ⟨wr.heap.size, 6, none⟩ = some (.int .i64 (G I).s.n) := (hb.cell (p := ⟨wr.heap.size, 6, none⟩) (by first | (simp; done) | (simp; omega))).trans (by go_simp)
      have c2_7 : w2.cell? ⟨wr.heap.size, 7, none⟩ = some (.int .i64 (G I).s.d) := (hb.cell (p := ⟨wr.heap.size, 7, none⟩) (by first | (simp; done) | (simp; omega))).trans (by go_simp)
      have c2_8 : w2.cell? ⟨wr.heap.size, 8, none⟩ = some (.int .i64 (G I).k.n) := (hb.cell (p := ⟨wr.heap.size, 8, none⟩) (by first | (simp; done) | (simp; omega))).trans (by go_simp)
      have c2_9 : w2.cell? ⟨wr.heap.size, 9, none⟩ = some (.int .i64 (G I).k.d) := (hb.cell (p := ⟨wr.heap.size, 9, none⟩) (by first | (simp; done) | (simp; omega))).trans (by go_simp)
      have c2_10 : w2.cell? ⟨wr.heap.size, 10, none⟩ = some (.bool (G I).t) := (hb.cell (p := ⟨wr.heap.size, 10, none⟩) (by first | (simp; done) | (simp; omega))).trans (by go_simp)
      have c2_f : ∀ j, w2.frozen? ⟨wr.heap.size, j, none⟩ = false := fun j => (hb.frozen (p := ⟨wr.heap.size, j, none⟩) (by first | (simp; done) | (simp; omega))).trans (by go_simp)
      have HO : Hid (Below wr.heap.size wr w2) := by have h := HO.out; have h0 := h.size; refine box_step ?_ hb (by first | (simp; done) | (simp; omega)); go_grown
      have z2 : wr.heap.size < w2.heap.size := World.block_lt_of_cell? _ _ c2_0
      clear hb c1_0 c1_1 c1_2 c1_3 c1_4 c1_5 c1_6 c1_7 c1_8 c1_9 c1_10 c1_f z1
      have hkI : k ≤ 100000000 := by omega
      have HN : Hid (∀ W, Below wr.heap.size wr W → W.ownsRow w.heap.size 45 11 u3 k (flat (fun p => pl (flip G n p)) k) ∧ w.heap.size ≤ W.heap.size) := fun W h => ⟨owns_later HF.out.own h, Nat.le_trans HF.out.below.size h.size⟩
      rcases I with _ | J
      · rw [show (((0 : Nat) : Int)) = 0 from rfl] at *
        go_upto_region 8 with fail
        obtain ⟨w4, hw4⟩ : ∃ X, X = ((((w2.setCell ⟨wr.heap.size, 2, none⟩ (.int .i64 0)).setCell ⟨wr.heap.size, 3, none⟩ (.int .i64 1)).setCell ⟨wr.heap.size, 4, none⟩ (.int .i64 1)).setCell ⟨wr.heap.size, 5, none⟩ (.int .i64 1)) := ⟨_, rfl⟩
        rw [← hw4]
        have w4_0 : w4.cell? ⟨wr.heap.size, 0, none⟩ = some (.int .i64 (wrap64 (-(G 0).c.n))) := by rw [hw4]; go_simp
        have w4_1 : w4.cell? ⟨wr.heap.size, 1, none⟩ = some (.int .i64 (G 0).c.d) := by rw [hw4]; go_simp
        have w4_2 : w4.cell? ⟨wr.heap.size, 2, none⟩ = some (.int .i64 0) := by rw [hw4]; go_simp
        have w4_3 : w4.cell? ⟨wr.heap.size, 3, none⟩ = some (.int .i64 1) := by rw [hw4]; go_simp
        have w4_4 : w4.cell? ⟨wr.heap.size, 4, none⟩ = some (.int .i64 1) := by rw [hw4]; go_simp
        have w4_5 : w4.cell? ⟨wr.heap.size, 5, none⟩ = some (.int .i64 1) := by rw [hw4]; go_simp
        have w4_6 : w4.cell? ⟨wr.heap.size, 6, none⟩ = some (.int .i64 (G 0).s.n) := by rw [hw4]; go_simp
        have w4_7 : w4.cell? ⟨wr.heap.size, 7, none⟩ = some (.int .i64 (G 0).s.d) := by rw [hw4]; go_simp
        have w4_8 : w4.cell? ⟨wr.heap.size, 8, none⟩ = some (.int .i64 (G 0).k.n) := by rw [hw4]; go_simp
        have w4_9 : w4.cell? ⟨wr.heap.size, 9, none⟩ = some (.int .i64 (G 0).k.d) := by rw [hw4]; go_simp
        have w4_10 : w4.cell? ⟨wr.heap.size, 10, none⟩ = some (.bool (G 0).t) := by rw [hw4]; go_simp
        have w4_f : ∀ j, w4.frozen? ⟨wr.heap.size, j, none⟩ = false := fun j => by rw [hw4]; go_simp
        replace HO : Hid (Below wr.heap.size wr w4) := by rw [hw4]; exact ((((HO.out.setCell (Nat.le_refl _) _).setCell (Nat.le_refl _) _).setCell (Nat.le_refl _) _).setCell (Nat.le_refl _) _)
        have zw4 : wr.heap.size < w4.heap.size := World.block_lt_of_cell? _ _ w4_0
        clear hw4 c2_0 c2_1 c2_2 c2_3 c2_4 c2_5 c2_6 c2_7 c2_8 c2_9 c2_10 c2_f z2
        have HW : Hid (Below wr.heap.size wr w4) := HO
        clear HO HC
        go_wp2_with (first | (at_builtin; refine push_law rfl (.tmp 46) (.tmp 48) 31 rfl 45 (.agg #[.int .i64 0, .int .i64 0, .int .i64 0, .int .i64 0, .int .i64 0, .int .i64 0, .int .i64 0, .int .i64 0, .int .i64 0, .int .i64 0, .bool false]) 11 88 Try.underlying31 infoPs rfl (by decide) (by decide) _ [_, _, _, _, _, _, _, _, _, _, _] rfl (by simp [Value.oneCell']) w.heap.size u3 k _ rfl (HN.out _ HW.out).1 1 (by show Value.slice (some ⟨w4.heap.size, 0, none⟩) 1 1 = _; simp) (by omega) (HN.out _ HW.out).2 ?_; intro v1 w9 own3 grow3 nn3))
        have HL : Hid (Fl w G n w9 v1 (k + 1)) := HF.out.push HW.out (by rw [flip, show n - 1 - k = 0 by omega]; simp [pl, flipAt]) own3 grow3 nn3
        clear own3 grow3 nn3 HF HN HW
        go_wp2
        go_roundw
        case rel => exact ⟨0, k + 1, by omega, by first | rfl | simp, HL⟩
        case measure => simp [intOf]
      · have rb : b ≠ wr.heap.size := Nat.ne_of_lt (World.block_lt_of_cell? wr ⟨b, off + J * 11 + 2, none⟩ (HC.out wr HF.out.below J (by omega) 2 (by omega)))
        have rb2 : wr.heap.size ≠ b := fun e => rb e.symm
        have hJ : (J : Int) + 1 < n := by omega
        rw [show (((J + 1 : Nat)) : Int) = (J : Int) + 1 by omega]
        go_upto_region 8 with fail
        obtain ⟨w4, hw4⟩ : ∃ X, X = ((((w2.setCell ⟨wr.heap.size, 2, none⟩ (.int .i64 0)).setCell ⟨wr.heap.size, 3, none⟩ (.int .i64 1)).setCell ⟨wr.heap.size, 4, none⟩ (.int .i64 1)).setCell ⟨wr.heap.size, 5, none⟩ (.int .i64 1)) := ⟨_, rfl⟩
        rw [← hw4]
        have w4_0 : w4.cell? ⟨wr.heap.size, 0, none⟩ = some (.int .i64 (wrap64 (-(G (J + 1)).c.n))) := by rw [hw4]; go_simp
        have w4_1 : w4.cell? ⟨wr.heap.size, 1, none⟩ = some (.int .i64 (G (J + 1)).c.d) := by rw [hw4]; go_simp
        have w4_2 : w4.cell? ⟨wr.heap.size, 2, none⟩ = some (.int .i64 0) := by rw [hw4]; go_simp
        have w4_3 : w4.cell? ⟨wr.heap.size, 3, none⟩ = some (.int .i64 1) := by rw [hw4]; go_simp
        have w4_4 : w4.cell? ⟨wr.heap.size, 4, none⟩ = some (.int .i64 1) := by rw [hw4]; go_simp
        have w4_5 : w4.cell? ⟨wr.heap.size, 5, none⟩ = some (.int .i64 1) := by rw [hw4]; go_simp
        have w4_6 : w4.cell? ⟨wr.heap.size, 6, none⟩ = some (.int .i64 (G (J + 1)).s.n) := by rw [hw4]; go_simp
        have w4_7 : w4.cell? ⟨wr.heap.size, 7, none⟩ = some (.int .i64 (G (J + 1)).s.d) := by rw [hw4]; go_simp
        have w4_8 : w4.cell? ⟨wr.heap.size, 8, none⟩ = some (.int .i64 (G (J + 1)).k.n) := by rw [hw4]; go_simp
        have w4_9 : w4.cell? ⟨wr.heap.size, 9, none⟩ = some (.int .i64 (G (J + 1)).k.d) := by rw [hw4]; go_simp
        have w4_10 : w4.cell? ⟨wr.heap.size, 10, none⟩ = some (.bool (G (J + 1)).t) := by rw [hw4]; go_simp
        have w4_f : ∀ j, w4.frozen? ⟨wr.heap.size, j, none⟩ = false := fun j => by rw [hw4]; go_simp
        replace HO : Hid (Below wr.heap.size wr w4) := by rw [hw4]; exact ((((HO.out.setCell (Nat.le_refl _) _).setCell (Nat.le_refl _) _).setCell (Nat.le_refl _) _).setCell (Nat.le_refl _) _)
        have zw4 : wr.heap.size < w4.heap.size := World.block_lt_of_cell? _ _ w4_0
        clear hw4 c2_0 c2_1 c2_2 c2_3 c2_4 c2_5 c2_6 c2_7 c2_8 c2_9 c2_10 c2_f z2
        have r2 : w4.cell? ⟨b, off + J * 11 + 2, none⟩ = some (.int .i64 (G J).g.n) := HC.out w4 (HF.out.below.trans (HO.out.mono HF.out.below.size)) J (by omega) 2 (by omega)
        have r3 : w4.cell? ⟨b, off + J * 11 + 2 + 1, none⟩ = some (.int .i64 (G J).g.d) := HC.out w4 (HF.out.below.trans (HO.out.mono HF.out.below.size)) J (by omega) 3 (by omega)
        have r4 : w4.cell? ⟨b, off + J * 11 + 4, none⟩ = some (.int .i64 (G J).x.n) := HC.out w4 (HF.out.below.trans (HO.out.mono HF.out.below.size)) J (by omega) 4 (by omega)
        have r5 : w4.cell? ⟨b, off + J * 11 + 4 + 1, none⟩ = some (.int .i64 (G J).x.d) := HC.out w4 (HF.out.below.trans (HO.out.mono HF.out.below.size)) J (by omega) 5 (by omega)
        go_upto_region 9 with fail
        go_region
        obtain ⟨w5, hw5⟩ : ∃ X, X = ((((w4.setCell ⟨wr.heap.size, 2, none⟩ (.int .i64 (G J).g.n)).setCell ⟨wr.heap.size, 3, none⟩ (.int .i64 (G J).g.d)).setCell ⟨wr.heap.size, 4, none⟩ (.int .i64 (G J).x.n)).setCell ⟨wr.heap.size, 5, none⟩ (.int .i64 (G J).x.d)).drew := ⟨_, rfl⟩
        rw [← hw5]
        have w5_0 : w5.cell? ⟨wr.heap.size, 0, none⟩ = some (.int .i64 (wrap64 (-(G (J + 1)).c.n))) := by rw [hw5]; go_simp
        have w5_1 : w5.cell? ⟨wr.heap.size, 1, none⟩ = some (.int .i64 (G (J + 1)).c.d) := by rw [hw5]; go_simp
        have w5_2 : w5.cell? ⟨wr.heap.size, 2, none⟩ = some (.int .i64 (G J).g.n) := by rw [hw5]; go_simp
        have w5_3 : w5.cell? ⟨wr.heap.size, 3, none⟩ = some (.int .i64 (G J).g.d) := by rw [hw5]; go_simp
        have w5_4 : w5.cell? ⟨wr.heap.size, 4, none⟩ = some (.int .i64 (G J).x.n) := by rw [hw5]; go_simp
        have w5_5 : w5.cell? ⟨wr.heap.size, 5, none⟩ = some (.int .i64 (G J).x.d) := by rw [hw5]; go_simp
        have w5_6 : w5.cell? ⟨wr.heap.size, 6, none⟩ = some (.int .i64 (G (J + 1)).s.n) := by rw [hw5]; go_simp
        have w5_7 : w5.cell? ⟨wr.heap.size, 7, none⟩ = some (.int .i64 (G (J + 1)).s.d) := by rw [hw5]; go_simp
        have w5_8 : w5.cell? ⟨wr.heap.size, 8, none⟩ = some (.int .i64 (G (J + 1)).k.n) := by rw [hw5]; go_simp
        have w5_9 : w5.cell? ⟨wr.heap.size, 9, none⟩ = some (.int .i64 (G (J + 1)).k.d) := by rw [hw5]; go_simp
        have w5_10 : w5.cell? ⟨wr.heap.size, 10, none⟩ = some (.bool (G (J + 1)).t) := by rw [hw5]; go_simp
        have w5_f : ∀ j, w5.frozen? ⟨wr.heap.size, j, none⟩ = false := fun j => by rw [hw5]; go_simp
        replace HO : Hid (Below wr.heap.size wr w5) := by rw [hw5]; exact Below.drew ((((HO.out.setCell (Nat.le_refl _) _).setCell (Nat.le_refl _) _).setCell (Nat.le_refl _) _).setCell (Nat.le_refl _) _)
        have zw5 : wr.heap.size < w5.heap.size := World.block_lt_of_cell? _ _ w5_0
        clear hw5 w4_0 w4_1 w4_2 w4_3 w4_4 w4_5 w4_6 w4_7 w4_8 w4_9 w4_10 w4_f zw4 r2 r3 r4 r5
        have HW : Hid (Below wr.heap.size wr w5) := HO
        clear HO HC
        go_wp2_with (first | (at_builtin; refine push_law rfl (.tmp 46) (.tmp 48) 31 rfl 45 (.agg #[.int .i64 0, .int .i64 0, .int .i64 0, .int .i64 0, .int .i64 0, .int .i64 0, .int .i64 0, .int .i64 0, .int .i64 0, .int .i64 0, .bool false]) 11 88 Try.underlying31 infoPs rfl (by decide) (by decide) _ [_, _, _, _, _, _, _, _, _, _, _] rfl (by simp [Value.oneCell']) w.heap.size u3 k _ rfl (HN.out _ HW.out).1 1 (by show Value.slice (some ⟨w5.heap.size, 0, none⟩) 1 1 = _; simp) (by omega) (HN.out _ HW.out).2 ?_; intro v1 w9 own3 grow3 nn3))
        have HL : Hid (Fl w G n w9 v1 (k + 1)) := HF.out.push HW.out (by rw [flip, show n - 1 - k = J + 1 by omega]; simp [pl, flipAt]) own3 grow3 nn3
        clear own3 grow3 nn3 HF HN HW
        go_wp2
        go_roundw
        case rel => exact ⟨J + 1, k + 1, by omega, by first | rfl | simp, HL⟩
        case measure => simp [intOf]; omega
end Go.Proofs.Ytfdgnafakjlhaaa
