/- slices.Reverse at cells: contract. -/
import Derived.Test.YtboppklcmdfphaaCw
namespace Go.Proofs.Ytboppklcmdfphaa
open Go.RowKit
set_option linter.unusedVariables false
set_option linter.unusedSimpArgs false
theorem segV_drew {w : World} {b : Nat} {t : TypeId} {n m : Nat} {f : Nat → Nat → Value} (h : SegV w b t n m f) : SegV w.drew b t n m f := h
theorem rev_none (ao : Option Addr) (cap : Nat) (w : World) : Calls Try.prog 85 #[.slice ao 0 cap] w fun e w' => e = .returned (.tuple #[]) ∧ w = w' := by
  go_enter Try.func85, Try.ntmps85
  go_wp2_with fail
  refine wp_loop_rounds 1 ?_
  rw [rounds_succ]
  go_wp2
  go_end0
  exact ⟨rfl, rfl⟩
set_option maxRecDepth 20000 in
set_option maxHeartbeats 3200000 in
theorem rev_some (b n cap : Nat) (C : Nat → Ce) (w : World) (hn0 : 0 < n) (hn : n ≤ 1000) (hs : SegV w b 77 n 6 (fun i q => ccell (C i) q)) :
    Calls Try.prog 85 #[.slice (some ⟨b, 0, none⟩) n cap] w fun e w' => e = .returned (.tuple #[]) ∧ SegV w' b 77 n 6 (fun i q => ccell (C (n - 1 - i)) q) ∧ Within b (b + 1) w w' ∧ w'.heap.size = w.heap.size := by
  have HS0 : Hid (SegV w b 77 n 6 (fun i q => ccell (C i) q)) := hs
  clear hs
  obtain ⟨n1, hn1⟩ : ∃ n1 : Nat, n = n1 + 1 := ⟨n - 1, by omega⟩
  have en : (n : Int) - 1 = (n1 : Int) := by omega
  go_enter Try.func85, Try.ntmps85
  go_wp2_with fail
  go_loopw [2, 3] (fun s t wr => ∃ k j : Nat, k + j + 1 = n ∧ k ≤ j + 1 ∧ s = .int .i64 k ∧ t = .int .i64 j ∧ Hid (SegV wr b 77 n 6 (fun a q => ccell (if a < k ∨ j < a then C (n - 1 - a) else C a) q) ∧ Within b (b + 1) w wr ∧ wr.heap.size = w.heap.size)) (fun s _ _ => n - (intOf s).toNat)
  case atStart => exact ⟨0, n1, by omega, by omega, rfl, by first | rfl | (simp; omega) | (rw [en]), HS0.out.congr (fun a ha q _ => by rw [if_neg (by omega)]), Within.refl _ _ _, rfl⟩
  case round =>
    obtain ⟨k, j, hkj, hkk, rfl, rfl, HS⟩ := hrel
    by_cases hlt : k < j
    · have hkn : k < n := by omega
      have hjn : j < n := by omega
      obtain ⟨x, hx⟩ : ∃ x, x = C k := ⟨_, rfl⟩
      obtain ⟨y, hy⟩ : ∃ y, y = C j := ⟨_, rfl⟩
      have HX : Hid (x = C k ∧ y = C j) := ⟨hx, hy⟩
      clear hx hy
      have p0 : wr.cell? ⟨b, k * 6, none⟩ = some (.int .i64 x.i) := by have := HS.out.1.cell hkn (show 0 < 6 by omega); rw [if_neg (by omega), ← HX.out.1] at this; exact this
      have p1 : wr.cell? ⟨b, k * 6 + 1, none⟩ = some (.int .i64 x.j) := by have := HS.out.1.cell hkn (show 1 < 6 by omega); rw [if_neg (by omega), ← HX.out.1] at this; exact this
      have p2 : wr.cell? ⟨b, k * 6 + 2, none⟩ = some (.int .i64 x.a) := by have := HS.out.1.cell hkn (show 2 < 6 by omega); rw [if_neg (by omega), ← HX.out.1] at this; exact this
      have p3 : wr.cell? ⟨b, k * 6 + 3, none⟩ = some (.int .i64 x.b) := by have := HS.out.1.cell hkn (show 3 < 6 by omega); rw [if_neg (by omega), ← HX.out.1] at this; exact this
      have p4 : wr.cell? ⟨b, k * 6 + 4, none⟩ = some (.int .i64 x.c) := by have := HS.out.1.cell hkn (show 4 < 6 by omega); rw [if_neg (by omega), ← HX.out.1] at this; exact this
      have p5 : wr.cell? ⟨b, k * 6 + 5, none⟩ = some (.int .i64 x.d) := by have := HS.out.1.cell hkn (show 5 < 6 by omega); rw [if_neg (by omega), ← HX.out.1] at this; exact this
      have r0 : wr.cell? ⟨b, j * 6, none⟩ = some (.int .i64 y.i) := by have := HS.out.1.cell hjn (show 0 < 6 by omega); rw [if_neg (by omega), ← HX.out.2] at this; exact this
      have r1 : wr.cell? ⟨b, j * 6 + 1, none⟩ = some (.int .i64 y.j) := by have := HS.out.1.cell hjn (show 1 < 6 by omega); rw [if_neg (by omega), ← HX.out.2] at this; exact this
      have r2 : wr.cell? ⟨b, j * 6 + 2, none⟩ = some (.int .i64 y.a) := by have := HS.out.1.cell hjn (show 2 < 6 by omega); rw [if_neg (by omega), ← HX.out.2] at this; exact this
      have r3 : wr.cell? ⟨b, j * 6 + 3, none⟩ = some (.int .i64 y.b) := by have := HS.out.1.cell hjn (show 3 < 6 by omega); rw [if_neg (by omega), ← HX.out.2] at this; exact this
      have r4 : wr.cell? ⟨b, j * 6 + 4, none⟩ = some (.int .i64 y.c) := by have := HS.out.1.cell hjn (show 4 < 6 by omega); rw [if_neg (by omega), ← HX.out.2] at this; exact this
      have r5 : wr.cell? ⟨b, j * 6 + 5, none⟩ = some (.int .i64 y.d) := by have := HS.out.1.cell hjn (show 5 < 6 by omega); rw [if_neg (by omega), ← HX.out.2] at this; exact this
      have fz : ∀ q, wr.frozen? ⟨b, q, none⟩ = false := fun q => HS.out.1.frozen q
      obtain ⟨j1, hj1⟩ : ∃ j1 : Nat, j = j1 + 1 := ⟨j - 1, by omega⟩
      have ej1 : (j : Int) - 1 = (j1 : Int) := by omega
      have HN1 : ∀ W, (∀ q : Nat, W.heap[q]? = wr.heap[q]?) → W.heap.size = wr.heap.size → Within b (b + 1) w W → Hid (SegV ((((((((((((W.setCell ⟨b, k * 6, none⟩ (.int .i64 y.i)).setCell ⟨b, k * 6 + 1, none⟩ (.int .i64 y.j)).setCell ⟨b, k * 6 + 2, none⟩ (.int .i64 y.a)).setCell ⟨b, k * 6 + 3, none⟩ (.int .i64 y.b)).setCell ⟨b, k * 6 + 4, none⟩ (.int .i64 y.c)).setCell ⟨b, k * 6 + 5, none⟩ (.int .i64 y.d)).setCell ⟨b, j * 6, none⟩ (.int .i64 x.i)).setCell ⟨b, j * 6 + 1, none⟩ (.int .i64 x.j)).setCell ⟨b, j * 6 + 2, none⟩ (.int .i64 x.a)).setCell ⟨b, j * 6 + 3, none⟩ (.int .i64 x.b)).setCell ⟨b, j * 6 + 4, none⟩ (.int .i64 x.c)).setCell ⟨b, j * 6 + 5, none⟩ (.int .i64 x.d)) b 77 n 6 (fun a q => ccell (if a < k + 1 ∨ j - 1 < a then C (n - 1 - a) else C a) q) ∧ Within b (b + 1) w ((((((((((((W.setCell ⟨b, k * 6, none⟩ (.int .i64 y.i)).setCell ⟨b, k * 6 + 1, none⟩ (.int .i64 y.j)).setCell ⟨b, k * 6 + 2, none⟩ (.int .i64 y.a)).setCell ⟨b, k * 6 + 3, none⟩ (.int .i64 y.b)).setCell ⟨b, k * 6 + 4, none⟩ (.int .i64 y.c)).setCell ⟨b, k * 6 + 5, none⟩ (.int .i64 y.d)).setCell ⟨b, j * 6, none⟩ (.int .i64 x.i)).setCell ⟨b, j * 6 + 1, none⟩ (.int .i64 x.j)).setCell ⟨b, j * 6 + 2, none⟩ (.int .i64 x.a)).setCell ⟨b, j * 6 + 3, none⟩ (.int .i64 x.b)).setCell ⟨b, j * 6 + 4, none⟩ (.int .i64 x.c)).setCell ⟨b, j * 6 + 5, none⟩ (.int .i64 x.d)) ∧ ((((((((((((W.setCell ⟨b, k * 6, none⟩ (.int .i64 y.i)).setCell ⟨b, k * 6 + 1, none⟩ (.int .i64 y.j)).setCell ⟨b, k * 6 + 2, none⟩ (.int .i64 y.a)).setCell ⟨b, k * 6 + 3, none⟩ (.int .i64 y.b)).setCell ⟨b, k * 6 + 4, none⟩ (.int .i64 y.c)).setCell ⟨b, k * 6 + 5, none⟩ (.int .i64 y.d)).setCell ⟨b, j * 6, none⟩ (.int .i64 x.i)).setCell ⟨b, j * 6 + 1, none⟩ (.int .i64 x.j)).setCell ⟨b, j * 6 + 2, none⟩ (.int .i64 x.a)).setCell ⟨b, j * 6 + 3, none⟩ (.int .i64 x.b)).setCell ⟨b, j * 6 + 4, none⟩ (.int .i64 x.c)).setCell ⟨b, j * 6 + 5, none⟩ (.int .i64 x.d)).heap.size = w.heap.size) := fun W hW hWs hb => by
        have h0 : SegV W b 77 n 6 (fun a q => ccell (if a < k ∨ j < a then C (n - 1 - a) else C a) q) := HS.out.1.of_block (hW b)
        have t0 := SegV.set h0 hkn (show 0 < 6 by omega) (.int .i64 y.i)
        have t1 := SegV.set t0 hkn (show 1 < 6 by omega) (.int .i64 y.j)
        have t2 := SegV.set t1 hkn (show 2 < 6 by omega) (.int .i64 y.a)
        have t3 := SegV.set t2 hkn (show 3 < 6 by omega) (.int .i64 y.b)
        have t4 := SegV.set t3 hkn (show 4 < 6 by omega) (.int .i64 y.c)
        have t5 := SegV.set t4 hkn (show 5 < 6 by omega) (.int .i64 y.d)
        have t6 := SegV.set t5 hjn (show 0 < 6 by omega) (.int .i64 x.i)
        have t7 := SegV.set t6 hjn (show 1 < 6 by omega) (.int .i64 x.j)
        have t8 := SegV.set t7 hjn (show 2 < 6 by omega) (.int .i64 x.a)
        have t9 := SegV.set t8 hjn (show 3 < 6 by omega) (.int .i64 x.b)
        have t10 := SegV.set t9 hjn (show 4 < 6 by omega) (.int .i64 x.c)
        have t11 := SegV.set t10 hjn (show 5 < 6 by omega) (.int .i64 x.d)
        refine ⟨t11.congr fun a ha q hq => ?_, ((((((((((((hb.setCell (Nat.le_refl _) (Nat.lt_succ_self _) _).setCell (Nat.le_refl _) (Nat.lt_succ_self _) _).setCell (Nat.le_refl _) (Nat.lt_succ_self _) _).setCell (Nat.le_refl _) (Nat.lt_succ_self _) _).setCell (Nat.le_refl _) (Nat.lt_succ_self _) _).setCell (Nat.le_refl _) (Nat.lt_succ_self _) _).setCell (Nat.le_refl _) (Nat.lt_succ_self _) _).setCell (Nat.le_refl _) (Nat.lt_succ_self _) _).setCell (Nat.le_refl _) (Nat.lt_succ_self _) _).setCell (Nat.le_refl _) (Nat.lt_succ_self _) _).setCell (Nat.le_refl _) (Nat.lt_succ_self _) _).setCell (Nat.le_refl _) (Nat.lt_succ_self _) _), by simp only [World.size_setCell]; rw [hWs]; exact HS.out.2.2⟩
        have hx := HX.out.1
        have hy := HX.out.2
        have ej : n - 1 - j = k := by omega
        have ek : n - 1 - k = j := by omega
        by_cases e1 : a = k
        · subst e1
          have e2 : a ≠ j := by omega
          rw [if_pos (Or.inl (Nat.lt_succ_self _)), ek, ← hy]
          match q, hq with
          | 0, _ => simp [ccell, e2]
          | 1, _ => simp [ccell, e2]
          | 2, _ => simp [ccell, e2]
          | 3, _ => simp [ccell, e2]
          | 4, _ => simp [ccell, e2]
          | 5, _ => simp [ccell, e2]
        · by_cases e2 : a = j
          · subst e2
            rw [if_pos (show a < k + 1 ∨ a - 1 < a from Or.inr (by omega)), ej, ← hx]
            match q, hq with
            | 0, _ => simp [ccell, e1]
            | 1, _ => simp [ccell, e1]
            | 2, _ => simp [ccell, e1]
            | 3, _ => simp [ccell, e1]
            | 4, _ => simp [ccell, e1]
            | 5, _ => simp [ccell, e1]
          · simp only [e1, e2, false_and, if_false]
            by_cases e3 : a < k ∨ j < a
            · rw [if_pos e3, if_pos (by omega)]
            · rw [if_neg e3, if_neg (by omega)]
      have HWR : Hid (Within b (b + 1) w wr) := HS.out.2.1
      clear HS
      have HJ : Hid (j1 = j - 1 ∧ k + j + 1 = n ∧ k ≤ j + 1 ∧ j = j1 + 1) := ⟨by omega, hkj, hkk, hj1⟩
      clear hj1 hkj hkk hn1 en
      go_wp2_with fail
      go_region
      obtain ⟨V, hV⟩ : ∃ V, V = ((((((((((((wr.setCell ⟨b, k * 6, none⟩ (.int .i64 y.i)).setCell ⟨b, k * 6 + 1, none⟩ (.int .i64 y.j)).setCell ⟨b, k * 6 + 2, none⟩ (.int .i64 y.a)).setCell ⟨b, k * 6 + 3, none⟩ (.int .i64 y.b)).setCell ⟨b, k * 6 + 4, none⟩ (.int .i64 y.c)).setCell ⟨b, k * 6 + 5, none⟩ (.int .i64 y.d)).setCell ⟨b, j * 6, none⟩ (.int .i64 x.i)).setCell ⟨b, j * 6 + 1, none⟩ (.int .i64 x.j)).setCell ⟨b, j * 6 + 2, none⟩ (.int .i64 x.a)).setCell ⟨b, j * 6 + 3, none⟩ (.int .i64 x.b)).setCell ⟨b, j * 6 + 4, none⟩ (.int .i64 x.c)).setCell ⟨b, j * 6 + 5, none⟩ (.int .i64 x.d)).drew := ⟨_, rfl⟩
      have HV : Hid (SegV V b 77 n 6 (fun a q => ccell (if a < k + 1 ∨ j - 1 < a then C (n - 1 - a) else C a) q) ∧ Within b (b + 1) w V ∧ V.heap.size = w.heap.size) := by
        obtain ⟨h1, h2, h3⟩ := (HN1 wr (fun _ => rfl) rfl HWR.out).out
        rw [hV]
        exact ⟨segV_drew h1, h2.drew, (World.size_drew _).trans h3⟩
      rw [← hV]
      clear hV HN1
      go_wp2
      refine ⟨⟨k + 1, j1, by have := HJ.out; omega, by have := HJ.out; omega, by simp, by first | rfl | (simp; omega) | (rw [ej1]), ?_⟩, by simp [intOf]; omega⟩
      rw [HJ.out.1]
      exact HV
    · go_wp2
      go_end0
      refine ⟨rfl, HS.out.1.congr fun a ha q _ => ?_, HS.out.2⟩
      by_cases e : a < k ∨ j < a
      · rw [if_pos e]
      · rw [if_neg e, show n - 1 - a = a by omega]
end Go.Proofs.Ytboppklcmdfphaa
