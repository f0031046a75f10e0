/- A tree of splitters: the program. -/
import Derived.Test.YtkkajcdjkfbcgaaTd
import Derived.Handy
import Derived.Deep.RegionHeld3
namespace Go.Proofs.Ytkkajcdjkfbcgaa
open Go.RowKit
set_option linter.unusedVariables false
set_option linter.unusedSimpArgs false
theorem make0I (n : Nat) (hn : n ≤ 1000000000) (w : World) : (Instr.makeSlice 24 (.int .i64 0) (.int .i64 (n : Int))).run Try.prog w = .ok (.slice (some ⟨w.heap.size, 0, none⟩) 0 n) (w.alloc (.cells (madeCells #[.int .i64 0] (n * 1)) 2)) := by
  obtain ⟨i, hi, hzz⟩ := Option.map_eq_some_iff.1 info2
  simp only [Prod.mk.injEq] at hzz
  obtain ⟨hz, hs, hb⟩ := hzz
  have hr := run_make (P := Try.prog) w 24 2 i _ Try.underlying24 hi hz .i64 .i64 0 n (by omega) (by omega) (by rw [hb]; omega) (by omega)
  rw [hs] at hr
  simpa [Value.cells] using hr
set_option maxRecDepth 20000 in
set_option maxHeartbeats 6400000 in
theorem tree_i_bad0 (p l s : Int) (hs : ¬ Ck s 0 2) (w : World) : FX 29 #[.int .i64 p, .int .i64 l, .int .i64 s] w 1 0 (fun _ => 0) 0 := by
  unfold FX
  have HC : Hid (∀ (q : Nat) (W : World), Blk W q #[.int .i64 s] 2 → Calls Try.prog 120 #[.int .i64 0, .int .i64 2, .pointer (some ⟨q, 0, none⟩)] W fun e w' => ∃ v, e = .returned (Fx 1 v 0) ∧ OwS 2 W.heap.size w'.heap.size w' v 0 (fun i => .int .i64 0) ∧ Within q (q + 1) W w' ∧ Blk w' q #[.int .i64 0] 2) := fun q W hW => draw_any (fun W => iCoins_bad s 0 2 hs W) q W hW
  go_enter Try.func29, Try.ntmps29
  go_wp2_with fail
  refine (coinsFrom_any s _).mono ?_
  rintro e w1 ⟨rfl, hw1⟩
  have H1 : Hid (Blk w1 w.heap.size #[.int .i64 0, .slice none 0 0, .int .i64 0] 57 ∧ Blk w1 (w.heap.size + 1) #[.int .i64 s] 2 ∧ Below w.heap.size w w1 ∧ w.heap.size + 2 ≤ w1.heap.size) := by
    rw [hw1]
    exact ⟨(Blk.new rfl).alloc _, Blk.new (by simp), ((Below.refl _ _).alloc (Nat.le_refl _) _).alloc (by simp) _, by simp⟩
  rw [show (w.alloc (.cells #[.int .i64 0, .slice none 0 0, .int .i64 0] 57)).heap.size = w.heap.size + 1 by simp]
  clear hw1
  go_wp2_with fail
  refine (HC.out _ _ H1.out.2.1).mono ?_
  rintro e w2 ⟨v0, rfl, ho, wi, hq⟩
  obtain ⟨ao0, cap0, rfl⟩ := ho.form
  go_upto_region 3 with fail
  obtain ⟨w3, hw3⟩ : ∃ W, W = w2.alloc (.cells #[.int .i64 1, .slice ao0 0 cap0, .int .i64 0] 57) := ⟨_, rfl⟩
  have H3 : Hid (Blk w3 w.heap.size #[.int .i64 0, .slice none 0 0, .int .i64 0] 57 ∧ Blk w3 (w.heap.size + 1) #[.int .i64 0] 2 ∧ Below w.heap.size w w3 ∧ w.heap.size + 2 ≤ w2.heap.size ∧ Blk w3 w2.heap.size #[.int .i64 1, .slice ao0 0 cap0, .int .i64 0] 57) := by
    have b3 : Below w2.heap.size w2 w3 := by rw [hw3]; exact (Below.refl _ _).alloc (Nat.le_refl _) _
    have z2 := wi.below.size
    have z1 := H1.out.2.2.2
    exact ⟨(H1.out.1.under wi (by omega)).later b3, hq.later b3, (H1.out.2.2.1.trans (wi.below.mono (by omega))).trans (b3.mono (by omega)), by omega, by rw [hw3]; exact Blk.new rfl⟩
  rw [← hw3]
  clear hw3 ho wi hq H1 HC
  have hz : w.heap.size + 2 ≤ w2.heap.size := H3.out.2.2.2.1
  have g0 := H3.out.2.2.2.2.cell (j := 0) (v := .int .i64 1) rfl
  cases hp : photB p
  · go_wp2_with fail
    refine (phot_i p _).mono ?_
    rintro e w4 ⟨rfl, rfl⟩
    rw [hp]
    have d0 := H3.out.1.cell (j := 0) (v := .int .i64 0) rfl
    have f0 := H3.out.1.frozen 0
    have d1 := H3.out.1.cell (j := 1) (v := .slice none 0 0) rfl
    have f1 := H3.out.1.frozen 1
    have d2 := H3.out.1.cell (j := 2) (v := .int .i64 0) rfl
    have f2 := H3.out.1.frozen 2
    go_wp2
    refine bodyPost_ret (v := Fx 1 (.slice none 0 0) 0) (by simp [results, Try.results29, go_sem, d0, d1, d2]) rfl ⟨_, rfl, Or.inl ⟨rfl, rfl⟩, ?_⟩
    exact ((H3.out.2.2.1.setCell (by simp) _).setCell (by simp) _).setCell (by simp) _

  have hp1 := photB_t hp
  by_cases l0 : l < 0
  · go_wp2_with fail
    refine (phot_i p _).mono ?_
    rintro e w4 ⟨rfl, rfl⟩
    rw [hp]
    have d0 := H3.out.1.cell (j := 0) (v := .int .i64 0) rfl
    have f0 := H3.out.1.frozen 0
    have d1 := H3.out.1.cell (j := 1) (v := .slice none 0 0) rfl
    have f1 := H3.out.1.frozen 1
    have d2 := H3.out.1.cell (j := 2) (v := .int .i64 0) rfl
    have f2 := H3.out.1.frozen 2
    go_wp2
    refine bodyPost_ret (v := Fx 1 (.slice none 0 0) 0) (by simp [results, Try.results29, go_sem, d0, d1, d2]) rfl ⟨_, rfl, Or.inl ⟨rfl, rfl⟩, ?_⟩
    exact ((H3.out.2.2.1.setCell (by simp) _).setCell (by simp) _).setCell (by simp) _

  by_cases l1 : 6 < l
  · go_wp2_with fail
    refine (phot_i p _).mono ?_
    rintro e w4 ⟨rfl, rfl⟩
    rw [hp]
    have d0 := H3.out.1.cell (j := 0) (v := .int .i64 0) rfl
    have f0 := H3.out.1.frozen 0
    have d1 := H3.out.1.cell (j := 1) (v := .slice none 0 0) rfl
    have f1 := H3.out.1.frozen 1
    have d2 := H3.out.1.cell (j := 2) (v := .int .i64 0) rfl
    have f2 := H3.out.1.frozen 2
    go_wp2
    refine bodyPost_ret (v := Fx 1 (.slice none 0 0) 0) (by simp [results, Try.results29, go_sem, d0, d1, d2]) rfl ⟨_, rfl, Or.inl ⟨rfl, rfl⟩, ?_⟩
    exact ((H3.out.2.2.1.setCell (by simp) _).setCell (by simp) _).setCell (by simp) _

  go_wp2_with fail
  refine (phot_i p _).mono ?_
  rintro e w4 ⟨rfl, rfl⟩
  rw [hp]
  have d0 := H3.out.1.cell (j := 0) (v := .int .i64 0) rfl
  have f0 := H3.out.1.frozen 0
  have d1 := H3.out.1.cell (j := 1) (v := .slice none 0 0) rfl
  have f1 := H3.out.1.frozen 1
  have d2 := H3.out.1.cell (j := 2) (v := .int .i64 0) rfl
  have f2 := H3.out.1.frozen 2
  go_wp2
  refine bodyPost_ret (v := Fx 1 (.slice none 0 0) 0) (by simp [results, Try.results29, go_sem, d0, d1, d2]) rfl ⟨_, rfl, Or.inl ⟨rfl, rfl⟩, ?_⟩
  exact ((H3.out.2.2.1.setCell (by simp) _).setCell (by simp) _).setCell (by simp) _

set_option maxRecDepth 20000 in
set_option maxHeartbeats 6400000 in
theorem tree_i_bad1 (p l s : Int) (hs : Ck s (0 : Nat) 2) (h : ¬ Tgood p l s) (w : World) : FX 29 #[.int .i64 p, .int .i64 l, .int .i64 s] w 1 0 (fun _ => 0) 0 := by
  unfold FX
  have HG : Hid (¬ Tgood p l s) := h
  clear h
  have hs0 := hs.s0
  have hs1 := hs.s1
  have HC : Hid (∀ (q : Nat) (W : World), Blk W q #[.int .i64 s] 2 → Calls Try.prog 120 #[.int .i64 0, .int .i64 2, .pointer (some ⟨q, 0, none⟩)] W fun e w' => ∃ v, e = .returned (Fx 0 v s) ∧ OwS 2 W.heap.size w'.heap.size w' v 0 (fun i => .int .i64 0) ∧ Within q (q + 1) W w' ∧ Blk w' q #[.int .i64 s] 2) := fun q W hW => (draw_any (fun W => iCoins_good s 2 0 hs W) q W hW).mono fun _ _ ⟨v, h1, h2, h3, h4⟩ => ⟨v, h1, h2.congr (fun i hi => by omega), h3, h4⟩
  go_enter Try.func29, Try.ntmps29
  go_wp2_with fail
  refine (coinsFrom_any s _).mono ?_
  rintro e w1 ⟨rfl, hw1⟩
  have H1 : Hid (Blk w1 w.heap.size #[.int .i64 0, .slice none 0 0, .int .i64 0] 57 ∧ Blk w1 (w.heap.size + 1) #[.int .i64 s] 2 ∧ Below w.heap.size w w1 ∧ w.heap.size + 2 ≤ w1.heap.size) := by
    rw [hw1]
    exact ⟨(Blk.new rfl).alloc _, Blk.new (by simp), ((Below.refl _ _).alloc (Nat.le_refl _) _).alloc (by simp) _, by simp⟩
  rw [show (w.alloc (.cells #[.int .i64 0, .slice none 0 0, .int .i64 0] 57)).heap.size = w.heap.size + 1 by simp]
  clear hw1
  go_wp2_with fail
  refine (HC.out _ _ H1.out.2.1).mono ?_
  rintro e w2 ⟨v0, rfl, ho, wi, hq⟩
  obtain ⟨ao0, cap0, rfl⟩ := ho.form
  go_upto_region 3 with fail
  obtain ⟨w3, hw3⟩ : ∃ W, W = w2.alloc (.cells #[.int .i64 0, .slice ao0 0 cap0, .int .i64 s] 57) := ⟨_, rfl⟩
  have H3 : Hid (Blk w3 w.heap.size #[.int .i64 0, .slice none 0 0, .int .i64 0] 57 ∧ Blk w3 (w.heap.size + 1) #[.int .i64 s] 2 ∧ Below w.heap.size w w3 ∧ w.heap.size + 2 ≤ w2.heap.size ∧ Blk w3 w2.heap.size #[.int .i64 0, .slice ao0 0 cap0, .int .i64 s] 57) := by
    have b3 : Below w2.heap.size w2 w3 := by rw [hw3]; exact (Below.refl _ _).alloc (Nat.le_refl _) _
    have z2 := wi.below.size
    have z1 := H1.out.2.2.2
    exact ⟨(H1.out.1.under wi (by omega)).later b3, hq.later b3, (H1.out.2.2.1.trans (wi.below.mono (by omega))).trans (b3.mono (by omega)), by omega, by rw [hw3]; exact Blk.new rfl⟩
  rw [← hw3]
  clear hw3 ho wi hq H1 HC
  have hz : w.heap.size + 2 ≤ w2.heap.size := H3.out.2.2.2.1
  have g0 := H3.out.2.2.2.2.cell (j := 0) (v := .int .i64 0) rfl
  cases hp : photB p
  · go_wp2_with fail
    refine (phot_i p _).mono ?_
    rintro e w4 ⟨rfl, rfl⟩
    rw [hp]
    have d0 := H3.out.1.cell (j := 0) (v := .int .i64 0) rfl
    have f0 := H3.out.1.frozen 0
    have d1 := H3.out.1.cell (j := 1) (v := .slice none 0 0) rfl
    have f1 := H3.out.1.frozen 1
    have d2 := H3.out.1.cell (j := 2) (v := .int .i64 0) rfl
    have f2 := H3.out.1.frozen 2
    go_wp2
    refine bodyPost_ret (v := Fx 1 (.slice none 0 0) 0) (by simp [results, Try.results29, go_sem, d0, d1, d2]) rfl ⟨_, rfl, Or.inl ⟨rfl, rfl⟩, ?_⟩
    exact ((H3.out.2.2.1.setCell (by simp) _).setCell (by simp) _).setCell (by simp) _

  have hp1 := photB_t hp
  by_cases l0 : l < 0
  · go_wp2_with fail
    refine (phot_i p _).mono ?_
    rintro e w4 ⟨rfl, rfl⟩
    rw [hp]
    have d0 := H3.out.1.cell (j := 0) (v := .int .i64 0) rfl
    have f0 := H3.out.1.frozen 0
    have d1 := H3.out.1.cell (j := 1) (v := .slice none 0 0) rfl
    have f1 := H3.out.1.frozen 1
    have d2 := H3.out.1.cell (j := 2) (v := .int .i64 0) rfl
    have f2 := H3.out.1.frozen 2
    go_wp2
    refine bodyPost_ret (v := Fx 1 (.slice none 0 0) 0) (by simp [results, Try.results29, go_sem, d0, d1, d2]) rfl ⟨_, rfl, Or.inl ⟨rfl, rfl⟩, ?_⟩
    exact ((H3.out.2.2.1.setCell (by simp) _).setCell (by simp) _).setCell (by simp) _

  by_cases l1 : 6 < l
  · go_wp2_with fail
    refine (phot_i p _).mono ?_
    rintro e w4 ⟨rfl, rfl⟩
    rw [hp]
    have d0 := H3.out.1.cell (j := 0) (v := .int .i64 0) rfl
    have f0 := H3.out.1.frozen 0
    have d1 := H3.out.1.cell (j := 1) (v := .slice none 0 0) rfl
    have f1 := H3.out.1.frozen 1
    have d2 := H3.out.1.cell (j := 2) (v := .int .i64 0) rfl
    have f2 := H3.out.1.frozen 2
    go_wp2
    refine bodyPost_ret (v := Fx 1 (.slice none 0 0) 0) (by simp [results, Try.results29, go_sem, d0, d1, d2]) rfl ⟨_, rfl, Or.inl ⟨rfl, rfl⟩, ?_⟩
    exact ((H3.out.2.2.1.setCell (by simp) _).setCell (by simp) _).setCell (by simp) _

  exact absurd ⟨by omega, by omega, by omega, by omega, by omega, by omega⟩ HG.out
/-- What stands ahead of level k: the list, the result's block, the seed's, the tree's. -/
structure Ty (w : World) (T : Nat) (L : Lvl) (n hi : Nat) (v : Value) (sd : Int) (W : World) : Prop where
  own : OwS 2 (w.heap.size + 2) hi W v n (fun i => .int .i64 (L.f i))
  res : Blk W w.heap.size #[.int .i64 0, .slice none 0 0, .int .i64 0] 57
  seed : Blk W (w.heap.size + 1) #[.int .i64 sd] 2
  tree : Blk W T #[.int .i64 0, v, .int .i64 sd] 57
  below : Below w.heap.size w W
  lt : w.heap.size + 2 ≤ T ∧ T < hi ∧ hi ≤ W.heap.size
theorem Ty.later {w W W' : World} {T : Nat} {L : Lvl} {n hi : Nat} {v : Value} {sd : Int} (h : Ty w T L n hi v sd W) (b : Below hi W W') : Ty w T L n hi v sd W' := by
  have := h.lt
  exact ⟨h.own.keep b (Nat.le_refl _), (b.block _ (by omega)).trans h.res, (b.block _ (by omega)).trans h.seed, (b.block _ (by omega)).trans h.tree, h.below.trans (b.mono (by omega)), by have := b.size; omega⟩
set_option maxRecDepth 20000 in
set_option maxHeartbeats 6400000 in
theorem tree_i_good {p s : Int} {l : Nat} (hg : Tgood p l s) (w : World) : FX 29 #[.int .i64 p, .int .i64 (l : Int), .int .i64 s] w 0 (2 ^ l) (tre p s l).f (tre p s l).s := by
  unfold FX
  have HT : Hid (∀ k, Lvk (tre p s k)) := tre_ok ⟨hg.p0, hg.p1⟩ ⟨hg.s0, hg.s1⟩
  obtain ⟨p0, p1, l0, l1, s0, s1⟩ := hg
  have hp : photB p = true := by simp [photB]; omega
  have hl : l ≤ 6 := by omega
  have hs : Ck s (0 : Nat) 2 := ⟨by omega, by omega, by omega, by omega, s0, s1⟩
  have HC : Hid (∀ (q : Nat) (W : World), Blk W q #[.int .i64 s] 2 → Calls Try.prog 120 #[.int .i64 0, .int .i64 2, .pointer (some ⟨q, 0, none⟩)] W fun e w' => ∃ v, e = .returned (Fx 0 v s) ∧ OwS 2 W.heap.size w'.heap.size w' v 0 (fun i => .int .i64 0) ∧ Within q (q + 1) W w' ∧ Blk w' q #[.int .i64 s] 2) := fun q W hW => (draw_any (fun W => iCoins_good s 2 0 hs W) q W hW).mono fun _ _ ⟨v, h1, h2, h3, h4⟩ => ⟨v, h1, h2.congr (fun i hi => by omega), h3, h4⟩
  go_enter Try.func29, Try.ntmps29
  go_wp2_with fail
  refine (coinsFrom_any s _).mono ?_
  rintro e w1 ⟨rfl, hw1⟩
  have H1 : Hid (Blk w1 w.heap.size #[.int .i64 0, .slice none 0 0, .int .i64 0] 57 ∧ Blk w1 (w.heap.size + 1) #[.int .i64 s] 2 ∧ Below w.heap.size w w1 ∧ w.heap.size + 2 ≤ w1.heap.size) := by
    rw [hw1]
    exact ⟨(Blk.new rfl).alloc _, Blk.new (by simp), ((Below.refl _ _).alloc (Nat.le_refl _) _).alloc (by simp) _, by simp⟩
  rw [show (w.alloc (.cells #[.int .i64 0, .slice none 0 0, .int .i64 0] 57)).heap.size = w.heap.size + 1 by simp]
  clear hw1
  go_wp2_with fail
  refine (HC.out _ _ H1.out.2.1).mono ?_
  rintro e w2 ⟨v0, rfl, ho, wi, hq⟩
  obtain ⟨ao0, cap0, rfl⟩ := ho.form
  go_upto_region 3 with fail
  obtain ⟨w3, hw3⟩ : ∃ W, W = w2.alloc (.cells #[.int .i64 0, .slice ao0 0 cap0, .int .i64 s] 57) := ⟨_, rfl⟩
  have H3 : Hid (Blk w3 w.heap.size #[.int .i64 0, .slice none 0 0, .int .i64 0] 57 ∧ Blk w3 (w.heap.size + 1) #[.int .i64 s] 2 ∧ Below w.heap.size w w3 ∧ w.heap.size + 2 ≤ w2.heap.size ∧ Blk w3 w2.heap.size #[.int .i64 0, .slice ao0 0 cap0, .int .i64 s] 57) := by
    have b3 : Below w2.heap.size w2 w3 := by rw [hw3]; exact (Below.refl _ _).alloc (Nat.le_refl _) _
    have z2 := wi.below.size
    have z1 := H1.out.2.2.2
    exact ⟨(H1.out.1.under wi (by omega)).later b3, hq.later b3, (H1.out.2.2.1.trans (wi.below.mono (by omega))).trans (b3.mono (by omega)), by omega, by rw [hw3]; exact Blk.new rfl⟩
  rw [← hw3]
  clear hw3 ho wi hq H1 HC
  have hz : w.heap.size + 2 ≤ w2.heap.size := H3.out.2.2.2.1
  have g0 := H3.out.2.2.2.2.cell (j := 0) (v := .int .i64 0) rfl
  go_wp2_with fail
  refine (phot_i p _).mono ?_
  rintro e w4 ⟨rfl, rfl⟩
  rw [hp]
  have g2 := H3.out.2.2.2.2.cell (j := 2) (v := .int .i64 s) rfl
  have g3 : ∀ ob, (w3.alloc ob).cell? ⟨w2.heap.size, 2, none⟩ = some (.int .i64 s) := fun ob => caold g2
  have hz3 : w2.heap.size < w3.heap.size := H3.out.2.2.2.2.lt
  go_upto_region 6 with fail
  obtain ⟨w0, hw0⟩ : ∃ W, W = (w3.alloc (.cells #[.int .i64 p] 2)).alloc (.cells #[.int .i64 0, .slice (some ⟨w3.heap.size, 0, none⟩) 1 1, .int .i64 s] 57) := ⟨_, rfl⟩
  have H0 : Hid (Ty w (w3.heap.size + 1) (tre p s 0) 1 w0.heap.size (.slice (some ⟨w3.heap.size, 0, none⟩) 1 1) (tre p s 0).s w0) := by
    have hh : Ty w (w3.heap.size + 1) (tre p s 0) 1 w0.heap.size (.slice (some ⟨w3.heap.size, 0, none⟩) 1 1) (tre p s 0).s w0 := by
      have z3 := H3.out.2.2.2.2.lt
      rw [hw0]
      refine ⟨Or.inr ⟨w3.heap.size, 1, rfl, by omega, by simp; omega, ?_⟩, (H3.out.1.alloc _).alloc _, (H3.out.2.1.alloc _).alloc _, Blk.new (by simp), (H3.out.2.2.1.alloc (by omega) _).alloc (by simp; omega) _, by simp; omega⟩
      exact Seg.alloc ⟨#[.int .i64 p], heap_alloc_new w3 (.cells #[.int .i64 p] 2), fun i hi => by obtain rfl : i = 0 := (by omega); rfl⟩ _
    exact hh
  rw [← hw0]
  obtain ⟨T, hT⟩ : ∃ T, T = w3.heap.size + 1 := ⟨_, rfl⟩
  rw [← hT] at H0 ⊢
  clear hw0 hp hT H3 g0 g2 g3 hz3 hs
  go_wp2_with fail
  go_loopw [41] (fun i wr => ∃ (k : Nat) (ao : Option Addr) (cap : Nat), k ≤ l ∧ i = .int .i64 (k : Int) ∧ Hid (Ty w T (tre p s k) (2 ^ k) wr.heap.size (.slice ao (2 ^ k : Nat) cap) (tre p s k).s wr)) (fun i _ => l - (intOf i).toNat)
  case atStart => exact ⟨0, _, _, Nat.zero_le _, rfl, H0⟩
  case round =>
    obtain ⟨k, ao, cap, hk, rfl, HK⟩ := hrel
    clear H0
    by_cases hkl : k < l
    · have hkI : (k : Int) < l := by omega
      have HL : Hid (Lvk (tre p s k)) := HT.out k
      have HN : Hid (tre p s (k + 1) = nxt (tre p s k) (2 ^ k)) := rfl
      have hn : 2 ^ k ≤ 64 := pow_le6 (by omega)
      have h2 : 2 ^ (k + 1) = 2 * 2 ^ k := by rw [Nat.pow_succ, Nat.mul_comm]
      have H2 : Hid (2 ^ (k + 1) = 2 * 2 ^ k) := h2
      clear h2
      obtain ⟨n, hnn⟩ : ∃ n, n = 2 ^ k := ⟨_, rfl⟩
      obtain ⟨L, hL⟩ : ∃ L, L = tre p s k := ⟨_, rfl⟩
      rw [← hnn] at HN H2 hn HK
      rw [← hL] at HL HN HK
      clear hnn hL
      have t1 := HK.out.tree.cell (j := 1) (v := .slice ao n cap) rfl
      have hmk : ∀ W : World, (Instr.makeSlice 24 (.int .i64 0) (.int .i64 (2 * (n : Int)))).run Try.prog W = .ok (.slice (some ⟨W.heap.size, 0, none⟩) 0 (2 * n)) (W.alloc (.cells (madeCells #[.int .i64 0] (2 * n)) 2)) := fun W => by
        have := make0I (2 * n) (by omega) W
        rwa [show (((2 * n : Nat)) : Int) = 2 * (n : Int) by omega, Nat.mul_one] at this
      go_upto_region 9 with fail
      clear hmk
      obtain ⟨x1, hx1⟩ : ∃ W, W = wr.alloc (.cells (madeCells #[.int .i64 0] (2 * n)) 2) := ⟨_, rfl⟩
      have O1 : Hid (x1.ownsRow wr.heap.size 2 1 (.slice (some ⟨wr.heap.size, 0, none⟩) 0 (2 * n)) 0 []) := by show World.ownsRow _ _ _ _ _ _ _; rw [hx1]; have := owns_made wr #[.int .i64 0] (2 * n) 1 2 (by unfold maxLen; omega); rwa [Nat.mul_one] at this
      have H1 : Hid (Ty w T L n wr.heap.size (.slice ao n cap) L.s x1) := HK.out.later (by rw [hx1]; exact (Below.refl _ _).alloc (Nat.le_refl _) _)
      rw [← hx1]
      clear hx1 HK t1
      obtain ⟨Bs, hBs⟩ : ∃ B, B = wr.heap.size := ⟨_, rfl⟩
      rw [← hBs] at O1 H1 ⊢
      clear hBs
      have t1 := H1.out.tree.cell (j := 1) (v := .slice ao n cap) rfl
      go_wp2_with fail
      clear t1
      go_loopw [10, 51] (fun v i wx => ∃ (j : Nat) (a9 : Option Addr) (c9 : Nat), j ≤ n ∧ i = .int .i64 (j : Int) ∧ v = .slice a9 (2 * j) c9 ∧ Hid (wx.ownsRow Bs 2 1 v (2 * j) (il (nxt L n).f (2 * j)) ∧ Ty w T L n Bs (.slice ao n cap) (ps L j) wx)) (fun _ i _ => n - (intOf i).toNat)
      case atStart => exact ⟨0, _, _, Nat.zero_le _, rfl, rfl, O1.out, H1.out⟩
      case round =>
        obtain ⟨j, a9, c9, hj, rfl, rfl, HJ⟩ := hrel
        clear O1 H1
        by_cases hjn : j < n
        · have hb := HL.out.f0 j
          have hG := HL.out.good j
          obtain ⟨m, hm⟩ := Int.eq_ofNat_of_zero_le hb.1
          have e1 := nxt_even L n j
          have e2 := nxt_odd L n j
          have e3 : ps L (j + 1) = cx (ps L j) (L.f j).toNat := rfl
          rcases HJ.out.2.own with ⟨q0, q1⟩ | ⟨g, cp, q0, q1, q2, q3⟩
          · omega
          cases q0
          have k1 := q3.cell (i := j) hjn
          rw [Nat.zero_add] at k1
          rw [hm] at hG e1 e2 e3 k1 hb
          rw [Int.toNat_natCast] at hG e1 e2 e3
          have cab := ca_bd (ps L j) 2 1 m
          have SC : Hid (∀ (q : Nat) (W : World), Blk W q #[.int .i64 (ps L j)] 2 → Calls Try.prog 85 #[Kl q, .int .i64 (m : Int), .int .i64 1, .int .i64 2] W fun e w' => e = .returned (Kv 0 (ca (ps L j) 2 1 m) ((m : Int) - ca (ps L j) 2 1 m) (cx (ps L j) m)) ∧ Within q (q + 1) W w' ∧ Blk w' q #[.int .i64 (cx (ps L j) m)] 2) := fun q W hW => splitBy_good hG q W hW
          rw [← e3] at SC
          obtain ⟨E, hE⟩ : ∃ E, E = ca (ps L j) 2 1 m := ⟨_, rfl⟩
          rw [← hE] at SC e1 e2 cab
          have HE : Hid ((nxt L n).f (2 * j) = E ∧ (nxt L n).f (2 * j + 1) = (m : Int) - E) := ⟨e1, e2⟩
          have hm4 : (m : Int) ≤ 4096 := by omega
          clear hE e1 e2 e3 hG hb hm q3
          go_wp2_with fail
          refine (SC.out _ _ HJ.out.2.seed).mono ?_
          rintro e x2 ⟨rfl, wi, hq⟩
          have hlt := HJ.out.2.lt
          have O2 : Hid (x2.ownsRow Bs 2 1 (.slice a9 (2 * j) c9) (2 * j) (il (nxt L n).f (2 * j)) ∧ Blk x2 (w.heap.size + 1) #[.int .i64 (ps L (j + 1))] 2 ∧ Blk x2 T #[.int .i64 0, .slice (some ⟨g, 0, none⟩) n cap, .int .i64 (ps L j)] 57 ∧ OwS 2 (w.heap.size + 2) Bs x2 (.slice (some ⟨g, 0, none⟩) n cap) n (fun i => .int .i64 (L.f i)) ∧ Blk x2 w.heap.size #[.int .i64 0, .slice none 0 0, .int .i64 0] 57 ∧ Below w.heap.size w x2 ∧ Bs ≤ x2.heap.size) :=
            ⟨owns_under HJ.out.1 wi (by omega), hq, HJ.out.2.tree.under wi (by omega), HJ.out.2.own.under wi (by omega), HJ.out.2.res.under wi (by omega), HJ.out.2.below.trans (wi.below.mono (by omega)), by have := wi.below.size; omega⟩
          clear wi hq HJ SC k1
          go_upto_region 13 with fail
          obtain ⟨x3, hx3⟩ : ∃ W, W = x2.alloc (.cells #[.int .i64 0, .int .i64 E, .int .i64 ((m : Int) - E), .int .i64 (ps L (j + 1))] 52) := ⟨_, rfl⟩
          have b3 : Below x2.heap.size x2 x3 := by rw [hx3]; exact (Below.refl _ _).alloc (Nat.le_refl _) _
          have B3 : Hid (Blk x3 x2.heap.size #[.int .i64 0, .int .i64 E, .int .i64 ((m : Int) - E), .int .i64 (ps L (j + 1))] 52) := by show Blk _ _ _ _; rw [hx3]; exact Blk.new rfl
          have O3 : Hid (x3.ownsRow Bs 2 1 (.slice a9 (2 * j) c9) (2 * j) (il (nxt L n).f (2 * j))) := owns_later O2.out.1 b3
          have T3 : Hid (Blk x3 (w.heap.size + 1) #[.int .i64 (ps L (j + 1))] 2 ∧ Blk x3 T #[.int .i64 0, .slice (some ⟨g, 0, none⟩) n cap, .int .i64 (ps L j)] 57 ∧ OwS 2 (w.heap.size + 2) Bs x3 (.slice (some ⟨g, 0, none⟩) n cap) n (fun i => .int .i64 (L.f i)) ∧ Blk x3 w.heap.size #[.int .i64 0, .slice none 0 0, .int .i64 0] 57 ∧ Below w.heap.size w x3) :=
            ⟨O2.out.2.1.later b3, O2.out.2.2.1.later b3, O2.out.2.2.2.1.later b3, O2.out.2.2.2.2.1.later b3, O2.out.2.2.2.2.2.1.trans (b3.mono (by have := O2.out.2.2.2.2.2.2; omega))⟩
          have z3 : Bs ≤ x2.heap.size := O2.out.2.2.2.2.2.2
          rw [← hx3]
          have zx : x3.heap.size = x2.heap.size + 1 := by rw [hx3]; simp
          have z4 : Bs ≤ x3.heap.size := by omega
          clear hx3 b3 O2 zx
          have c1 := B3.out.cell (j := 1) (v := .int .i64 E) rfl
          have c2 := B3.out.cell (j := 2) (v := .int .i64 ((m : Int) - E)) rfl
          have c3 := B3.out.cell (j := 3) (v := .int .i64 (ps L (j + 1))) rfl
          go_wp2_with (first | (at_builtin; refine push2_law rfl (.tmp 58) (.tmp 63) 24 rfl 2 (.int .i64 0) 1 8 Try.underlying24 info2 rfl (by decide) (by decide) x3 [.int .i64 E, .int .i64 ((m : Int) - E)] rfl (by intro u hu; simp at hu; rcases hu with rfl | rfl <;> rfl) Bs _ (2 * j) _ (by simp [Act.eval]) O3.out 2 (by simp [Act.eval]) (by omega) z4 ?_; intro v1 x6 own6 grow6 nn6; obtain ⟨g', cp', rfl⟩ := owns_form2 own6; have b6 : Below Bs x3 x6 := push_below O3.out grow6 (Below.refl _ _) z4; have r3 := (own_keep O3.out grow6 B3.out (by decide)).cell (j := 3) (v := .int .i64 (ps L (j + 1))) rfl; have T6 : Hid (Blk x6 T #[.int .i64 0, .slice (some ⟨g, 0, none⟩) n cap, .int .i64 (ps L j)] 57) := (b6.block _ (by omega)).trans T3.out.2.1; have t2 := T6.out.cell (j := 2) (v := .int .i64 (ps L j)) rfl; have u2 := T6.out.frozen 2))
          have HQ : Hid ((x6.setCell ⟨T, 2, none⟩ (.int .i64 (ps L (j + 1)))).ownsRow Bs 2 1 (.slice (some ⟨g', 0, none⟩) (2 * j + 2) cp') (2 * (j + 1)) (il (nxt L n).f (2 * (j + 1))) ∧ Ty w T L n Bs (.slice (some ⟨g, 0, none⟩) n cap) (ps L (j + 1)) (x6.setCell ⟨T, 2, none⟩ (.int .i64 (ps L (j + 1))))) := by
            have z6 := b6.size
            refine ⟨owns_set ?_ (by omega), ?_⟩
            · rw [show 2 * (j + 1) = 2 * j + 2 by omega, ← il_push2, HE.out.1, HE.out.2]
              exact own6
            · refine ⟨?_, Blk.setOther ((b6.block _ (by omega)).trans T3.out.2.2.2.1) (by simp; omega) _, Blk.setOther ((b6.block _ (by omega)).trans T3.out.1) (by simp; omega) _, T6.out.set 2 _ rfl, (T3.out.2.2.2.2.trans (b6.mono (by omega))).setCell (by simp; omega) _, by simp; omega⟩
              rcases T3.out.2.2.1.keep b6 (Nat.le_refl _) with ⟨e1, e2⟩ | ⟨gg, cc, e1, h1, h2, h3⟩
              · exact Or.inl ⟨e1, e2⟩
              · refine Or.inr ⟨gg, cc, e1, h1, h2, h3.setOther ?_ _⟩
                intro e
                simp only at e
                subst e
                obtain ⟨cz, hcz, -⟩ := h3
                have hq := hcz.symm.trans T6.out
                simp at hq
          clear own6 grow6 nn6 b6 T3 O3 B3 c1 c2 c3 HE T6
          go_wp2
          refine ⟨⟨j + 1, _, _, by omega, by simp, rfl, HQ⟩, by simp [intOf]; omega⟩
        · obtain rfl : j = n := by omega
          have hlt := HJ.out.2.lt
          have t1 := HJ.out.2.tree.cell (j := 1) (v := .slice ao j cap) rfl
          have u1 := HJ.out.2.tree.frozen 1
          have HQ : Hid (Ty w T (tre p s (k + 1)) (2 ^ (k + 1)) (wr.setCell ⟨T, 1, none⟩ (.slice a9 (2 * j) c9)).heap.size (.slice a9 (2 ^ (k + 1) : Nat) c9) (tre p s (k + 1)).s (wr.setCell ⟨T, 1, none⟩ (.slice a9 (2 * j) c9))) := by
            have hh : Ty w T (tre p s (k + 1)) (2 ^ (k + 1)) (wr.setCell ⟨T, 1, none⟩ (.slice a9 (2 * j) c9)).heap.size (.slice a9 (2 ^ (k + 1) : Nat) c9) (tre p s (k + 1)).s (wr.setCell ⟨T, 1, none⟩ (.slice a9 (2 * j) c9)) := by
              rw [HN.out, H2.out]
              refine ⟨?_, HJ.out.2.res.setOther (by simp; omega) _, HJ.out.2.seed.setOther (by simp; omega) _, HJ.out.2.tree.set 1 _ rfl, HJ.out.2.below.setCell (by simp; omega) _, by simp; omega⟩
              rcases (owned_il HJ.out.1).low (lo' := w.heap.size + 2) (by omega) (Nat.le_refl _) with ⟨e1, e2⟩ | ⟨gg, cc, e1, h1, h2, h3⟩
              · exact Or.inl ⟨e1, e2⟩
              · refine Or.inr ⟨gg, cc, e1, h1, by simpa using h2, h3.setOther ?_ _⟩
                intro e
                simp only at e
                subst e
                obtain ⟨cz, hcz, -⟩ := h3
                have hq := hcz.symm.trans HJ.out.2.tree
                simp at hq
            exact hh
          clear HJ HL HN H2
          go_wp2
          exact ⟨⟨k + 1, a9, c9, by omega, by simp, HQ⟩, by simp [intOf]; omega⟩
    · obtain rfl : k = l := by omega
      have hkI : ¬ (k : Int) < k := by omega
      obtain ⟨n, hnn⟩ : ∃ n, n = 2 ^ k := ⟨_, rfl⟩
      obtain ⟨L, hL⟩ : ∃ L, L = tre p s k := ⟨_, rfl⟩
      rw [← hnn, ← hL] at HK
      have RW : Hid (n = 2 ^ k ∧ L = tre p s k) := ⟨hnn, hL⟩
      clear hnn hL HT
      have hlt := HK.out.lt
      have t0 := HK.out.tree.cell (j := 0) (v := .int .i64 0) rfl
      have t1 := HK.out.tree.cell (j := 1) (v := .slice ao n cap) rfl
      have t2 := HK.out.tree.cell (j := 2) (v := .int .i64 L.s) rfl
      have d0 := HK.out.res.cell (j := 0) (v := .int .i64 0) rfl
      have f0 := HK.out.res.frozen 0
      have d1 := HK.out.res.cell (j := 1) (v := .slice none 0 0) rfl
      have f1 := HK.out.res.frozen 1
      have d2 := HK.out.res.cell (j := 2) (v := .int .i64 0) rfl
      have f2 := HK.out.res.frozen 2
      go_wp2
      refine bodyPost_ret (v := Fx 0 (.slice ao n cap) L.s) (by simp [results, Try.results29, go_sem, d0, d1, d2]) rfl ⟨.slice ao n cap, by rw [RW.out.2], ?_, ((HK.out.below.setCell (by simp) _).setCell (by simp) _).setCell (by simp) _⟩
      rw [← RW.out.1, ← RW.out.2]
      rcases HK.out.own with ⟨e1, e2⟩ | ⟨g, cp, e1, h1, h2, h3⟩
      · exact Or.inl ⟨e1, e2⟩
      · exact Or.inr ⟨g, cp, e1, by omega, by simpa using h2, ((h3.setOther (by simp; omega) _).setOther (by simp; omega) _).setOther (by simp; omega) _⟩
end Go.Proofs.Ytkkajcdjkfbcgaa
