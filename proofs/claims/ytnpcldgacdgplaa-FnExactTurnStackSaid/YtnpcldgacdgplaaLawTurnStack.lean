/- At every stack the program answers the stack turned as the specification turns it, in memory of its own, where the law's own bound on the films does not answer first; nothing that was there is changed. -/
import Derived.Test.YtnpcldgacdgplaaMg
import Derived.Handy
import Derived.Deep.RegionHeld3
import Derived.Deep.DeepCutAuto
namespace Go.Proofs.Ytnpcldgacdgplaa.LawTurnStack
open Go.ChangeShapes Go.WideShapes Go.ChangeAt Go.RowKit Go.Joins Fl
set_option linter.unusedVariables false

set_option maxHeartbeats 6400000 in
theorem walk {a o : Nat} {v : Value} {n : Nat} {G : Nat → Fi} {w : World} (ha : a < 18446744073709551616) (ho : o < 18446744073709551616) (h : RdV w v n 3 (fun i j => fcell (G i) j)) (hn : n ≤ 9223372036854775807) (ok : ∀ k, k < n → FiOk (G k)) :
    Calls Try.prog 8 #[Sv a o v] w fun e w' => e = .returned (.bool true) ∧ Below w.heap.size w w' := by
  obtain ⟨ao, cap, rfl⟩ := h.form
  have H : Hid (RdV w (.slice ao n cap) n 3 (fun i j => fcell (G i) j) ∧ a < 18446744073709551616 ∧ o < 18446744073709551616 ∧ (∀ k, k < n → FiOk (G k)) ∧ (∀ k, k < n → FiOk (revG n G k))) := ⟨h, ha, ho, ok, fun k hk => ok _ (by omega)⟩
  clear h ha ho ok
  have hst := st64
  obtain ⟨X, hX⟩ : ∃ V, V = w.alloc (.cells #[.float .f64 a, .float .f64 o, .slice ao n cap] 25) := ⟨_, rfl⟩
  have gX : Below w.heap.size w X := by rw [hX]; exact (Below.refl _ _).alloc (Nat.le_refl _) _
  have zX : X.heap.size = w.heap.size + 1 := by rw [hX]; simp
  have c0_X : X.cell? ⟨w.heap.size, 0, none⟩ = some (.float .f64 a) := by rw [hX]; exact cell_alloc_new rfl rfl
  have c1_X : X.cell? ⟨w.heap.size, 1, none⟩ = some (.float .f64 o) := by rw [hX]; exact cell_alloc_new rfl rfl
  have c2_X : X.cell? ⟨w.heap.size, 2, none⟩ = some (.slice ao n cap) := by rw [hX]; exact cell_alloc_new rfl rfl
  have BX : Hid (Below w.heap.size w X) := gX
  go_enter Try.func8, Try.ntmps8
  go_upto_region 1 with fail
  rw [← hX]
  clear hX gX zX
  go_wp2_with fail
  refine (szSt_any a o ao n cap _ hn).mono ?_
  rintro e w0 ⟨rfl, b0⟩
  have c0_w0 : w0.cell? ⟨w.heap.size, 0, none⟩ = some (.float .f64 a) := old_cell b0 (World.block_lt_of_cell? _ _ c0_X) c0_X
  have c1_w0 : w0.cell? ⟨w.heap.size, 1, none⟩ = some (.float .f64 o) := old_cell b0 (World.block_lt_of_cell? _ _ c1_X) c1_X
  have c2_w0 : w0.cell? ⟨w.heap.size, 2, none⟩ = some (.slice ao n cap) := old_cell b0 (World.block_lt_of_cell? _ _ c2_X) c2_X
  clear c0_X c1_X c2_X
  have A0 : Hid (Below w.heap.size w w0) := box_step BX.out b0 (Nat.le_refl _)
  clear b0 BX
  unfold szOf
  by_cases hb : 1048576 < n
  · rw [if_pos hb]
    go_wp2
    go_ret
    exact ⟨rfl, A0.out⟩
  rw [if_neg hb]
  have hn2 : n ≤ 1000000000000 := by omega
  have hn3 : ¬ ((1048576 : Int) - n < 0) := by omega
  go_wp2_with fail
  refine (toSt_any (H.out.1.later A0.out) hn2).mono ?_
  rintro e w1 ⟨b, rfl, s1, l1, l1', b1⟩
  have c0_w1 : w1.cell? ⟨w.heap.size, 0, none⟩ = some (.float .f64 a) := old_cell b1 (World.block_lt_of_cell? _ _ c0_w0) c0_w0
  have c1_w1 : w1.cell? ⟨w.heap.size, 1, none⟩ = some (.float .f64 o) := old_cell b1 (World.block_lt_of_cell? _ _ c1_w0) c1_w0
  have c2_w1 : w1.cell? ⟨w.heap.size, 2, none⟩ = some (.slice ao n cap) := old_cell b1 (World.block_lt_of_cell? _ _ c2_w0) c2_w0
  clear c0_w0 c1_w0 c2_w0
  have A1 : Hid (SegV w1 b 60 n 3 (fun i j => fcell (G i) j) ∧ Below w.heap.size w w1) := ⟨s1, box_step A0.out b1 (Nat.le_refl _)⟩
  clear s1 l1 l1' b1 A0
  go_wp2_with fail
  refine (sTurnS_any (by omega) A1.out.1).mono ?_
  rintro e w2 ⟨v0, rfl, ov, b2⟩
  have c0_w2 : w2.cell? ⟨w.heap.size, 0, none⟩ = some (.float .f64 a) := old_cell b2 (World.block_lt_of_cell? _ _ c0_w1) c0_w1
  have c1_w2 : w2.cell? ⟨w.heap.size, 1, none⟩ = some (.float .f64 o) := old_cell b2 (World.block_lt_of_cell? _ _ c1_w1) c1_w1
  have c2_w2 : w2.cell? ⟨w.heap.size, 2, none⟩ = some (.slice ao n cap) := old_cell b2 (World.block_lt_of_cell? _ _ c2_w1) c2_w1
  clear c0_w1 c1_w1 c2_w1
  obtain ⟨ao0, cap0, rfl⟩ := ov.form
  have zb2 := b2.size
  have zA1 := A1.out.2.size
  have A2 : Hid (OwV w2 w1.heap.size (.slice ao0 n cap0) n (fun i j => fcell (revG n G i) j) ∧ Below w.heap.size w w2) := ⟨ov, box_step A1.out.2 b2 (Nat.le_refl _)⟩
  clear ov b2 A1
  obtain ⟨V, hV⟩ : ∃ V, V = w2.alloc (.cells #[.float .f64 o, .float .f64 a, .slice ao0 n cap0] 30) := ⟨_, rfl⟩
  have gV : Below w2.heap.size w2 V := by rw [hV]; exact (Below.refl _ _).alloc (Nat.le_refl _) _
  have zV : V.heap.size = w2.heap.size + 1 := by rw [hV]; simp
  have c0_V : V.cell? ⟨w.heap.size, 0, none⟩ = some (.float .f64 a) := old_cell gV (World.block_lt_of_cell? _ _ c0_w2) c0_w2
  have c1_V : V.cell? ⟨w.heap.size, 1, none⟩ = some (.float .f64 o) := old_cell gV (World.block_lt_of_cell? _ _ c1_w2) c1_w2
  have c2_V : V.cell? ⟨w.heap.size, 2, none⟩ = some (.slice ao n cap) := old_cell gV (World.block_lt_of_cell? _ _ c2_w2) c2_w2
  clear c0_w2 c1_w2 c2_w2
  have d0_V : V.cell? ⟨w2.heap.size, 0, none⟩ = some (.float .f64 o) := by rw [hV]; exact cell_alloc_new rfl rfl
  have d1_V : V.cell? ⟨w2.heap.size, 1, none⟩ = some (.float .f64 a) := by rw [hV]; exact cell_alloc_new rfl rfl
  have d2_V : V.cell? ⟨w2.heap.size, 2, none⟩ = some (.slice ao0 n cap0) := by rw [hV]; exact cell_alloc_new rfl rfl
  have HZ1' : w.heap.size ≤ w1.heap.size ∧ w1.heap.size ≤ w2.heap.size ∧ w2.heap.size < V.heap.size := ⟨zA1, zb2, by omega⟩
  clear zA1 zb2
  have A3 : Hid (OwV V w1.heap.size (.slice ao0 n cap0) n (fun i j => fcell (revG n G i) j) ∧ Below w.heap.size w V) := ⟨A2.out.1.later gV, box_step A2.out.2 gV (Nat.le_refl _)⟩
  clear A2
  go_upto_region 6 with fail
  rw [← hV]
  have HZ1 : Hid (w.heap.size ≤ w1.heap.size ∧ w1.heap.size ≤ w2.heap.size ∧ w2.heap.size < V.heap.size) := HZ1'
  clear hV gV zV HZ1'
  go_wp2_with fail
  refine (toSt_any (H.out.1.later A3.out.2) hn2).mono ?_
  rintro e w3 ⟨b', rfl, s3, l3, l3', b3⟩
  have c0_w3 : w3.cell? ⟨w.heap.size, 0, none⟩ = some (.float .f64 a) := old_cell b3 (World.block_lt_of_cell? _ _ c0_V) c0_V
  have c1_w3 : w3.cell? ⟨w.heap.size, 1, none⟩ = some (.float .f64 o) := old_cell b3 (World.block_lt_of_cell? _ _ c1_V) c1_V
  have c2_w3 : w3.cell? ⟨w.heap.size, 2, none⟩ = some (.slice ao n cap) := old_cell b3 (World.block_lt_of_cell? _ _ c2_V) c2_V
  have d0_w3 : w3.cell? ⟨w2.heap.size, 0, none⟩ = some (.float .f64 o) := old_cell b3 (World.block_lt_of_cell? _ _ d0_V) d0_V
  have d1_w3 : w3.cell? ⟨w2.heap.size, 1, none⟩ = some (.float .f64 a) := old_cell b3 (World.block_lt_of_cell? _ _ d1_V) d1_V
  have d2_w3 : w3.cell? ⟨w2.heap.size, 2, none⟩ = some (.slice ao0 n cap0) := old_cell b3 (World.block_lt_of_cell? _ _ d2_V) d2_V
  clear c0_V c1_V c2_V d0_V d1_V d2_V
  have A4 : Hid (SegV w3 b' 60 n 3 (fun i j => fcell (G i) j) ∧ OwV w3 w1.heap.size (.slice ao0 n cap0) n (fun i j => fcell (revG n G i) j) ∧ Below w.heap.size w w3 ∧ V.heap.size ≤ b') := ⟨s3, A3.out.1.later b3, box_step A3.out.2 b3 (Nat.le_refl _), l3⟩
  clear s3 l3 l3' b3
  obtain ⟨U, hU⟩ : ∃ V, V = w3.alloc (.cells #[.float .f64 a, .float .f64 o, .slice (some ⟨b', 0, none⟩) n n] 30) := ⟨_, rfl⟩
  have gU : Below w3.heap.size w3 U := by rw [hU]; exact (Below.refl _ _).alloc (Nat.le_refl _) _
  have zU : U.heap.size = w3.heap.size + 1 := by rw [hU]; simp
  have c0_U : U.cell? ⟨w.heap.size, 0, none⟩ = some (.float .f64 a) := old_cell gU (World.block_lt_of_cell? _ _ c0_w3) c0_w3
  have c1_U : U.cell? ⟨w.heap.size, 1, none⟩ = some (.float .f64 o) := old_cell gU (World.block_lt_of_cell? _ _ c1_w3) c1_w3
  have c2_U : U.cell? ⟨w.heap.size, 2, none⟩ = some (.slice ao n cap) := old_cell gU (World.block_lt_of_cell? _ _ c2_w3) c2_w3
  have d0_U : U.cell? ⟨w2.heap.size, 0, none⟩ = some (.float .f64 o) := old_cell gU (World.block_lt_of_cell? _ _ d0_w3) d0_w3
  have d1_U : U.cell? ⟨w2.heap.size, 1, none⟩ = some (.float .f64 a) := old_cell gU (World.block_lt_of_cell? _ _ d1_w3) d1_w3
  have d2_U : U.cell? ⟨w2.heap.size, 2, none⟩ = some (.slice ao0 n cap0) := old_cell gU (World.block_lt_of_cell? _ _ d2_w3) d2_w3
  clear c0_w3 c1_w3 c2_w3 d0_w3 d1_w3 d2_w3
  have f0_U : U.cell? ⟨w3.heap.size, 0, none⟩ = some (.float .f64 a) := by rw [hU]; exact cell_alloc_new rfl rfl
  have f1_U : U.cell? ⟨w3.heap.size, 1, none⟩ = some (.float .f64 o) := by rw [hU]; exact cell_alloc_new rfl rfl
  have f2_U : U.cell? ⟨w3.heap.size, 2, none⟩ = some (.slice (some ⟨b', 0, none⟩) n n) := by rw [hU]; exact cell_alloc_new rfl rfl
  have A5 : Hid (SegV U b' 60 n 3 (fun i j => fcell (G i) j) ∧ OwV U w1.heap.size (.slice ao0 n cap0) n (fun i j => fcell (revG n G i) j) ∧ Below w.heap.size w U ∧ b' < w3.heap.size) := ⟨A4.out.1.below gU, A4.out.2.1.later gU, box_step A4.out.2.2.1 gU (Nat.le_refl _), A4.out.1.lt⟩
  go_upto_region 7 with fail
  rw [← hU]
  have HZ2 : Hid (w3.heap.size < U.heap.size) := (show w3.heap.size < U.heap.size by omega)
  clear hU gU zU
  go_wp2_with fail
  refine (iTurnS_any (by omega) A5.out.1).mono ?_
  rintro e w4 ⟨v4, rfl, ov, b4⟩
  have c0_w4 : w4.cell? ⟨w.heap.size, 0, none⟩ = some (.float .f64 a) := old_cell b4 (World.block_lt_of_cell? _ _ c0_U) c0_U
  have c1_w4 : w4.cell? ⟨w.heap.size, 1, none⟩ = some (.float .f64 o) := old_cell b4 (World.block_lt_of_cell? _ _ c1_U) c1_U
  have c2_w4 : w4.cell? ⟨w.heap.size, 2, none⟩ = some (.slice ao n cap) := old_cell b4 (World.block_lt_of_cell? _ _ c2_U) c2_U
  have d0_w4 : w4.cell? ⟨w2.heap.size, 0, none⟩ = some (.float .f64 o) := old_cell b4 (World.block_lt_of_cell? _ _ d0_U) d0_U
  have d1_w4 : w4.cell? ⟨w2.heap.size, 1, none⟩ = some (.float .f64 a) := old_cell b4 (World.block_lt_of_cell? _ _ d1_U) d1_U
  have d2_w4 : w4.cell? ⟨w2.heap.size, 2, none⟩ = some (.slice ao0 n cap0) := old_cell b4 (World.block_lt_of_cell? _ _ d2_U) d2_U
  have f0_w4 : w4.cell? ⟨w3.heap.size, 0, none⟩ = some (.float .f64 a) := old_cell b4 (World.block_lt_of_cell? _ _ f0_U) f0_U
  have f1_w4 : w4.cell? ⟨w3.heap.size, 1, none⟩ = some (.float .f64 o) := old_cell b4 (World.block_lt_of_cell? _ _ f1_U) f1_U
  have f2_w4 : w4.cell? ⟨w3.heap.size, 2, none⟩ = some (.slice (some ⟨b', 0, none⟩) n n) := old_cell b4 (World.block_lt_of_cell? _ _ f2_U) f2_U
  clear c0_U c1_U c2_U d0_U d1_U d2_U f0_U f1_U f2_U
  obtain ⟨ao4, cap4, rfl⟩ := ov.form
  have HZ3 : Hid (U.heap.size ≤ w4.heap.size ∧ (∀ g cap, Value.slice ao4 n cap4 = .slice (some ⟨g, 0, none⟩) n cap → n ≠ 0 → g < w4.heap.size)) := ⟨b4.size, fun g cap h1 h2 => (ov.lt g cap h1 h2).2⟩
  have A6 : Hid (OwV w4 U.heap.size (.slice ao4 n cap4) n (fun i j => fcell (revG n G i) j) ∧ SegV w4 b' 60 n 3 (fun i j => fcell (G i) j) ∧ OwV w4 w1.heap.size (.slice ao0 n cap0) n (fun i j => fcell (revG n G i) j) ∧ Below w.heap.size w w4) := ⟨ov, A5.out.1.below b4, A5.out.2.1.later b4, box_step A5.out.2.2.1 b4 (Nat.le_refl _)⟩
  clear ov b4
  obtain ⟨T, hT⟩ : ∃ V, V = w4.alloc (.cells #[.float .f64 o, .float .f64 a, .slice ao4 n cap4] 30) := ⟨_, rfl⟩
  have gT : Below w4.heap.size w4 T := by rw [hT]; exact (Below.refl _ _).alloc (Nat.le_refl _) _
  have zT : T.heap.size = w4.heap.size + 1 := by rw [hT]; simp
  have c0_T : T.cell? ⟨w.heap.size, 0, none⟩ = some (.float .f64 a) := old_cell gT (World.block_lt_of_cell? _ _ c0_w4) c0_w4
  have c1_T : T.cell? ⟨w.heap.size, 1, none⟩ = some (.float .f64 o) := old_cell gT (World.block_lt_of_cell? _ _ c1_w4) c1_w4
  have c2_T : T.cell? ⟨w.heap.size, 2, none⟩ = some (.slice ao n cap) := old_cell gT (World.block_lt_of_cell? _ _ c2_w4) c2_w4
  have d0_T : T.cell? ⟨w2.heap.size, 0, none⟩ = some (.float .f64 o) := old_cell gT (World.block_lt_of_cell? _ _ d0_w4) d0_w4
  have d1_T : T.cell? ⟨w2.heap.size, 1, none⟩ = some (.float .f64 a) := old_cell gT (World.block_lt_of_cell? _ _ d1_w4) d1_w4
  have d2_T : T.cell? ⟨w2.heap.size, 2, none⟩ = some (.slice ao0 n cap0) := old_cell gT (World.block_lt_of_cell? _ _ d2_w4) d2_w4
  have f0_T : T.cell? ⟨w3.heap.size, 0, none⟩ = some (.float .f64 a) := old_cell gT (World.block_lt_of_cell? _ _ f0_w4) f0_w4
  have f1_T : T.cell? ⟨w3.heap.size, 1, none⟩ = some (.float .f64 o) := old_cell gT (World.block_lt_of_cell? _ _ f1_w4) f1_w4
  have f2_T : T.cell? ⟨w3.heap.size, 2, none⟩ = some (.slice (some ⟨b', 0, none⟩) n n) := old_cell gT (World.block_lt_of_cell? _ _ f2_w4) f2_w4
  clear c0_w4 c1_w4 c2_w4 d0_w4 d1_w4 d2_w4 f0_w4 f1_w4 f2_w4
  have g0_T : T.cell? ⟨w4.heap.size, 0, none⟩ = some (.float .f64 o) := by rw [hT]; exact cell_alloc_new rfl rfl
  have g1_T : T.cell? ⟨w4.heap.size, 1, none⟩ = some (.float .f64 a) := by rw [hT]; exact cell_alloc_new rfl rfl
  have g2_T : T.cell? ⟨w4.heap.size, 2, none⟩ = some (.slice ao4 n cap4) := by rw [hT]; exact cell_alloc_new rfl rfl
  have A7 : Hid (OwV T U.heap.size (.slice ao4 n cap4) n (fun i j => fcell (revG n G i) j) ∧ SegV T b' 60 n 3 (fun i j => fcell (G i) j) ∧ OwV T w1.heap.size (.slice ao0 n cap0) n (fun i j => fcell (revG n G i) j) ∧ Below w.heap.size w T) := ⟨A6.out.1.later gT, A6.out.2.1.below gT, A6.out.2.2.1.later gT, box_step A6.out.2.2.2 gT (Nat.le_refl _)⟩
  clear A6
  go_upto_region 8 with fail
  rw [← hT]
  clear hT gT zT
  go_wp2_with fail
  refine (eqSt_own H.out.2.2.1 H.out.2.1 hn2 A7.out.1 A7.out.2.2.1 H.out.2.2.2.2).mono ?_
  rintro e w5 ⟨rfl, b5⟩
  have c0_w5 : w5.cell? ⟨w.heap.size, 0, none⟩ = some (.float .f64 a) := old_cell b5 (World.block_lt_of_cell? _ _ c0_T) c0_T
  have c1_w5 : w5.cell? ⟨w.heap.size, 1, none⟩ = some (.float .f64 o) := old_cell b5 (World.block_lt_of_cell? _ _ c1_T) c1_T
  have c2_w5 : w5.cell? ⟨w.heap.size, 2, none⟩ = some (.slice ao n cap) := old_cell b5 (World.block_lt_of_cell? _ _ c2_T) c2_T
  have d0_w5 : w5.cell? ⟨w2.heap.size, 0, none⟩ = some (.float .f64 o) := old_cell b5 (World.block_lt_of_cell? _ _ d0_T) d0_T
  have d1_w5 : w5.cell? ⟨w2.heap.size, 1, none⟩ = some (.float .f64 a) := old_cell b5 (World.block_lt_of_cell? _ _ d1_T) d1_T
  have d2_w5 : w5.cell? ⟨w2.heap.size, 2, none⟩ = some (.slice ao0 n cap0) := old_cell b5 (World.block_lt_of_cell? _ _ d2_T) d2_T
  have f0_w5 : w5.cell? ⟨w3.heap.size, 0, none⟩ = some (.float .f64 a) := old_cell b5 (World.block_lt_of_cell? _ _ f0_T) f0_T
  have f1_w5 : w5.cell? ⟨w3.heap.size, 1, none⟩ = some (.float .f64 o) := old_cell b5 (World.block_lt_of_cell? _ _ f1_T) f1_T
  have f2_w5 : w5.cell? ⟨w3.heap.size, 2, none⟩ = some (.slice (some ⟨b', 0, none⟩) n n) := old_cell b5 (World.block_lt_of_cell? _ _ f2_T) f2_T
  have g0_w5 : w5.cell? ⟨w4.heap.size, 0, none⟩ = some (.float .f64 o) := old_cell b5 (World.block_lt_of_cell? _ _ g0_T) g0_T
  have g1_w5 : w5.cell? ⟨w4.heap.size, 1, none⟩ = some (.float .f64 a) := old_cell b5 (World.block_lt_of_cell? _ _ g1_T) g1_T
  have g2_w5 : w5.cell? ⟨w4.heap.size, 2, none⟩ = some (.slice ao4 n cap4) := old_cell b5 (World.block_lt_of_cell? _ _ g2_T) g2_T
  clear c0_T c1_T c2_T d0_T d1_T d2_T f0_T f1_T f2_T g0_T g1_T g2_T
  have A8 : Hid (OwV w5 U.heap.size (.slice ao4 n cap4) n (fun i j => fcell (revG n G i) j) ∧ SegV w5 b' 60 n 3 (fun i j => fcell (G i) j) ∧ OwV w5 w1.heap.size (.slice ao0 n cap0) n (fun i j => fcell (revG n G i) j) ∧ Below w.heap.size w w5) := ⟨A7.out.1.later b5, A7.out.2.1.below b5, A7.out.2.2.1.later b5, box_step A7.out.2.2.2 b5 (Nat.le_refl _)⟩
  clear b5 A7
  go_wp2_with fail
  have rc0 : ∀ W, Below w5.heap.size w5 W → W.cell? ⟨w.heap.size, 0, none⟩ = some (.float .f64 a) := fun W h => old_cell h (World.block_lt_of_cell? _ _ c0_w5) c0_w5
  have rc1 : ∀ W, Below w5.heap.size w5 W → W.cell? ⟨w.heap.size, 1, none⟩ = some (.float .f64 o) := fun W h => old_cell h (World.block_lt_of_cell? _ _ c1_w5) c1_w5
  have rc2 : ∀ W, Below w5.heap.size w5 W → W.cell? ⟨w.heap.size, 2, none⟩ = some (.slice ao n cap) := fun W h => old_cell h (World.block_lt_of_cell? _ _ c2_w5) c2_w5
  have rf0 : ∀ W, Below w5.heap.size w5 W → W.cell? ⟨w3.heap.size, 0, none⟩ = some (.float .f64 a) := fun W h => old_cell h (World.block_lt_of_cell? _ _ f0_w5) f0_w5
  have rf1 : ∀ W, Below w5.heap.size w5 W → W.cell? ⟨w3.heap.size, 1, none⟩ = some (.float .f64 o) := fun W h => old_cell h (World.block_lt_of_cell? _ _ f1_w5) f1_w5
  have rf2 : ∀ W, Below w5.heap.size w5 W → W.cell? ⟨w3.heap.size, 2, none⟩ = some (.slice (some ⟨b', 0, none⟩) n n) := fun W h => old_cell h (World.block_lt_of_cell? _ _ f2_w5) f2_w5
  have T1 : Hid (∀ W, Below w5.heap.size w5 W → Calls Try.prog 11 #[Sv a o (.slice ao n cap)] W fun e w' => ∃ b, e = .returned (Sv a o (.slice (some ⟨b, 0, none⟩) n n)) ∧ SegV w' b 60 n 3 (fun i j => fcell (G i) j) ∧ Below W.heap.size W w') :=
    fun W hW => (toSt_any (H.out.1.later (box_step A8.out.2.2.2 hW (Nat.le_refl _))) hn2).mono fun e w' ⟨b, h1, h2, _, _, h3⟩ => ⟨b, h1, h2, h3⟩
  have T2 : Hid (∀ (b : Nat) W, Below w5.heap.size w5 W → SegV W b 60 n 3 (fun i j => fcell (G i) j) → Calls Try.prog 13 #[Sv a o (.slice (some ⟨b', 0, none⟩) n n), Sv a o (.slice (some ⟨b, 0, none⟩) n n)] W fun e w' => e = .returned (.bool true) ∧ Below W.heap.size W w') :=
    fun b W hW hs => eqSt_same H.out.2.1 H.out.2.2.1 _ _ _ _ n G W hn2 (A8.out.2.1.below hW) hs H.out.2.2.2.1
  have hR0 : Below w5.heap.size w5 w5 := Below.refl _ _
  go_region_held (fun W => Below w5.heap.size w5 W) (first | assumption | exact Below.drew ‹_›)
    (first | (go_at_call 11; refine (T1.out _ (by first | assumption | exact Below.drew ‹_›)).mono ?_; rintro e wa ⟨ba, rfl, sa, hba⟩; have hRa : Below w5.heap.size w5 wa := (by refine box_step ?_ hba (Nat.le_refl _); (first | assumption | exact Below.drew ‹_›))) | (go_at_call 13; refine (T2.out _ _ (by first | assumption | exact Below.drew ‹_›) (by first | assumption | exact SegV.below sa (by exact (Below.refl _ _).drew))).mono ?_; rintro e w6 ⟨rfl, hb6⟩; have hR6 : Below w5.heap.size w5 w6 := (by refine box_step ?_ hb6 (Nat.le_refl _); (first | assumption | exact Below.drew ‹_›))))
  have c0_w6 : w6.cell? ⟨w.heap.size, 0, none⟩ = some (.float .f64 a) := old_cell hR6 (World.block_lt_of_cell? _ _ c0_w5) c0_w5
  have c1_w6 : w6.cell? ⟨w.heap.size, 1, none⟩ = some (.float .f64 o) := old_cell hR6 (World.block_lt_of_cell? _ _ c1_w5) c1_w5
  have c2_w6 : w6.cell? ⟨w.heap.size, 2, none⟩ = some (.slice ao n cap) := old_cell hR6 (World.block_lt_of_cell? _ _ c2_w5) c2_w5
  have d0_w6 : w6.cell? ⟨w2.heap.size, 0, none⟩ = some (.float .f64 o) := old_cell hR6 (World.block_lt_of_cell? _ _ d0_w5) d0_w5
  have d1_w6 : w6.cell? ⟨w2.heap.size, 1, none⟩ = some (.float .f64 a) := old_cell hR6 (World.block_lt_of_cell? _ _ d1_w5) d1_w5
  have d2_w6 : w6.cell? ⟨w2.heap.size, 2, none⟩ = some (.slice ao0 n cap0) := old_cell hR6 (World.block_lt_of_cell? _ _ d2_w5) d2_w5
  have f0_w6 : w6.cell? ⟨w3.heap.size, 0, none⟩ = some (.float .f64 a) := old_cell hR6 (World.block_lt_of_cell? _ _ f0_w5) f0_w5
  have f1_w6 : w6.cell? ⟨w3.heap.size, 1, none⟩ = some (.float .f64 o) := old_cell hR6 (World.block_lt_of_cell? _ _ f1_w5) f1_w5
  have f2_w6 : w6.cell? ⟨w3.heap.size, 2, none⟩ = some (.slice (some ⟨b', 0, none⟩) n n) := old_cell hR6 (World.block_lt_of_cell? _ _ f2_w5) f2_w5
  have g0_w6 : w6.cell? ⟨w4.heap.size, 0, none⟩ = some (.float .f64 o) := old_cell hR6 (World.block_lt_of_cell? _ _ g0_w5) g0_w5
  have g1_w6 : w6.cell? ⟨w4.heap.size, 1, none⟩ = some (.float .f64 a) := old_cell hR6 (World.block_lt_of_cell? _ _ g1_w5) g1_w5
  have g2_w6 : w6.cell? ⟨w4.heap.size, 2, none⟩ = some (.slice ao4 n cap4) := old_cell hR6 (World.block_lt_of_cell? _ _ g2_w5) g2_w5
  clear c0_w5 c1_w5 c2_w5 d0_w5 d1_w5 d2_w5 f0_w5 f1_w5 f2_w5 g0_w5 g1_w5 g2_w5
  have A9 : Hid (OwV w6 U.heap.size (.slice ao4 n cap4) n (fun i j => fcell (revG n G i) j) ∧ SegV w6 b' 60 n 3 (fun i j => fcell (G i) j) ∧ OwV w6 w1.heap.size (.slice ao0 n cap0) n (fun i j => fcell (revG n G i) j) ∧ Below w.heap.size w w6) := ⟨A8.out.1.later hR6, A8.out.2.1.below hR6, A8.out.2.2.1.later hR6, box_step A8.out.2.2.2 hR6 (Nat.le_refl _)⟩
  clear rc0 rc1 rc2 rf0 rf1 rf2 T1 T2 hR0 hR6 hRa hba hb6 sa A8
  go_wp2_with fail
  refine (markSt_seg (by omega) A9.out.2.1).mono ?_
  rintro e w7 ⟨rfl, s7, o7⟩
  have c0_w7 : w7.cell? ⟨w.heap.size, 0, none⟩ = some (.float .f64 a) := o7.cell c0_w6 (by have z1 := HZ1.out; have z2 := HZ2.out; have z3 := HZ3.out.1; have z4 := A4.out.2.2.2; have z5 := A5.out.2.2.2; omega)
  have c1_w7 : w7.cell? ⟨w.heap.size, 1, none⟩ = some (.float .f64 o) := o7.cell c1_w6 (by have z1 := HZ1.out; have z2 := HZ2.out; have z3 := HZ3.out.1; have z4 := A4.out.2.2.2; have z5 := A5.out.2.2.2; omega)
  have c2_w7 : w7.cell? ⟨w.heap.size, 2, none⟩ = some (.slice ao n cap) := o7.cell c2_w6 (by have z1 := HZ1.out; have z2 := HZ2.out; have z3 := HZ3.out.1; have z4 := A4.out.2.2.2; have z5 := A5.out.2.2.2; omega)
  have d0_w7 : w7.cell? ⟨w2.heap.size, 0, none⟩ = some (.float .f64 o) := o7.cell d0_w6 (by have z1 := HZ1.out; have z2 := HZ2.out; have z3 := HZ3.out.1; have z4 := A4.out.2.2.2; have z5 := A5.out.2.2.2; omega)
  have d1_w7 : w7.cell? ⟨w2.heap.size, 1, none⟩ = some (.float .f64 a) := o7.cell d1_w6 (by have z1 := HZ1.out; have z2 := HZ2.out; have z3 := HZ3.out.1; have z4 := A4.out.2.2.2; have z5 := A5.out.2.2.2; omega)
  have d2_w7 : w7.cell? ⟨w2.heap.size, 2, none⟩ = some (.slice ao0 n cap0) := o7.cell d2_w6 (by have z1 := HZ1.out; have z2 := HZ2.out; have z3 := HZ3.out.1; have z4 := A4.out.2.2.2; have z5 := A5.out.2.2.2; omega)
  have f0_w7 : w7.cell? ⟨w3.heap.size, 0, none⟩ = some (.float .f64 a) := o7.cell f0_w6 (by have z1 := HZ1.out; have z2 := HZ2.out; have z3 := HZ3.out.1; have z4 := A4.out.2.2.2; have z5 := A5.out.2.2.2; omega)
  have f1_w7 : w7.cell? ⟨w3.heap.size, 1, none⟩ = some (.float .f64 o) := o7.cell f1_w6 (by have z1 := HZ1.out; have z2 := HZ2.out; have z3 := HZ3.out.1; have z4 := A4.out.2.2.2; have z5 := A5.out.2.2.2; omega)
  have f2_w7 : w7.cell? ⟨w3.heap.size, 2, none⟩ = some (.slice (some ⟨b', 0, none⟩) n n) := o7.cell f2_w6 (by have z1 := HZ1.out; have z2 := HZ2.out; have z3 := HZ3.out.1; have z4 := A4.out.2.2.2; have z5 := A5.out.2.2.2; omega)
  have g0_w7 : w7.cell? ⟨w4.heap.size, 0, none⟩ = some (.float .f64 o) := o7.cell g0_w6 (by have z1 := HZ1.out; have z2 := HZ2.out; have z3 := HZ3.out.1; have z4 := A4.out.2.2.2; have z5 := A5.out.2.2.2; omega)
  have g1_w7 : w7.cell? ⟨w4.heap.size, 1, none⟩ = some (.float .f64 a) := o7.cell g1_w6 (by have z1 := HZ1.out; have z2 := HZ2.out; have z3 := HZ3.out.1; have z4 := A4.out.2.2.2; have z5 := A5.out.2.2.2; omega)
  have g2_w7 : w7.cell? ⟨w4.heap.size, 2, none⟩ = some (.slice ao4 n cap4) := o7.cell g2_w6 (by have z1 := HZ1.out; have z2 := HZ2.out; have z3 := HZ3.out.1; have z4 := A4.out.2.2.2; have z5 := A5.out.2.2.2; omega)
  clear c0_w6 c1_w6 c2_w6 d0_w6 d1_w6 d2_w6 f0_w6 f1_w6 f2_w6 g0_w6 g1_w6 g2_w6
  have B7 : Hid (OwV w7 U.heap.size (.slice ao4 n cap4) n (fun i j => fcell (revG n G i) j) ∧ OwV w7 w1.heap.size (.slice ao0 n cap0) n (fun i j => fcell (revG n G i) j) ∧ Below w.heap.size w w7) := by
    have z1 := HZ1.out; have z2 := HZ2.out; have z4 := A4.out.2.2.2; have z5 := A5.out.2.2.2
    refine ⟨A9.out.1.only o7 (fun g cap h1 h2 => ?_), A9.out.2.2.1.only o7 (fun g cap h1 h2 => ?_), o7.below A9.out.2.2.2 (by omega) (Nat.le_refl _)⟩
    · have := (A9.out.1.lt g cap h1 h2).1; omega
    · have := (A3.out.1.lt g cap h1 h2).2; omega
  clear s7 o7 A9
  have hk3 : ¬ ((1 : Int) + 3 * n < 0) := by omega
  go_wp2_with fail
  refine (eqSt_own H.out.2.2.1 H.out.2.1 hn2 B7.out.1 B7.out.2.1 H.out.2.2.2.2).mono ?_
  rintro e w8 ⟨rfl, b8⟩
  have c0_w8 : w8.cell? ⟨w.heap.size, 0, none⟩ = some (.float .f64 a) := old_cell b8 (World.block_lt_of_cell? _ _ c0_w7) c0_w7
  have c1_w8 : w8.cell? ⟨w.heap.size, 1, none⟩ = some (.float .f64 o) := old_cell b8 (World.block_lt_of_cell? _ _ c1_w7) c1_w7
  have c2_w8 : w8.cell? ⟨w.heap.size, 2, none⟩ = some (.slice ao n cap) := old_cell b8 (World.block_lt_of_cell? _ _ c2_w7) c2_w7
  have d0_w8 : w8.cell? ⟨w2.heap.size, 0, none⟩ = some (.float .f64 o) := old_cell b8 (World.block_lt_of_cell? _ _ d0_w7) d0_w7
  have d1_w8 : w8.cell? ⟨w2.heap.size, 1, none⟩ = some (.float .f64 a) := old_cell b8 (World.block_lt_of_cell? _ _ d1_w7) d1_w7
  have d2_w8 : w8.cell? ⟨w2.heap.size, 2, none⟩ = some (.slice ao0 n cap0) := old_cell b8 (World.block_lt_of_cell? _ _ d2_w7) d2_w7
  have f0_w8 : w8.cell? ⟨w3.heap.size, 0, none⟩ = some (.float .f64 a) := old_cell b8 (World.block_lt_of_cell? _ _ f0_w7) f0_w7
  have f1_w8 : w8.cell? ⟨w3.heap.size, 1, none⟩ = some (.float .f64 o) := old_cell b8 (World.block_lt_of_cell? _ _ f1_w7) f1_w7
  have f2_w8 : w8.cell? ⟨w3.heap.size, 2, none⟩ = some (.slice (some ⟨b', 0, none⟩) n n) := old_cell b8 (World.block_lt_of_cell? _ _ f2_w7) f2_w7
  have g0_w8 : w8.cell? ⟨w4.heap.size, 0, none⟩ = some (.float .f64 o) := old_cell b8 (World.block_lt_of_cell? _ _ g0_w7) g0_w7
  have g1_w8 : w8.cell? ⟨w4.heap.size, 1, none⟩ = some (.float .f64 a) := old_cell b8 (World.block_lt_of_cell? _ _ g1_w7) g1_w7
  have g2_w8 : w8.cell? ⟨w4.heap.size, 2, none⟩ = some (.slice ao4 n cap4) := old_cell b8 (World.block_lt_of_cell? _ _ g2_w7) g2_w7
  clear c0_w7 c1_w7 c2_w7 d0_w7 d1_w7 d2_w7 f0_w7 f1_w7 f2_w7 g0_w7 g1_w7 g2_w7
  have B8 : Hid (OwV w8 U.heap.size (.slice ao4 n cap4) n (fun i j => fcell (revG n G i) j) ∧ OwV w8 w1.heap.size (.slice ao0 n cap0) n (fun i j => fcell (revG n G i) j) ∧ Below w.heap.size w w8 ∧ w4.heap.size < w8.heap.size) := ⟨B7.out.1.later b8, B7.out.2.1.later b8, box_step B7.out.2.2 b8 (Nat.le_refl _), World.block_lt_of_cell? _ _ g0_w8⟩
  clear b8 B7
  go_wp2_with fail
  refine (markSt_own2 (by omega) (by have := HZ3.out.1; have := B8.out.2.2.2; omega) B8.out.1 HZ3.out.2).mono ?_
  rintro e w9 ⟨rfl, ov9, q9, o9, l9, h9⟩
  have c0_w9 : w9.cell? ⟨w.heap.size, 0, none⟩ = some (.float .f64 a) := o9.cell c0_w8 (by have z1 := HZ1.out; have z2 := HZ2.out; have z3 := HZ3.out.1; have z4 := A4.out.2.2.2; have z5 := A5.out.2.2.2; have z6 := B8.out.2.2.2; omega)
  have c1_w9 : w9.cell? ⟨w.heap.size, 1, none⟩ = some (.float .f64 o) := o9.cell c1_w8 (by have z1 := HZ1.out; have z2 := HZ2.out; have z3 := HZ3.out.1; have z4 := A4.out.2.2.2; have z5 := A5.out.2.2.2; have z6 := B8.out.2.2.2; omega)
  have c2_w9 : w9.cell? ⟨w.heap.size, 2, none⟩ = some (.slice ao n cap) := o9.cell c2_w8 (by have z1 := HZ1.out; have z2 := HZ2.out; have z3 := HZ3.out.1; have z4 := A4.out.2.2.2; have z5 := A5.out.2.2.2; have z6 := B8.out.2.2.2; omega)
  have d0_w9 : w9.cell? ⟨w2.heap.size, 0, none⟩ = some (.float .f64 o) := o9.cell d0_w8 (by have z1 := HZ1.out; have z2 := HZ2.out; have z3 := HZ3.out.1; have z4 := A4.out.2.2.2; have z5 := A5.out.2.2.2; have z6 := B8.out.2.2.2; omega)
  have d1_w9 : w9.cell? ⟨w2.heap.size, 1, none⟩ = some (.float .f64 a) := o9.cell d1_w8 (by have z1 := HZ1.out; have z2 := HZ2.out; have z3 := HZ3.out.1; have z4 := A4.out.2.2.2; have z5 := A5.out.2.2.2; have z6 := B8.out.2.2.2; omega)
  have d2_w9 : w9.cell? ⟨w2.heap.size, 2, none⟩ = some (.slice ao0 n cap0) := o9.cell d2_w8 (by have z1 := HZ1.out; have z2 := HZ2.out; have z3 := HZ3.out.1; have z4 := A4.out.2.2.2; have z5 := A5.out.2.2.2; have z6 := B8.out.2.2.2; omega)
  have f0_w9 : w9.cell? ⟨w3.heap.size, 0, none⟩ = some (.float .f64 a) := o9.cell f0_w8 (by have z1 := HZ1.out; have z2 := HZ2.out; have z3 := HZ3.out.1; have z4 := A4.out.2.2.2; have z5 := A5.out.2.2.2; have z6 := B8.out.2.2.2; omega)
  have f1_w9 : w9.cell? ⟨w3.heap.size, 1, none⟩ = some (.float .f64 o) := o9.cell f1_w8 (by have z1 := HZ1.out; have z2 := HZ2.out; have z3 := HZ3.out.1; have z4 := A4.out.2.2.2; have z5 := A5.out.2.2.2; have z6 := B8.out.2.2.2; omega)
  have f2_w9 : w9.cell? ⟨w3.heap.size, 2, none⟩ = some (.slice (some ⟨b', 0, none⟩) n n) := o9.cell f2_w8 (by have z1 := HZ1.out; have z2 := HZ2.out; have z3 := HZ3.out.1; have z4 := A4.out.2.2.2; have z5 := A5.out.2.2.2; have z6 := B8.out.2.2.2; omega)
  have g0_w9 : w9.cell? ⟨w4.heap.size, 0, none⟩ = some (.float .f64 o) := o9.cell g0_w8 (by have z1 := HZ1.out; have z2 := HZ2.out; have z3 := HZ3.out.1; have z4 := A4.out.2.2.2; have z5 := A5.out.2.2.2; have z6 := B8.out.2.2.2; omega)
  have g1_w9 : w9.cell? ⟨w4.heap.size, 1, none⟩ = some (.float .f64 a) := o9.cell g1_w8 (by have z1 := HZ1.out; have z2 := HZ2.out; have z3 := HZ3.out.1; have z4 := A4.out.2.2.2; have z5 := A5.out.2.2.2; have z6 := B8.out.2.2.2; omega)
  have g2_w9 : w9.cell? ⟨w4.heap.size, 2, none⟩ = some (.slice ao4 n cap4) := o9.cell g2_w8 (by have z1 := HZ1.out; have z2 := HZ2.out; have z3 := HZ3.out.1; have z4 := A4.out.2.2.2; have z5 := A5.out.2.2.2; have z6 := B8.out.2.2.2; omega)
  clear c0_w8 c1_w8 c2_w8 d0_w8 d1_w8 d2_w8 f0_w8 f1_w8 f2_w8 g0_w8 g1_w8 g2_w8
  have B9 : Hid (OwV w9 U.heap.size (.slice ao4 n cap4) n (fun i j => fcell (mfilm 1 i) j) ∧ OwV w9 w1.heap.size (.slice ao0 n cap0) n (fun i j => fcell (revG n G i) j) ∧ Below w.heap.size w w9) := by
    have z1 := HZ1.out; have z2 := HZ2.out; have z4 := A4.out.2.2.2; have z5 := A5.out.2.2.2
    refine ⟨ov9, B8.out.2.1.only o9 (fun g cap h1 h2 => ?_), o9.below B8.out.2.2.1 (by omega) (Nat.le_refl _)⟩
    have := (A3.out.1.lt g cap h1 h2).2; omega
  clear ov9 o9 l9 h9 B8
  go_wp2_with fail
  refine (heldSt_own (by omega) B9.out.1).mono ?_
  rintro e wA ⟨rfl, bA⟩
  have c0_wA : wA.cell? ⟨w.heap.size, 0, none⟩ = some (.float .f64 a) := old_cell bA (World.block_lt_of_cell? _ _ c0_w9) c0_w9
  have c1_wA : wA.cell? ⟨w.heap.size, 1, none⟩ = some (.float .f64 o) := old_cell bA (World.block_lt_of_cell? _ _ c1_w9) c1_w9
  have c2_wA : wA.cell? ⟨w.heap.size, 2, none⟩ = some (.slice ao n cap) := old_cell bA (World.block_lt_of_cell? _ _ c2_w9) c2_w9
  have d0_wA : wA.cell? ⟨w2.heap.size, 0, none⟩ = some (.float .f64 o) := old_cell bA (World.block_lt_of_cell? _ _ d0_w9) d0_w9
  have d1_wA : wA.cell? ⟨w2.heap.size, 1, none⟩ = some (.float .f64 a) := old_cell bA (World.block_lt_of_cell? _ _ d1_w9) d1_w9
  have d2_wA : wA.cell? ⟨w2.heap.size, 2, none⟩ = some (.slice ao0 n cap0) := old_cell bA (World.block_lt_of_cell? _ _ d2_w9) d2_w9
  have f0_wA : wA.cell? ⟨w3.heap.size, 0, none⟩ = some (.float .f64 a) := old_cell bA (World.block_lt_of_cell? _ _ f0_w9) f0_w9
  have f1_wA : wA.cell? ⟨w3.heap.size, 1, none⟩ = some (.float .f64 o) := old_cell bA (World.block_lt_of_cell? _ _ f1_w9) f1_w9
  have f2_wA : wA.cell? ⟨w3.heap.size, 2, none⟩ = some (.slice (some ⟨b', 0, none⟩) n n) := old_cell bA (World.block_lt_of_cell? _ _ f2_w9) f2_w9
  have g0_wA : wA.cell? ⟨w4.heap.size, 0, none⟩ = some (.float .f64 o) := old_cell bA (World.block_lt_of_cell? _ _ g0_w9) g0_w9
  have g1_wA : wA.cell? ⟨w4.heap.size, 1, none⟩ = some (.float .f64 a) := old_cell bA (World.block_lt_of_cell? _ _ g1_w9) g1_w9
  have g2_wA : wA.cell? ⟨w4.heap.size, 2, none⟩ = some (.slice ao4 n cap4) := old_cell bA (World.block_lt_of_cell? _ _ g2_w9) g2_w9
  clear c0_w9 c1_w9 c2_w9 d0_w9 d1_w9 d2_w9 f0_w9 f1_w9 f2_w9 g0_w9 g1_w9 g2_w9
  have BA : Hid (OwV wA U.heap.size (.slice ao4 n cap4) n (fun i j => fcell (mfilm 1 i) j) ∧ OwV wA w1.heap.size (.slice ao0 n cap0) n (fun i j => fcell (revG n G i) j) ∧ Below w.heap.size w wA) := ⟨B9.out.1.later bA, B9.out.2.1.later bA, box_step B9.out.2.2 bA (Nat.le_refl _)⟩
  clear bA B9
  go_wp2_with fail
  refine (toSt_any (H.out.1.later BA.out.2.2) hn2).mono ?_
  rintro e wB ⟨bb, rfl, sB, lB, lB', bB⟩
  have c0_wB : wB.cell? ⟨w.heap.size, 0, none⟩ = some (.float .f64 a) := old_cell bB (World.block_lt_of_cell? _ _ c0_wA) c0_wA
  have c1_wB : wB.cell? ⟨w.heap.size, 1, none⟩ = some (.float .f64 o) := old_cell bB (World.block_lt_of_cell? _ _ c1_wA) c1_wA
  have c2_wB : wB.cell? ⟨w.heap.size, 2, none⟩ = some (.slice ao n cap) := old_cell bB (World.block_lt_of_cell? _ _ c2_wA) c2_wA
  have d0_wB : wB.cell? ⟨w2.heap.size, 0, none⟩ = some (.float .f64 o) := old_cell bB (World.block_lt_of_cell? _ _ d0_wA) d0_wA
  have d1_wB : wB.cell? ⟨w2.heap.size, 1, none⟩ = some (.float .f64 a) := old_cell bB (World.block_lt_of_cell? _ _ d1_wA) d1_wA
  have d2_wB : wB.cell? ⟨w2.heap.size, 2, none⟩ = some (.slice ao0 n cap0) := old_cell bB (World.block_lt_of_cell? _ _ d2_wA) d2_wA
  have f0_wB : wB.cell? ⟨w3.heap.size, 0, none⟩ = some (.float .f64 a) := old_cell bB (World.block_lt_of_cell? _ _ f0_wA) f0_wA
  have f1_wB : wB.cell? ⟨w3.heap.size, 1, none⟩ = some (.float .f64 o) := old_cell bB (World.block_lt_of_cell? _ _ f1_wA) f1_wA
  have f2_wB : wB.cell? ⟨w3.heap.size, 2, none⟩ = some (.slice (some ⟨b', 0, none⟩) n n) := old_cell bB (World.block_lt_of_cell? _ _ f2_wA) f2_wA
  have g0_wB : wB.cell? ⟨w4.heap.size, 0, none⟩ = some (.float .f64 o) := old_cell bB (World.block_lt_of_cell? _ _ g0_wA) g0_wA
  have g1_wB : wB.cell? ⟨w4.heap.size, 1, none⟩ = some (.float .f64 a) := old_cell bB (World.block_lt_of_cell? _ _ g1_wA) g1_wA
  have g2_wB : wB.cell? ⟨w4.heap.size, 2, none⟩ = some (.slice ao4 n cap4) := old_cell bB (World.block_lt_of_cell? _ _ g2_wA) g2_wA
  clear c0_wA c1_wA c2_wA d0_wA d1_wA d2_wA f0_wA f1_wA f2_wA g0_wA g1_wA g2_wA
  have BB : Hid (SegV wB bb 60 n 3 (fun i j => fcell (G i) j) ∧ OwV wB U.heap.size (.slice ao4 n cap4) n (fun i j => fcell (mfilm 1 i) j) ∧ OwV wB w1.heap.size (.slice ao0 n cap0) n (fun i j => fcell (revG n G i) j) ∧ Below w.heap.size w wB) := ⟨sB, BA.out.1.later bB, BA.out.2.1.later bB, box_step BA.out.2.2 bB (Nat.le_refl _)⟩
  clear sB lB lB' bB BA
  go_wp2_with fail
  refine (iTurnS_any (by omega) BB.out.1).mono ?_
  rintro e wC ⟨vC, rfl, ovC, bC⟩
  have c0_wC : wC.cell? ⟨w.heap.size, 0, none⟩ = some (.float .f64 a) := old_cell bC (World.block_lt_of_cell? _ _ c0_wB) c0_wB
  have c1_wC : wC.cell? ⟨w.heap.size, 1, none⟩ = some (.float .f64 o) := old_cell bC (World.block_lt_of_cell? _ _ c1_wB) c1_wB
  have c2_wC : wC.cell? ⟨w.heap.size, 2, none⟩ = some (.slice ao n cap) := old_cell bC (World.block_lt_of_cell? _ _ c2_wB) c2_wB
  have d0_wC : wC.cell? ⟨w2.heap.size, 0, none⟩ = some (.float .f64 o) := old_cell bC (World.block_lt_of_cell? _ _ d0_wB) d0_wB
  have d1_wC : wC.cell? ⟨w2.heap.size, 1, none⟩ = some (.float .f64 a) := old_cell bC (World.block_lt_of_cell? _ _ d1_wB) d1_wB
  have d2_wC : wC.cell? ⟨w2.heap.size, 2, none⟩ = some (.slice ao0 n cap0) := old_cell bC (World.block_lt_of_cell? _ _ d2_wB) d2_wB
  have f0_wC : wC.cell? ⟨w3.heap.size, 0, none⟩ = some (.float .f64 a) := old_cell bC (World.block_lt_of_cell? _ _ f0_wB) f0_wB
  have f1_wC : wC.cell? ⟨w3.heap.size, 1, none⟩ = some (.float .f64 o) := old_cell bC (World.block_lt_of_cell? _ _ f1_wB) f1_wB
  have f2_wC : wC.cell? ⟨w3.heap.size, 2, none⟩ = some (.slice (some ⟨b', 0, none⟩) n n) := old_cell bC (World.block_lt_of_cell? _ _ f2_wB) f2_wB
  have g0_wC : wC.cell? ⟨w4.heap.size, 0, none⟩ = some (.float .f64 o) := old_cell bC (World.block_lt_of_cell? _ _ g0_wB) g0_wB
  have g1_wC : wC.cell? ⟨w4.heap.size, 1, none⟩ = some (.float .f64 a) := old_cell bC (World.block_lt_of_cell? _ _ g1_wB) g1_wB
  have g2_wC : wC.cell? ⟨w4.heap.size, 2, none⟩ = some (.slice ao4 n cap4) := old_cell bC (World.block_lt_of_cell? _ _ g2_wB) g2_wB
  clear c0_wB c1_wB c2_wB d0_wB d1_wB d2_wB f0_wB f1_wB f2_wB g0_wB g1_wB g2_wB
  obtain ⟨aoC, capC, rfl⟩ := ovC.form
  have BC : Hid (OwV wC wB.heap.size (.slice aoC n capC) n (fun i j => fcell (revG n G i) j) ∧ OwV wC U.heap.size (.slice ao4 n cap4) n (fun i j => fcell (mfilm 1 i) j) ∧ OwV wC w1.heap.size (.slice ao0 n cap0) n (fun i j => fcell (revG n G i) j) ∧ Below w.heap.size w wC) := ⟨ovC, BB.out.2.1.later bC, BB.out.2.2.1.later bC, box_step BB.out.2.2.2 bC (Nat.le_refl _)⟩
  clear ovC bC BB
  obtain ⟨R, hR⟩ : ∃ V, V = wC.alloc (.cells #[.float .f64 o, .float .f64 a, .slice aoC n capC] 30) := ⟨_, rfl⟩
  have gR : Below wC.heap.size wC R := by rw [hR]; exact (Below.refl _ _).alloc (Nat.le_refl _) _
  have zR : R.heap.size = wC.heap.size + 1 := by rw [hR]; simp
  have c0_R : R.cell? ⟨w.heap.size, 0, none⟩ = some (.float .f64 a) := old_cell gR (World.block_lt_of_cell? _ _ c0_wC) c0_wC
  have c1_R : R.cell? ⟨w.heap.size, 1, none⟩ = some (.float .f64 o) := old_cell gR (World.block_lt_of_cell? _ _ c1_wC) c1_wC
  have c2_R : R.cell? ⟨w.heap.size, 2, none⟩ = some (.slice ao n cap) := old_cell gR (World.block_lt_of_cell? _ _ c2_wC) c2_wC
  have d0_R : R.cell? ⟨w2.heap.size, 0, none⟩ = some (.float .f64 o) := old_cell gR (World.block_lt_of_cell? _ _ d0_wC) d0_wC
  have d1_R : R.cell? ⟨w2.heap.size, 1, none⟩ = some (.float .f64 a) := old_cell gR (World.block_lt_of_cell? _ _ d1_wC) d1_wC
  have d2_R : R.cell? ⟨w2.heap.size, 2, none⟩ = some (.slice ao0 n cap0) := old_cell gR (World.block_lt_of_cell? _ _ d2_wC) d2_wC
  have f0_R : R.cell? ⟨w3.heap.size, 0, none⟩ = some (.float .f64 a) := old_cell gR (World.block_lt_of_cell? _ _ f0_wC) f0_wC
  have f1_R : R.cell? ⟨w3.heap.size, 1, none⟩ = some (.float .f64 o) := old_cell gR (World.block_lt_of_cell? _ _ f1_wC) f1_wC
  have f2_R : R.cell? ⟨w3.heap.size, 2, none⟩ = some (.slice (some ⟨b', 0, none⟩) n n) := old_cell gR (World.block_lt_of_cell? _ _ f2_wC) f2_wC
  have g0_R : R.cell? ⟨w4.heap.size, 0, none⟩ = some (.float .f64 o) := old_cell gR (World.block_lt_of_cell? _ _ g0_wC) g0_wC
  have g1_R : R.cell? ⟨w4.heap.size, 1, none⟩ = some (.float .f64 a) := old_cell gR (World.block_lt_of_cell? _ _ g1_wC) g1_wC
  have g2_R : R.cell? ⟨w4.heap.size, 2, none⟩ = some (.slice ao4 n cap4) := old_cell gR (World.block_lt_of_cell? _ _ g2_wC) g2_wC
  clear c0_wC c1_wC c2_wC d0_wC d1_wC d2_wC f0_wC f1_wC f2_wC g0_wC g1_wC g2_wC
  have h0_R : R.cell? ⟨wC.heap.size, 0, none⟩ = some (.float .f64 o) := by rw [hR]; exact cell_alloc_new rfl rfl
  have h1_R : R.cell? ⟨wC.heap.size, 1, none⟩ = some (.float .f64 a) := by rw [hR]; exact cell_alloc_new rfl rfl
  have h2_R : R.cell? ⟨wC.heap.size, 2, none⟩ = some (.slice aoC n capC) := by rw [hR]; exact cell_alloc_new rfl rfl
  have BR : Hid (OwV R wB.heap.size (.slice aoC n capC) n (fun i j => fcell (revG n G i) j) ∧ OwV R U.heap.size (.slice ao4 n cap4) n (fun i j => fcell (mfilm 1 i) j) ∧ OwV R w1.heap.size (.slice ao0 n cap0) n (fun i j => fcell (revG n G i) j) ∧ Below w.heap.size w R) := ⟨BC.out.1.later gR, BC.out.2.1.later gR, BC.out.2.2.1.later gR, box_step BC.out.2.2.2 gR (Nat.le_refl _)⟩
  clear BC
  go_upto_region 25 with fail
  rw [← hR]
  clear hR gR zR
  go_wp2_with fail
  refine (eqSt_own H.out.2.2.1 H.out.2.1 hn2 BR.out.1 BR.out.2.2.1 H.out.2.2.2.2).mono ?_
  rintro e wD ⟨rfl, bD⟩
  have c0_wD : wD.cell? ⟨w.heap.size, 0, none⟩ = some (.float .f64 a) := old_cell bD (World.block_lt_of_cell? _ _ c0_R) c0_R
  have c1_wD : wD.cell? ⟨w.heap.size, 1, none⟩ = some (.float .f64 o) := old_cell bD (World.block_lt_of_cell? _ _ c1_R) c1_R
  have c2_wD : wD.cell? ⟨w.heap.size, 2, none⟩ = some (.slice ao n cap) := old_cell bD (World.block_lt_of_cell? _ _ c2_R) c2_R
  have d0_wD : wD.cell? ⟨w2.heap.size, 0, none⟩ = some (.float .f64 o) := old_cell bD (World.block_lt_of_cell? _ _ d0_R) d0_R
  have d1_wD : wD.cell? ⟨w2.heap.size, 1, none⟩ = some (.float .f64 a) := old_cell bD (World.block_lt_of_cell? _ _ d1_R) d1_R
  have d2_wD : wD.cell? ⟨w2.heap.size, 2, none⟩ = some (.slice ao0 n cap0) := old_cell bD (World.block_lt_of_cell? _ _ d2_R) d2_R
  have f0_wD : wD.cell? ⟨w3.heap.size, 0, none⟩ = some (.float .f64 a) := old_cell bD (World.block_lt_of_cell? _ _ f0_R) f0_R
  have f1_wD : wD.cell? ⟨w3.heap.size, 1, none⟩ = some (.float .f64 o) := old_cell bD (World.block_lt_of_cell? _ _ f1_R) f1_R
  have f2_wD : wD.cell? ⟨w3.heap.size, 2, none⟩ = some (.slice (some ⟨b', 0, none⟩) n n) := old_cell bD (World.block_lt_of_cell? _ _ f2_R) f2_R
  have g0_wD : wD.cell? ⟨w4.heap.size, 0, none⟩ = some (.float .f64 o) := old_cell bD (World.block_lt_of_cell? _ _ g0_R) g0_R
  have g1_wD : wD.cell? ⟨w4.heap.size, 1, none⟩ = some (.float .f64 a) := old_cell bD (World.block_lt_of_cell? _ _ g1_R) g1_R
  have g2_wD : wD.cell? ⟨w4.heap.size, 2, none⟩ = some (.slice ao4 n cap4) := old_cell bD (World.block_lt_of_cell? _ _ g2_R) g2_R
  have h0_wD : wD.cell? ⟨wC.heap.size, 0, none⟩ = some (.float .f64 o) := old_cell bD (World.block_lt_of_cell? _ _ h0_R) h0_R
  have h1_wD : wD.cell? ⟨wC.heap.size, 1, none⟩ = some (.float .f64 a) := old_cell bD (World.block_lt_of_cell? _ _ h1_R) h1_R
  have h2_wD : wD.cell? ⟨wC.heap.size, 2, none⟩ = some (.slice aoC n capC) := old_cell bD (World.block_lt_of_cell? _ _ h2_R) h2_R
  clear c0_R c1_R c2_R d0_R d1_R d2_R f0_R f1_R f2_R g0_R g1_R g2_R h0_R h1_R h2_R
  have BD : Hid (OwV wD U.heap.size (.slice ao4 n cap4) n (fun i j => fcell (mfilm 1 i) j) ∧ Below w.heap.size w wD) := ⟨BR.out.2.1.later bD, box_step BR.out.2.2.2 bD (Nat.le_refl _)⟩
  clear bD BR
  go_wp2_with fail
  refine (heldSt_own (by omega) BD.out.1).mono ?_
  rintro e wE ⟨rfl, bE⟩
  go_wp2
  go_ret
  exact ⟨rfl, box_step BD.out.2 bE (Nat.le_refl _)⟩

set_option maxRecDepth 100000 in
theorem lifted (os : Os) (started : os.Started) (H : Type) (enc : TypeId × Value → H) :
    ReturnsInHanded {} Try.checked os 8 .any (Rows.fnExactTurnStackSpec.pre6 enc Try.prog Try.f8 Rows.fnExactTurnStackRow.domain false) (Rows.fnExactTurnStackSpec.post enc Try.prog Try.f8 false true false false) := by
  refine returnsInHanded_of_change (C := Try.checked) own started (by kernel_rfl) Try.func8
    (ChangeSpec.witness6 (enc := enc) (C := Try.checked) false ⟨#[], #[.agg #[.float .f64 0, .float .f64 0, .slice none 0 0]], []⟩ 8 (by kernel_rfl) (by kernel_rfl) (by kernel_rfl) (by kernel_rfl)) ?_
  intro W base args ds gs before hval0 hW hcnd _
  have hval : ∀ (j : Nat) t v, Try.f8.params[j]? = some t → args[j]? = some v → Value.okWide Try.prog W .any base t v := hval0
  have hW' := hW
  obtain ⟨p, q, hA0, hV, rfl, hfz, hnd⟩ := hW
  have hA : DataW.TrodAll enc Try.prog W 0 (fun _ => true) true Try.f8.params.toList args.toList ds p := hA0
  rw [Try.params8] at hA hval
  obtain ⟨v0, vs0, d0, ds0, p0, q0, hargs, rfl, rfl, h0, r0⟩ := trodAll_cons hA
  obtain ⟨rfl, rfl, rfl⟩ := trodAll_nil r0
  obtain rfl : args = #[v0] := by cases args; simp_all
  obtain ⟨rfl, rfl⟩ := trodVars_none hV
  have k0 := h0
  have lt0 : ∀ x ∈ p0, x.block < W.heap.size := by obtain ⟨m, hm⟩ := k0; exact DataW.trod_lt m _ _ _ hm
  obtain ⟨a0, b0, c0, n0, G0, rfl, ha0, hb0, R0, nb0, ok0⟩ := open_stack (hval 0 25 v0 rfl rfl) h0
  clear hA0 hval0
  refine (walk ha0 hb0 R0 nb0 ok0).mono fun e W' ⟨he, bel⟩ => ?_
  subst he
  exact ⟨_, rfl, _, _, _, [], _, [], hW', trodAll_mk1 (shut_bool Try.underlying4 _), (trodAll_cons_mk (Below.trod laidOut (by kernel_rfl) (of_decide_eq_true (by kernel_rfl)) k0 bel lt0) trodAll_mk0), rfl, bel.frame _, fun h => by cases h⟩

theorem over : Rows.fnExactTurnStackRow.holds Try.pinned (OpenSpec.ofChange Rows.fnExactTurnStackSpec) :=
  OpenClaim.holds_of_wide 8 Try.f8 rfl rfl rfl rfl rfl rfl rfl ⟨rfl, rfl, rfl, rfl, rfl⟩ rfl rfl rfl rfl rfl (by kernel_rfl) Try.func8 (by kernel_rfl)
    (of_decide_eq_true (by kernel_rfl)) (by unfold Func.isWrapper; first | (rw [if_pos (by decide +kernel)]; kernel_rfl) | (rw [if_neg (by decide +kernel)]; exact ⟨rfl, rfl⟩))
    (fun os started H enc _ => lifted os started H enc)
end Go.Proofs.Ytnpcldgacdgplaa.LawTurnStack
namespace Go.Proofs.Ytnpcldgacdgplaa
theorem turnStack_holds : Rows.FnExactTurnStackSaid := LawTurnStack.over
#print axioms turnStack_holds
end Go.Proofs.Ytnpcldgacdgplaa
