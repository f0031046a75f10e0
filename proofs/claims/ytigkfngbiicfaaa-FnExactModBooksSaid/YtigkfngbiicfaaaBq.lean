/- Books of light over residues: the program's ModBooks: contract. -/
import Derived.Test.YtigkfngbiicfaaaBp
import Derived.Laws.AppendOwn
namespace Go.Proofs.Ytigkfngbiicfaaa
open Go.RowKit
set_option linter.unusedVariables false
set_option maxHeartbeats 2000000 in
theorem iBooks_a (A B C D x y : Int) (h1 : Wv.ku A B C D x y = 0) (h2 : Wv.ku D B C A y x = 0) (w : World) : Calls Try.prog 34 #[.agg #[.int .i64 A, .int .i64 B, .int .i64 C, .int .i64 D], .int .i64 x, .int .i64 y] w fun e w' => ∃ v, e = .returned (.agg #[.int .i64 6, v]) ∧ OwnL w.heap.size w'.heap.size w' 6 v 4 (Wv.bl A B C D x y) ∧ Below w.heap.size w w' := by
  go_enter Try.func34, Try.ntmps34
  go_wp2_with fail
  obtain ⟨X0, hX0⟩ : ∃ X, X = (w.alloc (.cells #[.int .i64 A, .int .i64 B, .int .i64 C, .int .i64 D] 34)).alloc (.cells #[.int .i64 0, .slice none 0 0] 24) := ⟨_, rfl⟩
  rw [← hX0]
  have P0 : Hid (Pz w.heap.size X0 A B C D) := by rw [hX0]; exact heap_alloc2_old _ _ _
  have R0 : Hid (Rz (w.heap.size + 1) X0) := by rw [hX0]; exact heap_alloc2_new _ _ _
  have B0 : Hid (Below w.heap.size w X0) := by rw [hX0]; exact ((Below.refl _ _).alloc (Nat.le_refl _) _).alloc (by simp) _
  have z0 : X0.heap.size = w.heap.size + 2 := by rw [hX0]; simp
  have Z0 : Hid (X0.heap.size = w.heap.size + 2) := z0
  clear hX0 z0
  have p0 := P0.out.c0
  have p1 := P0.out.c1
  have p2 := P0.out.c2
  have p3 := P0.out.c3
  refine (iSide_no A B C D x y h1 _).mono ?_
  rintro e X1 ⟨rfl, hb⟩
  have P1 : Hid (Pz w.heap.size X1 A B C D) := (hb.block _ (by have := Z0.out; omega)).trans P0.out
  have R1 : Hid (Rz (w.heap.size + 1) X1) := (hb.block _ (by have := Z0.out; omega)).trans R0.out
  have B1 : Hid (Below w.heap.size w X1) := B0.out.trans (hb.mono B0.out.size)
  have L1 : Hid (X0.heap.size ≤ X1.heap.size) := hb.size
  
  clear hb p0 p1 p2 p3
  have p0 := P1.out.c0
  have p1 := P1.out.c1
  have p2 := P1.out.c2
  have p3 := P1.out.c3
  go_wp2_with fail
  refine (iSide_no D B C A y x h2 _).mono ?_
  rintro e X2 ⟨rfl, hb⟩
  have P2 : Hid (Pz w.heap.size X2 A B C D) := (hb.block _ (by have := Z0.out; have := L1.out; omega)).trans P1.out
  have R2 : Hid (Rz (w.heap.size + 1) X2) := (hb.block _ (by have := Z0.out; have := L1.out; omega)).trans R1.out
  have B2 : Hid (Below w.heap.size w X2) := B1.out.trans (hb.mono B1.out.size)
  have L2 : Hid (X0.heap.size ≤ X2.heap.size) := Nat.le_trans L1.out hb.size
  clear hb p0 p1 p2 p3
  have r0 := R2.out.c0
  have r1 := R2.out.c1
  have q0 := R2.out.fz 0
  have q1 := R2.out.fz 1
  go_wp2
  exact bodyPost_ret (v := .agg #[.int .i64 6, .slice none 0 0]) (by simp [results, Try.results34, go_sem, r0, r1]) rfl ⟨_, rfl, Or.inl ⟨by omega, rfl⟩, (B2.out.setCell (by show w.heap.size ≤ w.heap.size + 1; omega) _).setCell (by show w.heap.size ≤ w.heap.size + 1; omega) _⟩
set_option maxHeartbeats 2000000 in
theorem iBooks_b (A B C D x y : Int) (h1 : Wv.ku A B C D x y = 0) (h2 : Wv.ku D B C A y x ≠ 0) (w : World) : Calls Try.prog 34 #[.agg #[.int .i64 A, .int .i64 B, .int .i64 C, .int .i64 D], .int .i64 x, .int .i64 y] w fun e w' => ∃ v, e = .returned (.agg #[.int .i64 6, v]) ∧ OwnL w.heap.size w'.heap.size w' 6 v 4 (Wv.bl A B C D x y) ∧ Below w.heap.size w w' := by
  go_enter Try.func34, Try.ntmps34
  go_wp2_with fail
  obtain ⟨X0, hX0⟩ : ∃ X, X = (w.alloc (.cells #[.int .i64 A, .int .i64 B, .int .i64 C, .int .i64 D] 34)).alloc (.cells #[.int .i64 0, .slice none 0 0] 24) := ⟨_, rfl⟩
  rw [← hX0]
  have P0 : Hid (Pz w.heap.size X0 A B C D) := by rw [hX0]; exact heap_alloc2_old _ _ _
  have R0 : Hid (Rz (w.heap.size + 1) X0) := by rw [hX0]; exact heap_alloc2_new _ _ _
  have B0 : Hid (Below w.heap.size w X0) := by rw [hX0]; exact ((Below.refl _ _).alloc (Nat.le_refl _) _).alloc (by simp) _
  have z0 : X0.heap.size = w.heap.size + 2 := by rw [hX0]; simp
  have Z0 : Hid (X0.heap.size = w.heap.size + 2) := z0
  clear hX0 z0
  have p0 := P0.out.c0
  have p1 := P0.out.c1
  have p2 := P0.out.c2
  have p3 := P0.out.c3
  refine (iSide_no A B C D x y h1 _).mono ?_
  rintro e X1 ⟨rfl, hb⟩
  have P1 : Hid (Pz w.heap.size X1 A B C D) := (hb.block _ (by have := Z0.out; omega)).trans P0.out
  have R1 : Hid (Rz (w.heap.size + 1) X1) := (hb.block _ (by have := Z0.out; omega)).trans R0.out
  have B1 : Hid (Below w.heap.size w X1) := B0.out.trans (hb.mono B0.out.size)
  have L1 : Hid (X0.heap.size ≤ X1.heap.size) := hb.size
  
  clear hb p0 p1 p2 p3
  have p0 := P1.out.c0
  have p1 := P1.out.c1
  have p2 := P1.out.c2
  have p3 := P1.out.c3
  go_wp2_with fail
  refine (iSide_yes D B C A y x h2 _).mono ?_
  rintro e X2 ⟨g2, rfl, hg2, hc2, hb⟩
  have P2 : Hid (Pz w.heap.size X2 A B C D) := (hb.block _ (by have := Z0.out; have := L1.out; omega)).trans P1.out
  have R2 : Hid (Rz (w.heap.size + 1) X2) := (hb.block _ (by have := Z0.out; have := L1.out; omega)).trans R1.out
  have B2 : Hid (Below w.heap.size w X2) := B1.out.trans (hb.mono B1.out.size)
  have L2 : Hid (X0.heap.size ≤ X2.heap.size) := Nat.le_trans L1.out hb.size
  have G2 : Hid (X2.heap[g2]? = some (.cells #[.int .i64 (Wv.kr D B C A y x), .int .i64 (Wv.kt D B C A y x)] 2 (0, 0))) := hc2
  clear hb p0 p1 p2 p3 hg2 hc2
  have r0 := R2.out.c0
  have r1 := R2.out.c1
  have q0 := R2.out.fz 0
  have q1 := R2.out.fz 1
  go_wp2
  exact bodyPost_ret (v := .agg #[.int .i64 6, .slice none 0 0]) (by simp [results, Try.results34, go_sem, r0, r1]) rfl ⟨_, rfl, Or.inl ⟨by omega, rfl⟩, (B2.out.setCell (by show w.heap.size ≤ w.heap.size + 1; omega) _).setCell (by show w.heap.size ≤ w.heap.size + 1; omega) _⟩
set_option maxHeartbeats 2000000 in
theorem iBooks_c (A B C D x y : Int) (h1 : Wv.ku A B C D x y ≠ 0) (h2 : Wv.ku D B C A y x = 0) (w : World) : Calls Try.prog 34 #[.agg #[.int .i64 A, .int .i64 B, .int .i64 C, .int .i64 D], .int .i64 x, .int .i64 y] w fun e w' => ∃ v, e = .returned (.agg #[.int .i64 6, v]) ∧ OwnL w.heap.size w'.heap.size w' 6 v 4 (Wv.bl A B C D x y) ∧ Below w.heap.size w w' := by
  go_enter Try.func34, Try.ntmps34
  go_wp2_with fail
  obtain ⟨X0, hX0⟩ : ∃ X, X = (w.alloc (.cells #[.int .i64 A, .int .i64 B, .int .i64 C, .int .i64 D] 34)).alloc (.cells #[.int .i64 0, .slice none 0 0] 24) := ⟨_, rfl⟩
  rw [← hX0]
  have P0 : Hid (Pz w.heap.size X0 A B C D) := by rw [hX0]; exact heap_alloc2_old _ _ _
  have R0 : Hid (Rz (w.heap.size + 1) X0) := by rw [hX0]; exact heap_alloc2_new _ _ _
  have B0 : Hid (Below w.heap.size w X0) := by rw [hX0]; exact ((Below.refl _ _).alloc (Nat.le_refl _) _).alloc (by simp) _
  have z0 : X0.heap.size = w.heap.size + 2 := by rw [hX0]; simp
  have Z0 : Hid (X0.heap.size = w.heap.size + 2) := z0
  clear hX0 z0
  have p0 := P0.out.c0
  have p1 := P0.out.c1
  have p2 := P0.out.c2
  have p3 := P0.out.c3
  refine (iSide_yes A B C D x y h1 _).mono ?_
  rintro e X1 ⟨g1, rfl, hg1, hc1, hb⟩
  have P1 : Hid (Pz w.heap.size X1 A B C D) := (hb.block _ (by have := Z0.out; omega)).trans P0.out
  have R1 : Hid (Rz (w.heap.size + 1) X1) := (hb.block _ (by have := Z0.out; omega)).trans R0.out
  have B1 : Hid (Below w.heap.size w X1) := B0.out.trans (hb.mono B0.out.size)
  have L1 : Hid (X0.heap.size ≤ X1.heap.size) := hb.size
  have G1 : Hid (X0.heap.size ≤ g1 ∧ X1.heap[g1]? = some (.cells #[.int .i64 (Wv.kr A B C D x y), .int .i64 (Wv.kt A B C D x y)] 2 (0, 0))) := ⟨hg1, hc1⟩
  clear hb p0 p1 p2 p3 hg1 hc1
  have p0 := P1.out.c0
  have p1 := P1.out.c1
  have p2 := P1.out.c2
  have p3 := P1.out.c3
  go_wp2_with fail
  refine (iSide_no D B C A y x h2 _).mono ?_
  rintro e X2 ⟨rfl, hb⟩
  have P2 : Hid (Pz w.heap.size X2 A B C D) := (hb.block _ (by have := Z0.out; have := L1.out; omega)).trans P1.out
  have R2 : Hid (Rz (w.heap.size + 1) X2) := (hb.block _ (by have := Z0.out; have := L1.out; omega)).trans R1.out
  have B2 : Hid (Below w.heap.size w X2) := B1.out.trans (hb.mono B1.out.size)
  have L2 : Hid (X0.heap.size ≤ X2.heap.size) := Nat.le_trans L1.out hb.size
  have G1' : Hid (X0.heap.size ≤ g1 ∧ X2.heap[g1]? = some (.cells #[.int .i64 (Wv.kr A B C D x y), .int .i64 (Wv.kt A B C D x y)] 2 (0, 0))) := ⟨G1.out.1, (hb.block _ (Array.getElem?_eq_some_iff.1 G1.out.2).1).trans G1.out.2⟩
  clear hb p0 p1 p2 p3
  have r0 := R2.out.c0
  have r1 := R2.out.c1
  have q0 := R2.out.fz 0
  have q1 := R2.out.fz 1
  go_wp2
  exact bodyPost_ret (v := .agg #[.int .i64 6, .slice none 0 0]) (by simp [results, Try.results34, go_sem, r0, r1]) rfl ⟨_, rfl, Or.inl ⟨by omega, rfl⟩, (B2.out.setCell (by show w.heap.size ≤ w.heap.size + 1; omega) _).setCell (by show w.heap.size ≤ w.heap.size + 1; omega) _⟩
set_option maxHeartbeats 2000000 in
theorem iBooks_d (A B C D x y : Int) (h1 : Wv.ku A B C D x y ≠ 0) (h2 : Wv.ku D B C A y x ≠ 0) (w : World) : Calls Try.prog 34 #[.agg #[.int .i64 A, .int .i64 B, .int .i64 C, .int .i64 D], .int .i64 x, .int .i64 y] w fun e w' => ∃ v, e = .returned (.agg #[.int .i64 0, v]) ∧ OwnL w.heap.size w'.heap.size w' 0 v 4 (Wv.bl A B C D x y) ∧ Below w.heap.size w w' := by
  go_enter Try.func34, Try.ntmps34
  go_wp2_with fail
  obtain ⟨X0, hX0⟩ : ∃ X, X = (w.alloc (.cells #[.int .i64 A, .int .i64 B, .int .i64 C, .int .i64 D] 34)).alloc (.cells #[.int .i64 0, .slice none 0 0] 24) := ⟨_, rfl⟩
  rw [← hX0]
  have P0 : Hid (Pz w.heap.size X0 A B C D) := by rw [hX0]; exact heap_alloc2_old _ _ _
  have R0 : Hid (Rz (w.heap.size + 1) X0) := by rw [hX0]; exact heap_alloc2_new _ _ _
  have B0 : Hid (Below w.heap.size w X0) := by rw [hX0]; exact ((Below.refl _ _).alloc (Nat.le_refl _) _).alloc (by simp) _
  have z0 : X0.heap.size = w.heap.size + 2 := by rw [hX0]; simp
  have Z0 : Hid (X0.heap.size = w.heap.size + 2) := z0
  clear hX0 z0
  have p0 := P0.out.c0
  have p1 := P0.out.c1
  have p2 := P0.out.c2
  have p3 := P0.out.c3
  refine (iSide_yes A B C D x y h1 _).mono ?_
  rintro e X1 ⟨g1, rfl, hg1, hc1, hb⟩
  have P1 : Hid (Pz w.heap.size X1 A B C D) := (hb.block _ (by have := Z0.out; omega)).trans P0.out
  have R1 : Hid (Rz (w.heap.size + 1) X1) := (hb.block _ (by have := Z0.out; omega)).trans R0.out
  have B1 : Hid (Below w.heap.size w X1) := B0.out.trans (hb.mono B0.out.size)
  have L1 : Hid (X0.heap.size ≤ X1.heap.size) := hb.size
  have G1 : Hid (X0.heap.size ≤ g1 ∧ X1.heap[g1]? = some (.cells #[.int .i64 (Wv.kr A B C D x y), .int .i64 (Wv.kt A B C D x y)] 2 (0, 0))) := ⟨hg1, hc1⟩
  clear hb p0 p1 p2 p3 hg1 hc1
  have p0 := P1.out.c0
  have p1 := P1.out.c1
  have p2 := P1.out.c2
  have p3 := P1.out.c3
  go_wp2_with fail
  refine (iSide_yes D B C A y x h2 _).mono ?_
  rintro e X2 ⟨g2, rfl, hg2, hc2, hb⟩
  have P2 : Hid (Pz w.heap.size X2 A B C D) := (hb.block _ (by have := Z0.out; have := L1.out; omega)).trans P1.out
  have R2 : Hid (Rz (w.heap.size + 1) X2) := (hb.block _ (by have := Z0.out; have := L1.out; omega)).trans R1.out
  have B2 : Hid (Below w.heap.size w X2) := B1.out.trans (hb.mono B1.out.size)
  have L2 : Hid (X0.heap.size ≤ X2.heap.size) := Nat.le_trans L1.out hb.size
  have G1' : Hid (X0.heap.size ≤ g1 ∧ X2.heap[g1]? = some (.cells #[.int .i64 (Wv.kr A B C D x y), .int .i64 (Wv.kt A B C D x y)] 2 (0, 0))) := ⟨G1.out.1, (hb.block _ (Array.getElem?_eq_some_iff.1 G1.out.2).1).trans G1.out.2⟩
  have G2 : Hid (X2.heap[g2]? = some (.cells #[.int .i64 (Wv.kr D B C A y x), .int .i64 (Wv.kt D B C A y x)] 2 (0, 0))) := hc2
  clear hb p0 p1 p2 p3 hg2 hc2
  have r0 := R2.out.c0
  have r1 := R2.out.c1
  have q0 := R2.out.fz 0
  have q1 := R2.out.fz 1
  have zz := Z0.out
  have ll := L2.out
  have OW : Hid (X2.ownsRow X0.heap.size 2 1 (.slice (some ⟨g1, 0, none⟩) 2 2) 2 [.int .i64 (Wv.kr A B C D x y), .int .i64 (Wv.kt A B C D x y)]) :=
    ⟨rfl, Or.inr ⟨g1, 2, _, rfl, G1'.out.1, G1'.out.2, Nat.le_refl _, by decide, rfl, rfl⟩⟩
  have NW : Hid (∀ j u, [Value.int .i64 (Wv.kr D B C A y x), .int .i64 (Wv.kt D B C A y x)][j]? = some u → X2.cell? ((⟨g2, 0, none⟩ : Addr).add j) = some u) := World.news_of_block (cs := #[.int .i64 (Wv.kr D B C A y x), .int .i64 (Wv.kt D B C A y x)]) G2.out
  obtain ⟨ti, t1, t2, t3, t4⟩ := info_parts info2
  clear zz ll r0 r1 q0 q1
  go_wp2_with (first | (at_builtin; refine wpList_append_own _ rfl (.tmp 34) (.tmp 35) 22 rfl X0.heap.size 2 ti (.int .i64 0) 1 8 Try.underlying22 t1 t2 t3 t4 rfl (by decide) (.slice (some ⟨g1, 0, none⟩) 2 2) 2 _ rfl OW.out ⟨g2, 0, none⟩ 2 2 [.int .i64 (Wv.kr D B C A y x), .int .i64 (Wv.kt D B C A y x)] rfl rfl NW.out (by simp [Value.oneCell']) (by decide) (by decide) L2.out ?_; intro v1 w3 own3 grow3 nn3; obtain ⟨g3, cap3, e3, hg3, hs3⟩ : ∃ g cap, v1 = .slice (some ⟨g, 0, none⟩) 4 cap ∧ X0.heap.size ≤ g ∧ Seg w3 g 2 0 4 (fun i => .int .i64 (Wv.bl A B C D x y i)) := owned_seg own3 (by omega); subst e3; have B3 : Hid (Below X0.heap.size X2 w3) := (Below.refl _ _).grown grow3 L2.out fun k hk => (OW.out.lt k hk).1; have R3 : Hid (Rz (w.heap.size + 1) w3) := (B3.out.block _ (by have := Z0.out; omega)).trans R2.out; have BB : Hid (Below w.heap.size w w3) := B2.out.trans (B3.out.mono (by have := Z0.out; omega)); have S3 : Hid (X0.heap.size ≤ g3 ∧ Seg w3 g3 2 0 4 (fun i => .int .i64 (Wv.bl A B C D x y i))) := ⟨hg3, hs3⟩; have r0 := R3.out.c0; have r1 := R3.out.c1; have q0 := R3.out.fz 0; have q1 := R3.out.fz 1; clear own3 grow3 nn3 hg3 hs3 B3 OW NW t1 t2 t3 t4))
  have zz := Z0.out
  have ss := S3.out.1
  have hs2 := (S3.out.2.setOther (a := ⟨w.heap.size + 1, 0, none⟩) (by show g3 ≠ w.heap.size + 1; omega) (.int .i64 0)).setOther (a := ⟨w.heap.size + 1, 1, none⟩) (by show g3 ≠ w.heap.size + 1; omega) (.slice (some ⟨g3, 0, none⟩) 4 cap3)
  exact bodyPost_ret (v := .agg #[.int .i64 0, .slice (some ⟨g3, 0, none⟩) 4 cap3]) (by simp [results, Try.results34, go_sem, r0, r1]) rfl ⟨_, rfl, Or.inr ⟨rfl, g3, cap3, rfl, by omega, hs2.lt, hs2⟩, (BB.out.setCell (by show w.heap.size ≤ w.heap.size + 1; omega) _).setCell (by show w.heap.size ≤ w.heap.size + 1; omega) _⟩
theorem iBooks_any (A B C D x y : Int) (w : World) : Calls Try.prog 34 #[.agg #[.int .i64 A, .int .i64 B, .int .i64 C, .int .i64 D], .int .i64 x, .int .i64 y] w fun e w' => ∃ v, e = .returned (.agg #[.int .i64 (Wv.bcode A B C D x y), v]) ∧ OwnL w.heap.size w'.heap.size w' (Wv.bcode A B C D x y) v 4 (Wv.bl A B C D x y) ∧ Below w.heap.size w w' := by
  unfold Wv.bcode
  by_cases h1 : Wv.ku A B C D x y = 0
  · rw [if_pos h1]
    by_cases h2 : Wv.ku D B C A y x = 0
    · exact iBooks_a A B C D x y h1 h2 w
    · exact iBooks_b A B C D x y h1 h2 w
  · rw [if_neg h1]
    by_cases h2 : Wv.ku D B C A y x = 0
    · rw [if_pos h2]; exact iBooks_c A B C D x y h1 h2 w
    · rw [if_neg h2]; exact iBooks_d A B C D x y h1 h2 w
end Go.Proofs.Ytigkfngbiicfaaa
