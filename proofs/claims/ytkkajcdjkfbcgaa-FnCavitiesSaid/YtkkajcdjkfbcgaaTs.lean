/- Trips: the program; both alike. -/
import Derived.Test.YtkkajcdjkfbcgaaTr
import Derived.Handy
namespace Go.Proofs.Ytkkajcdjkfbcgaa
open Go.RowKit
set_option linter.unusedVariables false
set_option linter.unusedSimpArgs false
set_option maxRecDepth 20000 in
set_option maxHeartbeats 3200000 in
theorem itr_1 (L A B : Q) (w : World) (hc : cav L A B = false) : TX 38 #[.agg #[.int .i64 L.n, .int .i64 L.d], .agg #[.int .i64 A.n, .int .i64 A.d], .agg #[.int .i64 B.n, .int .i64 B.d]] w 1 0 (fun _ => ⟨0, ⟨0, 0⟩⟩) := by
  unfold TX
  go_enter Try.func38, Try.ntmps38
  go_wp2_with fail
  refine (icavf_no L A B _ hc).mono ?_
  rintro e w1 ⟨rfl, hb⟩
  have HO : Hid (Below w.heap.size w w1) := by refine box_step ?_ hb (by simp <;> omega); go_grown
  have X0 : Blk w1 (w.heap.size) #[.int .i64 L.n, .int .i64 L.d] 32 := Blk.old ((Blk.alloc (Blk.alloc (Blk.alloc (Blk.new (by simp)) _) _) _)) hb
  have K0 : Hid (w1.cell? ⟨w.heap.size, 0, none⟩ = some (.int .i64 L.n)) := X0.cell rfl
  have K1 : Hid (w1.cell? ⟨w.heap.size, 1, none⟩ = some (.int .i64 L.d)) := X0.cell rfl
  clear X0
  have X1 : Blk w1 (w.heap.size + 1) #[.int .i64 A.n, .int .i64 A.d] 32 := Blk.old ((Blk.alloc (Blk.alloc (Blk.new (by simp)) _) _)) hb
  have K2 : Hid (w1.cell? ⟨w.heap.size + 1, 0, none⟩ = some (.int .i64 A.n)) := X1.cell rfl
  have K3 : Hid (w1.cell? ⟨w.heap.size + 1, 1, none⟩ = some (.int .i64 A.d)) := X1.cell rfl
  clear X1
  have X2 : Blk w1 (w.heap.size + 1 + 1) #[.int .i64 B.n, .int .i64 B.d] 32 := Blk.old ((Blk.alloc (Blk.new (by simp)) _)) hb
  have K4 : Hid (w1.cell? ⟨w.heap.size + 1 + 1, 0, none⟩ = some (.int .i64 B.n)) := X2.cell rfl
  have K5 : Hid (w1.cell? ⟨w.heap.size + 1 + 1, 1, none⟩ = some (.int .i64 B.d)) := X2.cell rfl
  clear X2
  have RB : Hid (Blk w1 (w.heap.size + 1 + 1 + 1) #[.int .i64 0, .slice none 0 0] 41) := Blk.old (Blk.new (by simp)) hb
  clear hb
  have r0 := RB.out.cell (j := 0) rfl
  have r1 := RB.out.cell (j := 1) rfl
  have rf := RB.out.frozen
  go_wp2
  refine bodyPost_ret (v := .agg #[.int .i64 1, .slice none 0 0]) (by simp [results, Try.results38, go_sem, r0, r1, World.cell?_alloc_lt, RB.out.lt] <;> (repeat' (first | rfl | apply And.intro))) rfl ⟨_, rfl, Or.inl ⟨rfl, rfl⟩, ?_⟩
  have h := HO.out
  have hlt := RB.out.lt
  have hsz := h.size
  go_grown
set_option maxRecDepth 20000 in
set_option maxHeartbeats 3200000 in
theorem itr_3 (L A B a b : Q) (ka kb : Bool) (w : World) (FC : Hid (∀ W, Calls Try.prog 67 #[.agg #[.int .i64 L.n, .int .i64 L.d], .agg #[.int .i64 A.n, .int .i64 A.d], .agg #[.int .i64 B.n, .int .i64 B.d]] W fun e w' => e = .returned (.int .i64 0) ∧ Below W.heap.size W w')) (TA : Hid (∀ (r : Nat) (g : Bool) (W : World), flag r g W → Calls Try.prog 90 #[.agg #[.int .i64 A.n, .int .i64 A.d], .pointer (some ⟨r, 0, none⟩)] W fun e w' => e = .returned (.agg #[.int .i64 a.n, .int .i64 a.d]) ∧ But r W.heap.size W w' ∧ flag r (g || !ka) w')) (TB : Hid (∀ (r : Nat) (g : Bool) (W : World), flag r g W → Calls Try.prog 90 #[.agg #[.int .i64 B.n, .int .i64 B.d], .pointer (some ⟨r, 0, none⟩)] W fun e w' => e = .returned (.agg #[.int .i64 b.n, .int .i64 b.d]) ∧ But r W.heap.size W w' ∧ flag r (g || !kb) w')) (hfl : ((false || !kb) || !ka) = true) : TX 38 #[.agg #[.int .i64 L.n, .int .i64 L.d], .agg #[.int .i64 A.n, .int .i64 A.d], .agg #[.int .i64 B.n, .int .i64 B.d]] w 3 0 (fun _ => ⟨0, ⟨0, 0⟩⟩) := by
  unfold TX
  go_enter Try.func38, Try.ntmps38
  go_wp2_with fail
  refine (FC.out _).mono ?_
  rintro e w1 ⟨rfl, hb⟩
  have HO : Hid (Below w.heap.size w w1) := by refine box_step ?_ hb (by simp <;> omega); go_grown
  have X0 : Blk w1 (w.heap.size) #[.int .i64 L.n, .int .i64 L.d] 32 := Blk.old ((Blk.alloc (Blk.alloc (Blk.alloc (Blk.new (by simp)) _) _) _)) hb
  have K0 : Hid (w1.cell? ⟨w.heap.size, 0, none⟩ = some (.int .i64 L.n)) := X0.cell rfl
  have K1 : Hid (w1.cell? ⟨w.heap.size, 1, none⟩ = some (.int .i64 L.d)) := X0.cell rfl
  clear X0
  have X1 : Blk w1 (w.heap.size + 1) #[.int .i64 A.n, .int .i64 A.d] 32 := Blk.old ((Blk.alloc (Blk.alloc (Blk.new (by simp)) _) _)) hb
  have K2 : Hid (w1.cell? ⟨w.heap.size + 1, 0, none⟩ = some (.int .i64 A.n)) := X1.cell rfl
  have K3 : Hid (w1.cell? ⟨w.heap.size + 1, 1, none⟩ = some (.int .i64 A.d)) := X1.cell rfl
  clear X1
  have X2 : Blk w1 (w.heap.size + 1 + 1) #[.int .i64 B.n, .int .i64 B.d] 32 := Blk.old ((Blk.alloc (Blk.new (by simp)) _)) hb
  have K4 : Hid (w1.cell? ⟨w.heap.size + 1 + 1, 0, none⟩ = some (.int .i64 B.n)) := X2.cell rfl
  have K5 : Hid (w1.cell? ⟨w.heap.size + 1 + 1, 1, none⟩ = some (.int .i64 B.d)) := X2.cell rfl
  clear X2
  have RB : Hid (Blk w1 (w.heap.size + 1 + 1 + 1) #[.int .i64 0, .slice none 0 0] 41) := Blk.old (Blk.new (by simp)) hb
  clear hb
  go_upto_region 5 with fail
  obtain ⟨r, hr⟩ : ∃ r, r = w1.heap.size := ⟨_, rfl⟩
  obtain ⟨w2, hY⟩ : ∃ Y, Y = w1.alloc (.cells #[.bool false] 105) := ⟨_, rfl⟩
  rw [← hY, ← hr]
  have FL : Hid (flag r false w2) := by rw [hY, hr]; exact Blk.new rfl
  have hrl : r < w2.heap.size := FL.out.lt
  have hrw : w.heap.size ≤ r := by rw [hr]; exact HO.out.size
  have HO : Hid (Below w.heap.size w w2) := by rw [hY]; exact HO.out.alloc HO.out.size _
  have ne0 : Hid (w.heap.size ≠ r) := by have hh : w.heap.size < w1.heap.size := World.block_lt_of_cell? _ _ K0.out; show w.heap.size ≠ r; omega
  have ne1 : Hid (w.heap.size + 1 ≠ r) := by have hh : w.heap.size + 1 < w1.heap.size := World.block_lt_of_cell? _ _ K2.out; show w.heap.size + 1 ≠ r; omega
  have ne2 : Hid (w.heap.size + 1 + 1 ≠ r) := by have hh : w.heap.size + 1 + 1 < w1.heap.size := World.block_lt_of_cell? _ _ K4.out; show w.heap.size + 1 + 1 ≠ r; omega
  have neR : Hid (w.heap.size + 1 + 1 + 1 ≠ r) := by have := RB.out.lt; show w.heap.size + 1 + 1 + 1 ≠ r; omega
  have RB : Hid (Blk w2 (w.heap.size + 1 + 1 + 1) #[.int .i64 0, .slice none 0 0] 41) := by rw [hY]; exact Blk.alloc RB.out _
  have K6 : Hid (w2.cell? ⟨w.heap.size, 0, none⟩ = some (.int .i64 L.n)) := by rw [hY]; exact cell_old K0.out
  have K7 : Hid (w2.cell? ⟨w.heap.size, 1, none⟩ = some (.int .i64 L.d)) := by rw [hY]; exact cell_old K1.out
  have K8 : Hid (w2.cell? ⟨w.heap.size + 1, 0, none⟩ = some (.int .i64 A.n)) := by rw [hY]; exact cell_old K2.out
  have K9 : Hid (w2.cell? ⟨w.heap.size + 1, 1, none⟩ = some (.int .i64 A.d)) := by rw [hY]; exact cell_old K3.out
  have K10 : Hid (w2.cell? ⟨w.heap.size + 1 + 1, 0, none⟩ = some (.int .i64 B.n)) := by rw [hY]; exact cell_old K4.out
  have K11 : Hid (w2.cell? ⟨w.heap.size + 1 + 1, 1, none⟩ = some (.int .i64 B.d)) := by rw [hY]; exact cell_old K5.out
  clear K0 K1 K2 K3 K4 K5 hY hr
  have c0 := K6.out
  have c1 := K7.out
  go_upto_region 6 with fail
  obtain ⟨w3, hu⟩ : ∃ W, W = w2.alloc (.cells #[.int .i64 1, .int .i64 L.n, .int .i64 L.d] 111) := ⟨_, rfl⟩
  have hb2 : Below w2.heap.size w2 w3 := by rw [hu]; exact (Below.refl _ _).alloc (Nat.le_refl _) _
  have hF := FL.out.below hb2 hrl
  have hb := But.of_below (r := r) hb2
  have PB : Blk w3 (w2.heap.size) #[.int .i64 1, .int .i64 L.n, .int .i64 L.d] 111 := by rw [hu]; exact Blk.new rfl
  obtain ⟨n3, hkk⟩ : ∃ k, k = w2.heap.size := ⟨_, rfl⟩
  rw [← hu, ← hkk]
  rw [← hkk] at PB
  have ne_n3 : Hid (n3 ≠ r) := by show n3 ≠ r; omega
  have HO : Hid (Below w.heap.size w w3) := HO.out.trans ((hb.mono HO.out.size).below hrw)
  have RB : Hid (Blk w3 (w.heap.size + 1 + 1 + 1) #[.int .i64 0, .slice none 0 0] 41) := Blk.but RB.out hb neR.out
  have K12 : Hid (w3.cell? ⟨w.heap.size, 0, none⟩ = some (.int .i64 L.n)) := kbut hb K6.out ne0.out
  have K13 : Hid (w3.cell? ⟨w.heap.size, 1, none⟩ = some (.int .i64 L.d)) := kbut hb K7.out ne0.out
  have K14 : Hid (w3.cell? ⟨w.heap.size + 1, 0, none⟩ = some (.int .i64 A.n)) := kbut hb K8.out ne1.out
  have K15 : Hid (w3.cell? ⟨w.heap.size + 1, 1, none⟩ = some (.int .i64 A.d)) := kbut hb K9.out ne1.out
  have K16 : Hid (w3.cell? ⟨w.heap.size + 1 + 1, 0, none⟩ = some (.int .i64 B.n)) := kbut hb K10.out ne2.out
  have K17 : Hid (w3.cell? ⟨w.heap.size + 1 + 1, 1, none⟩ = some (.int .i64 B.d)) := kbut hb K11.out ne2.out
  clear K6 K7 K8 K9 K10 K11
  have K18 : Hid (w3.cell? ⟨n3, 0, none⟩ = some (.int .i64 1)) := PB.cell (j := 0) rfl
  have K19 : Hid (w3.cell? ⟨n3, 1, none⟩ = some (.int .i64 L.n)) := PB.cell (j := 1) rfl
  have K20 : Hid (w3.cell? ⟨n3, 2, none⟩ = some (.int .i64 L.d)) := PB.cell (j := 2) rfl
  have lt_n3 : Hid (n3 < w3.heap.size) := PB.lt
  have FL : Hid (flag r _ w3) := hF
  have hrl : r < w3.heap.size := FL.out.lt
  clear hu hb hb2 hF PB hkk
  clear c0 c1
  have c4 := K16.out
  have c5 := K17.out
  go_wp2_with fail
  refine Calls.mono (TB.out r _ _ FL.out) ?_
  rintro e w4 ⟨rfl, hb, hF⟩
  clear c4 c5
  have HO : Hid (Below w.heap.size w w4) := HO.out.trans ((hb.mono HO.out.size).below hrw)
  have RB : Hid (Blk w4 (w.heap.size + 1 + 1 + 1) #[.int .i64 0, .slice none 0 0] 41) := Blk.but RB.out hb neR.out
  have K21 : Hid (w4.cell? ⟨w.heap.size, 0, none⟩ = some (.int .i64 L.n)) := kbut hb K12.out ne0.out
  have K22 : Hid (w4.cell? ⟨w.heap.size, 1, none⟩ = some (.int .i64 L.d)) := kbut hb K13.out ne0.out
  have K23 : Hid (w4.cell? ⟨w.heap.size + 1, 0, none⟩ = some (.int .i64 A.n)) := kbut hb K14.out ne1.out
  have K24 : Hid (w4.cell? ⟨w.heap.size + 1, 1, none⟩ = some (.int .i64 A.d)) := kbut hb K15.out ne1.out
  have K25 : Hid (w4.cell? ⟨w.heap.size + 1 + 1, 0, none⟩ = some (.int .i64 B.n)) := kbut hb K16.out ne2.out
  have K26 : Hid (w4.cell? ⟨w.heap.size + 1 + 1, 1, none⟩ = some (.int .i64 B.d)) := kbut hb K17.out ne2.out
  have K27 : Hid (w4.cell? ⟨n3, 0, none⟩ = some (.int .i64 1)) := kbut hb K18.out ne_n3.out
  have K28 : Hid (w4.cell? ⟨n3, 1, none⟩ = some (.int .i64 L.n)) := kbut hb K19.out ne_n3.out
  have K29 : Hid (w4.cell? ⟨n3, 2, none⟩ = some (.int .i64 L.d)) := kbut hb K20.out ne_n3.out
  clear K12 K13 K14 K15 K16 K17 K18 K19 K20
  have lt_n3 : Hid (n3 < w4.heap.size) := Nat.lt_of_lt_of_le lt_n3.out hb.size
  have FL : Hid (flag r _ w4) := hF
  have hrl : r < w4.heap.size := FL.out.lt
  clear hb hF
  go_upto_region 7 with fail
  obtain ⟨w5, hu⟩ : ∃ W, W = w4.alloc (.cells #[.int .i64 2, .int .i64 b.n, .int .i64 b.d] 111) := ⟨_, rfl⟩
  have hb2 : Below w4.heap.size w4 w5 := by rw [hu]; exact (Below.refl _ _).alloc (Nat.le_refl _) _
  have hF := FL.out.below hb2 hrl
  have hb := But.of_below (r := r) hb2
  have PB : Blk w5 (w4.heap.size) #[.int .i64 2, .int .i64 b.n, .int .i64 b.d] 111 := by rw [hu]; exact Blk.new rfl
  obtain ⟨n5, hkk⟩ : ∃ k, k = w4.heap.size := ⟨_, rfl⟩
  rw [← hu, ← hkk]
  rw [← hkk] at PB
  have ne_n5 : Hid (n5 ≠ r) := by show n5 ≠ r; omega
  have nn_n3_n5 : Hid (n3 ≠ n5) := by have := lt_n3.out; show n3 ≠ n5; omega
  have HO : Hid (Below w.heap.size w w5) := HO.out.trans ((hb.mono HO.out.size).below hrw)
  have RB : Hid (Blk w5 (w.heap.size + 1 + 1 + 1) #[.int .i64 0, .slice none 0 0] 41) := Blk.but RB.out hb neR.out
  have K30 : Hid (w5.cell? ⟨w.heap.size, 0, none⟩ = some (.int .i64 L.n)) := kbut hb K21.out ne0.out
  have K31 : Hid (w5.cell? ⟨w.heap.size, 1, none⟩ = some (.int .i64 L.d)) := kbut hb K22.out ne0.out
  have K32 : Hid (w5.cell? ⟨w.heap.size + 1, 0, none⟩ = some (.int .i64 A.n)) := kbut hb K23.out ne1.out
  have K33 : Hid (w5.cell? ⟨w.heap.size + 1, 1, none⟩ = some (.int .i64 A.d)) := kbut hb K24.out ne1.out
  have K34 : Hid (w5.cell? ⟨w.heap.size + 1 + 1, 0, none⟩ = some (.int .i64 B.n)) := kbut hb K25.out ne2.out
  have K35 : Hid (w5.cell? ⟨w.heap.size + 1 + 1, 1, none⟩ = some (.int .i64 B.d)) := kbut hb K26.out ne2.out
  have K36 : Hid (w5.cell? ⟨n3, 0, none⟩ = some (.int .i64 1)) := kbut hb K27.out ne_n3.out
  have K37 : Hid (w5.cell? ⟨n3, 1, none⟩ = some (.int .i64 L.n)) := kbut hb K28.out ne_n3.out
  have K38 : Hid (w5.cell? ⟨n3, 2, none⟩ = some (.int .i64 L.d)) := kbut hb K29.out ne_n3.out
  clear K21 K22 K23 K24 K25 K26 K27 K28 K29
  have lt_n3 : Hid (n3 < w5.heap.size) := Nat.lt_of_lt_of_le lt_n3.out hb.size
  have K39 : Hid (w5.cell? ⟨n5, 0, none⟩ = some (.int .i64 2)) := PB.cell (j := 0) rfl
  have K40 : Hid (w5.cell? ⟨n5, 1, none⟩ = some (.int .i64 b.n)) := PB.cell (j := 1) rfl
  have K41 : Hid (w5.cell? ⟨n5, 2, none⟩ = some (.int .i64 b.d)) := PB.cell (j := 2) rfl
  have lt_n5 : Hid (n5 < w5.heap.size) := PB.lt
  have FL : Hid (flag r _ w5) := hF
  have hrl : r < w5.heap.size := FL.out.lt
  clear hu hb hb2 hF PB hkk
  have c2 := K32.out
  have c3 := K33.out
  go_wp2_with fail
  refine Calls.mono (TA.out r _ _ FL.out) ?_
  rintro e w6 ⟨rfl, hb, hF⟩
  clear c2 c3
  have HO : Hid (Below w.heap.size w w6) := HO.out.trans ((hb.mono HO.out.size).below hrw)
  have RB : Hid (Blk w6 (w.heap.size + 1 + 1 + 1) #[.int .i64 0, .slice none 0 0] 41) := Blk.but RB.out hb neR.out
  have K42 : Hid (w6.cell? ⟨w.heap.size, 0, none⟩ = some (.int .i64 L.n)) := kbut hb K30.out ne0.out
  have K43 : Hid (w6.cell? ⟨w.heap.size, 1, none⟩ = some (.int .i64 L.d)) := kbut hb K31.out ne0.out
  have K44 : Hid (w6.cell? ⟨w.heap.size + 1, 0, none⟩ = some (.int .i64 A.n)) := kbut hb K32.out ne1.out
  have K45 : Hid (w6.cell? ⟨w.heap.size + 1, 1, none⟩ = some (.int .i64 A.d)) := kbut hb K33.out ne1.out
  have K46 : Hid (w6.cell? ⟨w.heap.size + 1 + 1, 0, none⟩ = some (.int .i64 B.n)) := kbut hb K34.out ne2.out
  have K47 : Hid (w6.cell? ⟨w.heap.size + 1 + 1, 1, none⟩ = some (.int .i64 B.d)) := kbut hb K35.out ne2.out
  have K48 : Hid (w6.cell? ⟨n3, 0, none⟩ = some (.int .i64 1)) := kbut hb K36.out ne_n3.out
  have K49 : Hid (w6.cell? ⟨n3, 1, none⟩ = some (.int .i64 L.n)) := kbut hb K37.out ne_n3.out
  have K50 : Hid (w6.cell? ⟨n3, 2, none⟩ = some (.int .i64 L.d)) := kbut hb K38.out ne_n3.out
  have K51 : Hid (w6.cell? ⟨n5, 0, none⟩ = some (.int .i64 2)) := kbut hb K39.out ne_n5.out
  have K52 : Hid (w6.cell? ⟨n5, 1, none⟩ = some (.int .i64 b.n)) := kbut hb K40.out ne_n5.out
  have K53 : Hid (w6.cell? ⟨n5, 2, none⟩ = some (.int .i64 b.d)) := kbut hb K41.out ne_n5.out
  clear K30 K31 K32 K33 K34 K35 K36 K37 K38 K39 K40 K41
  have lt_n3 : Hid (n3 < w6.heap.size) := Nat.lt_of_lt_of_le lt_n3.out hb.size
  have lt_n5 : Hid (n5 < w6.heap.size) := Nat.lt_of_lt_of_le lt_n5.out hb.size
  have FL : Hid (flag r _ w6) := hF
  have hrl : r < w6.heap.size := FL.out.lt
  clear hb hF
  go_upto_region 8 with fail
  obtain ⟨w7, hu⟩ : ∃ W, W = w6.alloc (.cells #[.int .i64 2, .int .i64 a.n, .int .i64 a.d] 111) := ⟨_, rfl⟩
  have hb2 : Below w6.heap.size w6 w7 := by rw [hu]; exact (Below.refl _ _).alloc (Nat.le_refl _) _
  have hF := FL.out.below hb2 hrl
  have hb := But.of_below (r := r) hb2
  have PB : Blk w7 (w6.heap.size) #[.int .i64 2, .int .i64 a.n, .int .i64 a.d] 111 := by rw [hu]; exact Blk.new rfl
  obtain ⟨n7, hkk⟩ : ∃ k, k = w6.heap.size := ⟨_, rfl⟩
  rw [← hu, ← hkk]
  rw [← hkk] at PB
  have ne_n7 : Hid (n7 ≠ r) := by show n7 ≠ r; omega
  have nn_n3_n7 : Hid (n3 ≠ n7) := by have := lt_n3.out; show n3 ≠ n7; omega
  have nn_n5_n7 : Hid (n5 ≠ n7) := by have := lt_n5.out; show n5 ≠ n7; omega
  have HO : Hid (Below w.heap.size w w7) := HO.out.trans ((hb.mono HO.out.size).below hrw)
  have RB : Hid (Blk w7 (w.heap.size + 1 + 1 + 1) #[.int .i64 0, .slice none 0 0] 41) := Blk.but RB.out hb neR.out
  have K54 : Hid (w7.cell? ⟨w.heap.size, 0, none⟩ = some (.int .i64 L.n)) := kbut hb K42.out ne0.out
  have K55 : Hid (w7.cell? ⟨w.heap.size, 1, none⟩ = some (.int .i64 L.d)) := kbut hb K43.out ne0.out
  have K56 : Hid (w7.cell? ⟨w.heap.size + 1, 0, none⟩ = some (.int .i64 A.n)) := kbut hb K44.out ne1.out
  have K57 : Hid (w7.cell? ⟨w.heap.size + 1, 1, none⟩ = some (.int .i64 A.d)) := kbut hb K45.out ne1.out
  have K58 : Hid (w7.cell? ⟨w.heap.size + 1 + 1, 0, none⟩ = some (.int .i64 B.n)) := kbut hb K46.out ne2.out
  have K59 : Hid (w7.cell? ⟨w.heap.size + 1 + 1, 1, none⟩ = some (.int .i64 B.d)) := kbut hb K47.out ne2.out
  have K60 : Hid (w7.cell? ⟨n3, 0, none⟩ = some (.int .i64 1)) := kbut hb K48.out ne_n3.out
  have K61 : Hid (w7.cell? ⟨n3, 1, none⟩ = some (.int .i64 L.n)) := kbut hb K49.out ne_n3.out
  have K62 : Hid (w7.cell? ⟨n3, 2, none⟩ = some (.int .i64 L.d)) := kbut hb K50.out ne_n3.out
  have K63 : Hid (w7.cell? ⟨n5, 0, none⟩ = some (.int .i64 2)) := kbut hb K51.out ne_n5.out
  have K64 : Hid (w7.cell? ⟨n5, 1, none⟩ = some (.int .i64 b.n)) := kbut hb K52.out ne_n5.out
  have K65 : Hid (w7.cell? ⟨n5, 2, none⟩ = some (.int .i64 b.d)) := kbut hb K53.out ne_n5.out
  clear K42 K43 K44 K45 K46 K47 K48 K49 K50 K51 K52 K53
  have lt_n3 : Hid (n3 < w7.heap.size) := Nat.lt_of_lt_of_le lt_n3.out hb.size
  have lt_n5 : Hid (n5 < w7.heap.size) := Nat.lt_of_lt_of_le lt_n5.out hb.size
  have K66 : Hid (w7.cell? ⟨n7, 0, none⟩ = some (.int .i64 2)) := PB.cell (j := 0) rfl
  have K67 : Hid (w7.cell? ⟨n7, 1, none⟩ = some (.int .i64 a.n)) := PB.cell (j := 1) rfl
  have K68 : Hid (w7.cell? ⟨n7, 2, none⟩ = some (.int .i64 a.d)) := PB.cell (j := 2) rfl
  have lt_n7 : Hid (n7 < w7.heap.size) := PB.lt
  have FL : Hid (flag r _ w7) := hF
  have hrl : r < w7.heap.size := FL.out.lt
  clear hu hb hb2 hF PB hkk
  have hFc := FL.out.cell
  rw [hfl] at hFc
  have r0 := RB.out.cell (j := 0) rfl
  have r1 := RB.out.cell (j := 1) rfl
  have rf := RB.out.frozen
  go_wp2
  refine bodyPost_ret (v := .agg #[.int .i64 3, .slice none 0 0]) (by simp [results, Try.results38, go_sem, r0, r1, World.cell?_alloc_lt, RB.out.lt] <;> (repeat' (first | rfl | apply And.intro))) rfl ⟨_, rfl, Or.inl ⟨rfl, rfl⟩, ?_⟩
  have h := HO.out
  have hlt := RB.out.lt
  have hsz := h.size
  go_grown
set_option maxRecDepth 20000 in
set_option maxHeartbeats 3200000 in
theorem itr_0 (L A B a b : Q) (ka kb : Bool) (w : World) (FC : Hid (∀ W, Calls Try.prog 67 #[.agg #[.int .i64 L.n, .int .i64 L.d], .agg #[.int .i64 A.n, .int .i64 A.d], .agg #[.int .i64 B.n, .int .i64 B.d]] W fun e w' => e = .returned (.int .i64 0) ∧ Below W.heap.size W w')) (TA : Hid (∀ (r : Nat) (g : Bool) (W : World), flag r g W → Calls Try.prog 90 #[.agg #[.int .i64 A.n, .int .i64 A.d], .pointer (some ⟨r, 0, none⟩)] W fun e w' => e = .returned (.agg #[.int .i64 a.n, .int .i64 a.d]) ∧ But r W.heap.size W w' ∧ flag r (g || !ka) w')) (TB : Hid (∀ (r : Nat) (g : Bool) (W : World), flag r g W → Calls Try.prog 90 #[.agg #[.int .i64 B.n, .int .i64 B.d], .pointer (some ⟨r, 0, none⟩)] W fun e w' => e = .returned (.agg #[.int .i64 b.n, .int .i64 b.d]) ∧ But r W.heap.size W w' ∧ flag r (g || !kb) w')) (hfl : ((false || !kb) || !ka) = false) : TX 38 #[.agg #[.int .i64 L.n, .int .i64 L.d], .agg #[.int .i64 A.n, .int .i64 A.d], .agg #[.int .i64 B.n, .int .i64 B.d]] w 0 4 (trp L a b) := by
  unfold TX
  go_enter Try.func38, Try.ntmps38
  go_wp2_with fail
  refine (FC.out _).mono ?_
  rintro e w1 ⟨rfl, hb⟩
  have HO : Hid (Below w.heap.size w w1) := by refine box_step ?_ hb (by simp <;> omega); go_grown
  have X0 : Blk w1 (w.heap.size) #[.int .i64 L.n, .int .i64 L.d] 32 := Blk.old ((Blk.alloc (Blk.alloc (Blk.alloc (Blk.new (by simp)) _) _) _)) hb
  have K0 : Hid (w1.cell? ⟨w.heap.size, 0, none⟩ = some (.int .i64 L.n)) := X0.cell rfl
  have K1 : Hid (w1.cell? ⟨w.heap.size, 1, none⟩ = some (.int .i64 L.d)) := X0.cell rfl
  clear X0
  have X1 : Blk w1 (w.heap.size + 1) #[.int .i64 A.n, .int .i64 A.d] 32 := Blk.old ((Blk.alloc (Blk.alloc (Blk.new (by simp)) _) _)) hb
  have K2 : Hid (w1.cell? ⟨w.heap.size + 1, 0, none⟩ = some (.int .i64 A.n)) := X1.cell rfl
  have K3 : Hid (w1.cell? ⟨w.heap.size + 1, 1, none⟩ = some (.int .i64 A.d)) := X1.cell rfl
  clear X1
  have X2 : Blk w1 (w.heap.size + 1 + 1) #[.int .i64 B.n, .int .i64 B.d] 32 := Blk.old ((Blk.alloc (Blk.new (by simp)) _)) hb
  have K4 : Hid (w1.cell? ⟨w.heap.size + 1 + 1, 0, none⟩ = some (.int .i64 B.n)) := X2.cell rfl
  have K5 : Hid (w1.cell? ⟨w.heap.size + 1 + 1, 1, none⟩ = some (.int .i64 B.d)) := X2.cell rfl
  clear X2
  have RB : Hid (Blk w1 (w.heap.size + 1 + 1 + 1) #[.int .i64 0, .slice none 0 0] 41) := Blk.old (Blk.new (by simp)) hb
  clear hb
  go_upto_region 5 with fail
  obtain ⟨r, hr⟩ : ∃ r, r = w1.heap.size := ⟨_, rfl⟩
  obtain ⟨w2, hY⟩ : ∃ Y, Y = w1.alloc (.cells #[.bool false] 105) := ⟨_, rfl⟩
  rw [← hY, ← hr]
  have FL : Hid (flag r false w2) := by rw [hY, hr]; exact Blk.new rfl
  have hrl : r < w2.heap.size := FL.out.lt
  have hrw : w.heap.size ≤ r := by rw [hr]; exact HO.out.size
  have HO : Hid (Below w.heap.size w w2) := by rw [hY]; exact HO.out.alloc HO.out.size _
  have ne0 : Hid (w.heap.size ≠ r) := by have hh : w.heap.size < w1.heap.size := World.block_lt_of_cell? _ _ K0.out; show w.heap.size ≠ r; omega
  have ne1 : Hid (w.heap.size + 1 ≠ r) := by have hh : w.heap.size + 1 < w1.heap.size := World.block_lt_of_cell? _ _ K2.out; show w.heap.size + 1 ≠ r; omega
  have ne2 : Hid (w.heap.size + 1 + 1 ≠ r) := by have hh : w.heap.size + 1 + 1 < w1.heap.size := World.block_lt_of_cell? _ _ K4.out; show w.heap.size + 1 + 1 ≠ r; omega
  have neR : Hid (w.heap.size + 1 + 1 + 1 ≠ r) := by have := RB.out.lt; show w.heap.size + 1 + 1 + 1 ≠ r; omega
  have RB : Hid (Blk w2 (w.heap.size + 1 + 1 + 1) #[.int .i64 0, .slice none 0 0] 41) := by rw [hY]; exact Blk.alloc RB.out _
  have K6 : Hid (w2.cell? ⟨w.heap.size, 0, none⟩ = some (.int .i64 L.n)) := by rw [hY]; exact cell_old K0.out
  have K7 : Hid (w2.cell? ⟨w.heap.size, 1, none⟩ = some (.int .i64 L.d)) := by rw [hY]; exact cell_old K1.out
  have K8 : Hid (w2.cell? ⟨w.heap.size + 1, 0, none⟩ = some (.int .i64 A.n)) := by rw [hY]; exact cell_old K2.out
  have K9 : Hid (w2.cell? ⟨w.heap.size + 1, 1, none⟩ = some (.int .i64 A.d)) := by rw [hY]; exact cell_old K3.out
  have K10 : Hid (w2.cell? ⟨w.heap.size + 1 + 1, 0, none⟩ = some (.int .i64 B.n)) := by rw [hY]; exact cell_old K4.out
  have K11 : Hid (w2.cell? ⟨w.heap.size + 1 + 1, 1, none⟩ = some (.int .i64 B.d)) := by rw [hY]; exact cell_old K5.out
  clear K0 K1 K2 K3 K4 K5 hY hr
  have c0 := K6.out
  have c1 := K7.out
  go_upto_region 6 with fail
  obtain ⟨w3, hu⟩ : ∃ W, W = w2.alloc (.cells #[.int .i64 1, .int .i64 L.n, .int .i64 L.d] 111) := ⟨_, rfl⟩
  have hb2 : Below w2.heap.size w2 w3 := by rw [hu]; exact (Below.refl _ _).alloc (Nat.le_refl _) _
  have hF := FL.out.below hb2 hrl
  have hb := But.of_below (r := r) hb2
  have PB : Blk w3 (w2.heap.size) #[.int .i64 1, .int .i64 L.n, .int .i64 L.d] 111 := by rw [hu]; exact Blk.new rfl
  obtain ⟨n3, hkk⟩ : ∃ k, k = w2.heap.size := ⟨_, rfl⟩
  rw [← hu, ← hkk]
  rw [← hkk] at PB
  have ne_n3 : Hid (n3 ≠ r) := by show n3 ≠ r; omega
  have HO : Hid (Below w.heap.size w w3) := HO.out.trans ((hb.mono HO.out.size).below hrw)
  have RB : Hid (Blk w3 (w.heap.size + 1 + 1 + 1) #[.int .i64 0, .slice none 0 0] 41) := Blk.but RB.out hb neR.out
  have K12 : Hid (w3.cell? ⟨w.heap.size, 0, none⟩ = some (.int .i64 L.n)) := kbut hb K6.out ne0.out
  have K13 : Hid (w3.cell? ⟨w.heap.size, 1, none⟩ = some (.int .i64 L.d)) := kbut hb K7.out ne0.out
  have K14 : Hid (w3.cell? ⟨w.heap.size + 1, 0, none⟩ = some (.int .i64 A.n)) := kbut hb K8.out ne1.out
  have K15 : Hid (w3.cell? ⟨w.heap.size + 1, 1, none⟩ = some (.int .i64 A.d)) := kbut hb K9.out ne1.out
  have K16 : Hid (w3.cell? ⟨w.heap.size + 1 + 1, 0, none⟩ = some (.int .i64 B.n)) := kbut hb K10.out ne2.out
  have K17 : Hid (w3.cell? ⟨w.heap.size + 1 + 1, 1, none⟩ = some (.int .i64 B.d)) := kbut hb K11.out ne2.out
  clear K6 K7 K8 K9 K10 K11
  have K18 : Hid (w3.cell? ⟨n3, 0, none⟩ = some (.int .i64 1)) := PB.cell (j := 0) rfl
  have K19 : Hid (w3.cell? ⟨n3, 1, none⟩ = some (.int .i64 L.n)) := PB.cell (j := 1) rfl
  have K20 : Hid (w3.cell? ⟨n3, 2, none⟩ = some (.int .i64 L.d)) := PB.cell (j := 2) rfl
  have lt_n3 : Hid (n3 < w3.heap.size) := PB.lt
  have FL : Hid (flag r _ w3) := hF
  have hrl : r < w3.heap.size := FL.out.lt
  clear hu hb hb2 hF PB hkk
  clear c0 c1
  have c4 := K16.out
  have c5 := K17.out
  go_wp2_with fail
  refine Calls.mono (TB.out r _ _ FL.out) ?_
  rintro e w4 ⟨rfl, hb, hF⟩
  clear c4 c5
  have HO : Hid (Below w.heap.size w w4) := HO.out.trans ((hb.mono HO.out.size).below hrw)
  have RB : Hid (Blk w4 (w.heap.size + 1 + 1 + 1) #[.int .i64 0, .slice none 0 0] 41) := Blk.but RB.out hb neR.out
  have K21 : Hid (w4.cell? ⟨w.heap.size, 0, none⟩ = some (.int .i64 L.n)) := kbut hb K12.out ne0.out
  have K22 : Hid (w4.cell? ⟨w.heap.size, 1, none⟩ = some (.int .i64 L.d)) := kbut hb K13.out ne0.out
  have K23 : Hid (w4.cell? ⟨w.heap.size + 1, 0, none⟩ = some (.int .i64 A.n)) := kbut hb K14.out ne1.out
  have K24 : Hid (w4.cell? ⟨w.heap.size + 1, 1, none⟩ = some (.int .i64 A.d)) := kbut hb K15.out ne1.out
  have K25 : Hid (w4.cell? ⟨w.heap.size + 1 + 1, 0, none⟩ = some (.int .i64 B.n)) := kbut hb K16.out ne2.out
  have K26 : Hid (w4.cell? ⟨w.heap.size + 1 + 1, 1, none⟩ = some (.int .i64 B.d)) := kbut hb K17.out ne2.out
  have K27 : Hid (w4.cell? ⟨n3, 0, none⟩ = some (.int .i64 1)) := kbut hb K18.out ne_n3.out
  have K28 : Hid (w4.cell? ⟨n3, 1, none⟩ = some (.int .i64 L.n)) := kbut hb K19.out ne_n3.out
  have K29 : Hid (w4.cell? ⟨n3, 2, none⟩ = some (.int .i64 L.d)) := kbut hb K20.out ne_n3.out
  clear K12 K13 K14 K15 K16 K17 K18 K19 K20
  have lt_n3 : Hid (n3 < w4.heap.size) := Nat.lt_of_lt_of_le lt_n3.out hb.size
  have FL : Hid (flag r _ w4) := hF
  have hrl : r < w4.heap.size := FL.out.lt
  clear hb hF
  go_upto_region 7 with fail
  obtain ⟨w5, hu⟩ : ∃ W, W = w4.alloc (.cells #[.int .i64 2, .int .i64 b.n, .int .i64 b.d] 111) := ⟨_, rfl⟩
  have hb2 : Below w4.heap.size w4 w5 := by rw [hu]; exact (Below.refl _ _).alloc (Nat.le_refl _) _
  have hF := FL.out.below hb2 hrl
  have hb := But.of_below (r := r) hb2
  have PB : Blk w5 (w4.heap.size) #[.int .i64 2, .int .i64 b.n, .int .i64 b.d] 111 := by rw [hu]; exact Blk.new rfl
  obtain ⟨n5, hkk⟩ : ∃ k, k = w4.heap.size := ⟨_, rfl⟩
  rw [← hu, ← hkk]
  rw [← hkk] at PB
  have ne_n5 : Hid (n5 ≠ r) := by show n5 ≠ r; omega
  have nn_n3_n5 : Hid (n3 ≠ n5) := by have := lt_n3.out; show n3 ≠ n5; omega
  have HO : Hid (Below w.heap.size w w5) := HO.out.trans ((hb.mono HO.out.size).below hrw)
  have RB : Hid (Blk w5 (w.heap.size + 1 + 1 + 1) #[.int .i64 0, .slice none 0 0] 41) := Blk.but RB.out hb neR.out
  have K30 : Hid (w5.cell? ⟨w.heap.size, 0, none⟩ = some (.int .i64 L.n)) := kbut hb K21.out ne0.out
  have K31 : Hid (w5.cell? ⟨w.heap.size, 1, none⟩ = some (.int .i64 L.d)) := kbut hb K22.out ne0.out
  have K32 : Hid (w5.cell? ⟨w.heap.size + 1, 0, none⟩ = some (.int .i64 A.n)) := kbut hb K23.out ne1.out
  have K33 : Hid (w5.cell? ⟨w.heap.size + 1, 1, none⟩ = some (.int .i64 A.d)) := kbut hb K24.out ne1.out
  have K34 : Hid (w5.cell? ⟨w.heap.size + 1 + 1, 0, none⟩ = some (.int .i64 B.n)) := kbut hb K25.out ne2.out
  have K35 : Hid (w5.cell? ⟨w.heap.size + 1 + 1, 1, none⟩ = some (.int .i64 B.d)) := kbut hb K26.out ne2.out
  have K36 : Hid (w5.cell? ⟨n3, 0, none⟩ = some (.int .i64 1)) := kbut hb K27.out ne_n3.out
  have K37 : Hid (w5.cell? ⟨n3, 1, none⟩ = some (.int .i64 L.n)) := kbut hb K28.out ne_n3.out
  have K38 : Hid (w5.cell? ⟨n3, 2, none⟩ = some (.int .i64 L.d)) := kbut hb K29.out ne_n3.out
  clear K21 K22 K23 K24 K25 K26 K27 K28 K29
  have lt_n3 : Hid (n3 < w5.heap.size) := Nat.lt_of_lt_of_le lt_n3.out hb.size
  have K39 : Hid (w5.cell? ⟨n5, 0, none⟩ = some (.int .i64 2)) := PB.cell (j := 0) rfl
  have K40 : Hid (w5.cell? ⟨n5, 1, none⟩ = some (.int .i64 b.n)) := PB.cell (j := 1) rfl
  have K41 : Hid (w5.cell? ⟨n5, 2, none⟩ = some (.int .i64 b.d)) := PB.cell (j := 2) rfl
  have lt_n5 : Hid (n5 < w5.heap.size) := PB.lt
  have FL : Hid (flag r _ w5) := hF
  have hrl : r < w5.heap.size := FL.out.lt
  clear hu hb hb2 hF PB hkk
  have c2 := K32.out
  have c3 := K33.out
  go_wp2_with fail
  refine Calls.mono (TA.out r _ _ FL.out) ?_
  rintro e w6 ⟨rfl, hb, hF⟩
  clear c2 c3
  have HO : Hid (Below w.heap.size w w6) := HO.out.trans ((hb.mono HO.out.size).below hrw)
  have RB : Hid (Blk w6 (w.heap.size + 1 + 1 + 1) #[.int .i64 0, .slice none 0 0] 41) := Blk.but RB.out hb neR.out
  have K42 : Hid (w6.cell? ⟨w.heap.size, 0, none⟩ = some (.int .i64 L.n)) := kbut hb K30.out ne0.out
  have K43 : Hid (w6.cell? ⟨w.heap.size, 1, none⟩ = some (.int .i64 L.d)) := kbut hb K31.out ne0.out
  have K44 : Hid (w6.cell? ⟨w.heap.size + 1, 0, none⟩ = some (.int .i64 A.n)) := kbut hb K32.out ne1.out
  have K45 : Hid (w6.cell? ⟨w.heap.size + 1, 1, none⟩ = some (.int .i64 A.d)) := kbut hb K33.out ne1.out
  have K46 : Hid (w6.cell? ⟨w.heap.size + 1 + 1, 0, none⟩ = some (.int .i64 B.n)) := kbut hb K34.out ne2.out
  have K47 : Hid (w6.cell? ⟨w.heap.size + 1 + 1, 1, none⟩ = some (.int .i64 B.d)) := kbut hb K35.out ne2.out
  have K48 : Hid (w6.cell? ⟨n3, 0, none⟩ = some (.int .i64 1)) := kbut hb K36.out ne_n3.out
  have K49 : Hid (w6.cell? ⟨n3, 1, none⟩ = some (.int .i64 L.n)) := kbut hb K37.out ne_n3.out
  have K50 : Hid (w6.cell? ⟨n3, 2, none⟩ = some (.int .i64 L.d)) := kbut hb K38.out ne_n3.out
  have K51 : Hid (w6.cell? ⟨n5, 0, none⟩ = some (.int .i64 2)) := kbut hb K39.out ne_n5.out
  have K52 : Hid (w6.cell? ⟨n5, 1, none⟩ = some (.int .i64 b.n)) := kbut hb K40.out ne_n5.out
  have K53 : Hid (w6.cell? ⟨n5, 2, none⟩ = some (.int .i64 b.d)) := kbut hb K41.out ne_n5.out
  clear K30 K31 K32 K33 K34 K35 K36 K37 K38 K39 K40 K41
  have lt_n3 : Hid (n3 < w6.heap.size) := Nat.lt_of_lt_of_le lt_n3.out hb.size
  have lt_n5 : Hid (n5 < w6.heap.size) := Nat.lt_of_lt_of_le lt_n5.out hb.size
  have FL : Hid (flag r _ w6) := hF
  have hrl : r < w6.heap.size := FL.out.lt
  clear hb hF
  go_upto_region 8 with fail
  obtain ⟨w7, hu⟩ : ∃ W, W = w6.alloc (.cells #[.int .i64 2, .int .i64 a.n, .int .i64 a.d] 111) := ⟨_, rfl⟩
  have hb2 : Below w6.heap.size w6 w7 := by rw [hu]; exact (Below.refl _ _).alloc (Nat.le_refl _) _
  have hF := FL.out.below hb2 hrl
  have hb := But.of_below (r := r) hb2
  have PB : Blk w7 (w6.heap.size) #[.int .i64 2, .int .i64 a.n, .int .i64 a.d] 111 := by rw [hu]; exact Blk.new rfl
  obtain ⟨n7, hkk⟩ : ∃ k, k = w6.heap.size := ⟨_, rfl⟩
  rw [← hu, ← hkk]
  rw [← hkk] at PB
  have ne_n7 : Hid (n7 ≠ r) := by show n7 ≠ r; omega
  have nn_n3_n7 : Hid (n3 ≠ n7) := by have := lt_n3.out; show n3 ≠ n7; omega
  have nn_n5_n7 : Hid (n5 ≠ n7) := by have := lt_n5.out; show n5 ≠ n7; omega
  have HO : Hid (Below w.heap.size w w7) := HO.out.trans ((hb.mono HO.out.size).below hrw)
  have RB : Hid (Blk w7 (w.heap.size + 1 + 1 + 1) #[.int .i64 0, .slice none 0 0] 41) := Blk.but RB.out hb neR.out
  have K54 : Hid (w7.cell? ⟨w.heap.size, 0, none⟩ = some (.int .i64 L.n)) := kbut hb K42.out ne0.out
  have K55 : Hid (w7.cell? ⟨w.heap.size, 1, none⟩ = some (.int .i64 L.d)) := kbut hb K43.out ne0.out
  have K56 : Hid (w7.cell? ⟨w.heap.size + 1, 0, none⟩ = some (.int .i64 A.n)) := kbut hb K44.out ne1.out
  have K57 : Hid (w7.cell? ⟨w.heap.size + 1, 1, none⟩ = some (.int .i64 A.d)) := kbut hb K45.out ne1.out
  have K58 : Hid (w7.cell? ⟨w.heap.size + 1 + 1, 0, none⟩ = some (.int .i64 B.n)) := kbut hb K46.out ne2.out
  have K59 : Hid (w7.cell? ⟨w.heap.size + 1 + 1, 1, none⟩ = some (.int .i64 B.d)) := kbut hb K47.out ne2.out
  have K60 : Hid (w7.cell? ⟨n3, 0, none⟩ = some (.int .i64 1)) := kbut hb K48.out ne_n3.out
  have K61 : Hid (w7.cell? ⟨n3, 1, none⟩ = some (.int .i64 L.n)) := kbut hb K49.out ne_n3.out
  have K62 : Hid (w7.cell? ⟨n3, 2, none⟩ = some (.int .i64 L.d)) := kbut hb K50.out ne_n3.out
  have K63 : Hid (w7.cell? ⟨n5, 0, none⟩ = some (.int .i64 2)) := kbut hb K51.out ne_n5.out
  have K64 : Hid (w7.cell? ⟨n5, 1, none⟩ = some (.int .i64 b.n)) := kbut hb K52.out ne_n5.out
  have K65 : Hid (w7.cell? ⟨n5, 2, none⟩ = some (.int .i64 b.d)) := kbut hb K53.out ne_n5.out
  clear K42 K43 K44 K45 K46 K47 K48 K49 K50 K51 K52 K53
  have lt_n3 : Hid (n3 < w7.heap.size) := Nat.lt_of_lt_of_le lt_n3.out hb.size
  have lt_n5 : Hid (n5 < w7.heap.size) := Nat.lt_of_lt_of_le lt_n5.out hb.size
  have K66 : Hid (w7.cell? ⟨n7, 0, none⟩ = some (.int .i64 2)) := PB.cell (j := 0) rfl
  have K67 : Hid (w7.cell? ⟨n7, 1, none⟩ = some (.int .i64 a.n)) := PB.cell (j := 1) rfl
  have K68 : Hid (w7.cell? ⟨n7, 2, none⟩ = some (.int .i64 a.d)) := PB.cell (j := 2) rfl
  have lt_n7 : Hid (n7 < w7.heap.size) := PB.lt
  have FL : Hid (flag r _ w7) := hF
  have hrl : r < w7.heap.size := FL.out.lt
  clear hu hb hb2 hF PB hkk
  have hFc := FL.out.cell
  rw [hfl] at hFc
  have c6 := K60.out
  have c7 := K61.out
  have c8 := K62.out
  have c9 := K63.out
  have c10 := K64.out
  have c11 := K65.out
  have c12 := K66.out
  have c13 := K67.out
  have c14 := K68.out
  have r0 := RB.out.cell (j := 0) rfl
  have r1 := RB.out.cell (j := 1) rfl
  have rf := RB.out.frozen
  have zr : w.heap.size + 1 + 1 + 1 < w7.heap.size := RB.out.lt
  go_wp2
  refine bodyPost_ret (v := .agg #[.int .i64 0, .slice (some ⟨w7.heap.size, 0, none⟩) 4 4]) (by simp [results, Try.results38, go_sem, r0, r1, World.cell?_alloc_lt, RB.out.lt] <;> (repeat' (first | rfl | apply And.intro))) rfl ⟨_, rfl, Or.inr ⟨w7.heap.size, 4, rfl, HO.out.size, trip_seg (cs := #[.int .i64 1, .int .i64 L.n, .int .i64 L.d, .int .i64 2, .int .i64 b.n, .int .i64 b.d, .int .i64 1, .int .i64 L.n, .int .i64 L.d, .int .i64 2, .int .i64 a.n, .int .i64 a.d]) ?_ rfl⟩, ?_⟩
  · exact Blk.new (by simp)
  · have h := HO.out
    have hlt := RB.out.lt
    have hsz := h.size
    go_grown
theorem trip_both (L A B : Q) : ∃ (c : Int) (m : Nat) (F : Nat → Pt), m ≤ 4 ∧ (∀ w, TX 22 #[.agg #[.int .i64 L.n, .int .i64 L.d], .agg #[.int .i64 A.n, .int .i64 A.d], .agg #[.int .i64 B.n, .int .i64 B.d]] w c m F) ∧ (∀ w, TX 38 #[.agg #[.int .i64 L.n, .int .i64 L.d], .agg #[.int .i64 A.n, .int .i64 A.d], .agg #[.int .i64 B.n, .int .i64 B.d]] w c m F) := by
  cases hc : cav L A B
  · exact ⟨1, 0, _, by omega, fun w => str_1 L A B w hc, fun w => itr_1 L A B w hc⟩
  obtain ⟨okL, okA, okB, hp⟩ := cav_t hc
  have SC : ∀ W, Calls Try.prog 60 #[.agg #[.int .i64 L.n, .int .i64 L.d], .agg #[.int .i64 A.n, .int .i64 A.d], .agg #[.int .i64 B.n, .int .i64 B.d]] W fun e w' => e = .returned (.bool true) ∧ Below W.heap.size W w' := fun W => by have := scav L A B W; rwa [hc] at this
  have FC : ∀ W, Calls Try.prog 67 #[.agg #[.int .i64 L.n, .int .i64 L.d], .agg #[.int .i64 A.n, .int .i64 A.d], .agg #[.int .i64 B.n, .int .i64 B.d]] W fun e w' => e = .returned (.int .i64 0) ∧ Below W.heap.size W w' := fun W => icavf_yes L A B W hc
  have TA := fun (r : Nat) (g : Bool) (W : World) (h : flag r g W) => ipow A r g W h okA
  have TB := fun (r : Nat) (g : Bool) (W : World) (h : flag r g W) => ipow B r g W h okB
  have SA := fun W => spow A W
  have SB := fun W => spow B W
  cases hA : poK A
  · rw [hA] at SA
    exact ⟨3, 0, _, by omega, fun w => str_A L A B (poQ A) (poQ B) w (poK B) SC SA SB, fun w => itr_3 L A B (poQ A) (poQ B) (poK A) (poK B) w FC TA TB (by rw [hA]; simp)⟩
  rw [hA] at SA
  cases hB : poK B
  · rw [hB] at SB
    exact ⟨3, 0, _, by omega, fun w => str_B L A B (poQ A) (poQ B) w SC SA SB, fun w => itr_3 L A B (poQ A) (poQ B) (poK A) (poK B) w FC TA TB (by rw [hB]; simp)⟩
  rw [hB] at SB
  exact ⟨0, 4, _, by omega, fun w => str_G L A B (poQ A) (poQ B) w SC SA SB, fun w => itr_0 L A B (poQ A) (poQ B) (poK A) (poK B) w FC TA TB (by rw [hA, hB]; rfl)⟩
end Go.Proofs.Ytkkajcdjkfbcgaa
