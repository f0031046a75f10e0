/- At every list and second list the program's UnfoldWave answers as the specification, code and list, where the law's own bounds on the sizes do not answer first; what it answers owns its memory; nothing that was there is changed. Conditions: the library's tables of trailing zeros start as their text lays them (the card ties them). -/
import Derived.Test.YtpkbpikdffbadaaDoorRows
import Derived.Test.YtpkbpikdffbadaaDoorCards
import Derived.Test.YtpkbpikdffbadaaDoorTie
import Derived.Test.YtpkbpikdffbadaaDoorUg
import Derived.Test.YtpkbpikdffbadaaDoorLa
import Derived.Handy
import Derived.WalkKit
import Derived.Deep.RegionHeld3
import Derived.Deep.DeepCutAuto
namespace Go.Proofs.YtpkbpikdffbadaaDoor.LawUnfoldWave
open Go.ChangeShapes Go.WideShapes Go.ChangeAt Go.RowKit Go.Joins
set_option linter.unusedVariables false
set_option maxHeartbeats 4000000 in
set_option maxRecDepth 10000 in
theorem walk {w : World} {v0 : Value} {n0 : Nat} {F0 : Nat → Int} (h0 : RdRow w v0 n0 F0) (hn0 : n0 ≤ 9223372036854775807) {v1 : Value} {n1 : Nat} {F1 : Nat → Int} (h1 : RdRow w v1 n1 F1) (hn1 : n1 ≤ 9223372036854775807) (TB : Tab w) :
    Calls Tryd.prog 3 #[v0, v1] w fun e w' => e = .returned (.bool true) ∧ Below w.heap.size w w' := by
  obtain ⟨ao0, cap0, ev0⟩ : ∃ ao cap, v0 = .slice ao n0 cap := h0.shape
  subst ev0
  have H0 : Hid (RdRow w (.slice ao0 n0 cap0) n0 F0) := h0
  clear h0
  obtain ⟨ao1, cap1, ev1⟩ : ∃ ao cap, v1 = .slice ao n1 cap := h1.shape
  subst ev1
  have H1 : Hid (RdRow w (.slice ao1 n1 cap1) n1 F1) := h1
  clear h1
  have HTAB : Hid (Tab w) := TB
  clear TB
  go_enter Tryd.func3, Tryd.ntmps3
  by_cases hbig : (1048576 : Int) < n0
  · go_wp2
    go_ret
    exact ⟨rfl, Below.refl _ _⟩
  have hp0 : n0 ≤ 1048576 := by omega
  have hm0 : n0 ≤ 1000000000000 := by omega
  by_cases hbig : (1048576 : Int) < n1
  · go_wp2
    go_ret
    exact ⟨rfl, Below.refl _ _⟩
  have hp1 : n1 ≤ 1048576 := by omega
  have hm1 : n1 ≤ 1000000000000 := by omega
  go_wp2_with fail
  refine (toS_any H0.out hm0).mono ?_
  rintro e w1 ⟨rfl, hmm, hbb, hzz⟩
  have hzy : w.heap.size + 1 ≤ w1.heap.size := by omega
  have C0_1 : Hid (Seg w1 w.heap.size 2 0 n0 (fun i => .int .i64 (F0 i))) := hmm
  clear hzz
  have z1 := hbb.size
  have A1 : Hid (Below w.heap.size w w1) := hbb
  clear hmm hbb
  go_wp2_with fail
  refine (toS_any (H1.out.later A1.out) hm1).mono ?_
  rintro e w2 ⟨rfl, hmm, hbb, hzz⟩
  have hzy : w1.heap.size + 1 ≤ w2.heap.size := by omega
  have C1_2 : Hid (Seg w2 w1.heap.size 2 0 n1 (fun i => .int .i64 (F1 i))) := hmm
  clear hzz
  have z2 := hbb.size
  have A2 : Hid (Below w.heap.size w w2) := A1.out.trans (hbb.mono (by omega))
  have C0_2 : Hid (Seg w2 w.heap.size 2 0 n0 (fun i => .int .i64 (F0 i))) := C0_1.out.of_block ((fun i (hi : i < w1.heap.size) (hl : w.heap.size ≤ i) => hbb.block i (by omega)) w.heap.size (by omega) (Nat.le_refl _))
  clear hmm hbb
  go_wp2_with fail
  refine (sUnf_any C0_2.out C1_2.out hm0 hm1).mono ?_
  rintro e w3 ⟨sv, rfl, hoo, hbb⟩
  generalize hcode : uc n0 n1 F1 = code at *
  have HCODE : Hid (uc n0 n1 F1 = code) := hcode
  have HDIM : Hid (code = 0 → n0 ≤ 1000000) := fun h => uc_dim (hcode.trans h)
  clear hcode
  obtain ⟨sao, sk, scap, esv⟩ : ∃ ao k cap, sv = .slice ao k cap := OutL.shape hoo
  subst esv
  have OS : Hid (OutL w3 code (.slice sao sk scap) n0 (fun i => uv n0 F0 F1 i)) := hoo
  have z3 := hbb.size
  have A3 : Hid (Below w.heap.size w w3) := A2.out.trans (hbb.mono (by omega))
  clear hoo hbb
  go_wp2_with fail
  obtain ⟨w4, hwd⟩ : ∃ W, W = w3.alloc (.cells #[.int .i64 code, .slice sao sk scap] 24) := ⟨_, rfl⟩
  have BS : Hid (V2 w4 w3.heap.size 24 (.int .i64 code) (.slice sao sk scap)) := by rw [hwd]; exact V2.new _ _ _ _
  have hbb : Below w3.heap.size w3 w4 := by rw [hwd]; exact (Below.refl _ _).alloc (Nat.le_refl _) _
  have ys : w3.heap.size + 1 ≤ w4.heap.size := by rw [hwd]; simp
  rw [← hwd]
  clear hwd
  have O4 : Hid (OutL w4 code (.slice sao sk scap) n0 (fun i => uv n0 F0 F1 i)) := OS.out.later hbb
  have z4 := hbb.size
  have A4 : Hid (Below w.heap.size w w4) := A3.out.trans (hbb.mono (by omega))
  clear hbb OS
  have D4 : Hid (Below w4.heap.size w4 w4) := Below.refl _ _
  go_wp2_with fail
  refine (toS_any (H0.out.later A4.out) hm0).mono ?_
  rintro e w5 ⟨rfl, hmm, hbb, hzz⟩
  have hzy : w4.heap.size + 1 ≤ w5.heap.size := by omega
  have X0_5 : Hid (Seg w5 w4.heap.size 2 0 n0 (fun i => .int .i64 (F0 i))) := hmm
  clear hzz
  have z5 := hbb.size
  have A5 : Hid (Below w.heap.size w w5) := A4.out.trans (hbb.mono (by omega))
  have D5 : Hid (Below w4.heap.size w4 w5) := D4.out.trans (hbb.mono (by omega))
  clear hmm hbb
  go_wp2_with fail
  refine (toS_any (H1.out.later A5.out) hm1).mono ?_
  rintro e w6 ⟨rfl, hmm, hbb, hzz⟩
  have hzy : w5.heap.size + 1 ≤ w6.heap.size := by omega
  have X1_6 : Hid (Seg w6 w5.heap.size 2 0 n1 (fun i => .int .i64 (F1 i))) := hmm
  clear hzz
  have z6 := hbb.size
  have A6 : Hid (Below w.heap.size w w6) := A5.out.trans (hbb.mono (by omega))
  have D6 : Hid (Below w4.heap.size w4 w6) := D5.out.trans (hbb.mono (by omega))
  have X0_6 : Hid (Seg w6 w4.heap.size 2 0 n0 (fun i => .int .i64 (F0 i))) := X0_5.out.of_block ((fun i (hi : i < w5.heap.size) (hl : w4.heap.size ≤ i) => hbb.block i (by omega)) w4.heap.size (by omega) (Nat.le_refl _))
  clear hmm hbb
  go_wp2_with fail
  refine (iUnf_any X0_6.out X1_6.out hm0 hm1 (HTAB.out.later A6.out)).mono ?_
  rintro e w7 ⟨gv, rfl, hoo, hbb⟩
  rw [HCODE.out] at hoo ⊢
  have E6 : Hid (Below w6.heap.size w6 w6) := Below.refl _ _
  obtain ⟨gao, gk, gcap, egv⟩ : ∃ ao k cap, gv = .slice ao k cap := OutL.shape hoo.rd
  subst egv
  have OG : Hid (OwnL w6.heap.size w7.heap.size w7 code (.slice gao gk gcap) n0 (fun i => uv n0 F0 F1 i)) := hoo
  have z7 := hbb.size
  have A7 : Hid (Below w.heap.size w w7) := A6.out.trans (hbb.mono (by omega))
  have D7 : Hid (Below w4.heap.size w4 w7) := D6.out.trans (hbb.mono (by omega))
  have E7 : Hid (Below w6.heap.size w6 w7) := E6.out.trans (hbb.mono (by omega))
  clear hoo hbb
  obtain ⟨w8, hwd⟩ : ∃ W, W = w7.alloc (.cells #[.int .i64 code, .slice gao gk gcap] 24) := ⟨_, rfl⟩
  have BG : Hid (V2 w8 w7.heap.size 24 (.int .i64 code) (.slice gao gk gcap)) := by rw [hwd]; exact V2.new _ _ _ _
  have hbb : Below w7.heap.size w7 w8 := by rw [hwd]; exact (Below.refl _ _).alloc (Nat.le_refl _) _
  have yg : w7.heap.size + 1 ≤ w8.heap.size := by rw [hwd]; simp
  have HWD : Hid (w8 = w7.alloc (.cells #[.int .i64 code, .slice gao gk gcap] 24)) := hwd
  clear hwd
  have O8 : Hid (OwnL w6.heap.size w7.heap.size w8 code (.slice gao gk gcap) n0 (fun i => uv n0 F0 F1 i)) := OG.out.keep (Keep.of hbb (Nat.le_refl _))
  have z8 := hbb.size
  have A8 : Hid (Below w.heap.size w w8) := A7.out.trans (hbb.mono (by omega))
  have D8 : Hid (Below w4.heap.size w4 w8) := D7.out.trans (hbb.mono (by omega))
  have E8 : Hid (Below w6.heap.size w6 w8) := E7.out.trans (hbb.mono (by omega))
  clear hbb OG
  have G8 : Hid (Keep w6.heap.size w8.heap.size w8 w8) := Keep.refl _ _ _
  have lS0 : (w7.alloc (.cells #[.int .i64 code, .slice gao gk gcap] 24)).cell? ⟨w3.heap.size, 0, none⟩ = some (.int .i64 code) := by rw [← HWD.out]; exact (BS.out.later D8.out (by omega)).c0
  have lS1 : (w7.alloc (.cells #[.int .i64 code, .slice gao gk gcap] 24)).cell? ⟨w3.heap.size, 1, none⟩ = some (.slice sao sk scap) := by rw [← HWD.out]; exact (BS.out.later D8.out (by omega)).c1
  go_wp2_with fail
  rw [← HWD.out]
  refine (eqL_any O8.out.rd (O4.out.later D8.out) HDIM.out).mono ?_
  rintro e w9 ⟨rfl, hbb⟩
  clear lS0 lS1 HWD
  have z9 := hbb.size
  have A9 : Hid (Below w.heap.size w w9) := A8.out.trans (hbb.mono (by omega))
  have D9 : Hid (Below w4.heap.size w4 w9) := D8.out.trans (hbb.mono (by omega))
  have E9 : Hid (Below w6.heap.size w6 w9) := E8.out.trans (hbb.mono (by omega))
  have G9 : Hid (Keep w6.heap.size w8.heap.size w8 w9) := G8.out.trans (Keep.of hbb (by omega))
  clear hbb
  go_wp2_with fail
  refine (toS_any (H0.out.later A9.out) hm0).mono ?_
  rintro e w10 ⟨rfl, hmm, hbb, hzz⟩
  have hzy : w9.heap.size + 1 ≤ w10.heap.size := by omega
  have Q0_10 : Hid (Seg w10 w9.heap.size 2 0 n0 (fun i => .int .i64 (F0 i))) := hmm
  clear hzz
  have z10 := hbb.size
  have A10 : Hid (Below w.heap.size w w10) := A9.out.trans (hbb.mono (by omega))
  have D10 : Hid (Below w4.heap.size w4 w10) := D9.out.trans (hbb.mono (by omega))
  have E10 : Hid (Below w6.heap.size w6 w10) := E9.out.trans (hbb.mono (by omega))
  have G10 : Hid (Keep w6.heap.size w8.heap.size w8 w10) := G9.out.trans (Keep.of hbb (by omega))
  clear hmm hbb
  have R0 : Hid (RdRow w10 (.slice (some ⟨w4.heap.size, 0, none⟩) n0 n0) n0 F0) := Seg.rd (X0_6.out.of_block (E10.out.block _ (by omega)))
  go_wp2_with fail
  refine (eqS_any R0.out Q0_10.out.rd hm0).mono ?_
  rintro e w0' ⟨rfl, q, hwd⟩
  obtain ⟨w11, hwe⟩ : ∃ W, W = w0' := ⟨_, rfl⟩
  subst hwe
  have hbb : Below w10.heap.size w10 w11 := by rw [hwd]; exact below_drewN (Below.refl _ _) q
  clear hwd Q0_10 R0
  have z11 := hbb.size
  have A11 : Hid (Below w.heap.size w w11) := A10.out.trans (hbb.mono (by omega))
  have D11 : Hid (Below w4.heap.size w4 w11) := D10.out.trans (hbb.mono (by omega))
  have E11 : Hid (Below w6.heap.size w6 w11) := E10.out.trans (hbb.mono (by omega))
  have G11 : Hid (Keep w6.heap.size w8.heap.size w8 w11) := G10.out.trans (Keep.of hbb (by omega))
  clear hbb
  go_wp2_with fail
  refine (toS_any (H1.out.later A11.out) hm1).mono ?_
  rintro e w12 ⟨rfl, hmm, hbb, hzz⟩
  have hzy : w11.heap.size + 1 ≤ w12.heap.size := by omega
  have Q1_12 : Hid (Seg w12 w11.heap.size 2 0 n1 (fun i => .int .i64 (F1 i))) := hmm
  clear hzz
  have z12 := hbb.size
  have A12 : Hid (Below w.heap.size w w12) := A11.out.trans (hbb.mono (by omega))
  have D12 : Hid (Below w4.heap.size w4 w12) := D11.out.trans (hbb.mono (by omega))
  have E12 : Hid (Below w6.heap.size w6 w12) := E11.out.trans (hbb.mono (by omega))
  have G12 : Hid (Keep w6.heap.size w8.heap.size w8 w12) := G11.out.trans (Keep.of hbb (by omega))
  clear hmm hbb
  have R1 : Hid (RdRow w12 (.slice (some ⟨w5.heap.size, 0, none⟩) n1 n1) n1 F1) := Seg.rd (X1_6.out.of_block (E12.out.block _ (by omega)))
  go_wp2_with fail
  refine (eqS_any R1.out Q1_12.out.rd hm1).mono ?_
  rintro e w0' ⟨rfl, q, hwd⟩
  obtain ⟨w13, hwe⟩ : ∃ W, W = w0' := ⟨_, rfl⟩
  subst hwe
  have hbb : Below w12.heap.size w12 w13 := by rw [hwd]; exact below_drewN (Below.refl _ _) q
  clear hwd Q1_12 R1
  have z13 := hbb.size
  have A13 : Hid (Below w.heap.size w w13) := A12.out.trans (hbb.mono (by omega))
  have D13 : Hid (Below w4.heap.size w4 w13) := D12.out.trans (hbb.mono (by omega))
  have E13 : Hid (Below w6.heap.size w6 w13) := E12.out.trans (hbb.mono (by omega))
  have G13 : Hid (Keep w6.heap.size w8.heap.size w8 w13) := G12.out.trans (Keep.of hbb (by omega))
  clear hbb
  obtain ⟨k0, hk0⟩ : ∃ k0 : Int, k0 = 1 := ⟨_, rfl⟩
  have hk0a : 0 ≤ k0 := by omega
  have hk0b : k0 ≤ 1 := by omega
  have X0_13 : Hid (Seg w13 w4.heap.size 2 0 n0 (fun i => .int .i64 (F0 i))) := X0_6.out.of_block ((fun i (hi : i < w5.heap.size) (hl : w4.heap.size ≤ i) => E13.out.block i (by omega)) w4.heap.size (by omega) (Nat.le_refl _))
  go_wp2_with fail
  refine (markS_some _ _ _ _ _ 1 _ (by omega) (by omega) X0_13.out).mono ?_
  rintro e w14 ⟨rfl, _, hbb0, _⟩
  have hbb : Within w4.heap.size w5.heap.size w13 w14 := hbb0.mono (Nat.le_refl _) (by omega)
  clear hbb0
  have WI0 : Hid (∀ i, w5.heap.size ≤ i → i < w13.heap.size → w14.heap[i]? = w13.heap[i]?) := hbb.above
  have z14 := hbb.below.size
  have A14 : Hid (Below w.heap.size w w14) := A13.out.trans (hbb.below.mono (by omega))
  have D14 : Hid (Below w4.heap.size w4 w14) := D13.out.trans (hbb.below.mono (by omega))
  have G14 : Hid (Keep w6.heap.size w8.heap.size w8 w14) := G13.out.trans (Keep.over hbb (by omega) (by omega))
  clear hbb
  obtain ⟨k1, hk1⟩ : ∃ k1 : Int, k1 = 1 + (n0 : Nat) := ⟨_, rfl⟩
  rw [← hk1]
  have hk1a : 0 ≤ k1 := by omega
  have hk1b : k1 ≤ 2097154 := by omega
  clear hk1
  have X1_14 : Hid (Seg w14 w5.heap.size 2 0 n1 (fun i => .int .i64 (F1 i))) := X1_6.out.of_block ((fun i (hi : i < w6.heap.size) (hl : w5.heap.size ≤ i) => (WI0.out i (by omega) (by omega)).trans (E13.out.block i (by omega))) w5.heap.size (by omega) (Nat.le_refl _))
  go_wp2_with fail
  refine (markS_some _ _ _ _ _ k1 _ (by omega) (by omega) X1_14.out).mono ?_
  rintro e w15 ⟨rfl, _, hbb0, _⟩
  have hbb : Within w5.heap.size w6.heap.size w14 w15 := hbb0.mono (Nat.le_refl _) (by omega)
  clear hbb0
  have WI1 : Hid (∀ i, w6.heap.size ≤ i → i < w14.heap.size → w15.heap[i]? = w14.heap[i]?) := hbb.above
  have z15 := hbb.below.size
  have A15 : Hid (Below w.heap.size w w15) := A14.out.trans (hbb.below.mono (by omega))
  have D15 : Hid (Below w4.heap.size w4 w15) := D14.out.trans (hbb.below.mono (by omega))
  have G15 : Hid (Keep w6.heap.size w8.heap.size w8 w15) := G14.out.trans (Keep.over hbb (by omega) (by omega))
  clear hbb
  obtain ⟨k2, hk2⟩ : ∃ k2 : Int, k2 = k1 + (n1 : Nat) := ⟨_, rfl⟩
  rw [← hk2]
  have hk2a : 0 ≤ k2 := by omega
  have hk2b : k2 ≤ 3145731 := by omega
  clear hk2
  clear hk0
  have hkd : decide (k2 < 0) = false := by rw [decide_eq_false_iff_not]; omega
  have O15 : Hid (OwnL w6.heap.size w7.heap.size w15 code (.slice gao gk gcap) n0 (fun i => uv n0 F0 F1 i)) := O8.out.keep fun i h1 h2 => G15.out i h1 (by omega)
  have lS0 : w15.cell? ⟨w3.heap.size, 0, none⟩ = some (.int .i64 code) := (BS.out.later D15.out (by omega)).c0
  have lS1 : w15.cell? ⟨w3.heap.size, 1, none⟩ = some (.slice sao sk scap) := (BS.out.later D15.out (by omega)).c1
  have lG0 : w15.cell? ⟨w7.heap.size, 0, none⟩ = some (.int .i64 code) := (BG.out.keep G15.out (by omega) (by omega)).c0
  have lG1 : w15.cell? ⟨w7.heap.size, 1, none⟩ = some (.slice gao gk gcap) := (BG.out.keep G15.out (by omega) (by omega)).c1
  go_wp2_with fail
  refine (eqL_any O15.out.rd (O4.out.later D15.out) HDIM.out).mono ?_
  rintro e w16 ⟨rfl, hbb⟩
  clear lS0 lS1 lG0 lG1
  have z16 := hbb.size
  have A16 : Hid (Below w.heap.size w w16) := A15.out.trans (hbb.mono (by omega))
  have D16 : Hid (Below w4.heap.size w4 w16) := D15.out.trans (hbb.mono (by omega))
  have G16 : Hid (Keep w6.heap.size w8.heap.size w8 w16) := G15.out.trans (Keep.of hbb (by omega))
  have O16 : Hid (OwnL w6.heap.size w7.heap.size w16 code (.slice gao gk gcap) n0 (fun i => uv n0 F0 F1 i)) := O8.out.keep fun i h1 h2 => G16.out i h1 (by omega)
  clear hbb O15
  have lG0 : w16.cell? ⟨w7.heap.size, 0, none⟩ = some (.int .i64 code) := (BG.out.keep G16.out (by omega) (by omega)).c0
  have lG1 : w16.cell? ⟨w7.heap.size, 1, none⟩ = some (.slice gao gk gcap) := (BG.out.keep G16.out (by omega) (by omega)).c1
  go_wp2_with fail
  refine (markL_any O16.out HDIM.out (by omega) (by omega)).mono ?_
  rintro e w17 ⟨r, rfl, hmk, hbb⟩
  have MK : Hid (MkdL w6.heap.size w7.heap.size w17 code (.slice gao gk gcap) n0 r) := hmk
  have hr17 := hmk.pos
  have hr17a : decide (r < 0) = false := by rw [decide_eq_false_iff_not]; omega
  clear hmk lG0 lG1 O16 O8
  have T17 : Hid (Keep w7.heap.size w8.heap.size w8 w17) := fun i h1 h2 => (hbb.above i h1 (by omega)).trans (G16.out i (by omega) h2)
  have z17 := hbb.below.size
  have A17 : Hid (Below w.heap.size w w17) := A16.out.trans (hbb.below.mono (by omega))
  have D17 : Hid (Below w4.heap.size w4 w17) := D16.out.trans (hbb.below.mono (by omega))
  clear hbb
  have U17 : Hid (Keep w6.heap.size w7.heap.size w17 w17) := Keep.refl _ _ _
  have lG0 : w17.cell? ⟨w7.heap.size, 0, none⟩ = some (.int .i64 code) := (BG.out.keep T17.out (by omega) (by omega)).c0
  have lG1 : w17.cell? ⟨w7.heap.size, 1, none⟩ = some (.slice gao gk gcap) := (BG.out.keep T17.out (by omega) (by omega)).c1
  go_wp2_with fail
  refine (heldL_any MK.out HDIM.out (by omega)).mono ?_
  rintro e w18 ⟨rfl, hbb⟩
  clear lG0 lG1
  have z18 := hbb.size
  have A18 : Hid (Below w.heap.size w w18) := A17.out.trans (hbb.mono (by omega))
  have D18 : Hid (Below w4.heap.size w4 w18) := D17.out.trans (hbb.mono (by omega))
  have T18 : Hid (Keep w7.heap.size w8.heap.size w8 w18) := T17.out.trans (Keep.of hbb (by omega))
  have U18 : Hid (Keep w6.heap.size w7.heap.size w17 w18) := U17.out.trans (Keep.of hbb (by omega))
  clear hbb
  go_wp2_with fail
  refine (toS_any (H0.out.later A18.out) hm0).mono ?_
  rintro e w19 ⟨rfl, hmm, hbb, hzz⟩
  have hzy : w18.heap.size + 1 ≤ w19.heap.size := by omega
  have Z0_19 : Hid (Seg w19 w18.heap.size 2 0 n0 (fun i => .int .i64 (F0 i))) := hmm
  clear hzz
  have z19 := hbb.size
  have A19 : Hid (Below w.heap.size w w19) := A18.out.trans (hbb.mono (by omega))
  have D19 : Hid (Below w4.heap.size w4 w19) := D18.out.trans (hbb.mono (by omega))
  have T19 : Hid (Keep w7.heap.size w8.heap.size w8 w19) := T18.out.trans (Keep.of hbb (by omega))
  have U19 : Hid (Keep w6.heap.size w7.heap.size w17 w19) := U18.out.trans (Keep.of hbb (by omega))
  clear hmm hbb
  go_wp2_with fail
  refine (toS_any (H1.out.later A19.out) hm1).mono ?_
  rintro e w20 ⟨rfl, hmm, hbb, hzz⟩
  have hzy : w19.heap.size + 1 ≤ w20.heap.size := by omega
  have Z1_20 : Hid (Seg w20 w19.heap.size 2 0 n1 (fun i => .int .i64 (F1 i))) := hmm
  clear hzz
  have z20 := hbb.size
  have A20 : Hid (Below w.heap.size w w20) := A19.out.trans (hbb.mono (by omega))
  have D20 : Hid (Below w4.heap.size w4 w20) := D19.out.trans (hbb.mono (by omega))
  have T20 : Hid (Keep w7.heap.size w8.heap.size w8 w20) := T19.out.trans (Keep.of hbb (by omega))
  have U20 : Hid (Keep w6.heap.size w7.heap.size w17 w20) := U19.out.trans (Keep.of hbb (by omega))
  have Z0_20 : Hid (Seg w20 w18.heap.size 2 0 n0 (fun i => .int .i64 (F0 i))) := Z0_19.out.of_block ((fun i (hi : i < w19.heap.size) (hl : w18.heap.size ≤ i) => hbb.block i (by omega)) w18.heap.size (by omega) (Nat.le_refl _))
  clear hmm hbb
  go_wp2_with fail
  refine (iUnf_any Z0_20.out Z1_20.out hm0 hm1 (HTAB.out.later A20.out)).mono ?_
  rintro e w21 ⟨hv, rfl, hoo, hbb⟩
  rw [HCODE.out] at hoo ⊢
  obtain ⟨hao, hk, hcap, ehv⟩ : ∃ ao k cap, hv = .slice ao k cap := OutL.shape hoo.rd
  subst ehv
  have OH : Hid (OutL w21 code (.slice hao hk hcap) n0 (fun i => uv n0 F0 F1 i)) := hoo.rd
  have z21 := hbb.size
  have A21 : Hid (Below w.heap.size w w21) := A20.out.trans (hbb.mono (by omega))
  have D21 : Hid (Below w4.heap.size w4 w21) := D20.out.trans (hbb.mono (by omega))
  have T21 : Hid (Keep w7.heap.size w8.heap.size w8 w21) := T20.out.trans (Keep.of hbb (by omega))
  have U21 : Hid (Keep w6.heap.size w7.heap.size w17 w21) := U20.out.trans (Keep.of hbb (by omega))
  clear hoo hbb
  obtain ⟨w22, hwd⟩ : ∃ W, W = w21.alloc (.cells #[.int .i64 code, .slice hao hk hcap] 24) := ⟨_, rfl⟩
  have hbb : Below w21.heap.size w21 w22 := by rw [hwd]; exact (Below.refl _ _).alloc (Nat.le_refl _) _
  have HWD : Hid (w22 = w21.alloc (.cells #[.int .i64 code, .slice hao hk hcap] 24)) := hwd
  clear hwd
  have OH2 : Hid (OutL w22 code (.slice hao hk hcap) n0 (fun i => uv n0 F0 F1 i)) := OH.out.later hbb
  have z22 := hbb.size
  have A22 : Hid (Below w.heap.size w w22) := A21.out.trans (hbb.mono (by omega))
  have D22 : Hid (Below w4.heap.size w4 w22) := D21.out.trans (hbb.mono (by omega))
  have T22 : Hid (Keep w7.heap.size w8.heap.size w8 w22) := T21.out.trans (Keep.of hbb (by omega))
  have U22 : Hid (Keep w6.heap.size w7.heap.size w17 w22) := U21.out.trans (Keep.of hbb (by omega))
  clear hbb OH
  have lS0 : (w21.alloc (.cells #[.int .i64 code, .slice hao hk hcap] 24)).cell? ⟨w3.heap.size, 0, none⟩ = some (.int .i64 code) := by rw [← HWD.out]; exact (BS.out.later D22.out (by omega)).c0
  have lS1 : (w21.alloc (.cells #[.int .i64 code, .slice hao hk hcap] 24)).cell? ⟨w3.heap.size, 1, none⟩ = some (.slice sao sk scap) := by rw [← HWD.out]; exact (BS.out.later D22.out (by omega)).c1
  go_wp2_with fail
  rw [← HWD.out]
  refine (eqL_any OH2.out (O4.out.later D22.out) HDIM.out).mono ?_
  rintro e w23 ⟨rfl, hbb⟩
  clear lS0 lS1
  have z23 := hbb.size
  have A23 : Hid (Below w.heap.size w w23) := A22.out.trans (hbb.mono (by omega))
  have D23 : Hid (Below w4.heap.size w4 w23) := D22.out.trans (hbb.mono (by omega))
  have T23 : Hid (Keep w7.heap.size w8.heap.size w8 w23) := T22.out.trans (Keep.of hbb (by omega))
  have U23 : Hid (Keep w6.heap.size w7.heap.size w17 w23) := U22.out.trans (Keep.of hbb (by omega))
  clear hbb
  have MK2 : Hid (MkdL w6.heap.size w7.heap.size w23 code (.slice gao gk gcap) n0 r) := MK.out.keep U23.out
  have lG0 : w23.cell? ⟨w7.heap.size, 0, none⟩ = some (.int .i64 code) := (BG.out.keep T23.out (by omega) (by omega)).c0
  have lG1 : w23.cell? ⟨w7.heap.size, 1, none⟩ = some (.slice gao gk gcap) := (BG.out.keep T23.out (by omega) (by omega)).c1
  go_wp2_with fail
  refine (heldL_any MK2.out HDIM.out (by omega)).mono ?_
  rintro e w24 ⟨rfl, hbb⟩
  have hend : Hid (Below w.heap.size w w24) := A23.out.trans (hbb.mono (by omega))
  clear lG0 lG1 hbb
  go_wp2
  go_ret
  exact ⟨rfl, hend.out⟩

set_option maxRecDepth 100000 in
theorem lifted (os : Os) (started : os.Started) (H : Type) (enc : TypeId × Value → H) :
    ReturnsInHanded {} Tryd.checked os 3 .any (fun w args => (Rows.fnExactUnfoldWaveSpec.pre enc Tryd.prog Tryd.f3 [] false w args ∧ laidMetH Tryd.prog laid2 w) ∧ sizedMet enc Tryd.prog Tryd.f3 (OpenSpec.ofChange Rows.fnExactUnfoldWaveSpec) false w args)
      (Rows.fnExactUnfoldWaveSpec.post enc Tryd.prog Tryd.f3 false true false false) := by
  refine returnsInHanded_of_change_and (C := Tryd.checked) (X := fun w _ => laidMetH Tryd.prog laid2 w) (fun _ _ _ hh h => h.of_heap hh) own started (by kernel_rfl) Tryd.func3
    (ChangeSpec.witness_shaped (enc := enc) (C := Tryd.checked) (os := os) (X := fun w _ => laidMetH Tryd.prog laid2 w) false (World.doorLaid Tryd.prog 400 os) #[.slice none 0 0, .slice none 0 0] 8 rfl (World.shaped_of_RefB (by kernel_rfl) (by kernel_rfl)) (by kernel_rfl) (by kernel_rfl) (by kernel_rfl) (door_met os _)) ?_
  intro W base args ds gs before hval0 hW _ _ hL _
  have hval : ∀ (j : Nat) t v, Tryd.f3.params[j]? = some t → args[j]? = some v → Value.okWide Tryd.prog W .any base t v := hval0
  have hW' := hW
  obtain ⟨p, q, hA0, hV, rfl, hfz, hnd⟩ := hW
  have hA : DataW.TrodAll enc Tryd.prog W 0 (fun _ => true) true Tryd.f3.params.toList args.toList ds p := hA0
  rw [Tryd.params3] at hA hval
  obtain ⟨v0, vs0, d0, ds0, p0, q0, hargs0, rfl, rfl, h0, r0⟩ := trodAll_cons hA
  obtain ⟨v1, vs1, d1, ds1, p1, q1, hargs1, rfl, rfl, h1, r1⟩ := trodAll_cons r0
  obtain ⟨rfl, rfl, rfl⟩ := trodAll_nil r1
  obtain rfl : args = #[v0, v1] := by cases args; simp_all
  obtain ⟨rfl, rfl⟩ := trodVars_none hV
  have k0 := h0
  have lt0 : ∀ x ∈ p0, x.block < W.heap.size := by obtain ⟨m, hm⟩ := k0; exact DataW.trod_lt m _ _ _ hm
  have k1 := h1
  have lt1 : ∀ x ∈ p1, x.block < W.heap.size := by obtain ⟨m, hm⟩ := k1; exact DataW.trod_lt m _ _ _ hm
  obtain ⟨n0, F0, R0, nb0⟩ := open_row (hval 0 22 v0 rfl rfl) h0
  obtain ⟨n1, F1, R1, nb1⟩ := open_row (hval 1 22 v1 rfl rfl) h1
  clear hA0 hval0
  refine (walk R0 nb0 R1 nb1 (tab_of hL)).mono fun e W' ⟨he, bel⟩ => ?_
  subst he
  exact ⟨_, rfl, _, _, _, [], _, [], hW', trodAll_mk1 (shut_bool Tryd.underlying4 _), (trodAll_cons_mk (Below.trod laidOut (by kernel_rfl) (of_decide_eq_true (by kernel_rfl)) k0 bel lt0) (trodAll_cons_mk (Below.trod laidOut (by kernel_rfl) (of_decide_eq_true (by kernel_rfl)) k1 bel lt1) trodAll_mk0)), rfl, bel.frame _, fun h => by cases h⟩

theorem said : Rows.FnExactUnfoldWaveSaid :=
  OpenClaim.holds_of_wide 3 Tryd.f3 rfl rfl rfl rfl rfl rfl rfl ⟨rfl, rfl, rfl, rfl, rfl⟩ rfl rfl rfl rfl rfl (by kernel_rfl) Tryd.func3 (by kernel_rfl)
    (of_decide_eq_true (by kernel_rfl)) (by unfold Func.isWrapper; first | (rw [if_pos (by decide +kernel)]; kernel_rfl) | (rw [if_neg (by decide +kernel)]; exact ⟨rfl, rfl⟩))
    (fun os started H enc _ => lifted os started H enc)
end Go.Proofs.YtpkbpikdffbadaaDoor.LawUnfoldWave
namespace Go.Proofs.YtpkbpikdffbadaaDoor
open Go.ChangeShapes Go.WideShapes Go.ChangeAt Go.RowKit Go.Joins
theorem unfoldWave_holds : Rows.FnExactUnfoldWaveCardSaid :=
  Claim7.holds_tied_plain_at .later [] [.data, .data] true (true, "fc71163cbf786fead92d9e07a0e3733e8b2de9f5011c35e8054452b289f6aee5") false
    LawUnfoldWave.said (fun _ h => by cases h) (by kernel_rfl) (fun _ h => by cases h) fnExactUnfoldWave_row_tie rfl ⟨rfl, rfl⟩ (by kernel_rfl) rfl
    (fun f fn hf hfn => by
      obtain rfl : f = 3 := Option.some.inj ((show Tryd.prog.funcNamed "loop.example/g00049/laws.FnExactUnfoldWave" = some 3 by kernel_rfl).symm.trans hf) |>.symm
      obtain rfl : fn = Tryd.f3 := (Option.some.inj (Tryd.func3.symm.trans hfn)).symm
      exact ⟨by kernel_rfl, fun j t ht => by
        rw [Tryd.params3] at ht
        have hm : t ∈ [22, 22] := by simpa using Array.mem_of_getElem? ht
        have hall : ([22, 22].all fun u => !Tryd.prog.wantsStandIn u) = true := by kernel_rfl
        exact (show Tryd.prog.wantsStandIn t = false by simpa using List.all_eq_true.1 hall t hm)⟩)
    (by kernel_rfl)
#print axioms unfoldWave_holds
end Go.Proofs.YtpkbpikdffbadaaDoor
