/- At every two lists of rows the program's MulRows answers as the specification, code and rows, where the law's own bound on the sizes does not answer first; what it answers owns its memory; nothing that was there is changed. -/
import Derived.Test.YtbagaicbochmnaaArg
import Derived.Test.YtbagaicbochmnaaProd
import Derived.Test.YtbagaicbochmnaaAux
import Derived.Handy
namespace Go.Proofs.Ytbagaicbochmnaa.LawMulRows
open Go.ChangeShapes Go.WideShapes Go.ChangeAt Go.RowKit Go.Joins
set_option linter.unusedVariables false

set_option maxHeartbeats 4000000 in
set_option maxRecDepth 10000 in
theorem walk {w : World} {v0 : Value} {n0 : Nat} {L0 : Nat → Nat} {F0 : Rm.Mx} (h0 : RdMat w v0 n0 L0 F0) (hn0 : n0 ≤ 9223372036854775807) (hL0 : ∀ i, i < n0 → L0 i ≤ 9223372036854775807)
    {v1 : Value} {n1 : Nat} {L1 : Nat → Nat} {F1 : Rm.Mx} (h1 : RdMat w v1 n1 L1 F1) (hn1 : n1 ≤ 9223372036854775807) (hL1 : ∀ i, i < n1 → L1 i ≤ 9223372036854775807) :
    Calls Try.prog 4 #[v0, v1] w fun e w' => e = .returned (.bool true) ∧ Below w.heap.size w w' := by
  have H0 : Hid (RdMat w v0 n0 L0 F0) := h0
  have HL0 : Hid (∀ i, i < n0 → L0 i ≤ 9223372036854775807) := hL0
  have H1 : Hid (RdMat w v1 n1 L1 F1) := h1
  have HL1 : Hid (∀ i, i < n1 → L1 i ≤ 9223372036854775807) := hL1
  clear h0 hL0 h1 hL1
  go_enter Try.func4, Try.ntmps4
  go_wp2_with fail
  refine (szSS_any H0.out 1048576 (by omega) (by omega) hn0 HL0.out).mono ?_
  rintro e w1 ⟨r0, rfl, rfl, ht⟩
  have HT0 : Hid (Told n0 L0 1048576 r0) := ht
  clear ht
  by_cases hr0 : r0 < 0
  · go_wp2
    go_ret
    exact ⟨rfl, Below.refl _ _⟩
  have hs0 := told_no HT0.out hr0
  have HS0 : Hid (∀ i, i < n0 → L0 i ≤ 1000000000000) := fun i hi => by have := le_Sm (L := L0) hi; omega
  have hm0 : n0 ≤ 1000000000000 := by omega
  have hq0 : Sm L0 n0 ≤ 1048576 := by omega
  have hp0 : n0 ≤ 1048576 := by omega
  clear HT0 HL0
  go_wp2_with fail
  refine (szSS_any H1.out r0 (by omega) (by omega) hn1 HL1.out).mono ?_
  rintro e w1 ⟨r1, rfl, rfl, ht⟩
  have HT1 : Hid (Told n1 L1 r0 r1) := ht
  clear ht
  by_cases hr1 : r1 < 0
  · go_wp2
    go_ret
    exact ⟨rfl, Below.refl _ _⟩
  have hs1 := told_no HT1.out hr1
  have HS1 : Hid (∀ i, i < n1 → L1 i ≤ 1000000000000) := fun i hi => by have := le_Sm (L := L1) hi; omega
  have hm1 : n1 ≤ 1000000000000 := by omega
  have hq1 : Sm L1 n1 ≤ 1048576 := by omega
  have hp1 : n1 ≤ 1048576 := by omega
  clear HT1 HL1
  clear hs0 hs1
  go_wp2_with fail
  refine (toSS_any H0.out hm0 HS0.out).mono ?_
  rintro e w1 ⟨rfl, hmm, hbb⟩
  have C0 : Hid (Mat w.heap.size w1.heap.size w1 (newLie w.heap.size n0 L0) n0 L0 F0) := hmm
  have z1 := hbb.size
  have A1 : Hid (Below w.heap.size w w1) := hbb
  clear hmm hbb
  go_wp2_with fail
  refine (toSS_any (H1.out.later A1.out) hm1 HS1.out).mono ?_
  rintro e w2 ⟨rfl, hmm, hbb⟩
  have C1 : Hid (Mat w1.heap.size w2.heap.size w2 (newLie w1.heap.size n1 L1) n1 L1 F1) := hmm
  have z2 := hbb.size
  have A2 : Hid (Below w.heap.size w w2) := A1.out.trans (hbb.mono (by omega))
  have P0 : Hid (Mat 0 w2.heap.size w2 (newLie w.heap.size n0 L0) n0 L0 F0) := mat_all (C0.out.keep fun i _ hi => hbb.block i hi) (by omega)
  have P1 : Hid (Mat 0 w2.heap.size w2 (newLie w1.heap.size n1 L1) n1 L1 F1) := mat_all C1.out (Nat.le_refl _)
  clear hmm hbb
  go_wp2_with fail
  refine (sMulRows_any P0.out P1.out hm0 hm1 HS0.out HS1.out).mono ?_
  rintro e w3 ⟨sv, rfl, hoo, hbb⟩
  generalize hcode : mulCode n0 L0 n1 L1 = code at *
  clear P0 P1
  have HCODE : Hid (mulCode n0 L0 n1 L1 = code) := hcode
  have HDIM : Hid (code = 0 → n0 ≤ 1000) := fun h => mulCode_dim (hcode.trans h)
  clear hcode C0 C1
  obtain ⟨sao, sk, scap, esv⟩ : ∃ ao k cap, sv = .slice ao k cap := OutR.shape hoo
  subst esv
  have O3 : Hid (OutR w3 code (.slice sao sk scap) n0 (fun i j => Rm.dot F0 F1 i j n0)) := hoo
  have z3 := hbb.size
  have A3 : Hid (Below w.heap.size w w3) := A2.out.trans (hbb.mono (by omega))
  clear hoo hbb
  go_wp2_with fail
  obtain ⟨w4, hwd⟩ : ∃ W, W = w3.alloc (.cells #[.int .i64 code, .slice sao sk scap] 29) := ⟨_, rfl⟩
  have BS : Hid (V2 w4 w3.heap.size 29 (.int .i64 code) (.slice sao sk scap)) := by rw [hwd]; exact V2.new _ _ _ _
  have hbb : Below w3.heap.size w3 w4 := by rw [hwd]; exact (Below.refl _ _).alloc (Nat.le_refl _) _
  have y4 : w3.heap.size + 1 ≤ w4.heap.size := by rw [hwd]; simp
  rw [← hwd]
  clear hwd
  have O4 : Hid (OutR w4 code (.slice sao sk scap) n0 (fun i j => Rm.dot F0 F1 i j n0)) := O3.out.later hbb
  have z4 := hbb.size
  have A4 : Hid (Below w.heap.size w w4) := A3.out.trans (hbb.mono (by omega))
  clear hbb O3
  have D4 : Hid (Below w4.heap.size w4 w4) := Below.refl _ _
  go_wp2_with fail
  refine (toSS_any (H0.out.later A4.out) hm0 HS0.out).mono ?_
  rintro e w5 ⟨rfl, hmm, hbb⟩
  have X0 : Hid (Mat w4.heap.size w5.heap.size w5 (newLie w4.heap.size n0 L0) n0 L0 F0) := hmm
  have z5 := hbb.size
  have A5 : Hid (Below w.heap.size w w5) := A4.out.trans (hbb.mono (by omega))
  have D5 : Hid (Below w4.heap.size w4 w5) := D4.out.trans (hbb.mono (by omega))
  clear hmm hbb
  go_wp2_with fail
  refine (toSS_any (H1.out.later A5.out) hm1 HS1.out).mono ?_
  rintro e w6 ⟨rfl, hmm, hbb⟩
  have X1 : Hid (Mat w5.heap.size w6.heap.size w6 (newLie w5.heap.size n1 L1) n1 L1 F1) := hmm
  have z6 := hbb.size
  have A6 : Hid (Below w.heap.size w w6) := A5.out.trans (hbb.mono (by omega))
  have D6 : Hid (Below w4.heap.size w4 w6) := D5.out.trans (hbb.mono (by omega))
  have X0' : Hid (Mat w4.heap.size w5.heap.size w6 (newLie w4.heap.size n0 L0) n0 L0 F0) := X0.out.keep fun i _ hi => hbb.block i hi
  have P0 : Hid (Mat 0 w6.heap.size w6 (newLie w4.heap.size n0 L0) n0 L0 F0) := mat_all (X0.out.keep fun i _ hi => hbb.block i hi) (by omega)
  have P1 : Hid (Mat 0 w6.heap.size w6 (newLie w5.heap.size n1 L1) n1 L1 F1) := mat_all X1.out (Nat.le_refl _)
  clear hmm hbb
  go_wp2_with fail
  refine (iMulRows_any P0.out P1.out hm0 hm1 HS0.out HS1.out).mono ?_
  rintro e w7 ⟨gv, rfl, hoo, hbb⟩
  rw [HCODE.out] at hoo ⊢
  clear P0 P1
  obtain ⟨gao, gk, gcap, egv⟩ : ∃ ao k cap, gv = .slice ao k cap := OutR.shape hoo.rd
  subst egv
  have O7 : Hid (OwnR w6.heap.size w7.heap.size w7 code (.slice gao gk gcap) n0 (fun i j => Rm.dot F0 F1 i j n0)) := hoo
  have E6 : Hid (Below w6.heap.size w6 w6) := Below.refl _ _
  have z7 := hbb.size
  have A7 : Hid (Below w.heap.size w w7) := A6.out.trans (hbb.mono (by omega))
  have D7 : Hid (Below w4.heap.size w4 w7) := D6.out.trans (hbb.mono (by omega))
  have E7 : Hid (Below w6.heap.size w6 w7) := E6.out.trans (hbb.mono (by omega))
  clear hoo hbb X0
  obtain ⟨w8, hwd⟩ : ∃ W, W = w7.alloc (.cells #[.int .i64 code, .slice gao gk gcap] 29) := ⟨_, rfl⟩
  have BG : Hid (V2 w8 w7.heap.size 29 (.int .i64 code) (.slice gao gk gcap)) := by rw [hwd]; exact V2.new _ _ _ _
  have hbb : Below w7.heap.size w7 w8 := by rw [hwd]; exact (Below.refl _ _).alloc (Nat.le_refl _) _
  have y8 : w7.heap.size + 1 ≤ w8.heap.size := by rw [hwd]; simp
  have HWD : Hid (w8 = w7.alloc (.cells #[.int .i64 code, .slice gao gk gcap] 29)) := hwd
  clear hwd
  have O8 : Hid (OwnR w6.heap.size w7.heap.size w8 code (.slice gao gk gcap) n0 (fun i j => Rm.dot F0 F1 i j n0)) := O7.out.keep (Keep.of hbb (Nat.le_refl _))
  have z8 := hbb.size
  have A8 : Hid (Below w.heap.size w w8) := A7.out.trans (hbb.mono (by omega))
  have D8 : Hid (Below w4.heap.size w4 w8) := D7.out.trans (hbb.mono (by omega))
  have E8 : Hid (Below w6.heap.size w6 w8) := E7.out.trans (hbb.mono (by omega))
  clear hbb O7
  have G8 : Hid (Keep w6.heap.size w8.heap.size w8 w8) := Keep.refl _ _ _
  have lS0 : (w7.alloc (.cells #[.int .i64 code, .slice gao gk gcap] 29)).cell? ⟨w3.heap.size, 0, none⟩ = some (.int .i64 code) := by rw [← HWD.out]; exact (BS.out.later D8.out (by omega)).c0
  have lS1 : (w7.alloc (.cells #[.int .i64 code, .slice gao gk gcap] 29)).cell? ⟨w3.heap.size, 1, none⟩ = some (.slice sao sk scap) := by rw [← HWD.out]; exact (BS.out.later D8.out (by omega)).c1
  go_wp2_with fail
  rw [← HWD.out]
  refine (eqR_any O8.out.rd (O4.out.later D8.out) HDIM.out).mono ?_
  rintro e w9 ⟨rfl, hbb⟩
  clear lS0 lS1 HWD
  have z9 := hbb.size
  have A9 : Hid (Below w.heap.size w w9) := A8.out.trans (hbb.mono (by omega))
  have D9 : Hid (Below w4.heap.size w4 w9) := D8.out.trans (hbb.mono (by omega))
  have E9 : Hid (Below w6.heap.size w6 w9) := E8.out.trans (hbb.mono (by omega))
  have G9 : Hid (Keep w6.heap.size w8.heap.size w8 w9) := G8.out.trans (Keep.of hbb (by omega))
  clear hbb
  go_wp2_with fail
  refine (toSS_any (H0.out.later A9.out) hm0 HS0.out).mono ?_
  rintro e w10 ⟨rfl, hmm, hbb⟩
  have Q0 : Hid (Mat w9.heap.size w10.heap.size w10 (newLie w9.heap.size n0 L0) n0 L0 F0) := hmm
  have z10 := hbb.size
  have A10 : Hid (Below w.heap.size w w10) := A9.out.trans (hbb.mono (by omega))
  have D10 : Hid (Below w4.heap.size w4 w10) := D9.out.trans (hbb.mono (by omega))
  have E10 : Hid (Below w6.heap.size w6 w10) := E9.out.trans (hbb.mono (by omega))
  have G10 : Hid (Keep w6.heap.size w8.heap.size w8 w10) := G9.out.trans (Keep.of hbb (by omega))
  have R0 : Hid (RdMat w10 (.slice (some ⟨w4.heap.size, 0, none⟩) n0 n0) n0 L0 F0) := ((X0'.out.keep fun i _ hi => E10.out.block i (by omega)) : Mat w4.heap.size w5.heap.size w10 (newLie w4.heap.size n0 L0) n0 L0 F0).rd
  clear hmm hbb
  go_wp2_with fail
  refine (eqSS_any R0.out Q0.out.rd hm0 HS0.out).mono ?_
  rintro e w0' ⟨rfl, q, hwd⟩
  obtain ⟨w11, hwe⟩ : ∃ W, W = w0' := ⟨_, rfl⟩
  subst hwe
  have hbb : Below w10.heap.size w10 w11 := by rw [hwd]; exact below_drewN (Below.refl _ _) q
  clear hwd Q0 R0
  have z11 := hbb.size
  have A11 : Hid (Below w.heap.size w w11) := A10.out.trans (hbb.mono (by omega))
  have D11 : Hid (Below w4.heap.size w4 w11) := D10.out.trans (hbb.mono (by omega))
  have E11 : Hid (Below w6.heap.size w6 w11) := E10.out.trans (hbb.mono (by omega))
  have G11 : Hid (Keep w6.heap.size w8.heap.size w8 w11) := G10.out.trans (Keep.of hbb (by omega))
  clear hbb
  go_wp2_with fail
  refine (toSS_any (H1.out.later A11.out) hm1 HS1.out).mono ?_
  rintro e w12 ⟨rfl, hmm, hbb⟩
  have Q1 : Hid (Mat w11.heap.size w12.heap.size w12 (newLie w11.heap.size n1 L1) n1 L1 F1) := hmm
  have z12 := hbb.size
  have A12 : Hid (Below w.heap.size w w12) := A11.out.trans (hbb.mono (by omega))
  have D12 : Hid (Below w4.heap.size w4 w12) := D11.out.trans (hbb.mono (by omega))
  have E12 : Hid (Below w6.heap.size w6 w12) := E11.out.trans (hbb.mono (by omega))
  have G12 : Hid (Keep w6.heap.size w8.heap.size w8 w12) := G11.out.trans (Keep.of hbb (by omega))
  have R1 : Hid (RdMat w12 (.slice (some ⟨w5.heap.size, 0, none⟩) n1 n1) n1 L1 F1) := ((X1.out.keep fun i _ hi => E12.out.block i (by omega)) : Mat w5.heap.size w6.heap.size w12 (newLie w5.heap.size n1 L1) n1 L1 F1).rd
  clear hmm hbb
  go_wp2_with fail
  refine (eqSS_any R1.out Q1.out.rd hm1 HS1.out).mono ?_
  rintro e w0' ⟨rfl, q, hwd⟩
  obtain ⟨w13, hwe⟩ : ∃ W, W = w0' := ⟨_, rfl⟩
  subst hwe
  have hbb : Below w12.heap.size w12 w13 := by rw [hwd]; exact below_drewN (Below.refl _ _) q
  clear hwd Q1 R1
  have z13 := hbb.size
  have A13 : Hid (Below w.heap.size w w13) := A12.out.trans (hbb.mono (by omega))
  have D13 : Hid (Below w4.heap.size w4 w13) := D12.out.trans (hbb.mono (by omega))
  have E13 : Hid (Below w6.heap.size w6 w13) := E12.out.trans (hbb.mono (by omega))
  have G13 : Hid (Keep w6.heap.size w8.heap.size w8 w13) := G12.out.trans (Keep.of hbb (by omega))
  clear hbb
  have M0 : Hid (Mat w4.heap.size w5.heap.size w13 (newLie w4.heap.size n0 L0) n0 L0 F0) := X0'.out.keep fun i _ hi => E13.out.block i (by omega)
  go_wp2_with fail
  refine (markSS_some M0.out 1 (by omega) (by omega)).mono ?_
  rintro e w14 ⟨rfl, _, hbb, _⟩
  clear M0
  have within14 : ∀ k, w5.heap.size ≤ k → k < w13.heap.size → w14.heap[k]? = w13.heap[k]? := hbb.above
  have z14 := hbb.below.size
  have A14 : Hid (Below w.heap.size w w14) := A13.out.trans (hbb.below.mono (by omega))
  have D14 : Hid (Below w4.heap.size w4 w14) := D13.out.trans (hbb.below.mono (by omega))
  have G14 : Hid (Keep w6.heap.size w8.heap.size w8 w14) := G13.out.trans (Keep.over hbb (by omega) (by omega))
  clear hbb
  have WI14 : Hid (∀ k, w5.heap.size ≤ k → k < w13.heap.size → w14.heap[k]? = w13.heap[k]?) := within14
  clear within14
  obtain ⟨k1, hk1⟩ : ∃ k1 : Int, k1 = 1 + (Sm L0 n0 : Nat) := ⟨_, rfl⟩
  rw [← hk1]
  have hk1a : 0 ≤ k1 := by omega
  have hk1b : k1 ≤ 1048577 := by omega
  have within14 := WI14.out
  clear hk1
  clear within14
  have within14 := WI14.out
  have M1 : Hid (Mat w5.heap.size w6.heap.size w14 (newLie w5.heap.size n1 L1) n1 L1 F1) := X1.out.keep fun i hl hi => (within14 i (by omega) (by omega)).trans (E13.out.block i (by omega))
  go_wp2_with fail
  refine (markSS_some M1.out k1 (by omega) (by omega)).mono ?_
  rintro e w15 ⟨rfl, _, hbb, _⟩
  clear M1
  have z15 := hbb.below.size
  have A15 : Hid (Below w.heap.size w w15) := A14.out.trans (hbb.below.mono (by omega))
  have D15 : Hid (Below w4.heap.size w4 w15) := D14.out.trans (hbb.below.mono (by omega))
  have G15 : Hid (Keep w6.heap.size w8.heap.size w8 w15) := G14.out.trans (Keep.over hbb (by omega) (by omega))
  clear hbb
  obtain ⟨k2, hk2⟩ : ∃ k2 : Int, k2 = k1 + (Sm L1 n1 : Nat) := ⟨_, rfl⟩
  rw [← hk2]
  have hk2a : decide (k2 < 0) = false := by rw [decide_eq_false_iff_not]; omega
  clear hk2
  clear X0' X1
  have O15 : Hid (OwnR w6.heap.size w7.heap.size w15 code (.slice gao gk gcap) n0 (fun i j => Rm.dot F0 F1 i j n0)) := O8.out.keep fun k h1 h2 => G15.out k h1 (by omega)
  have lS0 : w15.cell? ⟨w3.heap.size, 0, none⟩ = some (.int .i64 code) := (BS.out.later D15.out (by omega)).c0
  have lS1 : w15.cell? ⟨w3.heap.size, 1, none⟩ = some (.slice sao sk scap) := (BS.out.later D15.out (by omega)).c1
  have lG0 : w15.cell? ⟨w7.heap.size, 0, none⟩ = some (.int .i64 code) := (BG.out.keep G15.out (by omega) (by omega)).c0
  have lG1 : w15.cell? ⟨w7.heap.size, 1, none⟩ = some (.slice gao gk gcap) := (BG.out.keep G15.out (by omega) (by omega)).c1
  go_wp2_with fail
  refine (eqR_any O15.out.rd (O4.out.later D15.out) HDIM.out).mono ?_
  rintro e w16 ⟨rfl, hbb⟩
  clear lS0 lS1 lG0 lG1
  have z16 := hbb.size
  have A16 : Hid (Below w.heap.size w w16) := A15.out.trans (hbb.mono (by omega))
  have D16 : Hid (Below w4.heap.size w4 w16) := D15.out.trans (hbb.mono (by omega))
  have G16 : Hid (Keep w6.heap.size w8.heap.size w8 w16) := G15.out.trans (Keep.of hbb (by omega))
  have O16 : Hid (OwnR w6.heap.size w7.heap.size w16 code (.slice gao gk gcap) n0 (fun i j => Rm.dot F0 F1 i j n0)) := O8.out.keep fun k h1 h2 => G16.out k h1 (by omega)
  clear hbb O15
  have lG0 : w16.cell? ⟨w7.heap.size, 0, none⟩ = some (.int .i64 code) := (BG.out.keep G16.out (by omega) (by omega)).c0
  have lG1 : w16.cell? ⟨w7.heap.size, 1, none⟩ = some (.slice gao gk gcap) := (BG.out.keep G16.out (by omega) (by omega)).c1
  go_wp2_with fail
  refine (markR_any O16.out HDIM.out (by omega) (by omega)).mono ?_
  rintro e w17 ⟨r, rfl, hmk, hbb⟩
  have MK : Hid (MkdR w6.heap.size w7.heap.size w17 code (.slice gao gk gcap) n0 r) := hmk
  have hr17 := hmk.pos
  have hr17a : decide (r < 0) = false := by rw [decide_eq_false_iff_not]; omega
  clear hmk lG0 lG1 O16 O8
  have T17 : Hid (Keep w7.heap.size w8.heap.size w8 w17) := fun k h1 h2 => (hbb.above k h1 (by omega)).trans (G16.out k (by omega) h2)
  have z17 := hbb.below.size
  have A17 : Hid (Below w.heap.size w w17) := A16.out.trans (hbb.below.mono (by omega))
  have D17 : Hid (Below w4.heap.size w4 w17) := D16.out.trans (hbb.below.mono (by omega))
  clear hbb
  have U17 : Hid (Keep w6.heap.size w7.heap.size w17 w17) := Keep.refl _ _ _
  have lG0 : w17.cell? ⟨w7.heap.size, 0, none⟩ = some (.int .i64 code) := (BG.out.keep T17.out (by omega) (by omega)).c0
  have lG1 : w17.cell? ⟨w7.heap.size, 1, none⟩ = some (.slice gao gk gcap) := (BG.out.keep T17.out (by omega) (by omega)).c1
  go_wp2_with fail
  refine (heldR_any MK.out HDIM.out (by omega)).mono ?_
  rintro e w18 ⟨rfl, hbb⟩
  clear lG0 lG1
  have z18 := hbb.size
  have A18 : Hid (Below w.heap.size w w18) := A17.out.trans (hbb.mono (by omega))
  have D18 : Hid (Below w4.heap.size w4 w18) := D17.out.trans (hbb.mono (by omega))
  have T18 : Hid (Keep w7.heap.size w8.heap.size w8 w18) := T17.out.trans (Keep.of hbb (by omega))
  have U18 : Hid (Keep w6.heap.size w7.heap.size w17 w18) := U17.out.trans (Keep.of hbb (by omega))
  clear hbb
  go_wp2_with fail
  refine (toSS_any (H0.out.later A18.out) hm0 HS0.out).mono ?_
  rintro e w19 ⟨rfl, hmm, hbb⟩
  have Z0 : Hid (Mat w18.heap.size w19.heap.size w19 (newLie w18.heap.size n0 L0) n0 L0 F0) := hmm
  have z19 := hbb.size
  have A19 : Hid (Below w.heap.size w w19) := A18.out.trans (hbb.mono (by omega))
  have D19 : Hid (Below w4.heap.size w4 w19) := D18.out.trans (hbb.mono (by omega))
  have T19 : Hid (Keep w7.heap.size w8.heap.size w8 w19) := T18.out.trans (Keep.of hbb (by omega))
  have U19 : Hid (Keep w6.heap.size w7.heap.size w17 w19) := U18.out.trans (Keep.of hbb (by omega))
  clear hmm hbb
  go_wp2_with fail
  refine (toSS_any (H1.out.later A19.out) hm1 HS1.out).mono ?_
  rintro e w20 ⟨rfl, hmm, hbb⟩
  have Z1 : Hid (Mat w19.heap.size w20.heap.size w20 (newLie w19.heap.size n1 L1) n1 L1 F1) := hmm
  have z20 := hbb.size
  have A20 : Hid (Below w.heap.size w w20) := A19.out.trans (hbb.mono (by omega))
  have D20 : Hid (Below w4.heap.size w4 w20) := D19.out.trans (hbb.mono (by omega))
  have T20 : Hid (Keep w7.heap.size w8.heap.size w8 w20) := T19.out.trans (Keep.of hbb (by omega))
  have U20 : Hid (Keep w6.heap.size w7.heap.size w17 w20) := U19.out.trans (Keep.of hbb (by omega))
  have P0 : Hid (Mat 0 w20.heap.size w20 (newLie w18.heap.size n0 L0) n0 L0 F0) := mat_all (Z0.out.keep fun i _ hi => hbb.block i hi) (by omega)
  have P1 : Hid (Mat 0 w20.heap.size w20 (newLie w19.heap.size n1 L1) n1 L1 F1) := mat_all Z1.out (Nat.le_refl _)
  clear hmm hbb
  go_wp2_with fail
  refine (iMulRows_any P0.out P1.out hm0 hm1 HS0.out HS1.out).mono ?_
  rintro e w21 ⟨hv, rfl, hoo, hbb⟩
  rw [HCODE.out] at hoo ⊢
  clear P0 P1
  obtain ⟨hao, hk, hcap, ehv⟩ : ∃ ao k cap, hv = .slice ao k cap := OutR.shape hoo.rd
  subst ehv
  have O21 : Hid (OutR w21 code (.slice hao hk hcap) n0 (fun i j => Rm.dot F0 F1 i j n0)) := hoo.rd
  have z21 := hbb.size
  have A21 : Hid (Below w.heap.size w w21) := A20.out.trans (hbb.mono (by omega))
  have D21 : Hid (Below w4.heap.size w4 w21) := D20.out.trans (hbb.mono (by omega))
  have T21 : Hid (Keep w7.heap.size w8.heap.size w8 w21) := T20.out.trans (Keep.of hbb (by omega))
  have U21 : Hid (Keep w6.heap.size w7.heap.size w17 w21) := U20.out.trans (Keep.of hbb (by omega))
  clear hoo hbb Z0 Z1
  obtain ⟨w22, hwd⟩ : ∃ W, W = w21.alloc (.cells #[.int .i64 code, .slice hao hk hcap] 29) := ⟨_, rfl⟩
  have BH : Hid (V2 w22 w21.heap.size 29 (.int .i64 code) (.slice hao hk hcap)) := by rw [hwd]; exact V2.new _ _ _ _
  have hbb : Below w21.heap.size w21 w22 := by rw [hwd]; exact (Below.refl _ _).alloc (Nat.le_refl _) _
  have HWD : Hid (w22 = w21.alloc (.cells #[.int .i64 code, .slice hao hk hcap] 29)) := hwd
  clear hwd
  have z22 := hbb.size
  have A22 : Hid (Below w.heap.size w w22) := A21.out.trans (hbb.mono (by omega))
  have D22 : Hid (Below w4.heap.size w4 w22) := D21.out.trans (hbb.mono (by omega))
  have T22 : Hid (Keep w7.heap.size w8.heap.size w8 w22) := T21.out.trans (Keep.of hbb (by omega))
  have U22 : Hid (Keep w6.heap.size w7.heap.size w17 w22) := U21.out.trans (Keep.of hbb (by omega))
  have O22 : Hid (OutR w22 code (.slice hao hk hcap) n0 (fun i j => Rm.dot F0 F1 i j n0)) := O21.out.later hbb
  clear hbb O21
  have lS0 : (w21.alloc (.cells #[.int .i64 code, .slice hao hk hcap] 29)).cell? ⟨w3.heap.size, 0, none⟩ = some (.int .i64 code) := by rw [← HWD.out]; exact (BS.out.later D22.out (by omega)).c0
  have lS1 : (w21.alloc (.cells #[.int .i64 code, .slice hao hk hcap] 29)).cell? ⟨w3.heap.size, 1, none⟩ = some (.slice sao sk scap) := by rw [← HWD.out]; exact (BS.out.later D22.out (by omega)).c1
  go_wp2_with fail
  rw [← HWD.out]
  refine (eqR_any O22.out (O4.out.later D22.out) HDIM.out).mono ?_
  rintro e w23 ⟨rfl, hbb⟩
  clear lS0 lS1
  have z23 := hbb.size
  have A23 : Hid (Below w.heap.size w w23) := A22.out.trans (hbb.mono (by omega))
  have D23 : Hid (Below w4.heap.size w4 w23) := D22.out.trans (hbb.mono (by omega))
  have T23 : Hid (Keep w7.heap.size w8.heap.size w8 w23) := T22.out.trans (Keep.of hbb (by omega))
  have U23 : Hid (Keep w6.heap.size w7.heap.size w17 w23) := U22.out.trans (Keep.of hbb (by omega))
  clear hbb
  have MK23 : Hid (MkdR w6.heap.size w7.heap.size w23 code (.slice gao gk gcap) n0 r) := MK.out.keep U23.out
  have lG0 : w23.cell? ⟨w7.heap.size, 0, none⟩ = some (.int .i64 code) := (BG.out.keep T23.out (by omega) (by omega)).c0
  have lG1 : w23.cell? ⟨w7.heap.size, 1, none⟩ = some (.slice gao gk gcap) := (BG.out.keep T23.out (by omega) (by omega)).c1
  go_wp2_with fail
  refine (heldR_any MK23.out HDIM.out (by omega)).mono ?_
  rintro e w24 ⟨rfl, hbb⟩
  have hend : Hid (Below w.heap.size w w24) := A23.out.trans (hbb.mono (by omega))
  clear lG0 lG1 hbb
  go_wp2
  go_ret
  exact ⟨rfl, hend.out⟩

set_option maxRecDepth 100000 in
theorem lifted (os : Os) (started : os.Started) (H : Type) (enc : TypeId × Value → H) :
    ReturnsInHanded {} Try.checked os 4 .any (Rows.fnExactMulRowsSpec.pre6 enc Try.prog Try.f4 Rows.fnExactMulRowsRow.domain false) (Rows.fnExactMulRowsSpec.post enc Try.prog Try.f4 false true false false) := by
  refine returnsInHanded_of_change (C := Try.checked) own started (by kernel_rfl) Try.func4
    (ChangeSpec.witness6 (enc := enc) (C := Try.checked) false ⟨#[], #[.slice none 0 0, .slice none 0 0], []⟩ 8 (by kernel_rfl) (by kernel_rfl) (by kernel_rfl) (by kernel_rfl)) ?_
  intro W base args ds gs before hval0 hW hcnd _
  have hval : ∀ (j : Nat) t v, Try.f4.params[j]? = some t → args[j]? = some v → Value.okWide Try.prog W .any base t v := hval0
  have hW' := hW
  obtain ⟨p, q, hA0, hV, rfl, hfz, hnd⟩ := hW
  have hA : DataW.TrodAll enc Try.prog W 0 (fun _ => true) true Try.f4.params.toList args.toList ds p := hA0
  rw [Try.params4] at hA hval
  obtain ⟨v0, vs0, d0, ds0, p0, q0, hargs, rfl, rfl, h0, r0⟩ := trodAll_cons hA
  obtain ⟨v1, vs1, d1, ds1, p1, q1, rfl, rfl, rfl, h1, r1⟩ := trodAll_cons r0
  obtain ⟨rfl, rfl, rfl⟩ := trodAll_nil r1
  obtain rfl : args = #[v0, v1] := by cases args; simp_all
  obtain ⟨rfl, rfl⟩ := trodVars_none hV
  have k0 := h0
  have lt0 : ∀ x ∈ p0, x.block < W.heap.size := by obtain ⟨m, hm⟩ := k0; exact DataW.trod_lt m _ _ _ hm
  obtain ⟨n0, L0, F0, R0, nb0, lb0⟩ := open_mat (hval 0 22 v0 rfl rfl) h0
  have k1 := h1
  have lt1 : ∀ x ∈ p1, x.block < W.heap.size := by obtain ⟨m, hm⟩ := k1; exact DataW.trod_lt m _ _ _ hm
  obtain ⟨n1, L1, F1, R1, nb1, lb1⟩ := open_mat (hval 1 22 v1 rfl rfl) h1
  clear hA0 hval0
  refine (walk R0 nb0 lb0 R1 nb1 lb1  ).mono fun e W' ⟨he, bel⟩ => ?_
  subst he
  exact ⟨_, rfl, _, _, _, [], _, [], hW', trodAll_mk1 (shut_bool Try.underlying4 _), (trodAll_cons_mk (Below.trod laidOut (by kernel_rfl) (of_decide_eq_true (by kernel_rfl)) k0 bel lt0) (trodAll_cons_mk (Below.trod laidOut (by kernel_rfl) (of_decide_eq_true (by kernel_rfl)) k1 bel lt1) trodAll_mk0)), rfl, bel.frame _, fun h => by cases h⟩

theorem over : Rows.fnExactMulRowsRow.holds Try.pinned (OpenSpec.ofChange Rows.fnExactMulRowsSpec) :=
  OpenClaim.holds_of_wide 4 Try.f4 rfl rfl rfl rfl rfl rfl rfl ⟨rfl, rfl, rfl, rfl, rfl⟩ rfl rfl rfl rfl rfl (by kernel_rfl) Try.func4 (by kernel_rfl)
    (of_decide_eq_true (by kernel_rfl)) (by unfold Func.isWrapper; first | (rw [if_pos (by decide +kernel)]; kernel_rfl) | (rw [if_neg (by decide +kernel)]; exact ⟨rfl, rfl⟩))
    (fun os started H enc _ => lifted os started H enc)
end Go.Proofs.Ytbagaicbochmnaa.LawMulRows
namespace Go.Proofs.Ytbagaicbochmnaa
theorem mulRows_holds : Rows.FnExactMulRowsSaid := LawMulRows.over
#print axioms mulRows_holds
end Go.Proofs.Ytbagaicbochmnaa
