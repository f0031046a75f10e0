/- At every list of rows the program's InvRows answers as the specification, code and rows, where the law's own bound on the sizes does not answer first; what it answers owns its memory; nothing that was there is changed. -/
import Derived.Test.YtboppklcmdfphaaArg
import Derived.Test.YtboppklcmdfphaaSinv
import Derived.Test.YtboppklcmdfphaaAux
import Derived.Handy
namespace Go.Proofs.Ytboppklcmdfphaa.LawInvRows
open Go.ChangeShapes Go.WideShapes Go.ChangeAt Go.RowKit Go.Joins
set_option linter.unusedVariables false

set_option maxHeartbeats 4000000 in
set_option maxRecDepth 10000 in
theorem walk {w : World} {v0 : Value} {n0 : Nat} {L0 : Nat → Nat} {F0 : Rm.Mx} (h0 : RdMat w v0 n0 L0 F0) (hn0 : n0 ≤ 9223372036854775807) (hL0 : ∀ i, i < n0 → L0 i ≤ 9223372036854775807) :
    Calls Try.prog 3 #[v0] w fun e w' => e = .returned (.bool true) ∧ Below w.heap.size w w' := by
  have H0 : Hid (RdMat w v0 n0 L0 F0) := h0
  have HL0 : Hid (∀ i, i < n0 → L0 i ≤ 9223372036854775807) := hL0
  clear h0 hL0
  go_enter Try.func3, Try.ntmps3
  go_wp2_with fail
  refine (szSS_any H0.out 1048576 (by omega) (by omega) hn0 HL0.out).mono ?_
  rintro e w1 ⟨r0, rfl, rfl, ht⟩
  have HT0 : Hid (Told n0 L0 1048576 r0) := ht
  clear ht
  by_cases hr0 : r0 < 0
  · go_wp2
    go_ret
    exact ⟨rfl, Below.refl _ _⟩
  have hs0 := told_no HT0.out hr0
  have HS0 : Hid (∀ i, i < n0 → L0 i ≤ 1000000000000) := fun i hi => by have := le_Sm (L := L0) hi; omega
  have hm0 : n0 ≤ 1000000000000 := by omega
  have hq0 : Sm L0 n0 ≤ 1048576 := by omega
  have hp0 : n0 ≤ 1048576 := by omega
  clear HT0 HL0
  clear hs0
  go_wp2_with fail
  refine (toSS_any H0.out hm0 HS0.out).mono ?_
  rintro e w1 ⟨rfl, hmm, hbb⟩
  have C0_1 : Hid (Mat w.heap.size w1.heap.size w1 (newLie w.heap.size n0 L0) n0 L0 F0) := hmm
  have z1 := hbb.size
  have A1 : Hid (Below w.heap.size w w1) := hbb
  clear hmm hbb
  have P0 : Hid (Mat 0 w1.heap.size w1 (newLie w.heap.size n0 L0) n0 L0 F0) := mat_all C0_1.out (by omega)
  go_wp2_with fail
  refine (sInvRows_any P0.out hm0 HS0.out).mono ?_
  rintro e w2 ⟨sv, rfl, hoo, hbb⟩
  generalize hcode : invCode n0 L0 F0 = code at *
  clear P0
  have HCODE : Hid (invCode n0 L0 F0 = code) := hcode
  have HDIM : Hid (code = 0 → n0 ≤ 1000) := fun h => invCode_dim (hcode.trans h)
  clear hcode
  obtain ⟨sao, sk, scap, esv⟩ : ∃ ao k cap, sv = .slice ao k cap := OutR.shape hoo
  subst esv
  have OS : Hid (OutR w2 code (.slice sao sk scap) n0 (invOut F0 n0)) := hoo
  have z2 := hbb.size
  have A2 : Hid (Below w.heap.size w w2) := A1.out.trans (hbb.mono (by omega))
  clear hoo hbb
  go_wp2_with fail
  obtain ⟨w3, hwd⟩ : ∃ W, W = w2.alloc (.cells #[.int .i64 code, .slice sao sk scap] 25) := ⟨_, rfl⟩
  have BS : Hid (V2 w3 w2.heap.size 25 (.int .i64 code) (.slice sao sk scap)) := by rw [hwd]; exact V2.new _ _ _ _
  have hbb : Below w2.heap.size w2 w3 := by rw [hwd]; exact (Below.refl _ _).alloc (Nat.le_refl _) _
  have ys : w2.heap.size + 1 ≤ w3.heap.size := by rw [hwd]; simp
  rw [← hwd]
  clear hwd
  have O4 : Hid (OutR w3 code (.slice sao sk scap) n0 (invOut F0 n0)) := OS.out.later hbb
  have z3 := hbb.size
  have A3 : Hid (Below w.heap.size w w3) := A2.out.trans (hbb.mono (by omega))
  clear hbb OS
  have D3 : Hid (Below w3.heap.size w3 w3) := Below.refl _ _
  go_wp2_with fail
  refine (toSS_any (H0.out.later A3.out) hm0 HS0.out).mono ?_
  rintro e w4 ⟨rfl, hmm, hbb⟩
  have X0_4 : Hid (Mat w3.heap.size w4.heap.size w4 (newLie w3.heap.size n0 L0) n0 L0 F0) := hmm
  have z4 := hbb.size
  have A4 : Hid (Below w.heap.size w w4) := A3.out.trans (hbb.mono (by omega))
  have D4 : Hid (Below w3.heap.size w3 w4) := D3.out.trans (hbb.mono (by omega))
  clear hmm hbb
  have P0 : Hid (Mat 0 w4.heap.size w4 (newLie w3.heap.size n0 L0) n0 L0 F0) := mat_all X0_4.out (by omega)
  go_wp2_with fail
  refine (iInvRows_any P0.out hm0 HS0.out).mono ?_
  rintro e w5 ⟨gv, rfl, hoo, hbb⟩
  rw [HCODE.out] at hoo ⊢
  clear P0
  have E4 : Hid (Below w4.heap.size w4 w4) := Below.refl _ _
  obtain ⟨gao, gk, gcap, egv⟩ : ∃ ao k cap, gv = .slice ao k cap := OutR.shape hoo.rd
  subst egv
  have OG : Hid (OwnR w4.heap.size w5.heap.size w5 code (.slice gao gk gcap) n0 (invOut F0 n0)) := hoo
  have z5 := hbb.size
  have A5 : Hid (Below w.heap.size w w5) := A4.out.trans (hbb.mono (by omega))
  have D5 : Hid (Below w3.heap.size w3 w5) := D4.out.trans (hbb.mono (by omega))
  have E5 : Hid (Below w4.heap.size w4 w5) := E4.out.trans (hbb.mono (by omega))
  clear hoo hbb
  obtain ⟨w6, hwd⟩ : ∃ W, W = w5.alloc (.cells #[.int .i64 code, .slice gao gk gcap] 25) := ⟨_, rfl⟩
  have BG : Hid (V2 w6 w5.heap.size 25 (.int .i64 code) (.slice gao gk gcap)) := by rw [hwd]; exact V2.new _ _ _ _
  have hbb : Below w5.heap.size w5 w6 := by rw [hwd]; exact (Below.refl _ _).alloc (Nat.le_refl _) _
  have yg : w5.heap.size + 1 ≤ w6.heap.size := by rw [hwd]; simp
  have HWD : Hid (w6 = w5.alloc (.cells #[.int .i64 code, .slice gao gk gcap] 25)) := hwd
  clear hwd
  have O8 : Hid (OwnR w4.heap.size w5.heap.size w6 code (.slice gao gk gcap) n0 (invOut F0 n0)) := OG.out.keep (Keep.of hbb (Nat.le_refl _))
  have z6 := hbb.size
  have A6 : Hid (Below w.heap.size w w6) := A5.out.trans (hbb.mono (by omega))
  have D6 : Hid (Below w3.heap.size w3 w6) := D5.out.trans (hbb.mono (by omega))
  have E6 : Hid (Below w4.heap.size w4 w6) := E5.out.trans (hbb.mono (by omega))
  clear hbb OG
  have G6 : Hid (Keep w4.heap.size w6.heap.size w6 w6) := Keep.refl _ _ _
  have lS0 : (w5.alloc (.cells #[.int .i64 code, .slice gao gk gcap] 25)).cell? ⟨w2.heap.size, 0, none⟩ = some (.int .i64 code) := by rw [← HWD.out]; exact (BS.out.later D6.out (by omega)).c0
  have lS1 : (w5.alloc (.cells #[.int .i64 code, .slice gao gk gcap] 25)).cell? ⟨w2.heap.size, 1, none⟩ = some (.slice sao sk scap) := by rw [← HWD.out]; exact (BS.out.later D6.out (by omega)).c1
  go_wp2_with fail
  rw [← HWD.out]
  refine (eqR_any O8.out.rd (O4.out.later D6.out) HDIM.out).mono ?_
  rintro e w7 ⟨rfl, hbb⟩
  clear lS0 lS1 HWD
  have z7 := hbb.size
  have A7 : Hid (Below w.heap.size w w7) := A6.out.trans (hbb.mono (by omega))
  have D7 : Hid (Below w3.heap.size w3 w7) := D6.out.trans (hbb.mono (by omega))
  have E7 : Hid (Below w4.heap.size w4 w7) := E6.out.trans (hbb.mono (by omega))
  have G7 : Hid (Keep w4.heap.size w6.heap.size w6 w7) := G6.out.trans (Keep.of hbb (by omega))
  clear hbb
  go_wp2_with fail
  refine (toSS_any (H0.out.later A7.out) hm0 HS0.out).mono ?_
  rintro e w8 ⟨rfl, hmm, hbb⟩
  have Q0_8 : Hid (Mat w7.heap.size w8.heap.size w8 (newLie w7.heap.size n0 L0) n0 L0 F0) := hmm
  have z8 := hbb.size
  have A8 : Hid (Below w.heap.size w w8) := A7.out.trans (hbb.mono (by omega))
  have D8 : Hid (Below w3.heap.size w3 w8) := D7.out.trans (hbb.mono (by omega))
  have E8 : Hid (Below w4.heap.size w4 w8) := E7.out.trans (hbb.mono (by omega))
  have G8 : Hid (Keep w4.heap.size w6.heap.size w6 w8) := G7.out.trans (Keep.of hbb (by omega))
  clear hmm hbb
  have R0 : Hid (RdMat w8 (.slice (some ⟨w3.heap.size, 0, none⟩) n0 n0) n0 L0 F0) := ((X0_4.out.keep fun i _ hi => E8.out.block i (by omega)) : Mat w3.heap.size w4.heap.size w8 (newLie w3.heap.size n0 L0) n0 L0 F0).rd
  go_wp2_with fail
  refine (eqSS_any R0.out Q0_8.out.rd hm0 HS0.out).mono ?_
  rintro e w0' ⟨rfl, q, hwd⟩
  obtain ⟨w9, hwe⟩ : ∃ W, W = w0' := ⟨_, rfl⟩
  subst hwe
  have hbb : Below w8.heap.size w8 w9 := by rw [hwd]; exact below_drewN (Below.refl _ _) q
  clear hwd Q0_8 R0
  have z9 := hbb.size
  have A9 : Hid (Below w.heap.size w w9) := A8.out.trans (hbb.mono (by omega))
  have D9 : Hid (Below w3.heap.size w3 w9) := D8.out.trans (hbb.mono (by omega))
  have E9 : Hid (Below w4.heap.size w4 w9) := E8.out.trans (hbb.mono (by omega))
  have G9 : Hid (Keep w4.heap.size w6.heap.size w6 w9) := G8.out.trans (Keep.of hbb (by omega))
  clear hbb
  obtain ⟨k0, hk0⟩ : ∃ k0 : Int, k0 = 1 := ⟨_, rfl⟩
  have hk0a : 0 ≤ k0 := by omega
  have hk0b : k0 ≤ 1 := by omega
  have X0_9 : Hid (Mat w3.heap.size w4.heap.size w9 (newLie w3.heap.size n0 L0) n0 L0 F0) := X0_4.out.keep fun i hl hi => E9.out.block i (by omega)
  go_wp2_with fail
  refine (markSS_some X0_9.out 1 (by omega) (by omega)).mono ?_
  rintro e w10 ⟨rfl, _, hbb, _⟩
  have WI0 : Hid (∀ i, w4.heap.size ≤ i → i < w9.heap.size → w10.heap[i]? = w9.heap[i]?) := hbb.above
  have z10 := hbb.below.size
  have A10 : Hid (Below w.heap.size w w10) := A9.out.trans (hbb.below.mono (by omega))
  have D10 : Hid (Below w3.heap.size w3 w10) := D9.out.trans (hbb.below.mono (by omega))
  have G10 : Hid (Keep w4.heap.size w6.heap.size w6 w10) := G9.out.trans (Keep.over hbb (by omega) (by omega))
  clear hbb
  obtain ⟨k1, hk1⟩ : ∃ k1 : Int, k1 = 1 + (Sm L0 n0 : Nat) := ⟨_, rfl⟩
  rw [← hk1]
  have hk1a : 0 ≤ k1 := by omega
  have hk1b : k1 ≤ 2097154 := by omega
  clear hk1
  clear hk0
  have hkd : decide (k1 < 0) = false := by rw [decide_eq_false_iff_not]; omega
  have O15 : Hid (OwnR w4.heap.size w5.heap.size w10 code (.slice gao gk gcap) n0 (invOut F0 n0)) := O8.out.keep fun i h1 h2 => G10.out i h1 (by omega)
  have lS0 : w10.cell? ⟨w2.heap.size, 0, none⟩ = some (.int .i64 code) := (BS.out.later D10.out (by omega)).c0
  have lS1 : w10.cell? ⟨w2.heap.size, 1, none⟩ = some (.slice sao sk scap) := (BS.out.later D10.out (by omega)).c1
  have lG0 : w10.cell? ⟨w5.heap.size, 0, none⟩ = some (.int .i64 code) := (BG.out.keep G10.out (by omega) (by omega)).c0
  have lG1 : w10.cell? ⟨w5.heap.size, 1, none⟩ = some (.slice gao gk gcap) := (BG.out.keep G10.out (by omega) (by omega)).c1
  go_wp2_with fail
  refine (eqR_any O15.out.rd (O4.out.later D10.out) HDIM.out).mono ?_
  rintro e w11 ⟨rfl, hbb⟩
  clear lS0 lS1 lG0 lG1
  have z11 := hbb.size
  have A11 : Hid (Below w.heap.size w w11) := A10.out.trans (hbb.mono (by omega))
  have D11 : Hid (Below w3.heap.size w3 w11) := D10.out.trans (hbb.mono (by omega))
  have G11 : Hid (Keep w4.heap.size w6.heap.size w6 w11) := G10.out.trans (Keep.of hbb (by omega))
  have O16 : Hid (OwnR w4.heap.size w5.heap.size w11 code (.slice gao gk gcap) n0 (invOut F0 n0)) := O8.out.keep fun i h1 h2 => G11.out i h1 (by omega)
  clear hbb O15
  have lG0 : w11.cell? ⟨w5.heap.size, 0, none⟩ = some (.int .i64 code) := (BG.out.keep G11.out (by omega) (by omega)).c0
  have lG1 : w11.cell? ⟨w5.heap.size, 1, none⟩ = some (.slice gao gk gcap) := (BG.out.keep G11.out (by omega) (by omega)).c1
  go_wp2_with fail
  refine (markR_any O16.out HDIM.out (by omega) (by omega)).mono ?_
  rintro e w12 ⟨r, rfl, hmk, hbb⟩
  have MK : Hid (MkdR w4.heap.size w5.heap.size w12 code (.slice gao gk gcap) n0 r) := hmk
  have hr17 := hmk.pos
  have hr17a : decide (r < 0) = false := by rw [decide_eq_false_iff_not]; omega
  clear hmk lG0 lG1 O16 O8
  have T12 : Hid (Keep w5.heap.size w6.heap.size w6 w12) := fun i h1 h2 => (hbb.above i h1 (by omega)).trans (G11.out i (by omega) h2)
  have z12 := hbb.below.size
  have A12 : Hid (Below w.heap.size w w12) := A11.out.trans (hbb.below.mono (by omega))
  have D12 : Hid (Below w3.heap.size w3 w12) := D11.out.trans (hbb.below.mono (by omega))
  clear hbb
  have U12 : Hid (Keep w4.heap.size w5.heap.size w12 w12) := Keep.refl _ _ _
  have lG0 : w12.cell? ⟨w5.heap.size, 0, none⟩ = some (.int .i64 code) := (BG.out.keep T12.out (by omega) (by omega)).c0
  have lG1 : w12.cell? ⟨w5.heap.size, 1, none⟩ = some (.slice gao gk gcap) := (BG.out.keep T12.out (by omega) (by omega)).c1
  go_wp2_with fail
  refine (heldR_any MK.out HDIM.out (by omega)).mono ?_
  rintro e w13 ⟨rfl, hbb⟩
  clear lG0 lG1
  have z13 := hbb.size
  have A13 : Hid (Below w.heap.size w w13) := A12.out.trans (hbb.mono (by omega))
  have D13 : Hid (Below w3.heap.size w3 w13) := D12.out.trans (hbb.mono (by omega))
  have T13 : Hid (Keep w5.heap.size w6.heap.size w6 w13) := T12.out.trans (Keep.of hbb (by omega))
  have U13 : Hid (Keep w4.heap.size w5.heap.size w12 w13) := U12.out.trans (Keep.of hbb (by omega))
  clear hbb
  go_wp2_with fail
  refine (toSS_any (H0.out.later A13.out) hm0 HS0.out).mono ?_
  rintro e w14 ⟨rfl, hmm, hbb⟩
  have Z0_14 : Hid (Mat w13.heap.size w14.heap.size w14 (newLie w13.heap.size n0 L0) n0 L0 F0) := hmm
  have z14 := hbb.size
  have A14 : Hid (Below w.heap.size w w14) := A13.out.trans (hbb.mono (by omega))
  have D14 : Hid (Below w3.heap.size w3 w14) := D13.out.trans (hbb.mono (by omega))
  have T14 : Hid (Keep w5.heap.size w6.heap.size w6 w14) := T13.out.trans (Keep.of hbb (by omega))
  have U14 : Hid (Keep w4.heap.size w5.heap.size w12 w14) := U13.out.trans (Keep.of hbb (by omega))
  clear hmm hbb
  have P0 : Hid (Mat 0 w14.heap.size w14 (newLie w13.heap.size n0 L0) n0 L0 F0) := mat_all Z0_14.out (by omega)
  go_wp2_with fail
  refine (iInvRows_any P0.out hm0 HS0.out).mono ?_
  rintro e w15 ⟨hv, rfl, hoo, hbb⟩
  rw [HCODE.out] at hoo ⊢
  clear P0
  obtain ⟨hao, hk, hcap, ehv⟩ : ∃ ao k cap, hv = .slice ao k cap := OutR.shape hoo.rd
  subst ehv
  have OH : Hid (OutR w15 code (.slice hao hk hcap) n0 (invOut F0 n0)) := hoo.rd
  have z15 := hbb.size
  have A15 : Hid (Below w.heap.size w w15) := A14.out.trans (hbb.mono (by omega))
  have D15 : Hid (Below w3.heap.size w3 w15) := D14.out.trans (hbb.mono (by omega))
  have T15 : Hid (Keep w5.heap.size w6.heap.size w6 w15) := T14.out.trans (Keep.of hbb (by omega))
  have U15 : Hid (Keep w4.heap.size w5.heap.size w12 w15) := U14.out.trans (Keep.of hbb (by omega))
  clear hoo hbb
  obtain ⟨w16, hwd⟩ : ∃ W, W = w15.alloc (.cells #[.int .i64 code, .slice hao hk hcap] 25) := ⟨_, rfl⟩
  have hbb : Below w15.heap.size w15 w16 := by rw [hwd]; exact (Below.refl _ _).alloc (Nat.le_refl _) _
  have HWD : Hid (w16 = w15.alloc (.cells #[.int .i64 code, .slice hao hk hcap] 25)) := hwd
  clear hwd
  have OH2 : Hid (OutR w16 code (.slice hao hk hcap) n0 (invOut F0 n0)) := OH.out.later hbb
  have z16 := hbb.size
  have A16 : Hid (Below w.heap.size w w16) := A15.out.trans (hbb.mono (by omega))
  have D16 : Hid (Below w3.heap.size w3 w16) := D15.out.trans (hbb.mono (by omega))
  have T16 : Hid (Keep w5.heap.size w6.heap.size w6 w16) := T15.out.trans (Keep.of hbb (by omega))
  have U16 : Hid (Keep w4.heap.size w5.heap.size w12 w16) := U15.out.trans (Keep.of hbb (by omega))
  clear hbb OH
  have lS0 : (w15.alloc (.cells #[.int .i64 code, .slice hao hk hcap] 25)).cell? ⟨w2.heap.size, 0, none⟩ = some (.int .i64 code) := by rw [← HWD.out]; exact (BS.out.later D16.out (by omega)).c0
  have lS1 : (w15.alloc (.cells #[.int .i64 code, .slice hao hk hcap] 25)).cell? ⟨w2.heap.size, 1, none⟩ = some (.slice sao sk scap) := by rw [← HWD.out]; exact (BS.out.later D16.out (by omega)).c1
  go_wp2_with fail
  rw [← HWD.out]
  refine (eqR_any OH2.out (O4.out.later D16.out) HDIM.out).mono ?_
  rintro e w17 ⟨rfl, hbb⟩
  clear lS0 lS1
  have z17 := hbb.size
  have A17 : Hid (Below w.heap.size w w17) := A16.out.trans (hbb.mono (by omega))
  have D17 : Hid (Below w3.heap.size w3 w17) := D16.out.trans (hbb.mono (by omega))
  have T17 : Hid (Keep w5.heap.size w6.heap.size w6 w17) := T16.out.trans (Keep.of hbb (by omega))
  have U17 : Hid (Keep w4.heap.size w5.heap.size w12 w17) := U16.out.trans (Keep.of hbb (by omega))
  clear hbb
  have MK2 : Hid (MkdR w4.heap.size w5.heap.size w17 code (.slice gao gk gcap) n0 r) := MK.out.keep U17.out
  have lG0 : w17.cell? ⟨w5.heap.size, 0, none⟩ = some (.int .i64 code) := (BG.out.keep T17.out (by omega) (by omega)).c0
  have lG1 : w17.cell? ⟨w5.heap.size, 1, none⟩ = some (.slice gao gk gcap) := (BG.out.keep T17.out (by omega) (by omega)).c1
  go_wp2_with fail
  refine (heldR_any MK2.out HDIM.out (by omega)).mono ?_
  rintro e w18 ⟨rfl, hbb⟩
  have hend : Hid (Below w.heap.size w w18) := A17.out.trans (hbb.mono (by omega))
  clear lG0 lG1 hbb
  go_wp2
  go_ret
  exact ⟨rfl, hend.out⟩

set_option maxRecDepth 100000 in
theorem lifted (os : Os) (started : os.Started) (H : Type) (enc : TypeId × Value → H) :
    ReturnsInHanded {} Try.checked os 3 .any (Rows.fnExactInvRowsSpec.pre6 enc Try.prog Try.f3 Rows.fnExactInvRowsRow.domain false) (Rows.fnExactInvRowsSpec.post enc Try.prog Try.f3 false true false false) := by
  refine returnsInHanded_of_change (C := Try.checked) own started (by kernel_rfl) Try.func3
    (ChangeSpec.witness6 (enc := enc) (C := Try.checked) false ⟨#[], #[.slice none 0 0], []⟩ 8 (by kernel_rfl) (by kernel_rfl) (by kernel_rfl) (by kernel_rfl)) ?_
  intro W base args ds gs before hval0 hW hcnd _
  have hval : ∀ (j : Nat) t v, Try.f3.params[j]? = some t → args[j]? = some v → Value.okWide Try.prog W .any base t v := hval0
  have hW' := hW
  obtain ⟨p, q, hA0, hV, rfl, hfz, hnd⟩ := hW
  have hA : DataW.TrodAll enc Try.prog W 0 (fun _ => true) true Try.f3.params.toList args.toList ds p := hA0
  rw [Try.params3] at hA hval
  obtain ⟨v0, vs0, d0, ds0, p0, q0, hargs, rfl, rfl, h0, r0⟩ := trodAll_cons hA
  obtain ⟨rfl, rfl, rfl⟩ := trodAll_nil r0
  obtain rfl : args = #[v0] := by cases args; simp_all
  obtain ⟨rfl, rfl⟩ := trodVars_none hV
  have k0 := h0
  have lt0 : ∀ x ∈ p0, x.block < W.heap.size := by obtain ⟨m, hm⟩ := k0; exact DataW.trod_lt m _ _ _ hm
  obtain ⟨n0, L0, F0, R0, nb0, lb0⟩ := open_mat (hval 0 22 v0 rfl rfl) h0
  clear hA0 hval0
  refine (walk R0 nb0 lb0  ).mono fun e W' ⟨he, bel⟩ => ?_
  subst he
  exact ⟨_, rfl, _, _, _, [], _, [], hW', trodAll_mk1 (shut_bool Try.underlying4 _), (trodAll_cons_mk (Below.trod laidOut (by kernel_rfl) (of_decide_eq_true (by kernel_rfl)) k0 bel lt0) trodAll_mk0), rfl, bel.frame _, fun h => by cases h⟩

theorem over : Rows.fnExactInvRowsRow.holds Try.pinned (OpenSpec.ofChange Rows.fnExactInvRowsSpec) :=
  OpenClaim.holds_of_wide 3 Try.f3 rfl rfl rfl rfl rfl rfl rfl ⟨rfl, rfl, rfl, rfl, rfl⟩ rfl rfl rfl rfl rfl (by kernel_rfl) Try.func3 (by kernel_rfl)
    (of_decide_eq_true (by kernel_rfl)) (by unfold Func.isWrapper; first | (rw [if_pos (by decide +kernel)]; kernel_rfl) | (rw [if_neg (by decide +kernel)]; exact ⟨rfl, rfl⟩))
    (fun os started H enc _ => lifted os started H enc)
end Go.Proofs.Ytboppklcmdfphaa.LawInvRows
namespace Go.Proofs.Ytboppklcmdfphaa
theorem invRows_holds : Rows.FnExactInvRowsSaid := LawInvRows.over
#print axioms invRows_holds
end Go.Proofs.Ytboppklcmdfphaa
