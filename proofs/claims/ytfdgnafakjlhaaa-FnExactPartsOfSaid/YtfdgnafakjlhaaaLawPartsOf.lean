/- At every list of plain surfaces, whatever stands in them, the program's PartsOf answers as the specification, in memory of its own that neither the argument's nor a second call's marks reach, where the law's own bound on its length does not answer first; nothing that was there is changed. -/
import Derived.Test.YtfdgnafakjlhaaaPo
import Derived.Test.YtfdgnafakjlhaaaPc
import Derived.Test.YtfdgnafakjlhaaaPg
import Derived.Test.YtfdgnafakjlhaaaSs
import Derived.Test.YtfdgnafakjlhaaaSi
import Derived.Handy
import Derived.Deep.RegionHeld3
import Derived.Deep.DeepCutAuto
namespace Go.Proofs.Ytfdgnafakjlhaaa.LawPartsOf
open Go.ChangeShapes Go.WideShapes Go.ChangeAt Go.RowKit Go.Joins
set_option linter.unusedVariables false

set_option maxRecDepth 100000 in
set_option maxHeartbeats 3200000 in
theorem walk {w : World} {v : Value} {n : Nat} {F : Nat → Ps} (h : RdV w v n 11 (fun i j => pcell (F i) j)) (hn : n ≤ 9223372036854775807) :
    Calls Try.prog 7 #[v] w fun e w' => e = .returned (.bool true) ∧ Below w.heap.size w w' := by
  obtain ⟨ao, cap, rfl⟩ := h.form
  have H : Hid (RdV w (.slice ao n cap) n 11 (fun i j => pcell (F i) j)) := h
  clear h
  have HZ : Hid (∀ W, Calls Try.prog 24 #[.slice ao n cap, .int .i64 1048576] W fun e w' => e = .returned (.int .i64 (if 1048576 < n then -1 else 1048576 - n)) ∧ W = w') := fun W => szPss_any ao n cap W hn
  go_enter Try.func7, Try.ntmps7
  by_cases hb : 1048576 < n
  · rw [if_pos hb] at HZ
    go_wp2_with (go_at_call 24; refine (HZ.out _).mono ?_; rintro e w' ⟨rfl, rfl⟩)
    go_ret
    exact ⟨rfl, Below.refl _ _⟩
  rw [if_neg hb] at HZ
  have hn2 : n ≤ 1048576 := by omega
  have hn3 : n ≤ 1000000000 := by omega
  have hn5 : n ≤ 1000000000000 := by omega
  have hnI : ¬ ((1048576 : Int) - n < 0) := by omega
  have hp : pm F n ≤ 1000 := Nat.le_trans (pm_small F n) (by omega)
  go_wp2_with (go_at_call 24; refine (HZ.out _).mono ?_; rintro e w' ⟨rfl, rfl⟩)
  clear HZ
  refine (toPss_any H.out hn3).mono ?_
  rintro e w1 ⟨rfl, s1, b1⟩
  have BL : Hid (Below w.heap.size w w1) := b1
  have XT : Hid (SegV w1 w.heap.size 45 n 11 (fun i j => pcell (F i) j)) := s1
  clear s1 b1
  go_wp2_with fail
  refine (spartsOf w.heap.size 0 n n F w1 hn3 (fun i hi j hj => by have h := XT.out.cell hi hj; simpa using h)).mono ?_
  rintro e w2 ⟨vs, rfl, r2, r3⟩
  clear XT
  replace BL : Hid (Below w.heap.size w w2) := BL.out.trans (r3.mono BL.out.size)
  have LS : Hid (OwL w2 w1.heap.size vs (pm F n) (pF F)) := r2.own
  clear r2 r3
  obtain ⟨aS, cs, rfl⟩ := LS.out.form
  generalize w1.heap.size = L1 at LS
  have HV0 : Hid (Up (.slice aS (pm F n) cs) w2.heap.size) := LS.out.up
  go_wp2_with fail
  obtain ⟨x2, hx⟩ : ∃ X, X = w2.alloc (.cells #[.int .i64 (pcode F n), .slice aS (pm F n) cs] 48) := ⟨_, rfl⟩
  rw [← hx]
  obtain ⟨ks, hk⟩ : ∃ k, k = w2.heap.size := ⟨_, rfl⟩
  rw [← hk]
  have hal : Below w2.heap.size w2 x2 := by rw [hx]; exact (Below.refl _ _).alloc (Nat.le_refl _) _
  replace BL : Hid (Below w.heap.size w x2) := BL.out.trans (hal.mono BL.out.size)
  replace LS : Hid (OwL x2 L1 (.slice aS (pm F n) cs) (pm F n) (pF F)) := LS.out.below hal
  have BS : Hid (Blk x2 ks #[.int .i64 (pcode F n), .slice aS (pm F n) cs] 48) := by rw [hx, hk]; exact Blk.new rfl
  have HV : Hid (Up (.slice aS (pm F n) cs) x2.heap.size ∧ ks < x2.heap.size ∧ w.heap.size ≤ x2.heap.size) := ⟨fun g n c e => Nat.lt_of_lt_of_le (HV0.out g n c e) hal.size, BS.out.lt, BL.out.size⟩
  clear hx hk hal HV0
  refine (toPss_any (H.out.later BL.out) hn3).mono ?_
  rintro e w3 ⟨rfl, s3, b3⟩
  replace BL : Hid (Below w.heap.size w w3) := BL.out.trans (b3.mono BL.out.size)
  replace LS : Hid (OwL w3 L1 (.slice aS (pm F n) cs) (pm F n) (pF F)) := LS.out.below b3
  replace BS : Hid (Blk w3 ks #[.int .i64 (pcode F n), .slice aS (pm F n) cs] 48) := BS.out.old b3
  generalize x2.heap.size = kx at HV s3 ⊢
  have X0 : Hid (SegV w3 kx 45 n 11 (fun i j => pcell (F i) j)) := s3
  clear s3 b3
  go_wp2_with fail
  refine (ipartsOf kx 0 n n F w3 hn3 (fun i hi j hj => by have h := X0.out.cell hi hj; simpa using h)).mono ?_
  rintro e w4 ⟨vi, rfl, r2, r3⟩
  have HL3 : Hid (kx < w3.heap.size ∧ w3.heap.size ≤ w4.heap.size) := ⟨X0.out.lt, r3.size⟩
  replace BL : Hid (Below w.heap.size w w4) := BL.out.trans (r3.mono BL.out.size)
  replace LS : Hid (OwL w4 L1 (.slice aS (pm F n) cs) (pm F n) (pF F)) := LS.out.below r3
  replace BS : Hid (Blk w4 ks #[.int .i64 (pcode F n), .slice aS (pm F n) cs] 48) := BS.out.old r3
  replace X0 : Hid (SegV w4 kx 45 n 11 (fun i j => pcell (F i) j)) := X0.out.below r3
  have LI : Hid (OwL w4 w3.heap.size vi (pm F n) (pF F)) := r2.own
  clear r2 r3
  obtain ⟨ai, ci, rfl⟩ := LI.out.form
  generalize w3.heap.size = L3 at LI HL3
  have HVi0 : Hid (Up (.slice ai (pm F n) ci) w4.heap.size) := LI.out.up
  go_upto_region 8 with fail
  obtain ⟨x4, hx⟩ : ∃ X, X = w4.alloc (.cells #[.int .i64 (pcode F n), .slice ai (pm F n) ci] 48) := ⟨_, rfl⟩
  rw [← hx]
  obtain ⟨ki, hk⟩ : ∃ k, k = w4.heap.size := ⟨_, rfl⟩
  rw [← hk]
  have hal : Below w4.heap.size w4 x4 := by rw [hx]; exact (Below.refl _ _).alloc (Nat.le_refl _) _
  replace BL : Hid (Below w.heap.size w x4) := BL.out.trans (hal.mono BL.out.size)
  replace LS : Hid (OwL x4 L1 (.slice aS (pm F n) cs) (pm F n) (pF F)) := LS.out.below hal
  replace BS : Hid (Blk x4 ks #[.int .i64 (pcode F n), .slice aS (pm F n) cs] 48) := BS.out.old hal
  replace X0 : Hid (SegV x4 kx 45 n 11 (fun i j => pcell (F i) j)) := X0.out.below hal
  replace LI : Hid (OwL x4 L3 (.slice ai (pm F n) ci) (pm F n) (pF F)) := LI.out.below hal
  have BI : Hid (Blk x4 ki #[.int .i64 (pcode F n), .slice ai (pm F n) ci] 48) := by rw [hx, hk]; exact Blk.new rfl
  have HVi : Hid (Up (.slice ai (pm F n) ci) ki ∧ kx < L3 ∧ L3 ≤ ki) := by rw [hk]; exact ⟨HVi0.out, HL3.out⟩
  clear hx hk hal HVi0 HL3
  have BS0 := BS.out.cell (j := 0) rfl
  have BS1 := BS.out.cell (j := 1) rfl
  have BI0 := BI.out.cell (j := 0) rfl
  have BI1 := BI.out.cell (j := 1) rfl
  go_wp2_with fail
  refine (eqList _ LI.out LS.out hp).mono ?_
  rintro e w5 ⟨rfl, hb9⟩
  clear BS0 BS1 BI0 BI1
  replace BL : Hid (Below w.heap.size w w5) := BL.out.trans (hb9.mono BL.out.size)
  replace LS : Hid (OwL w5 L1 (.slice aS (pm F n) cs) (pm F n) (pF F)) := LS.out.below hb9
  replace BS : Hid (Blk w5 ks #[.int .i64 (pcode F n), .slice aS (pm F n) cs] 48) := BS.out.old hb9
  replace X0 : Hid (SegV w5 kx 45 n 11 (fun i j => pcell (F i) j)) := X0.out.below hb9
  replace LI : Hid (OwL w5 L3 (.slice ai (pm F n) ci) (pm F n) (pF F)) := LI.out.below hb9
  replace BI : Hid (Blk w5 ki #[.int .i64 (pcode F n), .slice ai (pm F n) ci] 48) := BI.out.old hb9
  clear hb9
  go_wp2_with fail
  refine (toPss_any (H.out.later BL.out) hn3).mono ?_
  rintro e w6 ⟨rfl, s6, b6⟩
  replace BL : Hid (Below w.heap.size w w6) := BL.out.trans (b6.mono BL.out.size)
  replace LS : Hid (OwL w6 L1 (.slice aS (pm F n) cs) (pm F n) (pF F)) := LS.out.below b6
  replace BS : Hid (Blk w6 ks #[.int .i64 (pcode F n), .slice aS (pm F n) cs] 48) := BS.out.old b6
  replace X0 : Hid (SegV w6 kx 45 n 11 (fun i j => pcell (F i) j)) := X0.out.below b6
  replace LI : Hid (OwL w6 L3 (.slice ai (pm F n) ci) (pm F n) (pF F)) := LI.out.below b6
  replace BI : Hid (Blk w6 ki #[.int .i64 (pcode F n), .slice ai (pm F n) ci] 48) := BI.out.old b6
  have XT : Hid (SegV w6 w5.heap.size 45 n 11 (fun i j => pcell (F i) j)) := s6
  clear s6 b6
  go_wp2_with fail
  refine (eqPss_same kx n w5.heap.size n n F w6 hn5 X0.out XT.out).mono ?_
  rintro e w7 ⟨rfl, b7⟩
  clear XT
  replace BL : Hid (Below w.heap.size w w7) := BL.out.trans (b7.mono BL.out.size)
  replace LS : Hid (OwL w7 L1 (.slice aS (pm F n) cs) (pm F n) (pF F)) := LS.out.below b7
  replace BS : Hid (Blk w7 ks #[.int .i64 (pcode F n), .slice aS (pm F n) cs] 48) := BS.out.old b7
  replace X0 : Hid (SegV w7 kx 45 n 11 (fun i j => pcell (F i) j)) := X0.out.below b7
  replace LI : Hid (OwL w7 L3 (.slice ai (pm F n) ci) (pm F n) (pF F)) := LI.out.below b7
  replace BI : Hid (Blk w7 ki #[.int .i64 (pcode F n), .slice ai (pm F n) ci] 48) := BI.out.old b7
  clear b7
  go_wp2_with fail
  refine (markPs_some kx n n 1 _ w.heap.size w w7 hn2 (by omega) X0.out BL.out HV.out.2.2).mono ?_
  rintro e w8 ⟨rfl, _, b8, o8, z8⟩
  clear X0
  replace BL : Hid (Below w.heap.size w w8) := b8
  replace LS : Hid (OwL w8 L1 (.slice aS (pm F n) cs) (pm F n) (pF F)) := LS.out.other o8 (Or.inl HV.out.1)
  replace BS : Hid (Blk w8 ks #[.int .i64 (pcode F n), .slice aS (pm F n) cs] 48) := (o8 ks (Nat.ne_of_lt HV.out.2.1)).trans BS.out
  replace LI : Hid (OwL w8 L3 (.slice ai (pm F n) ci) (pm F n) (pF F)) := LI.out.other o8 (Or.inr HVi.out.2.1)
  replace BI : Hid (Blk w8 ki #[.int .i64 (pcode F n), .slice ai (pm F n) ci] 48) := (o8 ki (by have := HVi.out.2; omega)).trans BI.out
  clear b8 o8 z8
  have hm0 : ¬ (mK 1 n < 0) := by unfold mK; omega
  have hm1 : 0 ≤ mK 1 n := by unfold mK; omega
  have hm2 : mK 1 n ≤ 50000000 := by unfold mK; omega
  generalize mK 1 n = M at hm0 hm1 hm2 ⊢
  have BS0 := BS.out.cell (j := 0) rfl
  have BS1 := BS.out.cell (j := 1) rfl
  have BI0 := BI.out.cell (j := 0) rfl
  have BI1 := BI.out.cell (j := 1) rfl
  go_wp2_with fail
  refine (eqList _ LI.out LS.out hp).mono ?_
  rintro e w9 ⟨rfl, hb9⟩
  clear BS0 BS1 BI0 BI1
  replace BL : Hid (Below w.heap.size w w9) := BL.out.trans (hb9.mono BL.out.size)
  replace LS : Hid (OwL w9 L1 (.slice aS (pm F n) cs) (pm F n) (pF F)) := LS.out.below hb9
  replace BS : Hid (Blk w9 ks #[.int .i64 (pcode F n), .slice aS (pm F n) cs] 48) := BS.out.old hb9
  replace LI : Hid (OwL w9 L3 (.slice ai (pm F n) ci) (pm F n) (pF F)) := LI.out.below hb9
  replace BI : Hid (Blk w9 ki #[.int .i64 (pcode F n), .slice ai (pm F n) ci] 48) := BI.out.old hb9
  clear hb9
  have BI0 := BI.out.cell (j := 0) rfl
  have BI1 := BI.out.cell (j := 1) rfl
  go_wp2_with fail
  refine (markList _ LI.out (Nat.le_trans HVi.out.2.2 (Nat.le_of_lt BI.out.lt)) hp).mono ?_
  rintro e w10 ⟨rfl, s10, b10, o10⟩
  clear BI0 BI1
  have bkx : Below kx w9 w10 := b10.mono (Nat.le_of_lt HVi.out.2.1)
  replace LS : Hid (OwL w10 L1 (.slice aS (pm F n) cs) (pm F n) (pF F)) := LS.out.low HV.out.1 bkx
  replace BS : Hid (Blk w10 ks #[.int .i64 (pcode F n), .slice aS (pm F n) cs] 48) := (bkx.block ks HV.out.2.1).trans BS.out
  replace BI : Hid (Blk w10 ki #[.int .i64 (pcode F n), .slice ai (pm F n) ci] 48) := (o10 ki BI.out.lt HVi.out.1).trans BI.out
  replace BL : Hid (Below w.heap.size w w10) := BL.out.trans (bkx.mono HV.out.2.2)
  replace LI : Hid (OwL w10 L3 (.slice ai (pm F n) ci) (pm F n) (fun i => mpt (nK 1 i))) := s10
  clear s10 b10 o10 bkx
  have hk0 : ¬ (nK 1 (pm F n) < 0) := by unfold nK; omega
  have hk1 : 0 ≤ nK 1 (pm F n) := by unfold nK; omega
  have hk2 : nK 1 (pm F n) ≤ 50000000 := by unfold nK; omega
  generalize hmk : nK 1 (pm F n) = M2 at hk0 hk1 hk2 ⊢
  have HM : Hid (nK 1 (pm F n) = M2) := hmk
  clear hmk
  have BI0 := BI.out.cell (j := 0) rfl
  have BI1 := BI.out.cell (j := 1) rfl
  go_wp2_with fail
  refine (heldList _ LI.out hp).mono ?_
  rintro e w11 ⟨rfl, hb9⟩
  rw [HM.out]
  clear BI0 BI1
  replace BL : Hid (Below w.heap.size w w11) := BL.out.trans (hb9.mono BL.out.size)
  replace LS : Hid (OwL w11 L1 (.slice aS (pm F n) cs) (pm F n) (pF F)) := LS.out.below hb9
  replace BS : Hid (Blk w11 ks #[.int .i64 (pcode F n), .slice aS (pm F n) cs] 48) := BS.out.old hb9
  replace LI : Hid (OwL w11 L3 (.slice ai (pm F n) ci) (pm F n) (fun i => mpt (nK 1 i))) := LI.out.below hb9
  replace BI : Hid (Blk w11 ki #[.int .i64 (pcode F n), .slice ai (pm F n) ci] 48) := BI.out.old hb9
  clear hb9
  go_wp2_with fail
  refine (toPss_any (H.out.later BL.out) hn3).mono ?_
  rintro e w12 ⟨rfl, s12, b12⟩
  replace BL : Hid (Below w.heap.size w w12) := BL.out.trans (b12.mono BL.out.size)
  replace LS : Hid (OwL w12 L1 (.slice aS (pm F n) cs) (pm F n) (pF F)) := LS.out.below b12
  replace BS : Hid (Blk w12 ks #[.int .i64 (pcode F n), .slice aS (pm F n) cs] 48) := BS.out.old b12
  replace LI : Hid (OwL w12 L3 (.slice ai (pm F n) ci) (pm F n) (fun i => mpt (nK 1 i))) := LI.out.below b12
  replace BI : Hid (Blk w12 ki #[.int .i64 (pcode F n), .slice ai (pm F n) ci] 48) := BI.out.old b12
  have XT : Hid (SegV w12 w11.heap.size 45 n 11 (fun i j => pcell (F i) j)) := s12
  clear s12 b12
  go_wp2_with fail
  refine (ipartsOf w11.heap.size 0 n n F w12 hn3 (fun i hi j hj => by have h := XT.out.cell hi hj; simpa using h)).mono ?_
  rintro e w13 ⟨vh, rfl, r2, r3⟩
  clear XT
  replace BL : Hid (Below w.heap.size w w13) := BL.out.trans (r3.mono BL.out.size)
  replace LS : Hid (OwL w13 L1 (.slice aS (pm F n) cs) (pm F n) (pF F)) := LS.out.below r3
  replace BS : Hid (Blk w13 ks #[.int .i64 (pcode F n), .slice aS (pm F n) cs] 48) := BS.out.old r3
  replace LI : Hid (OwL w13 L3 (.slice ai (pm F n) ci) (pm F n) (fun i => mpt (nK 1 i))) := LI.out.below r3
  replace BI : Hid (Blk w13 ki #[.int .i64 (pcode F n), .slice ai (pm F n) ci] 48) := BI.out.old r3
  have LH : Hid (OwL w13 w12.heap.size vh (pm F n) (pF F)) := r2.own
  clear r2 r3
  obtain ⟨ah, ch, rfl⟩ := LH.out.form
  go_upto_region 25 with fail
  obtain ⟨x13, hx⟩ : ∃ X, X = w13.alloc (.cells #[.int .i64 (pcode F n), .slice ah (pm F n) ch] 48) := ⟨_, rfl⟩
  rw [← hx]
  obtain ⟨kh, hk⟩ : ∃ k, k = w13.heap.size := ⟨_, rfl⟩
  rw [← hk]
  have hal : Below w13.heap.size w13 x13 := by rw [hx]; exact (Below.refl _ _).alloc (Nat.le_refl _) _
  replace BL : Hid (Below w.heap.size w x13) := BL.out.trans (hal.mono BL.out.size)
  replace LS : Hid (OwL x13 L1 (.slice aS (pm F n) cs) (pm F n) (pF F)) := LS.out.below hal
  replace BS : Hid (Blk x13 ks #[.int .i64 (pcode F n), .slice aS (pm F n) cs] 48) := BS.out.old hal
  replace LI : Hid (OwL x13 L3 (.slice ai (pm F n) ci) (pm F n) (fun i => mpt (nK 1 i))) := LI.out.below hal
  replace BI : Hid (Blk x13 ki #[.int .i64 (pcode F n), .slice ai (pm F n) ci] 48) := BI.out.old hal
  replace LH : Hid (OwL x13 w12.heap.size (.slice ah (pm F n) ch) (pm F n) (pF F)) := LH.out.below hal
  have BH : Hid (Blk x13 kh #[.int .i64 (pcode F n), .slice ah (pm F n) ch] 48) := by rw [hx, hk]; exact Blk.new rfl
  clear hx hk hal
  have BS0 := BS.out.cell (j := 0) rfl
  have BS1 := BS.out.cell (j := 1) rfl
  have BH0 := BH.out.cell (j := 0) rfl
  have BH1 := BH.out.cell (j := 1) rfl
  go_wp2_with fail
  refine (eqList _ LH.out LS.out hp).mono ?_
  rintro e w14 ⟨rfl, hb9⟩
  clear BS0 BS1 BH0 BH1
  replace BL : Hid (Below w.heap.size w w14) := BL.out.trans (hb9.mono BL.out.size)
  replace LS : Hid (OwL w14 L1 (.slice aS (pm F n) cs) (pm F n) (pF F)) := LS.out.below hb9
  replace BS : Hid (Blk w14 ks #[.int .i64 (pcode F n), .slice aS (pm F n) cs] 48) := BS.out.old hb9
  replace LI : Hid (OwL w14 L3 (.slice ai (pm F n) ci) (pm F n) (fun i => mpt (nK 1 i))) := LI.out.below hb9
  replace BI : Hid (Blk w14 ki #[.int .i64 (pcode F n), .slice ai (pm F n) ci] 48) := BI.out.old hb9
  replace LH : Hid (OwL w14 w12.heap.size (.slice ah (pm F n) ch) (pm F n) (pF F)) := LH.out.below hb9
  replace BH : Hid (Blk w14 kh #[.int .i64 (pcode F n), .slice ah (pm F n) ch] 48) := BH.out.old hb9
  clear hb9
  have BI0 := BI.out.cell (j := 0) rfl
  have BI1 := BI.out.cell (j := 1) rfl
  go_wp2_with fail
  refine (heldList _ LI.out hp).mono ?_
  rintro e w15 ⟨rfl, hb9⟩
  rw [HM.out]
  clear BI0 BI1
  replace BL : Hid (Below w.heap.size w w15) := BL.out.trans (hb9.mono BL.out.size)
  replace LS : Hid (OwL w15 L1 (.slice aS (pm F n) cs) (pm F n) (pF F)) := LS.out.below hb9
  replace BS : Hid (Blk w15 ks #[.int .i64 (pcode F n), .slice aS (pm F n) cs] 48) := BS.out.old hb9
  replace LI : Hid (OwL w15 L3 (.slice ai (pm F n) ci) (pm F n) (fun i => mpt (nK 1 i))) := LI.out.below hb9
  replace BI : Hid (Blk w15 ki #[.int .i64 (pcode F n), .slice ai (pm F n) ci] 48) := BI.out.old hb9
  replace LH : Hid (OwL w15 w12.heap.size (.slice ah (pm F n) ch) (pm F n) (pF F)) := LH.out.below hb9
  replace BH : Hid (Blk w15 kh #[.int .i64 (pcode F n), .slice ah (pm F n) ch] 48) := BH.out.old hb9
  clear hb9
  go_wp2
  go_ret
  exact ⟨rfl, BL.out⟩


set_option maxRecDepth 100000 in
theorem lifted (os : Os) (started : os.Started) (H : Type) (enc : TypeId × Value → H) :
    ReturnsInHanded {} Try.checked os 7 .any (Rows.fnExactPartsOfSpec.pre6 enc Try.prog Try.f7 Rows.fnExactPartsOfRow.domain false) (Rows.fnExactPartsOfSpec.post enc Try.prog Try.f7 false true false false) := by
  refine returnsInHanded_of_change (C := Try.checked) own started (by kernel_rfl) Try.func7
    (ChangeSpec.witness6 (enc := enc) (C := Try.checked) false ⟨#[], #[.slice none 0 0], []⟩ 8 (by kernel_rfl) (by kernel_rfl) (by kernel_rfl) (by kernel_rfl)) ?_
  intro W base args ds gs before hval0 hW hcnd _
  have hval : ∀ (j : Nat) t v, Try.f7.params[j]? = some t → args[j]? = some v → Value.okWide Try.prog W .any base t v := hval0
  have hW' := hW
  obtain ⟨p, q, hA0, hV, rfl, hfz, hnd⟩ := hW
  have hA : DataW.TrodAll enc Try.prog W 0 (fun _ => true) true Try.f7.params.toList args.toList ds p := hA0
  rw [Try.params7] at hA hval
  obtain ⟨v0, vs0, d0, ds0, p0, q0, hargs, rfl, rfl, h0, r0⟩ := trodAll_cons hA
  obtain ⟨rfl, rfl, rfl⟩ := trodAll_nil r0
  obtain rfl : args = #[v0] := by cases args; simp_all
  obtain ⟨rfl, rfl⟩ := trodVars_none hV
  have k0 := h0
  have lt0 : ∀ x ∈ p0, x.block < W.heap.size := by obtain ⟨m, hm⟩ := k0; exact DataW.trod_lt m _ _ _ hm
  obtain ⟨n0, F0, R0, nb0⟩ := open_ps (hval 0 66 v0 rfl rfl) h0
  clear hA0 hval0
  refine (walk R0 nb0).mono fun e W' ⟨he, bel⟩ => ?_
  subst he
  exact ⟨_, rfl, _, _, _, [], _, [], hW', trodAll_mk1 (shut_bool Try.underlying4 _), (trodAll_cons_mk (Below.trod laidOut (by kernel_rfl) (of_decide_eq_true (by kernel_rfl)) k0 bel lt0) trodAll_mk0), rfl, bel.frame _, fun h => by cases h⟩

theorem over : Rows.fnExactPartsOfRow.holds Try.pinned (OpenSpec.ofChange Rows.fnExactPartsOfSpec) :=
  OpenClaim.holds_of_wide 7 Try.f7 rfl rfl rfl rfl rfl rfl rfl ⟨rfl, rfl, rfl, rfl, rfl⟩ rfl rfl rfl rfl rfl (by kernel_rfl) Try.func7 (by kernel_rfl)
    (of_decide_eq_true (by kernel_rfl)) (by unfold Func.isWrapper; first | (rw [if_pos (by decide +kernel)]; kernel_rfl) | (rw [if_neg (by decide +kernel)]; exact ⟨rfl, rfl⟩))
    (fun os started H enc _ => lifted os started H enc)
end Go.Proofs.Ytfdgnafakjlhaaa.LawPartsOf
namespace Go.Proofs.Ytfdgnafakjlhaaa
theorem partsOf_holds : Rows.FnExactPartsOfSaid := LawPartsOf.over
#print axioms partsOf_holds
end Go.Proofs.Ytfdgnafakjlhaaa
