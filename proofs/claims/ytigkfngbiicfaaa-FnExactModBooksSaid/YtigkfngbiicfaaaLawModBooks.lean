/- At every plate and media the program's ModBooks answers as the specification, code and list; what it answers owns its memory; nothing that was there is changed. -/
import Derived.Test.YtigkfngbiicfaaaOpen
import Derived.Test.YtigkfngbiicfaaaBq
import Derived.Handy
import Derived.OpenShut
namespace Go.Proofs.Ytigkfngbiicfaaa.LawModBooks
open Go.ChangeShapes Go.WideShapes Go.ChangeAt Go.RowKit Go.Joins
set_option linter.unusedVariables false

/-- Block p is a plate of the law's own type. -/
def Pq (p : Nat) (W : World) (A B C D : Int) : Prop := W.heap[p]? = some (.cells #[.int .i64 A, .int .i64 B, .int .i64 C, .int .i64 D] 45 (0, 0))
theorem Pq.c0 {p : Nat} {W : World} {A B C D : Int} (h : Pq p W A B C D) : W.cell? ⟨p, 0, none⟩ = some (.int .i64 A) := by unfold Pq at h; simp [World.cell?, h]
theorem Pq.c1 {p : Nat} {W : World} {A B C D : Int} (h : Pq p W A B C D) : W.cell? ⟨p, 1, none⟩ = some (.int .i64 B) := by unfold Pq at h; simp [World.cell?, h]
theorem Pq.c2 {p : Nat} {W : World} {A B C D : Int} (h : Pq p W A B C D) : W.cell? ⟨p, 2, none⟩ = some (.int .i64 C) := by unfold Pq at h; simp [World.cell?, h]
theorem Pq.c3 {p : Nat} {W : World} {A B C D : Int} (h : Pq p W A B C D) : W.cell? ⟨p, 3, none⟩ = some (.int .i64 D) := by unfold Pq at h; simp [World.cell?, h]
theorem toPlate_any (A B C D : Int) (w : World) : Calls Try.prog 33 #[.agg #[.int .i64 A, .int .i64 B, .int .i64 C, .int .i64 D]] w fun e w' => e = .returned (.agg #[.int .i64 A, .int .i64 B, .int .i64 C, .int .i64 D]) ∧ Below w.heap.size w w' := by
  go_enter Try.func33, Try.ntmps33
  go_wp2
  refine bodyPost_ret (v := .agg #[.int .i64 A, .int .i64 B, .int .i64 C, .int .i64 D]) (by simp [results, Try.results33, go_sem]) rfl ⟨rfl, ?_⟩
  go_grown
theorem bcode_dim {A B C D x y : Int} : 4 ≤ 1000000 := by omega
theorem cells45 : Try.prog.cellsOf 45 = 4 := by kernel_rfl
theorem cells2' : Try.prog.cellsOf 2 = 1 := by kernel_rfl
theorem array4 {c : Array Value} (h : c.size = 4) : ∃ c0 c1 c2 c3, c = #[c0, c1, c2, c3] := by
  obtain ⟨l⟩ := c
  match l, h with
  | [c0, c1, c2, c3], _ => exact ⟨c0, c1, c2, c3, rfl⟩
set_option maxRecDepth 100000 in
theorem open_mp {H : Type} {enc : TypeId × Value → H} {W : World} {base : Nat} {v : Value} {d : DataW H} {p : List MemPlace} (hv : Value.okWide Try.prog W .any base 45 v)
    (h : DataW.Trod enc Try.prog W 0 (fun _ => true) true 45 v d p) : ∃ A B C D : Int, v = .agg #[.int .i64 A, .int .i64 B, .int .i64 C, .int .i64 D] := by
  obtain ⟨cs, rfl, hsz⟩ := okWide_struct Try.underlying45 hv
  obtain ⟨c0, c1, c2, c3, rfl⟩ := array4 (hsz.trans cells45)
  obtain ⟨fuel, hf⟩ := h
  have hf' : DataW.trod enc Try.prog W 0 (fun _ => true) true fuel 45 [c0, c1, c2, c3] = some (d, p) := by simpa [Value.cells] using hf
  obtain ⟨y0, y1, y2, y3, n, _, _, h0, h1, h2, h3⟩ := trod_struct4 Try.underlying45 hf'
  simp [cells2'] at h0 h1 h2 h3
  obtain ⟨a, e0, _, _⟩ := DataW.trod_int Try.underlying2 h0
  obtain ⟨b, e1, _, _⟩ := DataW.trod_int Try.underlying2 h1
  obtain ⟨c, e2, _, _⟩ := DataW.trod_int Try.underlying2 h2
  obtain ⟨f, e3, _, _⟩ := DataW.trod_int Try.underlying2 h3
  simp at e0 e1 e2 e3
  exact ⟨a, b, c, f, by rw [e0, e1, e2, e3]⟩
set_option maxHeartbeats 4000000 in
set_option maxRecDepth 10000 in
theorem walk (A B C D x y : Int) (w : World) :
    Calls Try.prog 9 #[.agg #[.int .i64 A, .int .i64 B, .int .i64 C, .int .i64 D], .int .i64 x, .int .i64 y] w fun e w' => e = .returned (.bool true) ∧ Below w.heap.size w w' := by
  go_enter Try.func9, Try.ntmps9
  go_wp2_with fail
  obtain ⟨w1, hw1⟩ : ∃ W, W = w.alloc (.cells #[.int .i64 A, .int .i64 B, .int .i64 C, .int .i64 D] 45) := ⟨_, rfl⟩
  rw [← hw1]
  have P1 : Hid (Pq w.heap.size w1 A B C D) := by rw [hw1]; exact heap_alloc_new _ _
  have A1 : Hid (Below w.heap.size w w1) := by rw [hw1]; exact (Below.refl _ _).alloc (Nat.le_refl _) _
  have Z1 : Hid (w.heap.size < w1.heap.size) := by rw [hw1]; show w.heap.size < _; simp
  have HDIM : Hid (Wv.bcode A B C D x y = 0 → 4 ≤ 1000000) := fun _ => by omega
  obtain ⟨code, hcode⟩ : ∃ c, c = Wv.bcode A B C D x y := ⟨_, rfl⟩
  have S : Hid (∀ w, Calls Try.prog 32 #[.agg #[.int .i64 A, .int .i64 B, .int .i64 C, .int .i64 D], .int .i64 x, .int .i64 y] w fun e w' => ∃ v, e = .returned (.agg #[.int .i64 code, v]) ∧ OutL w' code v 4 (Wv.bl A B C D x y) ∧ Below w.heap.size w w') := by rw [hcode]; exact sBooks_any A B C D x y
  have I : Hid (∀ w, Calls Try.prog 34 #[.agg #[.int .i64 A, .int .i64 B, .int .i64 C, .int .i64 D], .int .i64 x, .int .i64 y] w fun e w' => ∃ v, e = .returned (.agg #[.int .i64 code, v]) ∧ OwnL w.heap.size w'.heap.size w' code v 4 (Wv.bl A B C D x y) ∧ Below w.heap.size w w') := by rw [hcode]; exact iBooks_any A B C D x y
  rw [← hcode] at HDIM
  clear hw1 hcode
  have a0 := P1.out.c0
  have a1 := P1.out.c1
  have a2 := P1.out.c2
  have a3 := P1.out.c3
  refine (toPlate_any A B C D _).mono ?_
  rintro e w2 ⟨rfl, hbb⟩
  have z2 := hbb.size
  have A2 : Hid (Below w.heap.size w w2) := A1.out.trans (hbb.mono A1.out.size)
  have Z2 : Hid (w.heap.size < w2.heap.size) := Nat.lt_of_lt_of_le Z1.out hbb.size
  have P2 : Hid (Pq w.heap.size w2 A B C D) := (hbb.block _ Z1.out).trans P1.out
  clear hbb a0 a1 a2 a3
  go_wp2_with fail
  refine (S.out _).mono ?_
  rintro e w3 ⟨sv, rfl, hoo, hbb⟩
  obtain ⟨sao, sk, scap, esv⟩ : ∃ ao k cap, sv = .slice ao k cap := OutL.shape hoo
  subst esv
  have OS : Hid (OutL w3 code (.slice sao sk scap) 4 (Wv.bl A B C D x y)) := hoo
  have z3 := hbb.size
  have A3 : Hid (Below w.heap.size w w3) := A2.out.trans (hbb.mono A2.out.size)
  have Z3 : Hid (w.heap.size < w3.heap.size) := Nat.lt_of_lt_of_le Z2.out hbb.size
  have P3 : Hid (Pq w.heap.size w3 A B C D) := (hbb.block _ Z2.out).trans P2.out
  clear hoo hbb
  have a0 := P3.out.c0
  have a1 := P3.out.c1
  have a2 := P3.out.c2
  have a3 := P3.out.c3
  obtain ⟨w4, hwd⟩ : ∃ W, W = w3.alloc (.cells #[.int .i64 code, .slice sao sk scap] 24) := ⟨_, rfl⟩
  have BS : Hid (V2 w4 w3.heap.size 24 (.int .i64 code) (.slice sao sk scap)) := by rw [hwd]; exact V2.new _ _ _ _
  have hbb : Below w3.heap.size w3 w4 := by rw [hwd]; exact (Below.refl _ _).alloc (Nat.le_refl _) _
  have ys : w3.heap.size + 1 ≤ w4.heap.size := by rw [hwd]; simp
  have HWE : Hid (w4 = w3.alloc (.cells #[.int .i64 code, .slice sao sk scap] 24)) := hwd
  clear hwd a0 a1 a2 a3
  have O4 : Hid (OutL w4 code (.slice sao sk scap) 4 (Wv.bl A B C D x y)) := OS.out.later hbb
  have z4 := hbb.size
  have A4 : Hid (Below w.heap.size w w4) := A3.out.trans (hbb.mono A3.out.size)
  have Z4 : Hid (w.heap.size < w4.heap.size) := Nat.lt_of_lt_of_le Z3.out hbb.size
  have P4 : Hid (Pq w.heap.size w4 A B C D) := (hbb.block _ Z3.out).trans P3.out
  clear hbb OS
  have D4 : Hid (Below w4.heap.size w4 w4) := Below.refl _ _
  have a0 := P4.out.c0
  have a1 := P4.out.c1
  have a2 := P4.out.c2
  have a3 := P4.out.c3
  rw [HWE.out] at a0 a1 a2 a3
  go_wp2_with fail
  rw [← HWE.out]
  clear HWE
  refine (toPlate_any A B C D _).mono ?_
  rintro e w5 ⟨rfl, hbb⟩
  have z5 := hbb.size
  have A5 : Hid (Below w.heap.size w w5) := A4.out.trans (hbb.mono A4.out.size)
  have Z5 : Hid (w.heap.size < w5.heap.size) := Nat.lt_of_lt_of_le Z4.out hbb.size
  have P5 : Hid (Pq w.heap.size w5 A B C D) := (hbb.block _ Z4.out).trans P4.out
  have D5 : Hid (Below w4.heap.size w4 w5) := D4.out.trans (hbb.mono D4.out.size)
  clear hbb a0 a1 a2 a3
  go_wp2_with fail
  refine (I.out _).mono ?_
  rintro e w6 ⟨gv, rfl, hoo, hbb⟩
  obtain ⟨gao, gk, gcap, egv⟩ : ∃ ao k cap, gv = .slice ao k cap := OutL.shape hoo.rd
  subst egv
  have OG : Hid (OwnL w5.heap.size w6.heap.size w6 code (.slice gao gk gcap) 4 (Wv.bl A B C D x y)) := hoo
  have z6 := hbb.size
  have A6 : Hid (Below w.heap.size w w6) := A5.out.trans (hbb.mono A5.out.size)
  have Z6 : Hid (w.heap.size < w6.heap.size) := Nat.lt_of_lt_of_le Z5.out hbb.size
  have P6 : Hid (Pq w.heap.size w6 A B C D) := (hbb.block _ Z5.out).trans P5.out
  have D6 : Hid (Below w4.heap.size w4 w6) := D5.out.trans (hbb.mono D5.out.size)
  clear hoo hbb
  obtain ⟨w7, hwd⟩ : ∃ W, W = w6.alloc (.cells #[.int .i64 code, .slice gao gk gcap] 24) := ⟨_, rfl⟩
  have BG : Hid (V2 w7 w6.heap.size 24 (.int .i64 code) (.slice gao gk gcap)) := by rw [hwd]; exact V2.new _ _ _ _
  have hbb : Below w6.heap.size w6 w7 := by rw [hwd]; exact (Below.refl _ _).alloc (Nat.le_refl _) _
  have yg : w6.heap.size + 1 ≤ w7.heap.size := by rw [hwd]; simp
  have HWD : Hid (w7 = w6.alloc (.cells #[.int .i64 code, .slice gao gk gcap] 24)) := hwd
  clear hwd
  have O8 : Hid (OwnL w5.heap.size w6.heap.size w7 code (.slice gao gk gcap) 4 (Wv.bl A B C D x y)) := OG.out.keep (Keep.of hbb (Nat.le_refl _))
  have z7 := hbb.size
  have A7 : Hid (Below w.heap.size w w7) := A6.out.trans (hbb.mono A6.out.size)
  have Z7 : Hid (w.heap.size < w7.heap.size) := Nat.lt_of_lt_of_le Z6.out hbb.size
  have P7 : Hid (Pq w.heap.size w7 A B C D) := (hbb.block _ Z6.out).trans P6.out
  have D7 : Hid (Below w4.heap.size w4 w7) := D6.out.trans (hbb.mono D6.out.size)
  clear hbb OG
  have G7 : Hid (Keep w5.heap.size w7.heap.size w7 w7) := Keep.refl _ _ _
  have lS0 : (w6.alloc (.cells #[.int .i64 code, .slice gao gk gcap] 24)).cell? ⟨w3.heap.size, 0, none⟩ = some (.int .i64 code) := by rw [← HWD.out]; exact (BS.out.later D7.out (by omega)).c0
  have lS1 : (w6.alloc (.cells #[.int .i64 code, .slice gao gk gcap] 24)).cell? ⟨w3.heap.size, 1, none⟩ = some (.slice sao sk scap) := by rw [← HWD.out]; exact (BS.out.later D7.out (by omega)).c1
  go_wp2_with fail
  rw [← HWD.out]
  refine (eqL_any O8.out.rd (O4.out.later D7.out) HDIM.out).mono ?_
  rintro e w8 ⟨rfl, hbb⟩
  clear lS0 lS1 HWD
  have z8 := hbb.size
  have A8 : Hid (Below w.heap.size w w8) := A7.out.trans (hbb.mono A7.out.size)
  have Z8 : Hid (w.heap.size < w8.heap.size) := Nat.lt_of_lt_of_le Z7.out hbb.size
  have P8 : Hid (Pq w.heap.size w8 A B C D) := (hbb.block _ Z7.out).trans P7.out
  have D8 : Hid (Below w4.heap.size w4 w8) := D7.out.trans (hbb.mono D7.out.size)
  have G8 : Hid (Keep w5.heap.size w7.heap.size w7 w8) := G7.out.trans (Keep.of hbb (by omega))
  have O16 : Hid (OwnL w5.heap.size w6.heap.size w8 code (.slice gao gk gcap) 4 (Wv.bl A B C D x y)) := O8.out.keep fun i h1 h2 => G8.out i h1 (by omega)
  clear hbb
  have lG0 : w8.cell? ⟨w6.heap.size, 0, none⟩ = some (.int .i64 code) := (BG.out.keep G8.out (by omega) (by omega)).c0
  have lG1 : w8.cell? ⟨w6.heap.size, 1, none⟩ = some (.slice gao gk gcap) := (BG.out.keep G8.out (by omega) (by omega)).c1
  go_wp2_with fail
  refine (markL_any O16.out HDIM.out (by omega) (by omega)).mono ?_
  rintro e w9 ⟨r, rfl, hmk, hbb⟩
  have MK : Hid (MkdL w5.heap.size w6.heap.size w9 code (.slice gao gk gcap) 4 r) := hmk
  have hr17 := hmk.pos
  have hr17a : decide (r < 0) = false := by rw [decide_eq_false_iff_not]; omega
  clear hmk lG0 lG1 O16 O8
  have T9 : Hid (Keep w6.heap.size w7.heap.size w7 w9) := fun i h1 h2 => (hbb.above i h1 (by omega)).trans (G8.out i (by omega) h2)
  have z9 := hbb.below.size
  have A9 : Hid (Below w.heap.size w w9) := A8.out.trans (hbb.below.mono (by have := Z1.out; omega))
  have Z9 : Hid (w.heap.size < w9.heap.size) := Nat.lt_of_lt_of_le Z8.out hbb.below.size
  have P9 : Hid (Pq w.heap.size w9 A B C D) := (hbb.below.block _ (by have := Z5.out; omega)).trans P8.out
  have D9 : Hid (Below w4.heap.size w4 w9) := D8.out.trans (hbb.below.mono (by omega))
  clear hbb
  have U9 : Hid (Keep w5.heap.size w6.heap.size w9 w9) := Keep.refl _ _ _
  have lG0 : w9.cell? ⟨w6.heap.size, 0, none⟩ = some (.int .i64 code) := (BG.out.keep T9.out (by omega) (by omega)).c0
  have lG1 : w9.cell? ⟨w6.heap.size, 1, none⟩ = some (.slice gao gk gcap) := (BG.out.keep T9.out (by omega) (by omega)).c1
  go_wp2_with fail
  refine (heldL_any MK.out HDIM.out (by omega)).mono ?_
  rintro e w10 ⟨rfl, hbb⟩
  clear lG0 lG1
  have z10 := hbb.size
  have A10 : Hid (Below w.heap.size w w10) := A9.out.trans (hbb.mono A9.out.size)
  have Z10 : Hid (w.heap.size < w10.heap.size) := Nat.lt_of_lt_of_le Z9.out hbb.size
  have P10 : Hid (Pq w.heap.size w10 A B C D) := (hbb.block _ Z9.out).trans P9.out
  have D10 : Hid (Below w4.heap.size w4 w10) := D9.out.trans (hbb.mono D9.out.size)
  have T10 : Hid (Keep w6.heap.size w7.heap.size w7 w10) := T9.out.trans (Keep.of hbb (by omega))
  have U10 : Hid (Keep w5.heap.size w6.heap.size w9 w10) := U9.out.trans (Keep.of hbb (by omega))
  clear hbb
  have a0 := P10.out.c0
  have a1 := P10.out.c1
  have a2 := P10.out.c2
  have a3 := P10.out.c3
  go_wp2_with fail
  refine (toPlate_any A B C D _).mono ?_
  rintro e w11 ⟨rfl, hbb⟩
  have z11 := hbb.size
  have A11 : Hid (Below w.heap.size w w11) := A10.out.trans (hbb.mono A10.out.size)
  have Z11 : Hid (w.heap.size < w11.heap.size) := Nat.lt_of_lt_of_le Z10.out hbb.size
  have P11 : Hid (Pq w.heap.size w11 A B C D) := (hbb.block _ Z10.out).trans P10.out
  have D11 : Hid (Below w4.heap.size w4 w11) := D10.out.trans (hbb.mono D10.out.size)
  have T11 : Hid (Keep w6.heap.size w7.heap.size w7 w11) := T10.out.trans (Keep.of hbb (by omega))
  have U11 : Hid (Keep w5.heap.size w6.heap.size w9 w11) := U10.out.trans (Keep.of hbb (by omega))
  clear hbb a0 a1 a2 a3
  go_wp2_with fail
  refine (I.out _).mono ?_
  rintro e w12 ⟨hv, rfl, hoo, hbb⟩
  obtain ⟨hao, hk, hcap, ehv⟩ : ∃ ao k cap, hv = .slice ao k cap := OutL.shape hoo.rd
  subst ehv
  have OH : Hid (OutL w12 code (.slice hao hk hcap) 4 (Wv.bl A B C D x y)) := hoo.rd
  have z12 := hbb.size
  have A12 : Hid (Below w.heap.size w w12) := A11.out.trans (hbb.mono A11.out.size)
  have Z12 : Hid (w.heap.size < w12.heap.size) := Nat.lt_of_lt_of_le Z11.out hbb.size
  have P12 : Hid (Pq w.heap.size w12 A B C D) := (hbb.block _ Z11.out).trans P11.out
  have D12 : Hid (Below w4.heap.size w4 w12) := D11.out.trans (hbb.mono D11.out.size)
  have T12 : Hid (Keep w6.heap.size w7.heap.size w7 w12) := T11.out.trans (Keep.of hbb (by omega))
  have U12 : Hid (Keep w5.heap.size w6.heap.size w9 w12) := U11.out.trans (Keep.of hbb (by omega))
  clear hoo hbb
  obtain ⟨w13, hwd⟩ : ∃ W, W = w12.alloc (.cells #[.int .i64 code, .slice hao hk hcap] 24) := ⟨_, rfl⟩
  have hbb : Below w12.heap.size w12 w13 := by rw [hwd]; exact (Below.refl _ _).alloc (Nat.le_refl _) _
  have HWD : Hid (w13 = w12.alloc (.cells #[.int .i64 code, .slice hao hk hcap] 24)) := hwd
  clear hwd
  have OH2 : Hid (OutL w13 code (.slice hao hk hcap) 4 (Wv.bl A B C D x y)) := OH.out.later hbb
  have z13 := hbb.size
  have A13 : Hid (Below w.heap.size w w13) := A12.out.trans (hbb.mono A12.out.size)
  have Z13 : Hid (w.heap.size < w13.heap.size) := Nat.lt_of_lt_of_le Z12.out hbb.size
  have P13 : Hid (Pq w.heap.size w13 A B C D) := (hbb.block _ Z12.out).trans P12.out
  have D13 : Hid (Below w4.heap.size w4 w13) := D12.out.trans (hbb.mono D12.out.size)
  have T13 : Hid (Keep w6.heap.size w7.heap.size w7 w13) := T12.out.trans (Keep.of hbb (by omega))
  have U13 : Hid (Keep w5.heap.size w6.heap.size w9 w13) := U12.out.trans (Keep.of hbb (by omega))
  clear hbb OH
  have lS0 : (w12.alloc (.cells #[.int .i64 code, .slice hao hk hcap] 24)).cell? ⟨w3.heap.size, 0, none⟩ = some (.int .i64 code) := by rw [← HWD.out]; exact (BS.out.later D13.out (by omega)).c0
  have lS1 : (w12.alloc (.cells #[.int .i64 code, .slice hao hk hcap] 24)).cell? ⟨w3.heap.size, 1, none⟩ = some (.slice sao sk scap) := by rw [← HWD.out]; exact (BS.out.later D13.out (by omega)).c1
  go_wp2_with fail
  rw [← HWD.out]
  refine (eqL_any OH2.out (O4.out.later D13.out) HDIM.out).mono ?_
  rintro e w14 ⟨rfl, hbb⟩
  clear lS0 lS1
  have z14 := hbb.size
  have A14 : Hid (Below w.heap.size w w14) := A13.out.trans (hbb.mono A13.out.size)
  have Z14 : Hid (w.heap.size < w14.heap.size) := Nat.lt_of_lt_of_le Z13.out hbb.size
  have P14 : Hid (Pq w.heap.size w14 A B C D) := (hbb.block _ Z13.out).trans P13.out
  have D14 : Hid (Below w4.heap.size w4 w14) := D13.out.trans (hbb.mono D13.out.size)
  have T14 : Hid (Keep w6.heap.size w7.heap.size w7 w14) := T13.out.trans (Keep.of hbb (by omega))
  have U14 : Hid (Keep w5.heap.size w6.heap.size w9 w14) := U13.out.trans (Keep.of hbb (by omega))
  clear hbb
  have MK2 : Hid (MkdL w5.heap.size w6.heap.size w14 code (.slice gao gk gcap) 4 r) := MK.out.keep U14.out
  have lG0 : w14.cell? ⟨w6.heap.size, 0, none⟩ = some (.int .i64 code) := (BG.out.keep T14.out (by omega) (by omega)).c0
  have lG1 : w14.cell? ⟨w6.heap.size, 1, none⟩ = some (.slice gao gk gcap) := (BG.out.keep T14.out (by omega) (by omega)).c1
  go_wp2_with fail
  refine (heldL_any MK2.out HDIM.out (by omega)).mono ?_
  rintro e w15 ⟨rfl, hbb⟩
  have hend : Hid (Below w.heap.size w w15) := A14.out.trans (hbb.mono A14.out.size)
  clear lG0 lG1 hbb
  go_wp2
  go_ret
  exact ⟨rfl, hend.out⟩

set_option maxRecDepth 100000 in
theorem lifted (os : Os) (started : os.Started) (H : Type) (enc : TypeId × Value → H) :
    ReturnsInHanded {} Try.checked os 9 .any (Rows.fnExactModBooksSpec.pre6 enc Try.prog Try.f9 Rows.fnExactModBooksRow.domain false) (Rows.fnExactModBooksSpec.post enc Try.prog Try.f9 false true false false) := by
  refine returnsInHanded_of_change (C := Try.checked) own started (by kernel_rfl) Try.func9
    (ChangeSpec.witness6 (enc := enc) (C := Try.checked) false ⟨#[], #[.agg #[.int .i64 0, .int .i64 0, .int .i64 0, .int .i64 0], .int .i64 0, .int .i64 0], []⟩ 8 (by kernel_rfl) (by kernel_rfl) (by kernel_rfl) (by kernel_rfl)) ?_
  intro W base args ds gs before hval0 hW hcnd _
  have hval : ∀ (j : Nat) t v, Try.f9.params[j]? = some t → args[j]? = some v → Value.okWide Try.prog W .any base t v := hval0
  have hW' := hW
  obtain ⟨p, q, hA0, hV, rfl, hfz, hnd⟩ := hW
  have hA : DataW.TrodAll enc Try.prog W 0 (fun _ => true) true Try.f9.params.toList args.toList ds p := hA0
  rw [Try.params9] at hA hval
  obtain ⟨v0, vs0, d0, ds0, p0, q0, hargs, rfl, rfl, h0, r0⟩ := trodAll_cons hA
  obtain ⟨v1, vs1, d1, ds1, p1, q1, rfl, rfl, rfl, h1, r1⟩ := trodAll_cons r0
  obtain ⟨v2, vs2, d2, ds2, p2, q2, rfl, rfl, rfl, h2, r2⟩ := trodAll_cons r1
  obtain ⟨rfl, rfl, rfl⟩ := trodAll_nil r2
  obtain rfl : args = #[v0, v1, v2] := by cases args; simp_all
  obtain ⟨rfl, rfl⟩ := trodVars_none hV
  have k0 := h0
  have lt0 : ∀ x ∈ p0, x.block < W.heap.size := by obtain ⟨m, hm⟩ := k0; exact DataW.trod_lt m _ _ _ hm
  obtain ⟨PA, PB, PC, PD, rfl⟩ := open_mp (hval 0 45 v0 rfl rfl) h0
  have k1 := h1
  have lt1 : ∀ x ∈ p1, x.block < W.heap.size := by obtain ⟨m, hm⟩ := k1; exact DataW.trod_lt m _ _ _ hm
  obtain ⟨n1, rfl, _, _, w1⟩ := open_int Try.underlying2 (hval 1 2 v1 rfl rfl) h1
  have k2 := h2
  have lt2 : ∀ x ∈ p2, x.block < W.heap.size := by obtain ⟨m, hm⟩ := k2; exact DataW.trod_lt m _ _ _ hm
  obtain ⟨n2, rfl, _, _, w2⟩ := open_int Try.underlying2 (hval 2 2 v2 rfl rfl) h2
  clear hA0 hval0
  refine (walk PA PB PC PD n1 n2 W ).mono fun e W' ⟨he, bel⟩ => ?_
  subst he
  exact ⟨_, rfl, _, _, _, [], _, [], hW', trodAll_mk1 (shut_bool Try.underlying4 _), (trodAll_cons_mk (Below.trod laidOut (by kernel_rfl) (of_decide_eq_true (by kernel_rfl)) k0 bel lt0) (trodAll_cons_mk (Below.trod laidOut (by kernel_rfl) (of_decide_eq_true (by kernel_rfl)) k1 bel lt1) (trodAll_cons_mk (Below.trod laidOut (by kernel_rfl) (of_decide_eq_true (by kernel_rfl)) k2 bel lt2) trodAll_mk0))), rfl, bel.frame _, fun h => by cases h⟩

theorem over : Rows.fnExactModBooksRow.holds Try.pinned (OpenSpec.ofChange Rows.fnExactModBooksSpec) :=
  OpenClaim.holds_of_wide 9 Try.f9 rfl rfl rfl rfl rfl rfl rfl ⟨rfl, rfl, rfl, rfl, rfl⟩ rfl rfl rfl rfl rfl (by kernel_rfl) Try.func9 (by kernel_rfl)
    (of_decide_eq_true (by kernel_rfl)) (by unfold Func.isWrapper; first | (rw [if_pos (by decide +kernel)]; kernel_rfl) | (rw [if_neg (by decide +kernel)]; exact ⟨rfl, rfl⟩))
    (fun os started H enc _ => lifted os started H enc)
end Go.Proofs.Ytigkfngbiicfaaa.LawModBooks
namespace Go.Proofs.Ytigkfngbiicfaaa
theorem modBooks_holds : Rows.FnExactModBooksSaid := LawModBooks.over
#print axioms modBooks_holds
end Go.Proofs.Ytigkfngbiicfaaa
