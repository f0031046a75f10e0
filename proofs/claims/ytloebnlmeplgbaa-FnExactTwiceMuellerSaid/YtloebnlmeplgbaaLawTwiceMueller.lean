/- At every plate the program's TwiceMueller answers as the specification, code and rows; what it answers owns its memory; nothing that was there is changed. -/
import Derived.Test.YtloebnlmeplgbaaTx
import Derived.Test.YtloebnlmeplgbaaOz
import Derived.Handy
import Derived.Deep.RegionHeld3
import Derived.Deep.DeepCutAuto
namespace Go.Proofs.Ytloebnlmeplgbaa.LawTwiceMueller
open Go.ChangeShapes Go.WideShapes Go.ChangeAt Go.RowKit Go.Joins
set_option linter.unusedVariables false

set_option maxRecDepth 100000 in
set_option maxHeartbeats 6400000 in
theorem walk_0 (a : Pl) (hp : pcode a.a a.b a.c a.d = 0) (w : World) : Calls Try.prog 13 #[.agg #[.int .i64 a.a.re, .int .i64 a.a.im, .int .i64 a.b.re, .int .i64 a.b.im, .int .i64 a.c.re, .int .i64 a.c.im, .int .i64 a.d.re, .int .i64 a.d.im]] w fun e w' => e = .returned (.bool true) ∧ Below w.heap.size w w' := by
  go_enter Try.func13, Try.ntmps13
  have HO : Hid (Below w.heap.size w w) := Below.refl _ _
  replace hp : Hid _ := hp
  go_upto_region 1 with fail
  obtain ⟨w1, hwd⟩ : ∃ W, W = w.alloc (.cells #[.int .i64 a.a.re, .int .i64 a.a.im, .int .i64 a.b.re, .int .i64 a.b.im, .int .i64 a.c.re, .int .i64 a.c.im, .int .i64 a.d.re, .int .i64 a.d.im] 54) := ⟨_, rfl⟩
  have BA : Hid (Blk w1 w.heap.size #[.int .i64 a.a.re, .int .i64 a.a.im, .int .i64 a.b.re, .int .i64 a.b.im, .int .i64 a.c.re, .int .i64 a.c.im, .int .i64 a.d.re, .int .i64 a.d.im] 54) := by show Blk _ _ _ _; rw [hwd]; exact Blk.new rfl
  have b : Below w.heap.size w w1 := by rw [hwd]; exact (Below.refl _ _).alloc (Nat.le_refl _) _
  have Y1 : Hid (w.heap.size + 1 ≤ w1.heap.size) := by show _ ≤ _; rw [hwd]; simp
  rw [← hwd]
  clear hwd
  have Z1 : Hid (w.heap.size ≤ w1.heap.size) := b.size
  replace HO : Hid (Below w.heap.size w w1) := HO.out.trans (b.mono HO.out.size)
  clear b
  have BA_0 := BA.out.cell (j := 0) (v := .int .i64 a.a.re) rfl
  have BA_1 := BA.out.cell (j := 1) (v := .int .i64 a.a.im) rfl
  have BA_2 := BA.out.cell (j := 2) (v := .int .i64 a.b.re) rfl
  have BA_3 := BA.out.cell (j := 3) (v := .int .i64 a.b.im) rfl
  have BA_4 := BA.out.cell (j := 4) (v := .int .i64 a.c.re) rfl
  have BA_5 := BA.out.cell (j := 5) (v := .int .i64 a.c.im) rfl
  have BA_6 := BA.out.cell (j := 6) (v := .int .i64 a.d.re) rfl
  have BA_7 := BA.out.cell (j := 7) (v := .int .i64 a.d.im) rfl
  go_wp2_with fail
  refine (toP_any a _).mono ?_
  rintro e w2 ⟨rfl, b⟩
  replace BA : Hid (Blk w2 w.heap.size #[.int .i64 a.a.re, .int .i64 a.a.im, .int .i64 a.b.re, .int .i64 a.b.im, .int .i64 a.c.re, .int .i64 a.c.im, .int .i64 a.d.re, .int .i64 a.d.im] 54) := BA.out.later b
  have Z2 : Hid (w1.heap.size ≤ w2.heap.size) := b.size
  replace HO : Hid (Below w.heap.size w w2) := HO.out.trans (b.mono HO.out.size)
  clear b
  clear BA_0 BA_1 BA_2 BA_3 BA_4 BA_5 BA_6 BA_7
  go_wp2_with fail
  refine (stw_0 a hp.out _).mono ?_
  rintro e w3 ⟨ms, rfl, hmat, b⟩
  have MS : Hid (MH w2.heap.size w3.heap.size w3 ms (tw a)) := ⟨hmat, Nat.le_refl _⟩
  clear hmat
  replace BA : Hid (Blk w3 w.heap.size #[.int .i64 a.a.re, .int .i64 a.a.im, .int .i64 a.b.re, .int .i64 a.b.im, .int .i64 a.c.re, .int .i64 a.c.im, .int .i64 a.d.re, .int .i64 a.d.im] 54) := BA.out.later b
  have Z3 : Hid (w2.heap.size ≤ w3.heap.size) := b.size
  replace HO : Hid (Below w.heap.size w w3) := HO.out.trans (b.mono HO.out.size)
  clear b
  go_upto_region 2 with fail
  obtain ⟨w4, hwd⟩ : ∃ W, W = w3.alloc (.cells #[.int .i64 0, .slice (some ⟨ms.b, 0, none⟩) 4 ms.cap] 42) := ⟨_, rfl⟩
  have BS : Hid (Blk w4 w3.heap.size #[.int .i64 0, .slice (some ⟨ms.b, 0, none⟩) 4 ms.cap] 42) := by show Blk _ _ _ _; rw [hwd]; exact Blk.new rfl
  have b : Below w3.heap.size w3 w4 := by rw [hwd]; exact (Below.refl _ _).alloc (Nat.le_refl _) _
  have Y4 : Hid (w3.heap.size + 1 ≤ w4.heap.size) := by show _ ≤ _; rw [hwd]; simp
  rw [← hwd]
  clear hwd
  replace BA : Hid (Blk w4 w.heap.size #[.int .i64 a.a.re, .int .i64 a.a.im, .int .i64 a.b.re, .int .i64 a.b.im, .int .i64 a.c.re, .int .i64 a.c.im, .int .i64 a.d.re, .int .i64 a.d.im] 54) := BA.out.later b
  replace MS : Hid (MH w2.heap.size w3.heap.size w4 ms (tw a)) := MS.out.later b
  have Z4 : Hid (w3.heap.size ≤ w4.heap.size) := b.size
  replace HO : Hid (Below w.heap.size w w4) := HO.out.trans (b.mono HO.out.size)
  clear b
  have BA_0 := BA.out.cell (j := 0) (v := .int .i64 a.a.re) rfl
  have BA_1 := BA.out.cell (j := 1) (v := .int .i64 a.a.im) rfl
  have BA_2 := BA.out.cell (j := 2) (v := .int .i64 a.b.re) rfl
  have BA_3 := BA.out.cell (j := 3) (v := .int .i64 a.b.im) rfl
  have BA_4 := BA.out.cell (j := 4) (v := .int .i64 a.c.re) rfl
  have BA_5 := BA.out.cell (j := 5) (v := .int .i64 a.c.im) rfl
  have BA_6 := BA.out.cell (j := 6) (v := .int .i64 a.d.re) rfl
  have BA_7 := BA.out.cell (j := 7) (v := .int .i64 a.d.im) rfl
  go_wp2_with fail
  refine (toP_any a _).mono ?_
  rintro e w5 ⟨rfl, b⟩
  replace BA : Hid (Blk w5 w.heap.size #[.int .i64 a.a.re, .int .i64 a.a.im, .int .i64 a.b.re, .int .i64 a.b.im, .int .i64 a.c.re, .int .i64 a.c.im, .int .i64 a.d.re, .int .i64 a.d.im] 54) := BA.out.later b
  replace MS : Hid (MH w2.heap.size w3.heap.size w5 ms (tw a)) := MS.out.later b
  replace BS : Hid (Blk w5 w3.heap.size #[.int .i64 0, .slice (some ⟨ms.b, 0, none⟩) 4 ms.cap] 42) := BS.out.later b
  have Z5 : Hid (w4.heap.size ≤ w5.heap.size) := b.size
  replace HO : Hid (Below w.heap.size w w5) := HO.out.trans (b.mono HO.out.size)
  clear b
  clear BA_0 BA_1 BA_2 BA_3 BA_4 BA_5 BA_6 BA_7
  go_wp2_with fail
  refine (itw_0 a hp.out _).mono ?_
  rintro e w6 ⟨mg, rfl, hmat, b⟩
  have MG : Hid (MH w5.heap.size w6.heap.size w6 mg (tw a)) := ⟨hmat, Nat.le_refl _⟩
  clear hmat
  replace BA : Hid (Blk w6 w.heap.size #[.int .i64 a.a.re, .int .i64 a.a.im, .int .i64 a.b.re, .int .i64 a.b.im, .int .i64 a.c.re, .int .i64 a.c.im, .int .i64 a.d.re, .int .i64 a.d.im] 54) := BA.out.later b
  replace MS : Hid (MH w2.heap.size w3.heap.size w6 ms (tw a)) := MS.out.later b
  replace BS : Hid (Blk w6 w3.heap.size #[.int .i64 0, .slice (some ⟨ms.b, 0, none⟩) 4 ms.cap] 42) := BS.out.later b
  have Z6 : Hid (w5.heap.size ≤ w6.heap.size) := b.size
  replace HO : Hid (Below w.heap.size w w6) := HO.out.trans (b.mono HO.out.size)
  clear b
  go_upto_region 3 with fail
  obtain ⟨w7, hwd⟩ : ∃ W, W = w6.alloc (.cells #[.int .i64 0, .slice (some ⟨mg.b, 0, none⟩) 4 mg.cap] 42) := ⟨_, rfl⟩
  have BG : Hid (Blk w7 w6.heap.size #[.int .i64 0, .slice (some ⟨mg.b, 0, none⟩) 4 mg.cap] 42) := by show Blk _ _ _ _; rw [hwd]; exact Blk.new rfl
  have b : Below w6.heap.size w6 w7 := by rw [hwd]; exact (Below.refl _ _).alloc (Nat.le_refl _) _
  have Y7 : Hid (w6.heap.size + 1 ≤ w7.heap.size) := by show _ ≤ _; rw [hwd]; simp
  rw [← hwd]
  clear hwd
  replace BA : Hid (Blk w7 w.heap.size #[.int .i64 a.a.re, .int .i64 a.a.im, .int .i64 a.b.re, .int .i64 a.b.im, .int .i64 a.c.re, .int .i64 a.c.im, .int .i64 a.d.re, .int .i64 a.d.im] 54) := BA.out.later b
  replace MS : Hid (MH w2.heap.size w3.heap.size w7 ms (tw a)) := MS.out.later b
  replace BS : Hid (Blk w7 w3.heap.size #[.int .i64 0, .slice (some ⟨ms.b, 0, none⟩) 4 ms.cap] 42) := BS.out.later b
  replace MG : Hid (MH w5.heap.size w6.heap.size w7 mg (tw a)) := MG.out.later b
  have Z7 : Hid (w6.heap.size ≤ w7.heap.size) := b.size
  replace HO : Hid (Below w.heap.size w w7) := HO.out.trans (b.mono HO.out.size)
  clear b
  have BG_0 := BG.out.cell (j := 0) (v := .int .i64 0) rfl
  have BG_1 := BG.out.cell (j := 1) (v := .slice (some ⟨mg.b, 0, none⟩) 4 mg.cap) rfl
  have BS_0 := BS.out.cell (j := 0) (v := .int .i64 0) rfl
  have BS_1 := BS.out.cell (j := 1) (v := .slice (some ⟨ms.b, 0, none⟩) 4 ms.cap) rfl
  go_wp2_with fail
  refine (eqRR 0 _ _ 4 _ _ (by omega) (fun _ _ => by omega) _ MG.out.mat.rd MS.out.mat.rd).mono ?_
  rintro e w8 ⟨rfl, b⟩
  replace BA : Hid (Blk w8 w.heap.size #[.int .i64 a.a.re, .int .i64 a.a.im, .int .i64 a.b.re, .int .i64 a.b.im, .int .i64 a.c.re, .int .i64 a.c.im, .int .i64 a.d.re, .int .i64 a.d.im] 54) := BA.out.later b
  replace MS : Hid (MH w2.heap.size w3.heap.size w8 ms (tw a)) := MS.out.later b
  replace BS : Hid (Blk w8 w3.heap.size #[.int .i64 0, .slice (some ⟨ms.b, 0, none⟩) 4 ms.cap] 42) := BS.out.later b
  replace MG : Hid (MH w5.heap.size w6.heap.size w8 mg (tw a)) := MG.out.later b
  replace BG : Hid (Blk w8 w6.heap.size #[.int .i64 0, .slice (some ⟨mg.b, 0, none⟩) 4 mg.cap] 42) := BG.out.later b
  have Z8 : Hid (w7.heap.size ≤ w8.heap.size) := b.size
  replace HO : Hid (Below w.heap.size w w8) := HO.out.trans (b.mono HO.out.size)
  clear b
  clear BG_0 BG_1 BS_0 BS_1
  have BG_0 := BG.out.cell (j := 0) (v := .int .i64 0) rfl
  have BG_1 := BG.out.cell (j := 1) (v := .slice (some ⟨mg.b, 0, none⟩) 4 mg.cap) rfl
  have hlm := MG.out.mat.blo
  have hln := MG.out.mat.bhi
  go_wp2_with fail
  refine (markRR 0 MG.out (by omega)).mono ?_
  rintro e w9 ⟨rfl, sm, wi, zm⟩
  have Z9 : Hid (w8.heap.size ≤ w9.heap.size) := zm
  replace BA : Hid (Blk w9 w.heap.size #[.int .i64 a.a.re, .int .i64 a.a.im, .int .i64 a.b.re, .int .i64 a.b.im, .int .i64 a.c.re, .int .i64 a.c.im, .int .i64 a.d.re, .int .i64 a.d.im] 54) := BA.out.under wi (by have := Y1.out; have := Z1.out; have := Z2.out; have := Z3.out; have := Y4.out; have := Z4.out; have := Z5.out; have := Z6.out; have := Y7.out; have := Z7.out; have := Z8.out; have := Z9.out; omega)
  replace MS : Hid (MH w2.heap.size w3.heap.size w9 ms (tw a)) := MS.out.under wi (by have := Y1.out; have := Z1.out; have := Z2.out; have := Z3.out; have := Y4.out; have := Z4.out; have := Z5.out; have := Z6.out; have := Y7.out; have := Z7.out; have := Z8.out; have := Z9.out; omega)
  replace BS : Hid (Blk w9 w3.heap.size #[.int .i64 0, .slice (some ⟨ms.b, 0, none⟩) 4 ms.cap] 42) := BS.out.under wi (by have := Y1.out; have := Z1.out; have := Z2.out; have := Z3.out; have := Y4.out; have := Z4.out; have := Z5.out; have := Z6.out; have := Y7.out; have := Z7.out; have := Z8.out; have := Z9.out; omega)
  replace BG : Hid (Blk w9 w6.heap.size #[.int .i64 0, .slice (some ⟨mg.b, 0, none⟩) 4 mg.cap] 42) := BG.out.under wi (by have := Y1.out; have := Z1.out; have := Z2.out; have := Z3.out; have := Y4.out; have := Z4.out; have := Z5.out; have := Z6.out; have := Y7.out; have := Z7.out; have := Z8.out; have := Z9.out; omega)
  replace MG : Hid (MH w5.heap.size w6.heap.size w9 mg (fun i j => 1 + Sm (fun _ => 4) i + j)) := sm
  replace HO : Hid (Below w.heap.size w w9) := HO.out.trans (wi.below.mono (by have := Y1.out; have := Z1.out; have := Z2.out; have := Z3.out; have := Y4.out; have := Z4.out; have := Z5.out; have := Z6.out; have := Y7.out; have := Z7.out; have := Z8.out; have := Z9.out; omega))
  clear wi zm sm
  clear hlm hln
  clear BG_0 BG_1
  have BG_0 := BG.out.cell (j := 0) (v := .int .i64 0) rfl
  have BG_1 := BG.out.cell (j := 1) (v := .slice (some ⟨mg.b, 0, none⟩) 4 mg.cap) rfl
  go_wp2_with fail
  refine (heldRR 0 MG.out).mono ?_
  rintro e w10 ⟨rfl, b⟩
  replace BA : Hid (Blk w10 w.heap.size #[.int .i64 a.a.re, .int .i64 a.a.im, .int .i64 a.b.re, .int .i64 a.b.im, .int .i64 a.c.re, .int .i64 a.c.im, .int .i64 a.d.re, .int .i64 a.d.im] 54) := BA.out.later b
  replace MS : Hid (MH w2.heap.size w3.heap.size w10 ms (tw a)) := MS.out.later b
  replace BS : Hid (Blk w10 w3.heap.size #[.int .i64 0, .slice (some ⟨ms.b, 0, none⟩) 4 ms.cap] 42) := BS.out.later b
  replace MG : Hid (MH w5.heap.size w6.heap.size w10 mg (fun i j => 1 + Sm (fun _ => 4) i + j)) := MG.out.later b
  replace BG : Hid (Blk w10 w6.heap.size #[.int .i64 0, .slice (some ⟨mg.b, 0, none⟩) 4 mg.cap] 42) := BG.out.later b
  have Z10 : Hid (w9.heap.size ≤ w10.heap.size) := b.size
  replace HO : Hid (Below w.heap.size w w10) := HO.out.trans (b.mono HO.out.size)
  clear b
  clear BG_0 BG_1
  have BA_0 := BA.out.cell (j := 0) (v := .int .i64 a.a.re) rfl
  have BA_1 := BA.out.cell (j := 1) (v := .int .i64 a.a.im) rfl
  have BA_2 := BA.out.cell (j := 2) (v := .int .i64 a.b.re) rfl
  have BA_3 := BA.out.cell (j := 3) (v := .int .i64 a.b.im) rfl
  have BA_4 := BA.out.cell (j := 4) (v := .int .i64 a.c.re) rfl
  have BA_5 := BA.out.cell (j := 5) (v := .int .i64 a.c.im) rfl
  have BA_6 := BA.out.cell (j := 6) (v := .int .i64 a.d.re) rfl
  have BA_7 := BA.out.cell (j := 7) (v := .int .i64 a.d.im) rfl
  go_wp2_with fail
  refine (toP_any a _).mono ?_
  rintro e w11 ⟨rfl, b⟩
  replace BA : Hid (Blk w11 w.heap.size #[.int .i64 a.a.re, .int .i64 a.a.im, .int .i64 a.b.re, .int .i64 a.b.im, .int .i64 a.c.re, .int .i64 a.c.im, .int .i64 a.d.re, .int .i64 a.d.im] 54) := BA.out.later b
  replace MS : Hid (MH w2.heap.size w3.heap.size w11 ms (tw a)) := MS.out.later b
  replace BS : Hid (Blk w11 w3.heap.size #[.int .i64 0, .slice (some ⟨ms.b, 0, none⟩) 4 ms.cap] 42) := BS.out.later b
  replace MG : Hid (MH w5.heap.size w6.heap.size w11 mg (fun i j => 1 + Sm (fun _ => 4) i + j)) := MG.out.later b
  replace BG : Hid (Blk w11 w6.heap.size #[.int .i64 0, .slice (some ⟨mg.b, 0, none⟩) 4 mg.cap] 42) := BG.out.later b
  have Z11 : Hid (w10.heap.size ≤ w11.heap.size) := b.size
  replace HO : Hid (Below w.heap.size w w11) := HO.out.trans (b.mono HO.out.size)
  clear b
  clear BA_0 BA_1 BA_2 BA_3 BA_4 BA_5 BA_6 BA_7
  go_wp2_with fail
  refine (itw_0 a hp.out _).mono ?_
  rintro e w12 ⟨mh, rfl, hmat, b⟩
  have MH2 : Hid (MH w11.heap.size w12.heap.size w12 mh (tw a)) := ⟨hmat, Nat.le_refl _⟩
  clear hmat
  replace BA : Hid (Blk w12 w.heap.size #[.int .i64 a.a.re, .int .i64 a.a.im, .int .i64 a.b.re, .int .i64 a.b.im, .int .i64 a.c.re, .int .i64 a.c.im, .int .i64 a.d.re, .int .i64 a.d.im] 54) := BA.out.later b
  replace MS : Hid (MH w2.heap.size w3.heap.size w12 ms (tw a)) := MS.out.later b
  replace BS : Hid (Blk w12 w3.heap.size #[.int .i64 0, .slice (some ⟨ms.b, 0, none⟩) 4 ms.cap] 42) := BS.out.later b
  replace MG : Hid (MH w5.heap.size w6.heap.size w12 mg (fun i j => 1 + Sm (fun _ => 4) i + j)) := MG.out.later b
  replace BG : Hid (Blk w12 w6.heap.size #[.int .i64 0, .slice (some ⟨mg.b, 0, none⟩) 4 mg.cap] 42) := BG.out.later b
  have Z12 : Hid (w11.heap.size ≤ w12.heap.size) := b.size
  replace HO : Hid (Below w.heap.size w w12) := HO.out.trans (b.mono HO.out.size)
  clear b
  go_upto_region 14 with fail
  obtain ⟨w13, hwd⟩ : ∃ W, W = w12.alloc (.cells #[.int .i64 0, .slice (some ⟨mh.b, 0, none⟩) 4 mh.cap] 42) := ⟨_, rfl⟩
  have BH : Hid (Blk w13 w12.heap.size #[.int .i64 0, .slice (some ⟨mh.b, 0, none⟩) 4 mh.cap] 42) := by show Blk _ _ _ _; rw [hwd]; exact Blk.new rfl
  have b : Below w12.heap.size w12 w13 := by rw [hwd]; exact (Below.refl _ _).alloc (Nat.le_refl _) _
  have Y13 : Hid (w12.heap.size + 1 ≤ w13.heap.size) := by show _ ≤ _; rw [hwd]; simp
  rw [← hwd]
  clear hwd
  replace BA : Hid (Blk w13 w.heap.size #[.int .i64 a.a.re, .int .i64 a.a.im, .int .i64 a.b.re, .int .i64 a.b.im, .int .i64 a.c.re, .int .i64 a.c.im, .int .i64 a.d.re, .int .i64 a.d.im] 54) := BA.out.later b
  replace MS : Hid (MH w2.heap.size w3.heap.size w13 ms (tw a)) := MS.out.later b
  replace BS : Hid (Blk w13 w3.heap.size #[.int .i64 0, .slice (some ⟨ms.b, 0, none⟩) 4 ms.cap] 42) := BS.out.later b
  replace MG : Hid (MH w5.heap.size w6.heap.size w13 mg (fun i j => 1 + Sm (fun _ => 4) i + j)) := MG.out.later b
  replace BG : Hid (Blk w13 w6.heap.size #[.int .i64 0, .slice (some ⟨mg.b, 0, none⟩) 4 mg.cap] 42) := BG.out.later b
  replace MH2 : Hid (MH w11.heap.size w12.heap.size w13 mh (tw a)) := MH2.out.later b
  have Z13 : Hid (w12.heap.size ≤ w13.heap.size) := b.size
  replace HO : Hid (Below w.heap.size w w13) := HO.out.trans (b.mono HO.out.size)
  clear b
  have BH_0 := BH.out.cell (j := 0) (v := .int .i64 0) rfl
  have BH_1 := BH.out.cell (j := 1) (v := .slice (some ⟨mh.b, 0, none⟩) 4 mh.cap) rfl
  have BS_0 := BS.out.cell (j := 0) (v := .int .i64 0) rfl
  have BS_1 := BS.out.cell (j := 1) (v := .slice (some ⟨ms.b, 0, none⟩) 4 ms.cap) rfl
  go_wp2_with fail
  refine (eqRR 0 _ _ 4 _ _ (by omega) (fun _ _ => by omega) _ MH2.out.mat.rd MS.out.mat.rd).mono ?_
  rintro e w14 ⟨rfl, b⟩
  replace BA : Hid (Blk w14 w.heap.size #[.int .i64 a.a.re, .int .i64 a.a.im, .int .i64 a.b.re, .int .i64 a.b.im, .int .i64 a.c.re, .int .i64 a.c.im, .int .i64 a.d.re, .int .i64 a.d.im] 54) := BA.out.later b
  replace MS : Hid (MH w2.heap.size w3.heap.size w14 ms (tw a)) := MS.out.later b
  replace BS : Hid (Blk w14 w3.heap.size #[.int .i64 0, .slice (some ⟨ms.b, 0, none⟩) 4 ms.cap] 42) := BS.out.later b
  replace MG : Hid (MH w5.heap.size w6.heap.size w14 mg (fun i j => 1 + Sm (fun _ => 4) i + j)) := MG.out.later b
  replace BG : Hid (Blk w14 w6.heap.size #[.int .i64 0, .slice (some ⟨mg.b, 0, none⟩) 4 mg.cap] 42) := BG.out.later b
  replace MH2 : Hid (MH w11.heap.size w12.heap.size w14 mh (tw a)) := MH2.out.later b
  replace BH : Hid (Blk w14 w12.heap.size #[.int .i64 0, .slice (some ⟨mh.b, 0, none⟩) 4 mh.cap] 42) := BH.out.later b
  have Z14 : Hid (w13.heap.size ≤ w14.heap.size) := b.size
  replace HO : Hid (Below w.heap.size w w14) := HO.out.trans (b.mono HO.out.size)
  clear b
  clear BH_0 BH_1 BS_0 BS_1
  have BG_0 := BG.out.cell (j := 0) (v := .int .i64 0) rfl
  have BG_1 := BG.out.cell (j := 1) (v := .slice (some ⟨mg.b, 0, none⟩) 4 mg.cap) rfl
  go_wp2_with fail
  refine (heldRR 0 MG.out).mono ?_
  rintro e w15 ⟨rfl, b⟩
  replace BA : Hid (Blk w15 w.heap.size #[.int .i64 a.a.re, .int .i64 a.a.im, .int .i64 a.b.re, .int .i64 a.b.im, .int .i64 a.c.re, .int .i64 a.c.im, .int .i64 a.d.re, .int .i64 a.d.im] 54) := BA.out.later b
  replace MS : Hid (MH w2.heap.size w3.heap.size w15 ms (tw a)) := MS.out.later b
  replace BS : Hid (Blk w15 w3.heap.size #[.int .i64 0, .slice (some ⟨ms.b, 0, none⟩) 4 ms.cap] 42) := BS.out.later b
  replace MG : Hid (MH w5.heap.size w6.heap.size w15 mg (fun i j => 1 + Sm (fun _ => 4) i + j)) := MG.out.later b
  replace BG : Hid (Blk w15 w6.heap.size #[.int .i64 0, .slice (some ⟨mg.b, 0, none⟩) 4 mg.cap] 42) := BG.out.later b
  replace MH2 : Hid (MH w11.heap.size w12.heap.size w15 mh (tw a)) := MH2.out.later b
  replace BH : Hid (Blk w15 w12.heap.size #[.int .i64 0, .slice (some ⟨mh.b, 0, none⟩) 4 mh.cap] 42) := BH.out.later b
  have Z15 : Hid (w14.heap.size ≤ w15.heap.size) := b.size
  replace HO : Hid (Below w.heap.size w w15) := HO.out.trans (b.mono HO.out.size)
  clear b
  clear BG_0 BG_1
  go_wp2
  go_ret
  exact ⟨rfl, HO.out⟩
set_option maxRecDepth 100000 in
set_option maxHeartbeats 6400000 in
theorem walk_3 (a : Pl) (hp : pcode a.a a.b a.c a.d = 3) (w : World) : Calls Try.prog 13 #[.agg #[.int .i64 a.a.re, .int .i64 a.a.im, .int .i64 a.b.re, .int .i64 a.b.im, .int .i64 a.c.re, .int .i64 a.c.im, .int .i64 a.d.re, .int .i64 a.d.im]] w fun e w' => e = .returned (.bool true) ∧ Below w.heap.size w w' := by
  go_enter Try.func13, Try.ntmps13
  have HO : Hid (Below w.heap.size w w) := Below.refl _ _
  replace hp : Hid _ := hp
  go_upto_region 1 with fail
  obtain ⟨w1, hwd⟩ : ∃ W, W = w.alloc (.cells #[.int .i64 a.a.re, .int .i64 a.a.im, .int .i64 a.b.re, .int .i64 a.b.im, .int .i64 a.c.re, .int .i64 a.c.im, .int .i64 a.d.re, .int .i64 a.d.im] 54) := ⟨_, rfl⟩
  have BA : Hid (Blk w1 w.heap.size #[.int .i64 a.a.re, .int .i64 a.a.im, .int .i64 a.b.re, .int .i64 a.b.im, .int .i64 a.c.re, .int .i64 a.c.im, .int .i64 a.d.re, .int .i64 a.d.im] 54) := by show Blk _ _ _ _; rw [hwd]; exact Blk.new rfl
  have b : Below w.heap.size w w1 := by rw [hwd]; exact (Below.refl _ _).alloc (Nat.le_refl _) _
  have Y1 : Hid (w.heap.size + 1 ≤ w1.heap.size) := by show _ ≤ _; rw [hwd]; simp
  rw [← hwd]
  clear hwd
  have Z1 : Hid (w.heap.size ≤ w1.heap.size) := b.size
  replace HO : Hid (Below w.heap.size w w1) := HO.out.trans (b.mono HO.out.size)
  clear b
  have BA_0 := BA.out.cell (j := 0) (v := .int .i64 a.a.re) rfl
  have BA_1 := BA.out.cell (j := 1) (v := .int .i64 a.a.im) rfl
  have BA_2 := BA.out.cell (j := 2) (v := .int .i64 a.b.re) rfl
  have BA_3 := BA.out.cell (j := 3) (v := .int .i64 a.b.im) rfl
  have BA_4 := BA.out.cell (j := 4) (v := .int .i64 a.c.re) rfl
  have BA_5 := BA.out.cell (j := 5) (v := .int .i64 a.c.im) rfl
  have BA_6 := BA.out.cell (j := 6) (v := .int .i64 a.d.re) rfl
  have BA_7 := BA.out.cell (j := 7) (v := .int .i64 a.d.im) rfl
  go_wp2_with fail
  refine (toP_any a _).mono ?_
  rintro e w2 ⟨rfl, b⟩
  replace BA : Hid (Blk w2 w.heap.size #[.int .i64 a.a.re, .int .i64 a.a.im, .int .i64 a.b.re, .int .i64 a.b.im, .int .i64 a.c.re, .int .i64 a.c.im, .int .i64 a.d.re, .int .i64 a.d.im] 54) := BA.out.later b
  have Z2 : Hid (w1.heap.size ≤ w2.heap.size) := b.size
  replace HO : Hid (Below w.heap.size w w2) := HO.out.trans (b.mono HO.out.size)
  clear b
  clear BA_0 BA_1 BA_2 BA_3 BA_4 BA_5 BA_6 BA_7
  go_wp2_with fail
  refine (stw_3 a hp.out _).mono ?_
  rintro e w3 ⟨rfl, b⟩
  replace BA : Hid (Blk w3 w.heap.size #[.int .i64 a.a.re, .int .i64 a.a.im, .int .i64 a.b.re, .int .i64 a.b.im, .int .i64 a.c.re, .int .i64 a.c.im, .int .i64 a.d.re, .int .i64 a.d.im] 54) := BA.out.later b
  have Z3 : Hid (w2.heap.size ≤ w3.heap.size) := b.size
  replace HO : Hid (Below w.heap.size w w3) := HO.out.trans (b.mono HO.out.size)
  clear b
  go_upto_region 2 with fail
  obtain ⟨w4, hwd⟩ : ∃ W, W = w3.alloc (.cells #[.int .i64 3, .slice none 0 0] 42) := ⟨_, rfl⟩
  have BS : Hid (Blk w4 w3.heap.size #[.int .i64 3, .slice none 0 0] 42) := by show Blk _ _ _ _; rw [hwd]; exact Blk.new rfl
  have b : Below w3.heap.size w3 w4 := by rw [hwd]; exact (Below.refl _ _).alloc (Nat.le_refl _) _
  have Y4 : Hid (w3.heap.size + 1 ≤ w4.heap.size) := by show _ ≤ _; rw [hwd]; simp
  rw [← hwd]
  clear hwd
  replace BA : Hid (Blk w4 w.heap.size #[.int .i64 a.a.re, .int .i64 a.a.im, .int .i64 a.b.re, .int .i64 a.b.im, .int .i64 a.c.re, .int .i64 a.c.im, .int .i64 a.d.re, .int .i64 a.d.im] 54) := BA.out.later b
  have Z4 : Hid (w3.heap.size ≤ w4.heap.size) := b.size
  replace HO : Hid (Below w.heap.size w w4) := HO.out.trans (b.mono HO.out.size)
  clear b
  have BA_0 := BA.out.cell (j := 0) (v := .int .i64 a.a.re) rfl
  have BA_1 := BA.out.cell (j := 1) (v := .int .i64 a.a.im) rfl
  have BA_2 := BA.out.cell (j := 2) (v := .int .i64 a.b.re) rfl
  have BA_3 := BA.out.cell (j := 3) (v := .int .i64 a.b.im) rfl
  have BA_4 := BA.out.cell (j := 4) (v := .int .i64 a.c.re) rfl
  have BA_5 := BA.out.cell (j := 5) (v := .int .i64 a.c.im) rfl
  have BA_6 := BA.out.cell (j := 6) (v := .int .i64 a.d.re) rfl
  have BA_7 := BA.out.cell (j := 7) (v := .int .i64 a.d.im) rfl
  go_wp2_with fail
  refine (toP_any a _).mono ?_
  rintro e w5 ⟨rfl, b⟩
  replace BA : Hid (Blk w5 w.heap.size #[.int .i64 a.a.re, .int .i64 a.a.im, .int .i64 a.b.re, .int .i64 a.b.im, .int .i64 a.c.re, .int .i64 a.c.im, .int .i64 a.d.re, .int .i64 a.d.im] 54) := BA.out.later b
  replace BS : Hid (Blk w5 w3.heap.size #[.int .i64 3, .slice none 0 0] 42) := BS.out.later b
  have Z5 : Hid (w4.heap.size ≤ w5.heap.size) := b.size
  replace HO : Hid (Below w.heap.size w w5) := HO.out.trans (b.mono HO.out.size)
  clear b
  clear BA_0 BA_1 BA_2 BA_3 BA_4 BA_5 BA_6 BA_7
  go_wp2_with fail
  refine (itw_3 a hp.out _).mono ?_
  rintro e w6 ⟨rfl, b⟩
  replace BA : Hid (Blk w6 w.heap.size #[.int .i64 a.a.re, .int .i64 a.a.im, .int .i64 a.b.re, .int .i64 a.b.im, .int .i64 a.c.re, .int .i64 a.c.im, .int .i64 a.d.re, .int .i64 a.d.im] 54) := BA.out.later b
  replace BS : Hid (Blk w6 w3.heap.size #[.int .i64 3, .slice none 0 0] 42) := BS.out.later b
  have Z6 : Hid (w5.heap.size ≤ w6.heap.size) := b.size
  replace HO : Hid (Below w.heap.size w w6) := HO.out.trans (b.mono HO.out.size)
  clear b
  go_upto_region 3 with fail
  obtain ⟨w7, hwd⟩ : ∃ W, W = w6.alloc (.cells #[.int .i64 3, .slice none 0 0] 42) := ⟨_, rfl⟩
  have BG : Hid (Blk w7 w6.heap.size #[.int .i64 3, .slice none 0 0] 42) := by show Blk _ _ _ _; rw [hwd]; exact Blk.new rfl
  have b : Below w6.heap.size w6 w7 := by rw [hwd]; exact (Below.refl _ _).alloc (Nat.le_refl _) _
  have Y7 : Hid (w6.heap.size + 1 ≤ w7.heap.size) := by show _ ≤ _; rw [hwd]; simp
  rw [← hwd]
  clear hwd
  replace BA : Hid (Blk w7 w.heap.size #[.int .i64 a.a.re, .int .i64 a.a.im, .int .i64 a.b.re, .int .i64 a.b.im, .int .i64 a.c.re, .int .i64 a.c.im, .int .i64 a.d.re, .int .i64 a.d.im] 54) := BA.out.later b
  replace BS : Hid (Blk w7 w3.heap.size #[.int .i64 3, .slice none 0 0] 42) := BS.out.later b
  have Z7 : Hid (w6.heap.size ≤ w7.heap.size) := b.size
  replace HO : Hid (Below w.heap.size w w7) := HO.out.trans (b.mono HO.out.size)
  clear b
  have BG_0 := BG.out.cell (j := 0) (v := .int .i64 3) rfl
  have BG_1 := BG.out.cell (j := 1) (v := .slice none 0 0) rfl
  have BS_0 := BS.out.cell (j := 0) (v := .int .i64 3) rfl
  have BS_1 := BS.out.cell (j := 1) (v := .slice none 0 0) rfl
  go_wp2_with fail
  refine (eqRR 3 none none 0 0 0 (L := fun _ => 0) (F := fun _ _ => 0) (by omega) (fun _ _ => by omega) _ (RdMat.nil _ _ _) (RdMat.nil _ _ _)).mono ?_
  rintro e w8 ⟨rfl, b⟩
  replace BA : Hid (Blk w8 w.heap.size #[.int .i64 a.a.re, .int .i64 a.a.im, .int .i64 a.b.re, .int .i64 a.b.im, .int .i64 a.c.re, .int .i64 a.c.im, .int .i64 a.d.re, .int .i64 a.d.im] 54) := BA.out.later b
  replace BS : Hid (Blk w8 w3.heap.size #[.int .i64 3, .slice none 0 0] 42) := BS.out.later b
  replace BG : Hid (Blk w8 w6.heap.size #[.int .i64 3, .slice none 0 0] 42) := BG.out.later b
  have Z8 : Hid (w7.heap.size ≤ w8.heap.size) := b.size
  replace HO : Hid (Below w.heap.size w w8) := HO.out.trans (b.mono HO.out.size)
  clear b
  clear BG_0 BG_1 BS_0 BS_1
  have BG_0 := BG.out.cell (j := 0) (v := .int .i64 3) rfl
  have BG_1 := BG.out.cell (j := 1) (v := .slice none 0 0) rfl
  go_wp2_with fail
  refine (markRR_nil 3 _).mono ?_
  rintro e w9 ⟨rfl, b⟩
  replace BA : Hid (Blk w9 w.heap.size #[.int .i64 a.a.re, .int .i64 a.a.im, .int .i64 a.b.re, .int .i64 a.b.im, .int .i64 a.c.re, .int .i64 a.c.im, .int .i64 a.d.re, .int .i64 a.d.im] 54) := BA.out.later b
  replace BS : Hid (Blk w9 w3.heap.size #[.int .i64 3, .slice none 0 0] 42) := BS.out.later b
  replace BG : Hid (Blk w9 w6.heap.size #[.int .i64 3, .slice none 0 0] 42) := BG.out.later b
  have Z9 : Hid (w8.heap.size ≤ w9.heap.size) := b.size
  replace HO : Hid (Below w.heap.size w w9) := HO.out.trans (b.mono HO.out.size)
  clear b
  clear BG_0 BG_1
  have BG_0 := BG.out.cell (j := 0) (v := .int .i64 3) rfl
  have BG_1 := BG.out.cell (j := 1) (v := .slice none 0 0) rfl
  go_wp2_with fail
  refine (heldRR_nil 3 _).mono ?_
  rintro e w10 ⟨rfl, b⟩
  replace BA : Hid (Blk w10 w.heap.size #[.int .i64 a.a.re, .int .i64 a.a.im, .int .i64 a.b.re, .int .i64 a.b.im, .int .i64 a.c.re, .int .i64 a.c.im, .int .i64 a.d.re, .int .i64 a.d.im] 54) := BA.out.later b
  replace BS : Hid (Blk w10 w3.heap.size #[.int .i64 3, .slice none 0 0] 42) := BS.out.later b
  replace BG : Hid (Blk w10 w6.heap.size #[.int .i64 3, .slice none 0 0] 42) := BG.out.later b
  have Z10 : Hid (w9.heap.size ≤ w10.heap.size) := b.size
  replace HO : Hid (Below w.heap.size w w10) := HO.out.trans (b.mono HO.out.size)
  clear b
  clear BG_0 BG_1
  have BA_0 := BA.out.cell (j := 0) (v := .int .i64 a.a.re) rfl
  have BA_1 := BA.out.cell (j := 1) (v := .int .i64 a.a.im) rfl
  have BA_2 := BA.out.cell (j := 2) (v := .int .i64 a.b.re) rfl
  have BA_3 := BA.out.cell (j := 3) (v := .int .i64 a.b.im) rfl
  have BA_4 := BA.out.cell (j := 4) (v := .int .i64 a.c.re) rfl
  have BA_5 := BA.out.cell (j := 5) (v := .int .i64 a.c.im) rfl
  have BA_6 := BA.out.cell (j := 6) (v := .int .i64 a.d.re) rfl
  have BA_7 := BA.out.cell (j := 7) (v := .int .i64 a.d.im) rfl
  go_wp2_with fail
  refine (toP_any a _).mono ?_
  rintro e w11 ⟨rfl, b⟩
  replace BA : Hid (Blk w11 w.heap.size #[.int .i64 a.a.re, .int .i64 a.a.im, .int .i64 a.b.re, .int .i64 a.b.im, .int .i64 a.c.re, .int .i64 a.c.im, .int .i64 a.d.re, .int .i64 a.d.im] 54) := BA.out.later b
  replace BS : Hid (Blk w11 w3.heap.size #[.int .i64 3, .slice none 0 0] 42) := BS.out.later b
  replace BG : Hid (Blk w11 w6.heap.size #[.int .i64 3, .slice none 0 0] 42) := BG.out.later b
  have Z11 : Hid (w10.heap.size ≤ w11.heap.size) := b.size
  replace HO : Hid (Below w.heap.size w w11) := HO.out.trans (b.mono HO.out.size)
  clear b
  clear BA_0 BA_1 BA_2 BA_3 BA_4 BA_5 BA_6 BA_7
  go_wp2_with fail
  refine (itw_3 a hp.out _).mono ?_
  rintro e w12 ⟨rfl, b⟩
  replace BA : Hid (Blk w12 w.heap.size #[.int .i64 a.a.re, .int .i64 a.a.im, .int .i64 a.b.re, .int .i64 a.b.im, .int .i64 a.c.re, .int .i64 a.c.im, .int .i64 a.d.re, .int .i64 a.d.im] 54) := BA.out.later b
  replace BS : Hid (Blk w12 w3.heap.size #[.int .i64 3, .slice none 0 0] 42) := BS.out.later b
  replace BG : Hid (Blk w12 w6.heap.size #[.int .i64 3, .slice none 0 0] 42) := BG.out.later b
  have Z12 : Hid (w11.heap.size ≤ w12.heap.size) := b.size
  replace HO : Hid (Below w.heap.size w w12) := HO.out.trans (b.mono HO.out.size)
  clear b
  go_upto_region 14 with fail
  obtain ⟨w13, hwd⟩ : ∃ W, W = w12.alloc (.cells #[.int .i64 3, .slice none 0 0] 42) := ⟨_, rfl⟩
  have BH : Hid (Blk w13 w12.heap.size #[.int .i64 3, .slice none 0 0] 42) := by show Blk _ _ _ _; rw [hwd]; exact Blk.new rfl
  have b : Below w12.heap.size w12 w13 := by rw [hwd]; exact (Below.refl _ _).alloc (Nat.le_refl _) _
  have Y13 : Hid (w12.heap.size + 1 ≤ w13.heap.size) := by show _ ≤ _; rw [hwd]; simp
  rw [← hwd]
  clear hwd
  replace BA : Hid (Blk w13 w.heap.size #[.int .i64 a.a.re, .int .i64 a.a.im, .int .i64 a.b.re, .int .i64 a.b.im, .int .i64 a.c.re, .int .i64 a.c.im, .int .i64 a.d.re, .int .i64 a.d.im] 54) := BA.out.later b
  replace BS : Hid (Blk w13 w3.heap.size #[.int .i64 3, .slice none 0 0] 42) := BS.out.later b
  replace BG : Hid (Blk w13 w6.heap.size #[.int .i64 3, .slice none 0 0] 42) := BG.out.later b
  have Z13 : Hid (w12.heap.size ≤ w13.heap.size) := b.size
  replace HO : Hid (Below w.heap.size w w13) := HO.out.trans (b.mono HO.out.size)
  clear b
  have BH_0 := BH.out.cell (j := 0) (v := .int .i64 3) rfl
  have BH_1 := BH.out.cell (j := 1) (v := .slice none 0 0) rfl
  have BS_0 := BS.out.cell (j := 0) (v := .int .i64 3) rfl
  have BS_1 := BS.out.cell (j := 1) (v := .slice none 0 0) rfl
  go_wp2_with fail
  refine (eqRR 3 none none 0 0 0 (L := fun _ => 0) (F := fun _ _ => 0) (by omega) (fun _ _ => by omega) _ (RdMat.nil _ _ _) (RdMat.nil _ _ _)).mono ?_
  rintro e w14 ⟨rfl, b⟩
  replace BA : Hid (Blk w14 w.heap.size #[.int .i64 a.a.re, .int .i64 a.a.im, .int .i64 a.b.re, .int .i64 a.b.im, .int .i64 a.c.re, .int .i64 a.c.im, .int .i64 a.d.re, .int .i64 a.d.im] 54) := BA.out.later b
  replace BS : Hid (Blk w14 w3.heap.size #[.int .i64 3, .slice none 0 0] 42) := BS.out.later b
  replace BG : Hid (Blk w14 w6.heap.size #[.int .i64 3, .slice none 0 0] 42) := BG.out.later b
  replace BH : Hid (Blk w14 w12.heap.size #[.int .i64 3, .slice none 0 0] 42) := BH.out.later b
  have Z14 : Hid (w13.heap.size ≤ w14.heap.size) := b.size
  replace HO : Hid (Below w.heap.size w w14) := HO.out.trans (b.mono HO.out.size)
  clear b
  clear BH_0 BH_1 BS_0 BS_1
  have BG_0 := BG.out.cell (j := 0) (v := .int .i64 3) rfl
  have BG_1 := BG.out.cell (j := 1) (v := .slice none 0 0) rfl
  go_wp2_with fail
  refine (heldRR_nil 3 _).mono ?_
  rintro e w15 ⟨rfl, b⟩
  replace BA : Hid (Blk w15 w.heap.size #[.int .i64 a.a.re, .int .i64 a.a.im, .int .i64 a.b.re, .int .i64 a.b.im, .int .i64 a.c.re, .int .i64 a.c.im, .int .i64 a.d.re, .int .i64 a.d.im] 54) := BA.out.later b
  replace BS : Hid (Blk w15 w3.heap.size #[.int .i64 3, .slice none 0 0] 42) := BS.out.later b
  replace BG : Hid (Blk w15 w6.heap.size #[.int .i64 3, .slice none 0 0] 42) := BG.out.later b
  replace BH : Hid (Blk w15 w12.heap.size #[.int .i64 3, .slice none 0 0] 42) := BH.out.later b
  have Z15 : Hid (w14.heap.size ≤ w15.heap.size) := b.size
  replace HO : Hid (Below w.heap.size w w15) := HO.out.trans (b.mono HO.out.size)
  clear b
  clear BG_0 BG_1
  go_wp2
  go_ret
  exact ⟨rfl, HO.out⟩
theorem walk (a : Pl) (w : World) : Calls Try.prog 13 #[.agg #[.int .i64 a.a.re, .int .i64 a.a.im, .int .i64 a.b.re, .int .i64 a.b.im, .int .i64 a.c.re, .int .i64 a.c.im, .int .i64 a.d.re, .int .i64 a.d.im]] w fun e w' => e = .returned (.bool true) ∧ Below w.heap.size w w' := by
  have h : pcode a.a a.b a.c a.d = 0 ∨ pcode a.a a.b a.c a.d = 3 := by unfold pcode; split <;> simp
  rcases h with h | h
  · exact walk_0 a h w
  · exact walk_3 a h w

set_option maxRecDepth 100000 in
theorem lifted (os : Os) (started : os.Started) (H : Type) (enc : TypeId × Value → H) :
    ReturnsInHanded {} Try.checked os 13 .any (Rows.fnExactTwiceMuellerSpec.pre6 enc Try.prog Try.f13 Rows.fnExactTwiceMuellerRow.domain false) (Rows.fnExactTwiceMuellerSpec.post enc Try.prog Try.f13 false true false false) := by
  refine returnsInHanded_of_change (C := Try.checked) own started (by kernel_rfl) Try.func13
    (ChangeSpec.witness6 (enc := enc) (C := Try.checked) false ⟨#[], #[.agg #[.int .i64 0, .int .i64 0, .int .i64 0, .int .i64 0, .int .i64 0, .int .i64 0, .int .i64 0, .int .i64 0]], []⟩ 8 (by kernel_rfl) (by kernel_rfl) (by kernel_rfl) (by kernel_rfl)) ?_
  intro W base args ds gs before hval0 hW hcnd _
  have hval : ∀ (j : Nat) t v, Try.f13.params[j]? = some t → args[j]? = some v → Value.okWide Try.prog W .any base t v := hval0
  have hW' := hW
  obtain ⟨p, q, hA0, hV, rfl, hfz, hnd⟩ := hW
  have hA : DataW.TrodAll enc Try.prog W 0 (fun _ => true) true Try.f13.params.toList args.toList ds p := hA0
  rw [Try.params13] at hA hval
  obtain ⟨v0, vs0, d0, ds0, p0, q0, hargs, rfl, rfl, h0, r0⟩ := trodAll_cons hA
  obtain ⟨rfl, rfl, rfl⟩ := trodAll_nil r0
  obtain rfl : args = #[v0] := by cases args; simp_all
  obtain ⟨rfl, rfl⟩ := trodVars_none hV
  have k0 := h0
  have lt0 : ∀ x ∈ p0, x.block < W.heap.size := by obtain ⟨m, hm⟩ := k0; exact DataW.trod_lt m _ _ _ hm
  obtain ⟨a0, rfl⟩ := open_plate (hval 0 54 v0 rfl rfl) h0
  clear hA0 hval0
  refine (walk a0 W).mono fun e W' ⟨he, bel⟩ => ?_
  subst he
  exact ⟨_, rfl, _, _, _, [], _, [], hW', trodAll_mk1 (shut_bool Try.underlying4 _), (trodAll_cons_mk (Below.trod laidOut (by kernel_rfl) (of_decide_eq_true (by kernel_rfl)) k0 bel lt0) trodAll_mk0), rfl, bel.frame _, fun h => by cases h⟩

theorem over : Rows.fnExactTwiceMuellerRow.holds Try.pinned (OpenSpec.ofChange Rows.fnExactTwiceMuellerSpec) :=
  OpenClaim.holds_of_wide 13 Try.f13 rfl rfl rfl rfl rfl rfl rfl ⟨rfl, rfl, rfl, rfl, rfl⟩ rfl rfl rfl rfl rfl (by kernel_rfl) Try.func13 (by kernel_rfl)
    (of_decide_eq_true (by kernel_rfl)) (by unfold Func.isWrapper; first | (rw [if_pos (by decide +kernel)]; kernel_rfl) | (rw [if_neg (by decide +kernel)]; exact ⟨rfl, rfl⟩))
    (fun os started H enc _ => lifted os started H enc)
end Go.Proofs.Ytloebnlmeplgbaa.LawTwiceMueller
namespace Go.Proofs.Ytloebnlmeplgbaa
theorem twiceMueller_holds : Rows.FnExactTwiceMuellerSaid := LawTwiceMueller.over
#print axioms twiceMueller_holds
end Go.Proofs.Ytloebnlmeplgbaa
