/- FormatFrac: the specification's way, and the program's way over the library's FormatInt: one text. -/
import Derived.Test.YtkmbcbjholpfbaaDoorDec
import Derived.Shelf.Strconv.Itoa4
import Derived.Lib.AppendIntMem
namespace Go.Proofs.YtkmbcbjholpfbaaDoor
open Go.RowKit Go.Shelf
def Tryd.lays173_ren : Go.Shelf.Ren := ⟨fun | 173 => 10 | 246 => 16 | 283 => 18 | 284 => 19 | 285 => 20 | 286 => 21 | 129 => 23 | 317 => 22 | 318 => 24 | 319 => 25 | 320 => 26 | 337 => 27 | 338 => 28 | n => n, fun | 2 => 2 | 3 => 3 | 9 => 9 | 4 => 4 | 171 => 37 | 0 => 0 | 53 => 38 | 37 => 35 | 5 => 5 | 173 => 41 | 212 => 45 | 51 => 46 | 20 => 20 | 213 => 47 | 46 => 49 | 232 => 52 | 233 => 53 | n => n, fun | 17 => 0 | 18 => 1 | 19 => 2 | n => n⟩
theorem Tryd.lays173 : Go.Proofs.LaysM.n173 Tryd.prog Tryd.lays173_ren := {
  mixed := by kernel_rfl
  f129 := Tryd.func23.trans (congrArg some (by kernel_rfl))
  f173 := Tryd.func10.trans (congrArg some (by kernel_rfl))
  f246 := Tryd.func16.trans (congrArg some (by kernel_rfl))
  f283 := Tryd.func18.trans (congrArg some (by kernel_rfl))
  f284 := Tryd.func19.trans (congrArg some (by kernel_rfl))
  f285 := Tryd.func20.trans (congrArg some (by kernel_rfl))
  f286 := Tryd.func21.trans (congrArg some (by kernel_rfl))
  f317 := Tryd.func22.trans (congrArg some (by kernel_rfl))
  f318 := Tryd.func24.trans (congrArg some (by kernel_rfl))
  f319 := Tryd.func25.trans (congrArg some (by kernel_rfl))
  f320 := Tryd.func26.trans (congrArg some (by kernel_rfl))
  f337 := Tryd.func27.trans (congrArg some (by kernel_rfl))
  f338 := Tryd.func28.trans (congrArg some (by kernel_rfl))
  t0 := Tryd.underlying0
  a0 := Tryd.isAgg0
  z0 := Tryd.sizeOf0
  v0 := Tryd.zeroValue0
  t2 := Tryd.underlying2
  a2 := Tryd.isAgg2
  z2 := Tryd.sizeOf2
  v2 := Tryd.zeroValue2
  t3 := Tryd.underlying3
  a3 := Tryd.isAgg3
  z3 := Tryd.sizeOf3
  v3 := Tryd.zeroValue3
  t4 := Tryd.underlying4
  a4 := Tryd.isAgg4
  z4 := Tryd.sizeOf4
  v4 := Tryd.zeroValue4
  t5 := Tryd.underlying5
  a5 := Tryd.isAgg5
  z5 := Tryd.sizeOf5
  v5 := Tryd.zeroValue5
  t9 := Tryd.underlying9
  a9 := Tryd.isAgg9
  z9 := Tryd.sizeOf9
  v9 := Tryd.zeroValue9
  t20 := Tryd.underlying20
  a20 := Tryd.isAgg20
  z20 := Tryd.sizeOf20
  v20 := Tryd.zeroValue20
  t37 := Tryd.underlying35
  a37 := Tryd.isAgg35
  z37 := Tryd.sizeOf35
  v37 := Tryd.zeroValue35
  t46 := Tryd.underlying49
  a46 := Tryd.isAgg49
  z46 := Tryd.sizeOf49
  v46 := Tryd.zeroValue49
  t51 := Tryd.underlying46
  a51 := Tryd.isAgg46
  z51 := Tryd.sizeOf46
  v51 := Tryd.zeroValue46
  t53 := Tryd.underlying38
  a53 := Tryd.isAgg38
  z53 := Tryd.sizeOf38
  v53 := Tryd.zeroValue38
  t171 := Tryd.underlying37
  a171 := Tryd.isAgg37
  z171 := Tryd.sizeOf37
  v171 := Tryd.zeroValue37
  t173 := Tryd.underlying41
  a173 := Tryd.isAgg41
  z173 := Tryd.sizeOf41
  v173 := Tryd.zeroValue41
  t212 := Tryd.underlying45
  a212 := Tryd.isAgg45
  z212 := Tryd.sizeOf45
  v212 := Tryd.zeroValue45
  t213 := Tryd.underlying47
  a213 := Tryd.isAgg47
  z213 := Tryd.sizeOf47
  t232 := Tryd.underlying52
  a232 := Tryd.isAgg52
  z232 := Tryd.sizeOf52
  v232 := Tryd.zeroValue52
  t233 := Tryd.underlying53
  a233 := Tryd.isAgg53
  z233 := Tryd.sizeOf53
  v233 := Tryd.zeroValue53
  g17 := by kernel_rfl
  g18 := by kernel_rfl
  g19 := by kernel_rfl
  i0 := by kernel_rfl
  i2 := by kernel_rfl
  i3 := by kernel_rfl
  i4 := by kernel_rfl
  i5 := by kernel_rfl
  i9 := by kernel_rfl
  i20 := by kernel_rfl
  i37 := by kernel_rfl
  i46 := by kernel_rfl
  i51 := by kernel_rfl
  i53 := by kernel_rfl
  i171 := by kernel_rfl
  i173 := by kernel_rfl
  i212 := by kernel_rfl
  i232 := by kernel_rfl
  i233 := by kernel_rfl
  m17 := by kernel_rfl
  m18 := by kernel_rfl
  m19 := by kernel_rfl }
theorem fmtInt (n : Int) (h0 : -9223372036854775808 ≤ n) (h1 : n ≤ 9223372036854775807) (w : World) (htab : Lib.TabIs Tryd.prog w "internal/strconv.uint64pow10" .u64 Lib.pow10Tab) :
    Calls Tryd.prog 10 #[.int .i64 n, .int .i64 10] w fun e w' => e = .returned (.string ⟨(Lib.itoa n).toArray⟩) ∧ Below w.heap.size w w' :=
  (Any.strconv_FormatInt_10 Tryd.lays173 n h0 h1 w htab).mono fun _ _ ⟨he, k, os, hw⟩ => ⟨he, by rw [hw]; exact Lib.below_grow _ w (Nat.le_refl _) k os⟩
/-- The text of a fraction. -/
def fmtF (n d : Int) : ByteArray := if rightB n d = true then (if d = 1 then ⟨(Lib.itoa n).toArray⟩ else ⟨(Lib.itoa n).toArray⟩ ++ ⟨#[47]⟩ ++ ⟨(Lib.itoa d).toArray⟩) else ⟨#[]⟩
theorem fault_ne (n d : Int) : (fault n d != 0) = !rightB n d := by unfold fault; cases rightB n d <;> simp
theorem right_t {n d : Int} (h : rightB n d = true) : 1 ≤ d ∧ d ≤ 1000000000 ∧ -1000000000 ≤ n ∧ n ≤ 1000000000 := by
  unfold rightB at h
  simp only [Bool.and_eq_true, decide_eq_true_eq] at h
  exact inB_t h.1
theorem gTab : Tryd.prog.globalNamed "internal/strconv.uint64pow10" = some 0 := by kernel_rfl
theorem tab_below {w w' : World} {B : Nat} (h : Below B w w') (hB : 0 < B) (htab : Lib.TabIs Tryd.prog w "internal/strconv.uint64pow10" .u64 Lib.pow10Tab) : Lib.TabIs Tryd.prog w' "internal/strconv.uint64pow10" .u64 Lib.pow10Tab :=
  var?_below h gTab hB htab
set_option maxHeartbeats 400000 in
theorem sfmt_no (n d : Int) (w : World) (h : rightB n d = false) :
    Calls Tryd.prog 4 #[.agg #[.int .i64 n, .int .i64 d]] w fun e w' => e = .returned (.string (fmtF n d)) ∧ Below w.heap.size w w' := by
  rw [show fmtF n d = ⟨#[]⟩ by simp [fmtF, h]]
  have q := fault_ne n d
  rw [h] at q
  simp only [Bool.not_false] at q
  go_enter Tryd.func4, Tryd.ntmps4
  go_wp2_with fail
  refine (sfault n d _).mono ?_
  rintro e w1 ⟨rfl, hb1⟩
  have H1 : Below w.heap.size w w1 := box_out (hb1.mono (by simp))
  clear hb1
  go_wp2
  go_ret
  exact ⟨rfl, H1⟩
set_option maxHeartbeats 400000 in
theorem sfmt_one (n d : Int) (w : World) (h : rightB n d = true) (h1 : d = 1) :
    Calls Tryd.prog 4 #[.agg #[.int .i64 n, .int .i64 d]] w fun e w' => e = .returned (.string (fmtF n d)) ∧ Below w.heap.size w w' := by
  rw [show fmtF n d = ⟨(Lib.itoa n).toArray⟩ by unfold fmtF; rw [if_pos h, if_pos h1]]
  obtain ⟨p1, p2, p3, p4⟩ := right_t h
  have q := fault_ne n d
  rw [h] at q
  simp only [Bool.not_true] at q
  have t1 : (d == 1) = true := by rw [beq_iff_eq]; exact h1
  clear h h1
  go_enter Tryd.func4, Tryd.ntmps4
  go_wp2_with fail
  refine (sfault n d _).mono ?_
  rintro e w1 ⟨rfl, hb1⟩
  have H1 : Hid (Below w.heap.size w w1) := box_out (hb1.mono (by simp))
  obtain ⟨c0, c1⟩ := box2 (hb1.mono (by simp))
  have hz1 : w.heap.size < w1.heap.size := by have := hb1.size; simp at this; omega
  clear hb1
  go_wp2_with fail
  refine (sint n _ p3 p4).mono ?_
  rintro e w2 ⟨rfl, hb2⟩
  have H2 : Hid (Below w.heap.size w w2) := box_step H1.out hb2 (Nat.le_refl _)
  have d0 := old_cell hb2 (p := ⟨w.heap.size, 0, none⟩) hz1 c0
  have d1 := old_cell hb2 (p := ⟨w.heap.size, 1, none⟩) hz1 c1
  clear hb2 c0 c1
  go_wp2
  go_ret
  exact ⟨rfl, H2.out⟩
set_option maxHeartbeats 400000 in
theorem sfmt_two (n d : Int) (w : World) (h : rightB n d = true) (h1 : d ≠ 1) :
    Calls Tryd.prog 4 #[.agg #[.int .i64 n, .int .i64 d]] w fun e w' => e = .returned (.string (fmtF n d)) ∧ Below w.heap.size w w' := by
  rw [show fmtF n d = ⟨(Lib.itoa n).toArray⟩ ++ ⟨#[47]⟩ ++ ⟨(Lib.itoa d).toArray⟩ by unfold fmtF; rw [if_pos h, if_neg h1]]
  obtain ⟨p1, p2, p3, p4⟩ := right_t h
  have q := fault_ne n d
  rw [h] at q
  simp only [Bool.not_true] at q
  have t1 : (d == 1) = false := by rw [beq_eq_false_iff_ne]; exact h1
  have l1 := itoa_len n p3 p4
  have l2 := itoa_len d (by omega) p2
  clear h h1
  go_enter Tryd.func4, Tryd.ntmps4
  go_wp2_with fail
  refine (sfault n d _).mono ?_
  rintro e w1 ⟨rfl, hb1⟩
  have H1 : Hid (Below w.heap.size w w1) := box_out (hb1.mono (by simp))
  obtain ⟨c0, c1⟩ := box2 (hb1.mono (by simp))
  have hz1 : w.heap.size < w1.heap.size := by have := hb1.size; simp at this; omega
  clear hb1
  have k0 : ∀ x : Kept w1.heap.size w1, x.w.cell? ⟨w.heap.size, 0, none⟩ = some (.int .i64 n) := fun x => x.cell hz1 c0
  have k1 : ∀ x : Kept w1.heap.size w1, x.w.cell? ⟨w.heap.size, 1, none⟩ = some (.int .i64 d) := fun x => x.cell hz1 c1
  go_wp2_with fail
  refine wp_region_kept w1.heap.size (by kernel_rfl) (by kernel_rfl) ?_
  intro hne
  repeat (go_big_quiet_step (first | (go_at_call_of 8 (Value.int IntKind.i64 n); exact Calls.kept_of (Nat.le_refl _) (sint n _ p3 p4)) | (go_at_call_of 8 (Value.int IntKind.i64 d); exact Calls.kept_of (Nat.le_refl _) (sint d _ (by omega) p2))))
  refine wpQuiet_nil ?_
  rintro w2 ⟨x2, hx2⟩
  have hb2 := x2.h
  rw [← hx2] at hb2
  clear k0 k1 hx2 x2
  have H2 : Hid (Below w.heap.size w w2) := box_step H1.out hb2 (Nat.le_refl _)
  clear hb2
  go_wp2
  go_ret
  exact ⟨rfl, H2.out⟩
theorem sfmt (n d : Int) (w : World) :
    Calls Tryd.prog 4 #[.agg #[.int .i64 n, .int .i64 d]] w fun e w' => e = .returned (.string (fmtF n d)) ∧ Below w.heap.size w w' := by
  cases h : rightB n d
  · exact sfmt_no n d w h
  by_cases h1 : d = 1
  · exact sfmt_one n d w h h1
  · exact sfmt_two n d w h h1
set_option maxHeartbeats 400000 in
theorem ifmt_no (n d : Int) (w : World) (h : rightB n d = false) :
    Calls Tryd.prog 6 #[.agg #[.int .i64 n, .int .i64 d]] w fun e w' => e = .returned (.string (fmtF n d)) ∧ Below w.heap.size w w' := by
  rw [show fmtF n d = ⟨#[]⟩ by simp [fmtF, h]]
  have q := fault_ne n d
  rw [h] at q
  simp only [Bool.not_false] at q
  go_enter Tryd.func6, Tryd.ntmps6
  go_wp2_with fail
  refine (ifault n d _).mono ?_
  rintro e w1 ⟨rfl, hb1⟩
  have H1 : Below w.heap.size w w1 := box_out (hb1.mono (by simp))
  clear hb1
  go_wp2
  go_ret
  exact ⟨rfl, H1⟩
set_option maxHeartbeats 400000 in
theorem ifmt_one (n d : Int) (w : World) (h : rightB n d = true) (h1 : d = 1) (hg : 0 < w.heap.size) (htab : Lib.TabIs Tryd.prog w "internal/strconv.uint64pow10" .u64 Lib.pow10Tab) :
    Calls Tryd.prog 6 #[.agg #[.int .i64 n, .int .i64 d]] w fun e w' => e = .returned (.string (fmtF n d)) ∧ Below w.heap.size w w' := by
  rw [show fmtF n d = ⟨(Lib.itoa n).toArray⟩ by unfold fmtF; rw [if_pos h, if_pos h1]]
  obtain ⟨p1, p2, p3, p4⟩ := right_t h
  have q := fault_ne n d
  rw [h] at q
  simp only [Bool.not_true] at q
  have t1 : (d == 1) = true := by rw [beq_iff_eq]; exact h1
  have HT : Hid (Lib.TabIs Tryd.prog w "internal/strconv.uint64pow10" .u64 Lib.pow10Tab) := htab
  clear htab
  clear h h1
  go_enter Tryd.func6, Tryd.ntmps6
  go_wp2_with fail
  refine (ifault n d _).mono ?_
  rintro e w1 ⟨rfl, hb1⟩
  have H1 : Hid (Below w.heap.size w w1) := box_out (hb1.mono (by simp))
  obtain ⟨c0, c1⟩ := box2 (hb1.mono (by simp))
  have hz1 : w.heap.size < w1.heap.size := by have := hb1.size; simp at this; omega
  clear hb1
  go_wp2_with fail
  refine (fmtInt n (by omega) (by omega) _ (tab_below H1.out hg HT.out)).mono ?_
  rintro e w2 ⟨rfl, hb2⟩
  have H2 : Hid (Below w.heap.size w w2) := box_step H1.out hb2 (Nat.le_refl _)
  have d0 := old_cell hb2 (p := ⟨w.heap.size, 0, none⟩) hz1 c0
  have d1 := old_cell hb2 (p := ⟨w.heap.size, 1, none⟩) hz1 c1
  clear hb2 c0 c1
  go_wp2
  go_ret
  exact ⟨rfl, H2.out⟩
set_option maxHeartbeats 400000 in
theorem ifmt_two (n d : Int) (w : World) (h : rightB n d = true) (h1 : d ≠ 1) (hg : 0 < w.heap.size) (htab : Lib.TabIs Tryd.prog w "internal/strconv.uint64pow10" .u64 Lib.pow10Tab) :
    Calls Tryd.prog 6 #[.agg #[.int .i64 n, .int .i64 d]] w fun e w' => e = .returned (.string (fmtF n d)) ∧ Below w.heap.size w w' := by
  rw [show fmtF n d = ⟨(Lib.itoa n).toArray⟩ ++ ⟨#[47]⟩ ++ ⟨(Lib.itoa d).toArray⟩ by unfold fmtF; rw [if_pos h, if_neg h1]]
  obtain ⟨p1, p2, p3, p4⟩ := right_t h
  have q := fault_ne n d
  rw [h] at q
  simp only [Bool.not_true] at q
  have t1 : (d == 1) = false := by rw [beq_eq_false_iff_ne]; exact h1
  have l1 := itoa_len n p3 p4
  have l2 := itoa_len d (by omega) p2
  have HT : Hid (Lib.TabIs Tryd.prog w "internal/strconv.uint64pow10" .u64 Lib.pow10Tab) := htab
  clear htab
  clear h h1
  go_enter Tryd.func6, Tryd.ntmps6
  go_wp2_with fail
  refine (ifault n d _).mono ?_
  rintro e w1 ⟨rfl, hb1⟩
  have H1 : Hid (Below w.heap.size w w1) := box_out (hb1.mono (by simp))
  obtain ⟨c0, c1⟩ := box2 (hb1.mono (by simp))
  have hz1 : w.heap.size < w1.heap.size := by have := hb1.size; simp at this; omega
  clear hb1
  go_wp2_with fail
  refine (fmtInt n (by omega) (by omega) _ (tab_below H1.out hg HT.out)).mono ?_
  rintro e w2 ⟨rfl, hb2⟩
  have H2 : Hid (Below w.heap.size w w2) := box_step H1.out hb2 (Nat.le_refl _)
  have d0 := old_cell hb2 (p := ⟨w.heap.size, 0, none⟩) hz1 c0
  have d1 := old_cell hb2 (p := ⟨w.heap.size, 1, none⟩) hz1 c1
  clear hb2 c0 c1
  go_wp2_with fail
  refine (fmtInt d (by omega) (by omega) _ (tab_below H2.out hg HT.out)).mono ?_
  rintro e w3 ⟨rfl, hb3⟩
  have H3 : Hid (Below w.heap.size w w3) := box_step H2.out hb3 (Nat.le_refl _)
  clear hb3
  go_wp2
  go_ret
  exact ⟨rfl, H3.out⟩
theorem ifmt (n d : Int) (w : World) (hg : 0 < w.heap.size) (htab : Lib.TabIs Tryd.prog w "internal/strconv.uint64pow10" .u64 Lib.pow10Tab) :
    Calls Tryd.prog 6 #[.agg #[.int .i64 n, .int .i64 d]] w fun e w' => e = .returned (.string (fmtF n d)) ∧ Below w.heap.size w w' := by
  cases h : rightB n d
  · exact ifmt_no n d w h
  by_cases h1 : d = 1
  · exact ifmt_one n d w h h1 hg htab
  · exact ifmt_two n d w h h1 hg htab
end Go.Proofs.YtkmbcbjholpfbaaDoor
