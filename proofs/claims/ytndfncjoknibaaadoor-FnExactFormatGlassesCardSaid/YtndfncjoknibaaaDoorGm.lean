/- Glasses, plainly: names, kinds, ranges, what is wrong with one; contracts of the small tests of both packages. -/
import Derived.Test.YtndfncjoknibaaaDoorKs
import Derived.Handy
namespace Go.Proofs.YtndfncjoknibaaaDoor
open Go.RowKit Fl
set_option linter.unusedVariables false
def letB (c : Int) : Bool := (decide (65 ≤ c) && decide (c ≤ 90)) || (decide (97 ≤ c) && decide (c ≤ 122))
def digB (c : Int) : Bool := decide (48 ≤ c) && decide (c ≤ 57)
def okB (c : Int) : Bool := letB c || digB c || decide (c = 45)
def byteAt (s : ByteArray) (k : Nat) : Int := ((s.data.toList.getD k 0).toNat : Int)
theorem byteAt_get (s : ByteArray) (k : Nat) (h : k < s.size) : byteAt s k = ((s[k]'h).toNat : Int) := by
  have h' : k < s.data.toList.length := h
  unfold byteAt
  rw [List.getD_eq_getElem?_getD, List.getElem?_eq_getElem h']
  rfl
theorem byteAt_rng (s : ByteArray) (k : Nat) : 0 ≤ byteAt s k ∧ byteAt s k ≤ 255 := by
  unfold byteAt
  have := (s.data.toList.getD k 0).toNat_lt
  omega
def nameB (s : ByteArray) : Bool := decide (1 ≤ s.size) && decide (s.size ≤ 20) && letB (byteAt s 0) && (List.range s.size).all (fun i => okB (byteAt s i))
def many (kd : Int) : Int := if kd = 1 then 6 else if kd = 2 then 3 else -1
def kindB (kd : Int) : Bool := decide (kd = 1) || decide (kd = 2)
def rangeB (lo hi : Int) : Bool := decide (1 ≤ lo) && decide (hi ≤ 100000) && decide (lo ≤ hi)
def beyB (z : Int) : Bool := decide (z < -1000000000000) || decide (1000000000000 < z)
def anyBey (n : Nat) (f : Nat → Int) : Bool := (List.range n).any fun i => beyB (f i)
def atLeast (o : Option Ordering) : Bool := match o with | some .gt => true | some .eq => true | _ => false
def atMost (o : Option Ordering) : Bool := match o with | some .lt => true | some .eq => true | _ => false
def shB (x : Nat) : Bool := atLeast (FloatKind.f64.format.order x 13830554455654793216) && atMost (FloatKind.f64.format.order x 4607182418800017408)
/-- What is wrong with a glass. -/
def gfault (s : ByteArray) (kd lo hi : Int) (n : Nat) (f : Nat → Int) (x : Nat) : Int :=
  if nameB s && decide (many kd = (n : Int)) then (if rangeB lo hi && !anyBey n f && shB x then 0 else 3) else 1
theorem anyBey_all {n : Nat} {f : Nat → Int} (h : ∀ i, i < n → beyB (f i) = false) : anyBey n f = false := by
  unfold anyBey
  rw [List.any_eq_false]
  intro i hi
  rw [h i (List.mem_range.1 hi)]
  simp
theorem anyBey_some {n : Nat} {f : Nat → Int} {i : Nat} (hi : i < n) (h : beyB (f i) = true) : anyBey n f = true := by
  unfold anyBey
  rw [List.any_eq_true]
  exact ⟨i, List.mem_range.2 hi, h⟩
theorem name_no {s : ByteArray} {i : Nat} (hi : i < s.size) (h : okB (byteAt s i) = false) : nameB s = false := by
  unfold nameB
  have : (List.range s.size).all (fun i => okB (byteAt s i)) = false := by
    rw [List.all_eq_false]
    exact ⟨i, List.mem_range.2 hi, by rw [h]; simp⟩
  rw [this]
  simp
theorem name_yes {s : ByteArray} (h1 : 1 ≤ s.size) (h2 : s.size ≤ 20) (h3 : letB (byteAt s 0) = true) (h : ∀ i, i < s.size → okB (byteAt s i) = true) : nameB s = true := by
  unfold nameB
  have : (List.range s.size).all (fun i => okB (byteAt s i)) = true := by
    rw [List.all_eq_true]
    exact fun i hi => h i (List.mem_range.1 hi)
  rw [this, h3]
  simp [h1, h2]
theorem sLetter (c : Int) (w : World) : Calls Tryd.prog 67 #[.int .u8 c] w fun e w' => e = .returned (.bool (letB c)) ∧ w = w' := by
  unfold letB
  by_cases h1 : 65 ≤ c <;> by_cases h2 : c ≤ 90 <;> by_cases h3 : 97 ≤ c
  all_goals
    go_enter Tryd.func67, Tryd.ntmps67
    go_wp2
    go_ret
    exact ⟨ret_bool (by simp [h1, h2, h3] <;> omega), rfl⟩
theorem iLetter (c : Int) (w : World) : Calls Tryd.prog 69 #[.int .u8 c] w fun e w' => e = .returned (.bool (letB c)) ∧ w = w' := by
  unfold letB
  by_cases h1 : 65 ≤ c <;> by_cases h2 : c ≤ 90 <;> by_cases h3 : 97 ≤ c
  all_goals
    go_enter Tryd.func69, Tryd.ntmps69
    go_wp2
    go_ret
    exact ⟨ret_bool (by simp [h1, h2, h3] <;> omega), rfl⟩
theorem sDigit (c : Int) (w : World) : Calls Tryd.prog 68 #[.int .u8 c] w fun e w' => e = .returned (.bool (digB c)) ∧ w = w' := by
  unfold digB
  by_cases h1 : 48 ≤ c
  all_goals
    go_enter Tryd.func68, Tryd.ntmps68
    go_wp2
    go_ret
    exact ⟨ret_bool (by simp [h1] <;> omega), rfl⟩
theorem iDigit (c : Int) (w : World) : Calls Tryd.prog 70 #[.int .u8 c] w fun e w' => e = .returned (.bool (digB c)) ∧ w = w' := by
  unfold digB
  by_cases h1 : 48 ≤ c
  all_goals
    go_enter Tryd.func70, Tryd.ntmps70
    go_wp2
    go_ret
    exact ⟨ret_bool (by simp [h1] <;> omega), rfl⟩
theorem sMany (kd : Int) (w : World) : Calls Tryd.prog 40 #[.int .i64 kd] w fun e w' => e = .returned (.int .i64 (many kd)) ∧ w = w' := by
  unfold many
  by_cases h1 : kd = 1
  · subst h1
    go_enter Tryd.func40, Tryd.ntmps40
    go_wp2
    go_ret
    exact ⟨rfl, rfl⟩
  · by_cases h2 : kd = 2
    · subst h2
      go_enter Tryd.func40, Tryd.ntmps40
      go_wp2
      go_ret
      exact ⟨rfl, rfl⟩
    · go_enter Tryd.func40, Tryd.ntmps40
      go_wp2
      go_ret
      exact ⟨ret_int (by first | rfl | (rw [if_neg h1, if_neg h2])), rfl⟩
theorem iKind (kd : Int) (w : World) : Calls Tryd.prog 44 #[.int .i64 kd] w fun e w' => e = .returned (.bool (kindB kd)) ∧ w = w' := by
  unfold kindB
  by_cases h1 : kd = 1
  · subst h1
    go_enter Tryd.func44, Tryd.ntmps44
    go_wp2
    go_ret
    exact ⟨rfl, rfl⟩
  · go_enter Tryd.func44, Tryd.ntmps44
    go_wp2
    go_ret
    exact ⟨ret_bool (by rw [decide_eq_false h1, Bool.false_or]; by_cases h2 : kd = 2 <;> simp_all), rfl⟩
theorem iBeyond (z : Int) (w : World) : Calls Tryd.prog 46 #[.int .i64 z] w fun e w' => e = .returned (.bool (beyB z)) ∧ w = w' := by
  unfold beyB
  by_cases h1 : z < -1000000000000
  all_goals
    go_enter Tryd.func46, Tryd.ntmps46
    go_wp2
    go_ret
    exact ⟨ret_bool (by simp [h1] <;> omega), rfl⟩
theorem sShift (x : Nat) (w : World) : Calls Tryd.prog 41 #[.float .f64 x] w fun e w' => e = .returned (.bool (shB x)) ∧ w = w' := by
  unfold shB
  rcases h1 : FloatKind.f64.format.order x 13830554455654793216 with _ | (_ | _ | _) <;> rcases h2 : FloatKind.f64.format.order x 4607182418800017408 with _ | (_ | _ | _)
  all_goals
    go_enter Tryd.func41, Tryd.ntmps41
    go_wp2
    go_ret
    exact ⟨ret_bool (by simp [atLeast, atMost]), rfl⟩
theorem iShift (x : Nat) (w : World) : Calls Tryd.prog 47 #[.float .f64 x] w fun e w' => e = .returned (.bool (shB x)) ∧ w = w' := by
  unfold shB
  rcases h1 : FloatKind.f64.format.order x 13830554455654793216 with _ | (_ | _ | _) <;> rcases h2 : FloatKind.f64.format.order x 4607182418800017408 with _ | (_ | _ | _)
  all_goals
    go_enter Tryd.func47, Tryd.ntmps47
    go_wp2
    go_ret
    exact ⟨ret_bool (by simp [atLeast, atMost]), rfl⟩
end Go.Proofs.YtndfncjoknibaaaDoor
