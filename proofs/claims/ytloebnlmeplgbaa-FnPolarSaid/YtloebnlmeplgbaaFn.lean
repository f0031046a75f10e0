/- Products, sums, squares of complex whole numbers: both packages, one plain value each; wraps as they stand. -/
import Derived.Test.YtloebnlmeplgbaaBs
import Derived.Handy
namespace Go.Proofs.Ytloebnlmeplgbaa
open Go.RowKit
set_option linter.unusedVariables false
set_option linter.unusedSimpArgs false
def gmul (a b : Gz) : Gz := ⟨wrap64 (wrap64 (a.re * b.re) - wrap64 (a.im * b.im)), wrap64 (wrap64 (a.re * b.im) + wrap64 (a.im * b.re))⟩
def gadd (a b : Gz) : Gz := ⟨wrap64 (a.re + b.re), wrap64 (a.im + b.im)⟩
def gsq (a : Gz) : Int := wrap64 (wrap64 (a.re * a.re) + wrap64 (a.im * a.im))
def gr (a b : Gz) : Int := wrap64 (wrap64 (a.re * b.re) + wrap64 (a.im * b.im))
def gs (a b : Gz) : Int := wrap64 (wrap64 (a.im * b.re) - wrap64 (a.re * b.im))
def gin (a : Gz) : Bool := decide (-30000 ≤ a.re ∧ a.re ≤ 30000 ∧ -30000 ≤ a.im ∧ a.im ≤ 30000)
def wide (n : Int) : Bool := decide (-2000000000 ≤ n ∧ n ≤ 2000000000)
set_option maxHeartbeats 800000 in
theorem itimes (a b : Gz) (w : World) : Calls Try.prog 96 #[.agg #[.int .i64 a.re, .int .i64 a.im], .agg #[.int .i64 b.re, .int .i64 b.im]] w fun e w' => e = .returned (.agg #[.int .i64 ((gmul a b).re), .int .i64 ((gmul a b).im)]) ∧ Below w.heap.size w w' := by
  go_enter Try.func96, Try.ntmps96
  go_wp2
  refine bodyPost_ret (v := .agg #[.int .i64 ((gmul a b).re), .int .i64 ((gmul a b).im)]) (by simp [results, Try.results96, go_sem, gmul] <;> (repeat' (first | rfl | apply And.intro))) rfl ⟨rfl, ?_⟩
  go_grown
set_option maxHeartbeats 800000 in
theorem smul (a b : Gz) (w : World) : Calls Try.prog 95 #[.agg #[.int .i64 a.re, .int .i64 a.im], .agg #[.int .i64 b.re, .int .i64 b.im]] w fun e w' => e = .returned (.agg #[.int .i64 ((gmul a b).re), .int .i64 ((gmul a b).im)]) ∧ Below w.heap.size w w' := by
  go_enter Try.func95, Try.ntmps95
  go_wp2
  refine bodyPost_ret (v := .agg #[.int .i64 ((gmul a b).re), .int .i64 ((gmul a b).im)]) (by simp [results, Try.results95, go_sem, gmul] <;> (repeat' (first | rfl | apply And.intro))) rfl ⟨rfl, ?_⟩
  go_grown
set_option maxHeartbeats 800000 in
theorem iplus (a b : Gz) (w : World) : Calls Try.prog 97 #[.agg #[.int .i64 a.re, .int .i64 a.im], .agg #[.int .i64 b.re, .int .i64 b.im]] w fun e w' => e = .returned (.agg #[.int .i64 ((gadd a b).re), .int .i64 ((gadd a b).im)]) ∧ Below w.heap.size w w' := by
  go_enter Try.func97, Try.ntmps97
  go_wp2
  refine bodyPost_ret (v := .agg #[.int .i64 ((gadd a b).re), .int .i64 ((gadd a b).im)]) (by simp [results, Try.results97, go_sem, gadd] <;> (repeat' (first | rfl | apply And.intro))) rfl ⟨rfl, ?_⟩
  go_grown
set_option maxHeartbeats 800000 in
theorem isq (a : Gz) (w : World) : Calls Try.prog 66 #[.agg #[.int .i64 a.re, .int .i64 a.im]] w fun e w' => e = .returned (.int .i64 (gsq a)) ∧ Below w.heap.size w w' := by
  go_enter Try.func66, Try.ntmps66
  go_wp2
  go_ret
  exact ⟨rfl, by go_grown⟩
set_option maxHeartbeats 800000 in
theorem ssq (a : Gz) (w : World) : Calls Try.prog 68 #[.agg #[.int .i64 a.re, .int .i64 a.im]] w fun e w' => e = .returned (.int .i64 (gsq a)) ∧ Below w.heap.size w w' := by
  go_enter Try.func68, Try.ntmps68
  go_wp2
  go_ret
  exact ⟨rfl, by go_grown⟩
set_option maxHeartbeats 800000 in
theorem sr (a b : Gz) (w : World) : Calls Try.prog 69 #[.agg #[.int .i64 a.re, .int .i64 a.im], .agg #[.int .i64 b.re, .int .i64 b.im]] w fun e w' => e = .returned (.int .i64 (gr a b)) ∧ Below w.heap.size w w' := by
  go_enter Try.func69, Try.ntmps69
  go_wp2
  go_ret
  exact ⟨rfl, by go_grown⟩
set_option maxHeartbeats 800000 in
theorem ss (a b : Gz) (w : World) : Calls Try.prog 70 #[.agg #[.int .i64 a.re, .int .i64 a.im], .agg #[.int .i64 b.re, .int .i64 b.im]] w fun e w' => e = .returned (.int .i64 (gs a b)) ∧ Below w.heap.size w w' := by
  go_enter Try.func70, Try.ntmps70
  go_wp2
  go_ret
  exact ⟨rfl, by go_grown⟩
set_option maxHeartbeats 800000 in
theorem toG_any (a : Gz) (w : World) : Calls Try.prog 78 #[.agg #[.int .i64 a.re, .int .i64 a.im]] w fun e w' => e = .returned (.agg #[.int .i64 a.re, .int .i64 a.im]) ∧ Below w.heap.size w w' := by
  go_enter Try.func78, Try.ntmps78
  go_wp2
  refine bodyPost_ret (v := .agg #[.int .i64 a.re, .int .i64 a.im]) (by simp [results, Try.results78, go_sem] <;> (repeat' (first | rfl | apply And.intro))) rfl ⟨rfl, ?_⟩
  go_grown
set_option maxHeartbeats 800000 in
theorem toStokes_any (a : Sk) (w : World) : Calls Try.prog 47 #[.agg #[.int .i64 a.i, .int .i64 a.q, .int .i64 a.u, .int .i64 a.v]] w fun e w' => e = .returned (.agg #[.int .i64 a.i, .int .i64 a.q, .int .i64 a.u, .int .i64 a.v]) ∧ Below w.heap.size w w' := by
  go_enter Try.func47, Try.ntmps47
  go_wp2
  refine bodyPost_ret (v := .agg #[.int .i64 a.i, .int .i64 a.q, .int .i64 a.u, .int .i64 a.v]) (by simp [results, Try.results47, go_sem] <;> (repeat' (first | rfl | apply And.intro))) rfl ⟨rfl, ?_⟩
  go_grown
set_option maxHeartbeats 800000 in
theorem icols (a b c d : Gz) (w : World) : Calls Try.prog 81 #[.agg #[.int .i64 a.re, .int .i64 a.im, .int .i64 b.re, .int .i64 b.im], .agg #[.int .i64 c.re, .int .i64 c.im, .int .i64 d.re, .int .i64 d.im]] w fun e w' => e = .returned (.agg #[.int .i64 a.re, .int .i64 a.im, .int .i64 c.re, .int .i64 c.im, .int .i64 b.re, .int .i64 b.im, .int .i64 d.re, .int .i64 d.im]) ∧ Below w.heap.size w w' := by
  go_enter Try.func81, Try.ntmps81
  go_wp2
  refine bodyPost_ret (v := .agg #[.int .i64 a.re, .int .i64 a.im, .int .i64 c.re, .int .i64 c.im, .int .i64 b.re, .int .i64 b.im, .int .i64 d.re, .int .i64 d.im]) (by simp [results, Try.results81, go_sem] <;> (repeat' (first | rfl | apply And.intro))) rfl ⟨rfl, ?_⟩
  go_grown
set_option maxHeartbeats 800000 in
theorem imirror (a : Pl) (w : World) : Calls Try.prog 45 #[.agg #[.int .i64 a.a.re, .int .i64 a.a.im, .int .i64 a.b.re, .int .i64 a.b.im, .int .i64 a.c.re, .int .i64 a.c.im, .int .i64 a.d.re, .int .i64 a.d.im]] w fun e w' => e = .returned (.agg #[.int .i64 a.a.re, .int .i64 a.a.im, .int .i64 a.c.re, .int .i64 a.c.im, .int .i64 a.b.re, .int .i64 a.b.im, .int .i64 a.d.re, .int .i64 a.d.im]) ∧ Below w.heap.size w w' := by
  go_enter Try.func45, Try.ntmps45
  go_wp2
  refine bodyPost_ret (v := .agg #[.int .i64 a.a.re, .int .i64 a.a.im, .int .i64 a.c.re, .int .i64 a.c.im, .int .i64 a.b.re, .int .i64 a.b.im, .int .i64 a.d.re, .int .i64 a.d.im]) (by simp [results, Try.results45, go_sem] <;> (repeat' (first | rfl | apply And.intro))) rfl ⟨rfl, ?_⟩
  go_grown
set_option maxHeartbeats 800000 in
theorem smirror (a : Pl) (w : World) : Calls Try.prog 44 #[.agg #[.int .i64 a.a.re, .int .i64 a.a.im, .int .i64 a.b.re, .int .i64 a.b.im, .int .i64 a.c.re, .int .i64 a.c.im, .int .i64 a.d.re, .int .i64 a.d.im]] w fun e w' => e = .returned (.agg #[.int .i64 a.a.re, .int .i64 a.a.im, .int .i64 a.c.re, .int .i64 a.c.im, .int .i64 a.b.re, .int .i64 a.b.im, .int .i64 a.d.re, .int .i64 a.d.im]) ∧ Below w.heap.size w w' := by
  go_enter Try.func44, Try.ntmps44
  go_wp2
  refine bodyPost_ret (v := .agg #[.int .i64 a.a.re, .int .i64 a.a.im, .int .i64 a.c.re, .int .i64 a.c.im, .int .i64 a.b.re, .int .i64 a.b.im, .int .i64 a.d.re, .int .i64 a.d.im]) (by simp [results, Try.results44, go_sem] <;> (repeat' (first | rfl | apply And.intro))) rfl ⟨rfl, ?_⟩
  go_grown
set_option maxHeartbeats 800000 in
theorem inums (a : Sk) (w : World) : Calls Try.prog 73 #[.agg #[.int .i64 a.i, .int .i64 a.q, .int .i64 a.u, .int .i64 a.v]] w fun e w' => e = .returned (.agg #[.int .i64 a.i, .int .i64 a.q, .int .i64 a.u, .int .i64 a.v]) ∧ Below w.heap.size w w' := by
  go_enter Try.func73, Try.ntmps73
  go_wp2
  refine bodyPost_ret (v := .agg #[.int .i64 a.i, .int .i64 a.q, .int .i64 a.u, .int .i64 a.v]) (by simp [results, Try.results73, go_sem] <;> (repeat' (first | rfl | apply And.intro))) rfl ⟨rfl, ?_⟩
  go_grown
set_option maxHeartbeats 800000 in
theorem istok (a : Sk) (w : World) : Calls Try.prog 86 #[.agg #[.int .i64 a.i, .int .i64 a.q, .int .i64 a.u, .int .i64 a.v]] w fun e w' => e = .returned (.agg #[.int .i64 a.i, .int .i64 a.q, .int .i64 a.u, .int .i64 a.v]) ∧ Below w.heap.size w w' := by
  go_enter Try.func86, Try.ntmps86
  go_wp2
  refine bodyPost_ret (v := .agg #[.int .i64 a.i, .int .i64 a.q, .int .i64 a.u, .int .i64 a.v]) (by simp [results, Try.results86, go_sem] <;> (repeat' (first | rfl | apply And.intro))) rfl ⟨rfl, ?_⟩
  go_grown
set_option maxHeartbeats 800000 in
theorem eqG_same (a : Gz) (w : World) : Calls Try.prog 82 #[.agg #[.int .i64 a.re, .int .i64 a.im], .agg #[.int .i64 a.re, .int .i64 a.im]] w fun e w' => e = .returned (.bool true) ∧ Below w.heap.size w w' := by
  go_enter Try.func82, Try.ntmps82
  go_wp2
  go_ret
  exact ⟨rfl, by go_grown⟩
set_option maxHeartbeats 800000 in
theorem eqStokes_same (a : Sk) (w : World) : Calls Try.prog 85 #[.agg #[.int .i64 a.i, .int .i64 a.q, .int .i64 a.u, .int .i64 a.v], .agg #[.int .i64 a.i, .int .i64 a.q, .int .i64 a.u, .int .i64 a.v]] w fun e w' => e = .returned (.bool true) ∧ Below w.heap.size w w' := by
  go_enter Try.func85, Try.ntmps85
  go_wp2
  go_ret
  exact ⟨rfl, by go_grown⟩
set_option maxHeartbeats 800000 in
theorem sin (a : Gz) (w : World) : Calls Try.prog 77 #[.agg #[.int .i64 a.re, .int .i64 a.im]] w fun e w' => e = .returned (.bool (gin a)) ∧ Below w.heap.size w w' := by
  go_enter Try.func77, Try.ntmps77
  go_wp2
  all_goals
    go_ret
    exact ⟨ret_bool (by first | (simp [gin] <;> omega; done) | (simp [gin, *]; done) | (by_cases h : a.im ≤ 30000 <;> simp [gin, *])), by go_grown⟩
set_option maxHeartbeats 800000 in
theorem swide (n : Int) (w : World) : Calls Try.prog 71 #[.int .i64 n] w fun e w' => e = .returned (.bool (wide n)) ∧ Below w.heap.size w w' := by
  go_enter Try.func71, Try.ntmps71
  go_wp2
  all_goals
    go_ret
    exact ⟨ret_bool (by first | (simp [wide] <;> omega; done) | (simp [wide, *]; done)), by go_grown⟩
set_option maxHeartbeats 3200000 in
theorem ibeat (a b : Gz) (w : World) : Calls Try.prog 67 #[.agg #[.int .i64 a.re, .int .i64 a.im], .agg #[.int .i64 b.re, .int .i64 b.im]] w fun e w' => e = .returned (.tuple #[.int .i64 (wrap64 (2 * gr a b)), .int .i64 (wrap64 (2 * gs a b))]) ∧ Below w.heap.size w w' := by
  go_enter Try.func67, Try.ntmps67
  go_wp2_with fail
  go_quiet (fail)
  go_wp2
  refine bodyPost_ret (v := .tuple #[.int .i64 (wrap64 (2 * gr a b)), .int .i64 (wrap64 (2 * gs a b))]) (by simp [results, Try.results67, go_sem, gr, gs]) rfl ⟨rfl, below_drewN (by go_grown) _⟩
end Go.Proofs.Ytloebnlmeplgbaa
