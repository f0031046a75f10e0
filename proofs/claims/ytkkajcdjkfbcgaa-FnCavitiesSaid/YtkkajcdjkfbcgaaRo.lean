/- The reckoning's sums, differences, products and quotients. -/
import Derived.Test.YtkkajcdjkfbcgaaRk
namespace Go.Proofs.Ytkkajcdjkfbcgaa
open Go.RowKit
set_option linter.unusedVariables false
set_option linter.unusedSimpArgs false
set_option maxHeartbeats 800000 in
theorem rsum (x y : Q) (r : Nat) (b : Bool) (w : World) (h : flag r b w) :
    Calls Try.prog 71 #[.pointer (some ⟨r, 0, none⟩), .agg #[.int .i64 x.n, .int .i64 x.d], .agg #[.int .i64 y.n, .int .i64 y.d]] w fun e w' => e = .returned (.agg #[.int .i64 (addQ x y).n, .int .i64 (addQ x y).d]) ∧ But r w.heap.size w w' ∧ flag r (b || !addK x y) w' := by
  have hl := h.lt
  have H : Hid (flag r b w) := h
  clear h
  go_enter Try.func71, Try.ntmps71
  go_wp2_with fail
  refine (iaddq x y _).mono ?_
  rintro e w1 ⟨rfl, hb1⟩
  have s1 : w.heap.size + 1 + 1 < w1.heap.size := by have := hb1.size; simp at this; omega
  have c0 : w1.cell? ⟨w.heap.size + 1 + 1, 0, none⟩ = some (.int .i64 0) := (hb1.cell (p := ⟨w.heap.size + 1 + 1, 0, none⟩) (by simp)).trans (by go_simp)
  have c1 : w1.cell? ⟨w.heap.size + 1 + 1, 1, none⟩ = some (.int .i64 0) := (hb1.cell (p := ⟨w.heap.size + 1 + 1, 1, none⟩) (by simp)).trans (by go_simp)
  have f0 : w1.frozen? ⟨w.heap.size + 1 + 1, 0, none⟩ = false := (hb1.frozen (p := ⟨w.heap.size + 1 + 1, 0, none⟩) (by simp)).trans (by go_simp)
  have f1 : w1.frozen? ⟨w.heap.size + 1 + 1, 1, none⟩ = false := (hb1.frozen (p := ⟨w.heap.size + 1 + 1, 1, none⟩) (by simp)).trans (by go_simp)
  have B1 : Hid (But r w.heap.size w w1) := by refine But.callB ?_ hb1 (by simp <;> omega); (repeat' (first | (with_reducible exact But.refl _ _ _) | (with_reducible assumption) | (with_reducible refine But.setFlag ?_ _) | (with_reducible refine But.alloc ?_ ?_ _) | (with_reducible refine But.drew ?_) | (with_reducible refine But.setCell ?_ ?_ _) | go_size))
  have F1 : Hid (flag r b w1) := by refine flag.below ?_ hb1 (by simp <;> omega); have h := H.out; (repeat' (first | (with_reducible assumption) | (with_reducible apply flag.set) | (with_reducible refine flag.alloc ?_ _) | (with_reducible refine flag.drew ?_) | (with_reducible refine flag.setOther ?_ ?_ _) | omega | (simp; omega) | (simp; done)))
  clear hb1
  go_wp2_with fail
  refine (keep_any _ _ _ r b _ F1.out).mono ?_
  rintro e w2 ⟨rfl, hb2, F2'⟩
  have s2 : w.heap.size + 1 + 1 < w2.heap.size := by have := hb2.size; omega
  have d0 : w2.cell? ⟨w.heap.size + 1 + 1, 0, none⟩ = some (.int .i64 0) := (hb2.cell (p := ⟨w.heap.size + 1 + 1, 0, none⟩) (by simp; omega) (by simp; omega)).trans c0
  have d1 : w2.cell? ⟨w.heap.size + 1 + 1, 1, none⟩ = some (.int .i64 0) := (hb2.cell (p := ⟨w.heap.size + 1 + 1, 1, none⟩) (by simp; omega) (by simp; omega)).trans c1
  have g0 : w2.frozen? ⟨w.heap.size + 1 + 1, 0, none⟩ = false := (hb2.frozen (p := ⟨w.heap.size + 1 + 1, 0, none⟩) (by simp; omega) (by simp; omega)).trans f0
  have g1 : w2.frozen? ⟨w.heap.size + 1 + 1, 1, none⟩ = false := (hb2.frozen (p := ⟨w.heap.size + 1 + 1, 1, none⟩) (by simp; omega) (by simp; omega)).trans f1
  have B2 : Hid (But r w.heap.size w w2) := B1.out.call hb2 (by omega)
  have F2 : Hid (flag r (b || !addK x y) w2) := F2'
  clear hb2 F2' B1 F1 c0 c1 f0 f1
  go_wp2
  refine bodyPost_ret (v := .agg #[.int .i64 (addQ x y).n, .int .i64 (addQ x y).d]) (by simp [results, Try.results71, go_sem, d0, d1]) rfl ⟨rfl, ?_, ?_⟩
  · have h := B2.out
    (repeat' (first | (with_reducible exact But.refl _ _ _) | (with_reducible assumption) | (with_reducible refine But.setFlag ?_ _) | (with_reducible refine But.alloc ?_ ?_ _) | (with_reducible refine But.drew ?_) | (with_reducible refine But.setCell ?_ ?_ _) | go_size))
  · have h := F2.out
    (repeat' (first | (with_reducible assumption) | (with_reducible apply flag.set) | (with_reducible refine flag.alloc ?_ _) | (with_reducible refine flag.drew ?_) | (with_reducible refine flag.setOther ?_ ?_ _) | omega | (simp; omega) | (simp; done)))
set_option maxHeartbeats 800000 in
theorem rprod (x y : Q) (r : Nat) (b : Bool) (w : World) (h : flag r b w) :
    Calls Try.prog 69 #[.pointer (some ⟨r, 0, none⟩), .agg #[.int .i64 x.n, .int .i64 x.d], .agg #[.int .i64 y.n, .int .i64 y.d]] w fun e w' => e = .returned (.agg #[.int .i64 (mulQ x y).n, .int .i64 (mulQ x y).d]) ∧ But r w.heap.size w w' ∧ flag r (b || !mulK x y) w' := by
  have hl := h.lt
  have H : Hid (flag r b w) := h
  clear h
  go_enter Try.func69, Try.ntmps69
  go_wp2_with fail
  refine (imulq x y _).mono ?_
  rintro e w1 ⟨rfl, hb1⟩
  have s1 : w.heap.size + 1 + 1 < w1.heap.size := by have := hb1.size; simp at this; omega
  have c0 : w1.cell? ⟨w.heap.size + 1 + 1, 0, none⟩ = some (.int .i64 0) := (hb1.cell (p := ⟨w.heap.size + 1 + 1, 0, none⟩) (by simp)).trans (by go_simp)
  have c1 : w1.cell? ⟨w.heap.size + 1 + 1, 1, none⟩ = some (.int .i64 0) := (hb1.cell (p := ⟨w.heap.size + 1 + 1, 1, none⟩) (by simp)).trans (by go_simp)
  have f0 : w1.frozen? ⟨w.heap.size + 1 + 1, 0, none⟩ = false := (hb1.frozen (p := ⟨w.heap.size + 1 + 1, 0, none⟩) (by simp)).trans (by go_simp)
  have f1 : w1.frozen? ⟨w.heap.size + 1 + 1, 1, none⟩ = false := (hb1.frozen (p := ⟨w.heap.size + 1 + 1, 1, none⟩) (by simp)).trans (by go_simp)
  have B1 : Hid (But r w.heap.size w w1) := by refine But.callB ?_ hb1 (by simp <;> omega); (repeat' (first | (with_reducible exact But.refl _ _ _) | (with_reducible assumption) | (with_reducible refine But.setFlag ?_ _) | (with_reducible refine But.alloc ?_ ?_ _) | (with_reducible refine But.drew ?_) | (with_reducible refine But.setCell ?_ ?_ _) | go_size))
  have F1 : Hid (flag r b w1) := by refine flag.below ?_ hb1 (by simp <;> omega); have h := H.out; (repeat' (first | (with_reducible assumption) | (with_reducible apply flag.set) | (with_reducible refine flag.alloc ?_ _) | (with_reducible refine flag.drew ?_) | (with_reducible refine flag.setOther ?_ ?_ _) | omega | (simp; omega) | (simp; done)))
  clear hb1
  go_wp2_with fail
  refine (keep_any _ _ _ r b _ F1.out).mono ?_
  rintro e w2 ⟨rfl, hb2, F2'⟩
  have s2 : w.heap.size + 1 + 1 < w2.heap.size := by have := hb2.size; omega
  have d0 : w2.cell? ⟨w.heap.size + 1 + 1, 0, none⟩ = some (.int .i64 0) := (hb2.cell (p := ⟨w.heap.size + 1 + 1, 0, none⟩) (by simp; omega) (by simp; omega)).trans c0
  have d1 : w2.cell? ⟨w.heap.size + 1 + 1, 1, none⟩ = some (.int .i64 0) := (hb2.cell (p := ⟨w.heap.size + 1 + 1, 1, none⟩) (by simp; omega) (by simp; omega)).trans c1
  have g0 : w2.frozen? ⟨w.heap.size + 1 + 1, 0, none⟩ = false := (hb2.frozen (p := ⟨w.heap.size + 1 + 1, 0, none⟩) (by simp; omega) (by simp; omega)).trans f0
  have g1 : w2.frozen? ⟨w.heap.size + 1 + 1, 1, none⟩ = false := (hb2.frozen (p := ⟨w.heap.size + 1 + 1, 1, none⟩) (by simp; omega) (by simp; omega)).trans f1
  have B2 : Hid (But r w.heap.size w w2) := B1.out.call hb2 (by omega)
  have F2 : Hid (flag r (b || !mulK x y) w2) := F2'
  clear hb2 F2' B1 F1 c0 c1 f0 f1
  go_wp2
  refine bodyPost_ret (v := .agg #[.int .i64 (mulQ x y).n, .int .i64 (mulQ x y).d]) (by simp [results, Try.results69, go_sem, d0, d1]) rfl ⟨rfl, ?_, ?_⟩
  · have h := B2.out
    (repeat' (first | (with_reducible exact But.refl _ _ _) | (with_reducible assumption) | (with_reducible refine But.setFlag ?_ _) | (with_reducible refine But.alloc ?_ ?_ _) | (with_reducible refine But.drew ?_) | (with_reducible refine But.setCell ?_ ?_ _) | go_size))
  · have h := F2.out
    (repeat' (first | (with_reducible assumption) | (with_reducible apply flag.set) | (with_reducible refine flag.alloc ?_ _) | (with_reducible refine flag.drew ?_) | (with_reducible refine flag.setOther ?_ ?_ _) | omega | (simp; omega) | (simp; done)))
set_option maxHeartbeats 800000 in
theorem rdiff (x y : Q) (r : Nat) (b : Bool) (w : World) (h : flag r b w) :
    Calls Try.prog 70 #[.pointer (some ⟨r, 0, none⟩), .agg #[.int .i64 x.n, .int .i64 x.d], .agg #[.int .i64 y.n, .int .i64 y.d]] w fun e w' => e = .returned (.agg #[.int .i64 (subQ x y).n, .int .i64 (subQ x y).d]) ∧ But r w.heap.size w w' ∧ flag r (b || !subK x y) w' := by
  have hl := h.lt
  have H : Hid (flag r b w) := h
  clear h
  go_enter Try.func70, Try.ntmps70
  go_wp2_with fail
  refine (isubq x y _).mono ?_
  rintro e w1 ⟨rfl, hb1⟩
  have s1 : w.heap.size + 1 + 1 < w1.heap.size := by have := hb1.size; simp at this; omega
  have c0 : w1.cell? ⟨w.heap.size + 1 + 1, 0, none⟩ = some (.int .i64 0) := (hb1.cell (p := ⟨w.heap.size + 1 + 1, 0, none⟩) (by simp)).trans (by go_simp)
  have c1 : w1.cell? ⟨w.heap.size + 1 + 1, 1, none⟩ = some (.int .i64 0) := (hb1.cell (p := ⟨w.heap.size + 1 + 1, 1, none⟩) (by simp)).trans (by go_simp)
  have f0 : w1.frozen? ⟨w.heap.size + 1 + 1, 0, none⟩ = false := (hb1.frozen (p := ⟨w.heap.size + 1 + 1, 0, none⟩) (by simp)).trans (by go_simp)
  have f1 : w1.frozen? ⟨w.heap.size + 1 + 1, 1, none⟩ = false := (hb1.frozen (p := ⟨w.heap.size + 1 + 1, 1, none⟩) (by simp)).trans (by go_simp)
  have B1 : Hid (But r w.heap.size w w1) := by refine But.callB ?_ hb1 (by simp <;> omega); (repeat' (first | (with_reducible exact But.refl _ _ _) | (with_reducible assumption) | (with_reducible refine But.setFlag ?_ _) | (with_reducible refine But.alloc ?_ ?_ _) | (with_reducible refine But.drew ?_) | (with_reducible refine But.setCell ?_ ?_ _) | go_size))
  have F1 : Hid (flag r b w1) := by refine flag.below ?_ hb1 (by simp <;> omega); have h := H.out; (repeat' (first | (with_reducible assumption) | (with_reducible apply flag.set) | (with_reducible refine flag.alloc ?_ _) | (with_reducible refine flag.drew ?_) | (with_reducible refine flag.setOther ?_ ?_ _) | omega | (simp; omega) | (simp; done)))
  clear hb1
  go_wp2_with fail
  refine (keep_any _ _ _ r b _ F1.out).mono ?_
  rintro e w2 ⟨rfl, hb2, F2'⟩
  have s2 : w.heap.size + 1 + 1 < w2.heap.size := by have := hb2.size; omega
  have d0 : w2.cell? ⟨w.heap.size + 1 + 1, 0, none⟩ = some (.int .i64 0) := (hb2.cell (p := ⟨w.heap.size + 1 + 1, 0, none⟩) (by simp; omega) (by simp; omega)).trans c0
  have d1 : w2.cell? ⟨w.heap.size + 1 + 1, 1, none⟩ = some (.int .i64 0) := (hb2.cell (p := ⟨w.heap.size + 1 + 1, 1, none⟩) (by simp; omega) (by simp; omega)).trans c1
  have g0 : w2.frozen? ⟨w.heap.size + 1 + 1, 0, none⟩ = false := (hb2.frozen (p := ⟨w.heap.size + 1 + 1, 0, none⟩) (by simp; omega) (by simp; omega)).trans f0
  have g1 : w2.frozen? ⟨w.heap.size + 1 + 1, 1, none⟩ = false := (hb2.frozen (p := ⟨w.heap.size + 1 + 1, 1, none⟩) (by simp; omega) (by simp; omega)).trans f1
  have B2 : Hid (But r w.heap.size w w2) := B1.out.call hb2 (by omega)
  have F2 : Hid (flag r (b || !subK x y) w2) := F2'
  clear hb2 F2' B1 F1 c0 c1 f0 f1
  go_wp2
  refine bodyPost_ret (v := .agg #[.int .i64 (subQ x y).n, .int .i64 (subQ x y).d]) (by simp [results, Try.results70, go_sem, d0, d1]) rfl ⟨rfl, ?_, ?_⟩
  · have h := B2.out
    (repeat' (first | (with_reducible exact But.refl _ _ _) | (with_reducible assumption) | (with_reducible refine But.setFlag ?_ _) | (with_reducible refine But.alloc ?_ ?_ _) | (with_reducible refine But.drew ?_) | (with_reducible refine But.setCell ?_ ?_ _) | go_size))
  · have h := F2.out
    (repeat' (first | (with_reducible assumption) | (with_reducible apply flag.set) | (with_reducible refine flag.alloc ?_ _) | (with_reducible refine flag.drew ?_) | (with_reducible refine flag.setOther ?_ ?_ _) | omega | (simp; omega) | (simp; done)))
set_option maxHeartbeats 800000 in
theorem rquot (x y : Q) (r : Nat) (b : Bool) (w : World) (h : flag r b w) :
    Calls Try.prog 110 #[.pointer (some ⟨r, 0, none⟩), .agg #[.int .i64 x.n, .int .i64 x.d], .agg #[.int .i64 y.n, .int .i64 y.d]] w fun e w' => e = .returned (.agg #[.int .i64 (divQ x y).n, .int .i64 (divQ x y).d]) ∧ But r w.heap.size w w' ∧ flag r (b || !divK x y) w' := by
  have hl := h.lt
  have H : Hid (flag r b w) := h
  clear h
  go_enter Try.func110, Try.ntmps110
  go_wp2_with fail
  refine (idivq x y _).mono ?_
  rintro e w1 ⟨rfl, hb1⟩
  have s1 : w.heap.size + 1 + 1 < w1.heap.size := by have := hb1.size; simp at this; omega
  have c0 : w1.cell? ⟨w.heap.size + 1 + 1, 0, none⟩ = some (.int .i64 0) := (hb1.cell (p := ⟨w.heap.size + 1 + 1, 0, none⟩) (by simp)).trans (by go_simp)
  have c1 : w1.cell? ⟨w.heap.size + 1 + 1, 1, none⟩ = some (.int .i64 0) := (hb1.cell (p := ⟨w.heap.size + 1 + 1, 1, none⟩) (by simp)).trans (by go_simp)
  have f0 : w1.frozen? ⟨w.heap.size + 1 + 1, 0, none⟩ = false := (hb1.frozen (p := ⟨w.heap.size + 1 + 1, 0, none⟩) (by simp)).trans (by go_simp)
  have f1 : w1.frozen? ⟨w.heap.size + 1 + 1, 1, none⟩ = false := (hb1.frozen (p := ⟨w.heap.size + 1 + 1, 1, none⟩) (by simp)).trans (by go_simp)
  have B1 : Hid (But r w.heap.size w w1) := by refine But.callB ?_ hb1 (by simp <;> omega); (repeat' (first | (with_reducible exact But.refl _ _ _) | (with_reducible assumption) | (with_reducible refine But.setFlag ?_ _) | (with_reducible refine But.alloc ?_ ?_ _) | (with_reducible refine But.drew ?_) | (with_reducible refine But.setCell ?_ ?_ _) | go_size))
  have F1 : Hid (flag r b w1) := by refine flag.below ?_ hb1 (by simp <;> omega); have h := H.out; (repeat' (first | (with_reducible assumption) | (with_reducible apply flag.set) | (with_reducible refine flag.alloc ?_ _) | (with_reducible refine flag.drew ?_) | (with_reducible refine flag.setOther ?_ ?_ _) | omega | (simp; omega) | (simp; done)))
  clear hb1
  go_wp2_with fail
  refine (keep_any _ _ _ r b _ F1.out).mono ?_
  rintro e w2 ⟨rfl, hb2, F2'⟩
  have s2 : w.heap.size + 1 + 1 < w2.heap.size := by have := hb2.size; omega
  have d0 : w2.cell? ⟨w.heap.size + 1 + 1, 0, none⟩ = some (.int .i64 0) := (hb2.cell (p := ⟨w.heap.size + 1 + 1, 0, none⟩) (by simp; omega) (by simp; omega)).trans c0
  have d1 : w2.cell? ⟨w.heap.size + 1 + 1, 1, none⟩ = some (.int .i64 0) := (hb2.cell (p := ⟨w.heap.size + 1 + 1, 1, none⟩) (by simp; omega) (by simp; omega)).trans c1
  have g0 : w2.frozen? ⟨w.heap.size + 1 + 1, 0, none⟩ = false := (hb2.frozen (p := ⟨w.heap.size + 1 + 1, 0, none⟩) (by simp; omega) (by simp; omega)).trans f0
  have g1 : w2.frozen? ⟨w.heap.size + 1 + 1, 1, none⟩ = false := (hb2.frozen (p := ⟨w.heap.size + 1 + 1, 1, none⟩) (by simp; omega) (by simp; omega)).trans f1
  have B2 : Hid (But r w.heap.size w w2) := B1.out.call hb2 (by omega)
  have F2 : Hid (flag r (b || !divK x y) w2) := F2'
  clear hb2 F2' B1 F1 c0 c1 f0 f1
  go_wp2
  refine bodyPost_ret (v := .agg #[.int .i64 (divQ x y).n, .int .i64 (divQ x y).d]) (by simp [results, Try.results110, go_sem, d0, d1]) rfl ⟨rfl, ?_, ?_⟩
  · have h := B2.out
    (repeat' (first | (with_reducible exact But.refl _ _ _) | (with_reducible assumption) | (with_reducible refine But.setFlag ?_ _) | (with_reducible refine But.alloc ?_ ?_ _) | (with_reducible refine But.drew ?_) | (with_reducible refine But.setCell ?_ ?_ _) | go_size))
  · have h := F2.out
    (repeat' (first | (with_reducible assumption) | (with_reducible apply flag.set) | (with_reducible refine flag.alloc ?_ _) | (with_reducible refine flag.drew ?_) | (with_reducible refine flag.setOther ?_ ?_ _) | omega | (simp; omega) | (simp; done)))
end Go.Proofs.Ytkkajcdjkfbcgaa
