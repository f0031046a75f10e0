/- The program's small helpers: whole numbers, negatives, the system of no part, a system's fault; products together and apart. -/
import Derived.Test.YtkkajcdjkfbcgaaPu
namespace Go.Proofs.Ytkkajcdjkfbcgaa
open Go.RowKit
set_option linter.unusedVariables false
set_option linter.unusedSimpArgs false
set_option maxHeartbeats 400000 in
theorem iint (n : Int) (w : World) : Calls Try.prog 72 #[.int .i64 n] w fun e w' => e = .returned (.agg #[.int .i64 n, .int .i64 1]) ∧ Below w.heap.size w w' := by
  go_enter Try.func72, Try.ntmps72
  go_wp2
  refine bodyPost_ret (v := .agg #[.int .i64 n, .int .i64 1]) (by simp [results, Try.results72, go_sem] <;> (repeat' (first | rfl | apply And.intro))) rfl ⟨rfl, ?_⟩
  go_grown
set_option maxHeartbeats 1600000 in
theorem sone  (w : World) : Calls Try.prog 77 #[] w fun e w' => e = .returned (.agg #[.int .i64 1, .int .i64 1, .int .i64 0, .int .i64 1, .int .i64 0, .int .i64 1, .int .i64 1, .int .i64 1]) ∧ Below w.heap.size w w' := by
  go_enter Try.func77, Try.ntmps77
  go_wp2_with fail
  refine (sint 1 _).mono ?_
  rintro e w1 ⟨rfl, hb⟩
  have HO : Hid (Below w.heap.size w w1) := by refine box_step ?_ hb (by simp <;> omega); go_grown
  have RB : Hid (Blk w1 (w.heap.size) #[.int .i64 0, .int .i64 0, .int .i64 0, .int .i64 0, .int .i64 0, .int .i64 0, .int .i64 0, .int .i64 0] 44) := Blk.old (Blk.new (by simp)) hb
  clear hb
  have r0 := RB.out.cell (j := 0) rfl
  have r1 := RB.out.cell (j := 1) rfl
  have r2 := RB.out.cell (j := 2) rfl
  have r3 := RB.out.cell (j := 3) rfl
  have r4 := RB.out.cell (j := 4) rfl
  have r5 := RB.out.cell (j := 5) rfl
  have r6 := RB.out.cell (j := 6) rfl
  have r7 := RB.out.cell (j := 7) rfl
  have rf := RB.out.frozen
  go_wp2_with fail
  refine (sint 0 _).mono ?_
  rintro e w2 ⟨rfl, hb⟩
  clear r0 r1 r2 r3 r4 r5 r6 r7 rf
  have HO : Hid (Below w.heap.size w w2) := by have h := HO.out; have hs := h.size; refine box_step ?_ hb (by first | exact hs | (simp <;> omega)); go_grown
  have RB : Hid (Blk w2 (w.heap.size) #[.int .i64 0, .int .i64 0, .int .i64 0, .int .i64 0, .int .i64 0, .int .i64 0, .int .i64 0, .int .i64 0] 44) := Blk.old (RB.out) hb
  clear hb
  have r0 := RB.out.cell (j := 0) rfl
  have r1 := RB.out.cell (j := 1) rfl
  have r2 := RB.out.cell (j := 2) rfl
  have r3 := RB.out.cell (j := 3) rfl
  have r4 := RB.out.cell (j := 4) rfl
  have r5 := RB.out.cell (j := 5) rfl
  have r6 := RB.out.cell (j := 6) rfl
  have r7 := RB.out.cell (j := 7) rfl
  have rf := RB.out.frozen
  go_wp2_with fail
  refine (sint 0 _).mono ?_
  rintro e w3 ⟨rfl, hb⟩
  clear r0 r1 r2 r3 r4 r5 r6 r7 rf
  have HO : Hid (Below w.heap.size w w3) := by have h := HO.out; have hs := h.size; refine box_step ?_ hb (by first | exact hs | (simp <;> omega)); go_grown
  have RB : Hid (Blk w3 (w.heap.size) #[.int .i64 0, .int .i64 0, .int .i64 0, .int .i64 0, .int .i64 0, .int .i64 0, .int .i64 0, .int .i64 0] 44) := Blk.old (RB.out) hb
  clear hb
  have r0 := RB.out.cell (j := 0) rfl
  have r1 := RB.out.cell (j := 1) rfl
  have r2 := RB.out.cell (j := 2) rfl
  have r3 := RB.out.cell (j := 3) rfl
  have r4 := RB.out.cell (j := 4) rfl
  have r5 := RB.out.cell (j := 5) rfl
  have r6 := RB.out.cell (j := 6) rfl
  have r7 := RB.out.cell (j := 7) rfl
  have rf := RB.out.frozen
  go_wp2_with fail
  refine (sint 1 _).mono ?_
  rintro e w4 ⟨rfl, hb⟩
  clear r0 r1 r2 r3 r4 r5 r6 r7 rf
  have HO : Hid (Below w.heap.size w w4) := by have h := HO.out; have hs := h.size; refine box_step ?_ hb (by first | exact hs | (simp <;> omega)); go_grown
  have RB : Hid (Blk w4 (w.heap.size) #[.int .i64 0, .int .i64 0, .int .i64 0, .int .i64 0, .int .i64 0, .int .i64 0, .int .i64 0, .int .i64 0] 44) := Blk.old (RB.out) hb
  clear hb
  have r0 := RB.out.cell (j := 0) rfl
  have r1 := RB.out.cell (j := 1) rfl
  have r2 := RB.out.cell (j := 2) rfl
  have r3 := RB.out.cell (j := 3) rfl
  have r4 := RB.out.cell (j := 4) rfl
  have r5 := RB.out.cell (j := 5) rfl
  have r6 := RB.out.cell (j := 6) rfl
  have r7 := RB.out.cell (j := 7) rfl
  have rf := RB.out.frozen
  go_wp2
  refine bodyPost_ret (v := .agg #[.int .i64 1, .int .i64 1, .int .i64 0, .int .i64 1, .int .i64 0, .int .i64 1, .int .i64 1, .int .i64 1]) (by simp [results, Try.results77, go_sem, r0, r1, r2, r3, r4, r5, r6, r7, World.cell?_alloc_lt, RB.out.lt] <;> (repeat' (first | rfl | apply And.intro))) rfl ⟨rfl, ?_⟩
  have h := HO.out
  have hlt := RB.out.lt
  have hsz := h.size
  go_grown
def quad (m : Mx) : Nat → Q
  | 0 => m.A
  | 1 => m.B
  | 2 => m.C
  | _ => m.D
theorem all4 (m : Mx) : allB (quad m) 4 = m.ok := by simp [allB, List.range, List.range.loop, quad, Mx.ok, Bool.and_assoc]
theorem any4 (m : Mx) (w : World) (k : Nat) (h0 : w.cell? ⟨k, 0, none⟩ = some (.int .i64 m.A.n)) (h1 : w.cell? ⟨k, 1, none⟩ = some (.int .i64 m.A.d)) (h2 : w.cell? ⟨k, 2, none⟩ = some (.int .i64 m.B.n)) (h3 : w.cell? ⟨k, 3, none⟩ = some (.int .i64 m.B.d)) (h4 : w.cell? ⟨k, 4, none⟩ = some (.int .i64 m.C.n)) (h5 : w.cell? ⟨k, 5, none⟩ = some (.int .i64 m.C.d)) (h6 : w.cell? ⟨k, 6, none⟩ = some (.int .i64 m.D.n)) (h7 : w.cell? ⟨k, 7, none⟩ = some (.int .i64 m.D.d)) :
    Calls Try.prog 109 #[.slice (some ⟨k, 0, none⟩) 4 4] w fun e w' => e = .returned (.bool (!m.ok)) ∧ Below w.heap.size w w' := by
  have := anyf k 4 4 (quad m) w (by omega) (fun i hi => by
    match i, hi with
    | 0, _ => exact ⟨h0, h1⟩
    | 1, _ => exact ⟨h2, h3⟩
    | 2, _ => exact ⟨h4, h5⟩
    | 3, _ => exact ⟨h6, h7⟩)
  rw [all4] at this
  exact this
def mfault (m : Mx) : Int := if m.ok = true then 0 else 1
theorem mfault_ne (m : Mx) : (mfault m != 0) = !m.ok := by unfold mfault; cases m.ok <;> rfl
/-- A block of one's own beside a flag: all else below B as it was. -/
structure OwB (r B : Nat) (X : World) (s n : Nat) (t : TypeId) (W : World) : Prop where
  but : But r B X W
  lower : B ≤ s
  ne : s ≠ r
  block : ∃ c : Array Value, W.heap[s]? = some (.cells c t (0, 0)) ∧ c.size = n
namespace OwB
variable {r B : Nat} {X W W' : World} {s n : Nat} {t : TypeId}
theorem lt (h : OwB r B X s n t W) : s < W.heap.size := by
  obtain ⟨c, hb, _⟩ := h.block
  exact (Array.getElem?_eq_some_iff.1 hb).1
theorem cell (h : OwB r B X s n t W) {j : Nat} (hj : j < n) : W.cell? ⟨s, j, none⟩ = some (got W s j) := by
  obtain ⟨c, hb, hs⟩ := h.block
  have : W.cell? ⟨s, j, none⟩ = some (c[j]'(by omega)) := by simp [World.cell?, hb, Array.getElem?_eq_getElem (show j < c.size by omega)]
  unfold got
  rw [this]; rfl
theorem frozen (h : OwB r B X s n t W) (j : Nat) : W.frozen? ⟨s, j, none⟩ = false := by
  obtain ⟨c, hb, _⟩ := h.block
  simp [World.frozen?, hb]
theorem drew (h : OwB r B X s n t W) : OwB r B X s n t W.drew := ⟨h.but.drew, h.lower, h.ne, h.block⟩
theorem call (h : OwB r B X s n t W) (k : But r W.heap.size W W') : OwB r B X s n t W' := by
  refine ⟨h.but.call k (Nat.le_trans h.lower (Nat.le_of_lt h.lt)), h.lower, h.ne, ?_⟩
  rw [k.block _ h.lt h.ne]; exact h.block
theorem set (h : OwB r B X s n t W) (j : Nat) (v : Value) : OwB r B X s n t (W.setCell ⟨s, j, none⟩ v) := by
  refine ⟨h.but.setCell h.lower v, h.lower, h.ne, ?_⟩
  obtain ⟨c, hb, hs⟩ := h.block
  exact ⟨c.setIfInBounds j v, by simp [World.setCell, Array.getElem?_modify, hb], by simpa using hs⟩
theorem old (h : OwB r B X s n t W) {p : Addr} {v : Value} (hp : p.block < B) (hr : p.block ≠ r) (hv : X.cell? p = some v) : W.cell? p = some v := by rw [h.but.cell hp hr]; exact hv
end OwB
theorem owb_made {r : Nat} {X : World} {t : TypeId} (c : Array Value) (hr : r < X.heap.size) : OwB r X.heap.size X X.heap.size c.size t (X.alloc (.cells c t)) :=
  ⟨(But.refl _ _ _).alloc (Nat.le_refl _) _, Nat.le_refl _, by omega, ⟨c, by show (X.heap.push _)[X.heap.size]? = _; simp, rfl⟩⟩
theorem OwB.out {r B : Nat} {w X W : World} {s n : Nat} {t : TypeId} (h : OwB r B X s n t W) (k : But r w.heap.size w X) (hB : w.heap.size ≤ B) : But r w.heap.size w W := k.trans (h.but.mono hB)
theorem OwB.flag {r B : Nat} {X W : World} {s n : Nat} {t : TypeId} {b : Bool} (h : OwB r B X s n t W) (k : flag r b W) (j : Nat) (v : Value) : flag r b (W.setCell ⟨s, j, none⟩ v) := k.setOther (by have := h.ne; simpa using this.symm) v
end Go.Proofs.Ytkkajcdjkfbcgaa
