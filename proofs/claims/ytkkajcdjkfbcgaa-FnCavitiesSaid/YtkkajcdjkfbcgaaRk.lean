/- The program's reckoning: a flag in a block of its caller's, and all else as it was. -/
import Derived.Test.YtkkajcdjkfbcgaaQd
namespace Go.Proofs.Ytkkajcdjkfbcgaa
open Go.RowKit
set_option linter.unusedVariables false
set_option linter.unusedSimpArgs false
/-- All that lay below B is as it was, but for block r. -/
structure But (r B : Nat) (w w' : World) : Prop where
  os : w'.os = w.os
  tape : w'.tape = w.tape
  output : w'.output = w.output
  size : w.heap.size ≤ w'.heap.size
  block : ∀ k, k < B → k ≠ r → w'.heap[k]? = w.heap[k]?
/-- Block r holds the flag b. -/
def flag (r : Nat) (b : Bool) (W : World) : Prop := W.heap[r]? = some (.cells #[.bool b] 105 (0, 0))
namespace But
variable {r B : Nat} {X W W' : World}
theorem refl (r B : Nat) (X : World) : But r B X X := ⟨rfl, rfl, rfl, Nat.le_refl _, fun _ _ _ => rfl⟩
theorem trans (h : But r B X W) (k : But r B W W') : But r B X W' :=
  ⟨k.os.trans h.os, k.tape.trans h.tape, k.output.trans h.output, Nat.le_trans h.size k.size, fun i hi hr => (k.block i hi hr).trans (h.block i hi hr)⟩
theorem mono {B' : Nat} (h : But r B X W) (hB : B' ≤ B) : But r B' X W := ⟨h.os, h.tape, h.output, h.size, fun k hk => h.block k (Nat.lt_of_lt_of_le hk hB)⟩
theorem of_below (h : Below B X W) : But r B X W := ⟨h.os, h.tape, h.output, h.size, fun k hk _ => h.block k hk⟩
theorem drew (h : But r B X W) : But r B X W.drew := ⟨h.os, h.tape, h.output, h.size, h.block⟩
theorem call (h : But r B X W) (k : But r W.heap.size W W') (hB : B ≤ W.heap.size) : But r B X W' := h.trans (k.mono hB)
theorem callB (h : But r B X W) (k : Below W.heap.size W W') (hB : B ≤ W.heap.size) : But r B X W' := h.trans (of_below (k.mono hB))
theorem alloc (h : But r B X W) (hB : B ≤ W.heap.size) (o : Obj) : But r B X (W.alloc o) := h.trans (of_below ((Below.refl _ _).alloc hB _))
theorem setCell (h : But r B X W) {p : Addr} (hp : B ≤ p.block) (u : Value) : But r B X (W.setCell p u) := h.trans (of_below ((Below.refl _ _).setCell hp u))
theorem setFlag (h : But r B X W) {j : Nat} (u : Value) : But r B X (W.setCell ⟨r, j, none⟩ u) :=
  ⟨h.os, h.tape, h.output, by simpa [World.setCell] using h.size, fun k hk hr => (Below.heap_setCell _ _ _ _ hr).trans (h.block k hk hr)⟩
theorem cell (h : But r B X W) {p : Addr} (hp : p.block < B) (hr : p.block ≠ r) : W.cell? p = X.cell? p := World.cell?_of_block (w := X) (h.block p.block hp hr)
theorem frozen (h : But r B X W) {p : Addr} (hp : p.block < B) (hr : p.block ≠ r) : W.frozen? p = X.frozen? p := World.frozen?_of_block (w := X) (h.block p.block hp hr)
/-- Where r lies above the bound, nothing below is changed. -/
theorem below (h : But r B X W) (hr : B ≤ r) : Below B X W := ⟨h.os, h.tape, h.output, h.size, fun k hk => h.block k hk (by omega)⟩
end But
namespace flag
variable {r B : Nat} {b : Bool} {W W' : World}
theorem lt (h : flag r b W) : r < W.heap.size := (Array.getElem?_eq_some_iff.1 h).1
theorem cell (h : flag r b W) : W.cell? ⟨r, 0, none⟩ = some (.bool b) := by simp only [World.cell?, show W.heap[r]? = _ from h]; rfl
theorem frozen (h : flag r b W) (j : Nat) : W.frozen? ⟨r, j, none⟩ = false := by simp only [World.frozen?, show W.heap[r]? = _ from h]; rfl
theorem drew (h : flag r b W) : flag r b W.drew := h
theorem below (h : flag r b W) (k : Below B W W') (hB : r < B) : flag r b W' := (k.block r hB).trans h
theorem alloc (h : flag r b W) (o : Obj) : flag r b (W.alloc o) := (Below.heap_alloc _ _ _ h.lt).trans h
theorem setOther (h : flag r b W) {p : Addr} (hp : r ≠ p.block) (u : Value) : flag r b (W.setCell p u) := (Below.heap_setCell _ _ _ _ hp).trans h
theorem set (h : flag r b W) (b' : Bool) : flag r b' (W.setCell ⟨r, 0, none⟩ (.bool b')) := by
  have h' : W.heap[r]? = some (.cells #[.bool b] 105 (0, 0)) := h
  simp [flag, World.setCell, Array.getElem?_modify, h']
end flag
set_option maxHeartbeats 400000 in
theorem keep_any (c n d : Int) (r : Nat) (b : Bool) (w : World) (h : flag r b w) :
    Calls Try.prog 111 #[.pointer (some ⟨r, 0, none⟩), .agg #[.int .i64 c, .int .i64 n, .int .i64 d]] w fun e w' => e = .returned (.agg #[.int .i64 n, .int .i64 d]) ∧ But r w.heap.size w w' ∧ flag r (b || !(c == 0)) w' := by
  have hl := h.lt
  have hc := h.cell
  have hf := h.frozen
  have hne : r ≠ w.heap.size := by omega
  have hne2 : r ≠ w.heap.size + 1 := by omega
  have H : Hid (flag r b w) := h
  clear h
  by_cases e : c = 0
  · subst e
    go_enter Try.func111, Try.ntmps111
    go_wp2
    refine bodyPost_ret (v := .agg #[.int .i64 n, .int .i64 d]) (by simp [results, Try.results111, go_sem]) rfl ⟨rfl, ?_, ?_⟩
    · (repeat' (first | (with_reducible exact But.refl _ _ _) | (with_reducible assumption) | (with_reducible refine But.setFlag ?_ _) | (with_reducible refine But.alloc ?_ ?_ _) | (with_reducible refine But.drew ?_) | (with_reducible refine But.setCell ?_ ?_ _) | go_size))
    · simp only [beq_self_eq_true, Bool.not_true, Bool.or_false]
      have h := H.out
      (repeat' (first | (with_reducible assumption) | (with_reducible apply flag.set) | (with_reducible refine flag.alloc ?_ _) | (with_reducible refine flag.drew ?_) | (with_reducible refine flag.setOther ?_ ?_ _) | omega | (simp; omega) | (simp; done)))
  · have hb : (c == 0) = false := by simpa using e
    have hb2 : (c != 0) = true := by simpa using e
    go_enter Try.func111, Try.ntmps111
    go_wp2
    refine bodyPost_ret (v := .agg #[.int .i64 n, .int .i64 d]) (by simp [results, Try.results111, go_sem]) rfl ⟨rfl, ?_, ?_⟩
    · (repeat' (first | (with_reducible exact But.refl _ _ _) | (with_reducible assumption) | (with_reducible refine But.setFlag ?_ _) | (with_reducible refine But.alloc ?_ ?_ _) | (with_reducible refine But.drew ?_) | (with_reducible refine But.setCell ?_ ?_ _) | go_size))
    · simp only [hb, Bool.not_false, Bool.or_true]
      have h := H.out
      (repeat' (first | (with_reducible assumption) | (with_reducible apply flag.set) | (with_reducible refine flag.alloc ?_ _) | (with_reducible refine flag.drew ?_) | (with_reducible refine flag.setOther ?_ ?_ _) | omega | (simp; omega) | (simp; done)))
end Go.Proofs.Ytkkajcdjkfbcgaa
