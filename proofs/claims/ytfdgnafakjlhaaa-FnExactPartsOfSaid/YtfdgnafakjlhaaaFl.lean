/- FlipLens: a lens seen from behind, both ways. -/
import Derived.Test.YtfdgnafakjlhaaaPa
import Derived.Test.YtfdgnafakjlhaaaBk
namespace Go.Proofs.Ytfdgnafakjlhaaa
open Go.RowKit
set_option linter.unusedVariables false
set_option linter.unusedSimpArgs false
def pl (g : Ps) : List Value := [.int .i64 g.c.n, .int .i64 g.c.d, .int .i64 g.g.n, .int .i64 g.g.d, .int .i64 g.x.n, .int .i64 g.x.d, .int .i64 g.s.n, .int .i64 g.s.d, .int .i64 g.k.n, .int .i64 g.k.d, .bool g.t]
theorem pl_len (g : Ps) : (pl g).length = 11 := rfl
theorem pl_at (g : Ps) : ∀ j, j < 11 → (pl g)[j]? = some (pcell g j) := by
  intro j hj
  match j, hj with
  | 0, _ => rfl
  | 1, _ => rfl
  | 2, _ => rfl
  | 3, _ => rfl
  | 4, _ => rfl
  | 5, _ => rfl
  | 6, _ => rfl
  | 7, _ => rfl
  | 8, _ => rfl
  | 9, _ => rfl
  | 10, _ => rfl
/-- The surface that was in place i, seen from behind. -/
def flipAt (G : Nat → Ps) (i : Nat) : Ps := ⟨⟨wrap64 (-(G i).c.n), (G i).c.d⟩, if i = 0 then ⟨0, 1⟩ else (G (i - 1)).g, if i = 0 then ⟨1, 1⟩ else (G (i - 1)).x, (G i).s, (G i).k, (G i).t⟩
def flip (G : Nat → Ps) (n k : Nat) : Ps := flipAt G (n - 1 - k)
set_option maxHeartbeats 400000 in
theorem sneg_any (n d : Int) (w : World) : Calls Try.prog 82 #[.agg #[.int .i64 n, .int .i64 d]] w fun e w' => e = .returned (.agg #[.int .i64 (wrap64 (-n)), .int .i64 d]) ∧ Below w.heap.size w w' := by
  go_enter Try.func82, Try.ntmps82
  go_wp2
  refine bodyPost_ret (v := .agg #[.int .i64 (wrap64 (-n)), .int .i64 d]) (by simp [results, Try.results82, go_sem] <;> (repeat' (first | rfl | apply And.intro))) rfl ⟨rfl, ?_⟩
  go_grown
set_option maxHeartbeats 400000 in
theorem iwhole_any (n : Int) (w : World) : Calls Try.prog 73 #[.int .i64 n] w fun e w' => e = .returned (.agg #[.int .i64 n, .int .i64 1]) ∧ Below w.heap.size w w' := by
  go_enter Try.func73, Try.ntmps73
  go_wp2
  refine bodyPost_ret (v := .agg #[.int .i64 n, .int .i64 1]) (by simp [results, Try.results73, go_sem] <;> (repeat' (first | rfl | apply And.intro))) rfl ⟨rfl, ?_⟩
  go_grown
/-- What a loop of FlipLens has built: k surfaces of n. -/
structure Fl (w : World) (G : Nat → Ps) (n : Nat) (wr : World) (v : Value) (k : Nat) : Prop where
  own : wr.ownsRow w.heap.size 45 11 v k (flat (fun p => pl (flip G n p)) k)
  nn : v ≠ .slice none 0 0
  below : Below w.heap.size w wr
theorem Fl.push {w wr W w3 : World} {G : Nat → Ps} {n k : Nat} {v v1 : Value} (h : Fl w G n wr v k) (hb : Below wr.heap.size wr W) {us : List Value} (hu : us = pl (flip G n k)) (own3 : w3.ownsRow w.heap.size 45 11 v1 (k + 1) (flat (fun p => pl (flip G n p)) k ++ us)) (grow3 : (W.alloc (.cells us.toArray 45)).grownBy w3 v.ownBlock) (nn3 : v1 ≠ .slice none 0 0) : Fl w G n w3 v1 (k + 1) where
  own := by rw [flat_succ, ← hu]; exact own3
  nn := nn3
  below := push_below (owns_later h.own hb) grow3 (h.below.trans (hb.mono h.below.size)) (Nat.le_trans h.below.size hb.size)
end Go.Proofs.Ytfdgnafakjlhaaa
