/- The laws' own copies and comparisons of glasses: contracts. -/
import Derived.Test.YtndfncjoknibaaaDoorGt
namespace Go.Proofs.YtndfncjoknibaaaDoor
open Go.RowKit Fl
set_option linter.unusedVariables false
/-- Old cells and marks, behind a call. -/
theorem olds {X W : World} (h : Below X.heap.size X W) : (∀ k j, k < X.heap.size → W.cell? ⟨k, j, none⟩ = X.cell? ⟨k, j, none⟩) ∧ (∀ k j, k < X.heap.size → W.frozen? ⟨k, j, none⟩ = X.frozen? ⟨k, j, none⟩) ∧ (∀ k, k < X.heap.size → k < W.heap.size) :=
  ⟨fun k j hk => h.cell (p := ⟨k, j, none⟩) hk, fun k j hk => h.frozen (p := ⟨k, j, none⟩) hk, fun _ hk => Nat.lt_of_lt_of_le hk h.size⟩
set_option maxHeartbeats 1600000 in
theorem toG_any {s : ByteArray} {kd lo hi : Int} {v : Value} {n : Nat} {f : Nat → Int} {x : Nat} {w : World} (h : RdRow w v n f) (hn : n ≤ 1000000000000) :
    Calls Tryd.prog 12 #[.agg #[.string s, .int .i64 kd, .int .i64 lo, .int .i64 hi, v, .float .f64 x]] w fun e w' => ∃ b,
      e = .returned (.agg #[.string s, .int .i64 kd, .int .i64 lo, .int .i64 hi, .slice (some ⟨b, 0, none⟩) n n, .float .f64 x]) ∧ Seg w' b 2 0 n (fun i => .int .i64 (f i)) ∧ w.heap.size ≤ b ∧ Below w.heap.size w w' := by
  have hst := st64
  obtain ⟨ao, cap, rfl⟩ := h.shape
  have H : Hid (RdRow w (.slice ao n cap) n f) := h
  clear h
  go_enter Tryd.func12, Tryd.ntmps12
  go_wp2_with fail
  refine (toS_any (H.out.later ?_) hn).mono ?_
  · go_grown
  rintro e w1 ⟨rfl, hs, hb, hz⟩
  obtain ⟨o1, o2, o3⟩ := olds hb
  have HS : Hid (Seg w1 _ 2 0 n (fun i => .int .i64 (f i)) ∧ Below _ _ w1) := ⟨hs, hb⟩
  clear hs hb hz
  simp at o1 o2 o3 HS
  go_wp2
  refine bodyPost_ret (v := .agg #[.string s, .int .i64 kd, .int .i64 lo, .int .i64 hi, .slice (some ⟨w.heap.size + 1 + 1 + 1, 0, none⟩) n n, .float .f64 x]) (by simp [results, Tryd.results12, go_sem, o1]) rfl ⟨_, rfl, ?_, by omega, ?_⟩
  · repeat (first | with_reducible exact HS.out.1 | (refine Seg.setOther ?_ (by show w.heap.size + 1 + 1 + 1 ≠ _; simp <;> omega) _))
  · have hB : Below w.heap.size w w1 := Below.trans (by go_grown) (HS.out.2.mono (by omega))
    repeat (first | with_reducible exact hB | (refine Below.setCell ?_ (by simp <;> omega) _))
theorem box_step {B : Nat} {X a b : World} (h : Below B X a) (k : Below a.heap.size a b) (hB : B ≤ X.heap.size) : Below B X b := h.trans (k.mono (Nat.le_trans hB h.size))
theorem box_out {w : World} {o : Obj} {w1 : World} (h : Below (w.heap.size + 1) (w.alloc o) w1) : Below w.heap.size w w1 := ((Below.refl _ _).alloc (Nat.le_refl _) _).trans (h.mono (by omega))
/-- Six cells of a block are these. -/
structure Six (w : World) (b : Nat) (v0 v1 v2 v3 v4 v5 : Value) : Prop where
  c0 : w.cell? ⟨b, 0, none⟩ = some v0
  c1 : w.cell? ⟨b, 1, none⟩ = some v1
  c2 : w.cell? ⟨b, 2, none⟩ = some v2
  c3 : w.cell? ⟨b, 3, none⟩ = some v3
  c4 : w.cell? ⟨b, 4, none⟩ = some v4
  c5 : w.cell? ⟨b, 5, none⟩ = some v5
theorem Six.lt {w : World} {b : Nat} {v0 v1 v2 v3 v4 v5 : Value} (h : Six w b v0 v1 v2 v3 v4 v5) : b < w.heap.size := World.block_lt_of_cell? _ _ h.c0
theorem Six.below {w w' : World} {b B : Nat} {v0 v1 v2 v3 v4 v5 : Value} (h : Six w b v0 v1 v2 v3 v4 v5) (hb : Below B w w') (hB : b < B) : Six w' b v0 v1 v2 v3 v4 v5 :=
  ⟨(hb.cell hB).trans h.c0, (hb.cell hB).trans h.c1, (hb.cell hB).trans h.c2, (hb.cell hB).trans h.c3, (hb.cell hB).trans h.c4, (hb.cell hB).trans h.c5⟩
theorem Six.later {w w' : World} {b : Nat} {v0 v1 v2 v3 v4 v5 : Value} (h : Six w b v0 v1 v2 v3 v4 v5) (hb : Below w.heap.size w w') : Six w' b v0 v1 v2 v3 v4 v5 := h.below hb h.lt
theorem six_new (w : World) (v0 v1 v2 v3 v4 v5 : Value) (t : TypeId) : Six (w.alloc (.cells #[v0, v1, v2, v3, v4, v5] t)) w.heap.size v0 v1 v2 v3 v4 v5 := by
  constructor <;> simp
set_option maxHeartbeats 1600000 in
theorem eqG_any {s : ByteArray} {kd lo hi : Int} {v v' : Value} {n : Nat} {f : Nat → Int} {x x' : Nat} {w : World} (h : RdRow w v n f) (h' : RdRow w v' n f) (hn : n ≤ 1000000000000)
    (hx : x < 18446744073709551616) (hx' : x' < 18446744073709551616) (e : cl x = cl x') :
    Calls Tryd.prog 14 #[.agg #[.string s, .int .i64 kd, .int .i64 lo, .int .i64 hi, v, .float .f64 x], .agg #[.string s, .int .i64 kd, .int .i64 lo, .int .i64 hi, v', .float .f64 x']] w fun e w' =>
      e = .returned (.bool true) ∧ Below w.heap.size w w' := by
  have HF : Hid (∀ w, Calls Tryd.prog 49 #[.float .f64 x, .float .f64 x'] w fun e w' => e = .returned (.bool true) ∧ w = w') := same_any hx hx' e
  obtain ⟨ao, cap, rfl⟩ := h.shape
  obtain ⟨ao', cap', rfl⟩ := h'.shape
  have H : Hid (RdRow w (.slice ao n cap) n f ∧ RdRow w (.slice ao' n cap') n f) := ⟨h, h'⟩
  clear h h' hx hx' e
  go_enter Tryd.func14, Tryd.ntmps14
  go_wp2_with fail
  refine (eqS_any (H.out.1.later ?_) (H.out.2.later ?_) hn).mono ?_
  · go_grown
  · go_grown
  rintro e w1 ⟨rfl, q, rfl⟩
  go_wp2_with (go_at_call 49; refine (HF.out _).mono ?_; rintro e w' ⟨rfl, rfl⟩)
  go_ret
  refine ⟨rfl, below_drewN ?_ _⟩
  go_grown
end Go.Proofs.YtndfncjoknibaaaDoor
