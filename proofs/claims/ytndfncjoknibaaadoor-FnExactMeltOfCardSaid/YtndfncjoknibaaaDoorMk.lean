/- The laws' own comparisons, marks and looks at what a melt answers: contracts. -/
import Derived.Test.YtndfncjoknibaaaDoorMi
namespace Go.Proofs.YtndfncjoknibaaaDoor
open Go.RowKit Fl
set_option linter.unusedVariables false
/-- Seven cells of a block are these. -/
structure Sev (w : World) (b : Nat) (v0 v1 v2 v3 v4 v5 v6 : Value) : Prop where
  c0 : w.cell? ⟨b, 0, none⟩ = some v0
  c1 : w.cell? ⟨b, 1, none⟩ = some v1
  c2 : w.cell? ⟨b, 2, none⟩ = some v2
  c3 : w.cell? ⟨b, 3, none⟩ = some v3
  c4 : w.cell? ⟨b, 4, none⟩ = some v4
  c5 : w.cell? ⟨b, 5, none⟩ = some v5
  c6 : w.cell? ⟨b, 6, none⟩ = some v6
theorem Sev.lt {w : World} {b : Nat} {v0 v1 v2 v3 v4 v5 v6 : Value} (h : Sev w b v0 v1 v2 v3 v4 v5 v6) : b < w.heap.size := World.block_lt_of_cell? _ _ h.c0
theorem Sev.of_block {w w' : World} {b : Nat} {v0 v1 v2 v3 v4 v5 v6 : Value} (h : Sev w b v0 v1 v2 v3 v4 v5 v6) (e : w'.heap[b]? = w.heap[b]?) : Sev w' b v0 v1 v2 v3 v4 v5 v6 := by
  have k : ∀ j, w'.cell? ⟨b, j, none⟩ = w.cell? ⟨b, j, none⟩ := fun j => World.cell?_of_block (w := w) e
  exact ⟨(k 0).trans h.c0, (k 1).trans h.c1, (k 2).trans h.c2, (k 3).trans h.c3, (k 4).trans h.c4, (k 5).trans h.c5, (k 6).trans h.c6⟩
theorem Sev.later {w w' : World} {b : Nat} {v0 v1 v2 v3 v4 v5 v6 : Value} (h : Sev w b v0 v1 v2 v3 v4 v5 v6) (hb : Below w.heap.size w w') : Sev w' b v0 v1 v2 v3 v4 v5 v6 := h.of_block (hb.block _ h.lt)
theorem Six.of_block {w w' : World} {b : Nat} {v0 v1 v2 v3 v4 v5 : Value} (h : Six w b v0 v1 v2 v3 v4 v5) (e : w'.heap[b]? = w.heap[b]?) : Six w' b v0 v1 v2 v3 v4 v5 := by
  have k : ∀ j, w'.cell? ⟨b, j, none⟩ = w.cell? ⟨b, j, none⟩ := fun j => World.cell?_of_block (w := w) e
  exact ⟨(k 0).trans h.c0, (k 1).trans h.c1, (k 2).trans h.c2, (k 3).trans h.c3, (k 4).trans h.c4, (k 5).trans h.c5⟩
theorem sev_new (w : World) (v0 v1 v2 v3 v4 v5 v6 : Value) (t : TypeId) : Sev (w.alloc (.cells #[v0, v1, v2, v3, v4, v5, v6] t)) w.heap.size v0 v1 v2 v3 v4 v5 v6 := by
  constructor <;> simp
theorem OwnK.shape {lo hi : Nat} {w : World} {v : Value} {n : Nat} {f : Nat → Int} (h : OwnK lo hi w v n f) : ∃ ao cap, v = .slice ao n cap := h.rd.shape
set_option maxHeartbeats 1600000 in
theorem eqR_any {code kd lo hi : Int} {s : ByteArray} {v v' : Value} {n : Nat} {f : Nat → Int} {y y' : Nat} {o : Option Nat} {w : World} (h : RdRow w v n f) (h' : RdRow w v' n f) (hn : n ≤ 1000000000000) (hy : Fc y o) (hy' : Fc y' o) :
    Calls Tryd.prog 24 #[.agg #[.int .i64 code, .string s, .int .i64 kd, .int .i64 lo, .int .i64 hi, v, .float .f64 y], .agg #[.int .i64 code, .string s, .int .i64 kd, .int .i64 lo, .int .i64 hi, v', .float .f64 y']] w fun e w' => e = .returned (.bool true) ∧ Below w.heap.size w w' := by
  obtain ⟨ao, cap, rfl⟩ := h.shape
  obtain ⟨ao', cap', rfl⟩ := h'.shape
  have H : Hid (RdRow w (.slice ao n cap) n f ∧ RdRow w (.slice ao' n cap') n f ∧ Fc y o ∧ Fc y' o) := ⟨h, h', hy, hy'⟩
  clear h h' hy hy'
  go_enter Tryd.func24, Tryd.ntmps24
  go_wp2_with fail
  refine (eqG_any (H.out.1.later ?_) (H.out.2.1.later ?_) hn H.out.2.2.1.lx H.out.2.2.2.lx (H.out.2.2.1.c.trans H.out.2.2.2.c.symm)).mono ?_
  · go_grown
  · go_grown
  rintro e w1 ⟨rfl, b1⟩
  have HB : Hid (Below w.heap.size w w1) := Below.trans (by go_grown) (b1.mono (by simp; omega))
  clear b1
  go_wp2
  go_ret
  exact ⟨rfl, HB.out⟩
set_option maxHeartbeats 1600000 in
theorem markG_any {kd lw hh : Int} {s : ByteArray} {v : Value} {n : Nat} {f : Nat → Int} {y : Nat} {w : World} {lo hi : Nat} (h : OwnK lo hi w v n f) (hhi : hi ≤ w.heap.size) (hlo : lo ≤ w.heap.size) (k0 : Int) (h0 : 0 ≤ k0) (h1 : k0 + n ≤ 1000000000000) :
    Calls Tryd.prog 25 #[.agg #[.string s, .int .i64 kd, .int .i64 lw, .int .i64 hh, v, .float .f64 y], .int .i64 k0] w fun e w' => e = .returned (.int .i64 (k0 + n)) ∧ OwnK lo hi w' v n (fun i => k0 + i) ∧ Within lo hi w w' := by
  rcases h with ⟨rfl, rfl⟩ | ⟨g, cap, rfl, hg1, hg2, hs⟩
  · go_enter Tryd.func25, Tryd.ntmps25
    go_wp2_with fail
    refine (markS_none none 0 k0 _).mono ?_
    rintro e w1 ⟨rfl, rfl⟩
    go_wp2
    go_ret
    exact ⟨ret_int (by simp), Or.inl ⟨rfl, rfl⟩, (Within.refl _ _ _).alloc hlo _⟩
  · have HS : Hid (Seg w g 2 0 n (fun i => .int .i64 (f i))) := hs
    clear hs
    go_enter Tryd.func25, Tryd.ntmps25
    go_wp2_with fail
    refine (markS_some g 0 n cap f k0 _ h0 h1 (HS.out.alloc _)).mono ?_
    rintro e w1 ⟨rfl, hs1, hw1, hz1⟩
    have HB : Hid (Seg w1 g 2 0 n (fun i => .int .i64 (k0 + i)) ∧ Within lo hi w w1) := ⟨hs1, ((Within.refl _ _ _).alloc hlo _).trans (hw1.mono hg1 (by omega))⟩
    clear hs1 hw1 hz1
    go_wp2
    go_ret
    exact ⟨rfl, Or.inr ⟨g, cap, rfl, hg1, hg2, HB.out.1⟩, HB.out.2⟩
set_option maxHeartbeats 1600000 in
theorem markR_any {code kd lw hh : Int} {s : ByteArray} {v : Value} {n : Nat} {f : Nat → Int} {y : Nat} {w : World} {lo hi : Nat} (h : OwnK lo hi w v n f) (hhi : hi ≤ w.heap.size) (hlo : lo ≤ w.heap.size) (k0 : Int) (h0 : 0 ≤ k0) (h1 : k0 + n ≤ 1000000000000) :
    Calls Tryd.prog 26 #[.agg #[.int .i64 code, .string s, .int .i64 kd, .int .i64 lw, .int .i64 hh, v, .float .f64 y], .int .i64 k0] w fun e w' => e = .returned (.int .i64 (k0 + n)) ∧ OwnK lo hi w' v n (fun i => k0 + i) ∧ Within lo hi w w' := by
  obtain ⟨ao, cap, rfl⟩ := h.shape
  have H : Hid (OwnK lo hi w (.slice ao n cap) n f) := h
  clear h
  go_enter Tryd.func26, Tryd.ntmps26
  obtain ⟨X, hX⟩ : ∃ X, X = w.alloc (.cells #[.int .i64 code, .string s, .int .i64 kd, .int .i64 lw, .int .i64 hh, .slice ao n cap, .float .f64 y] 40) := ⟨_, rfl⟩
  have HX : Hid (Below w.heap.size w X) := by rw [hX]; exact (Below.refl _ _).alloc (Nat.le_refl _) _
  go_wp2_with fail
  rw [← hX]
  clear hX
  refine (markG_any (H.out.keep (Keep.of HX.out hhi)) (Nat.le_trans hhi HX.out.size) (Nat.le_trans hlo HX.out.size) k0 h0 h1).mono ?_
  rintro e w1 ⟨rfl, ho, hw⟩
  have HB : Hid (OwnK lo hi w1 (.slice ao n cap) n (fun i => k0 + i) ∧ Within lo hi w w1) := ⟨ho, Within.trans ⟨HX.out.mono hlo, fun k _ hk => HX.out.block k hk⟩ hw⟩
  clear ho hw
  go_wp2
  go_ret
  exact ⟨rfl, HB.out⟩
set_option maxHeartbeats 1600000 in
theorem heldG_any {kd lw hh : Int} {s : ByteArray} {v : Value} {n : Nat} {y : Nat} {w : World} {lo hi : Nat} (k0 : Int) (h : OwnK lo hi w v n (fun i => k0 + i)) (h0 : 0 ≤ k0) (h1 : k0 + n ≤ 1000000000000) :
    Calls Tryd.prog 56 #[.agg #[.string s, .int .i64 kd, .int .i64 lw, .int .i64 hh, v, .float .f64 y], .int .i64 k0] w fun e w' => e = .returned (.int .i64 (k0 + n)) ∧ Below w.heap.size w w' := by
  have hk : ¬ k0 + (n : Int) < 0 := by omega
  rcases h with ⟨rfl, rfl⟩ | ⟨g, cap, rfl, hg1, hg2, hs⟩
  · have hk' : ¬ k0 < 0 := by omega
    go_enter Tryd.func56, Tryd.ntmps56
    go_wp2_with fail
    refine (heldS_none none 0 k0 _).mono ?_
    rintro e w1 ⟨rfl, rfl⟩
    go_wp2
    go_ret
    exact ⟨ret_int (by simp), by go_grown⟩
  · have HS : Hid (Seg w g 2 0 n (fun i => .int .i64 (k0 + i))) := hs
    clear hs
    go_enter Tryd.func56, Tryd.ntmps56
    go_wp2_with fail
    refine (heldS_some g 0 n cap k0 _ h0 h1 (fun i hi => (HS.out.alloc _).cell hi)).mono ?_
    rintro e w1 ⟨rfl, rfl⟩
    go_wp2
    go_ret
    exact ⟨rfl, by go_grown⟩
set_option maxHeartbeats 1600000 in
theorem heldR_any {code kd lw hh : Int} {s : ByteArray} {v : Value} {n : Nat} {y : Nat} {w : World} {lo hi : Nat} (k0 : Int) (h : OwnK lo hi w v n (fun i => k0 + i)) (hhi : hi ≤ w.heap.size) (h0 : 0 ≤ k0) (h1 : k0 + n ≤ 1000000000000) :
    Calls Tryd.prog 27 #[.agg #[.int .i64 code, .string s, .int .i64 kd, .int .i64 lw, .int .i64 hh, v, .float .f64 y], .int .i64 k0] w fun e w' => e = .returned (.int .i64 (k0 + n)) ∧ Below w.heap.size w w' := by
  have hk : ¬ k0 + (n : Int) < 0 := by omega
  obtain ⟨ao, cap, rfl⟩ := h.shape
  have H : Hid (OwnK lo hi w (.slice ao n cap) n (fun i => k0 + i)) := h
  clear h
  go_enter Tryd.func27, Tryd.ntmps27
  obtain ⟨X, hX⟩ : ∃ X, X = w.alloc (.cells #[.int .i64 code, .string s, .int .i64 kd, .int .i64 lw, .int .i64 hh, .slice ao n cap, .float .f64 y] 40) := ⟨_, rfl⟩
  have HX : Hid (Below w.heap.size w X) := by rw [hX]; exact (Below.refl _ _).alloc (Nat.le_refl _) _
  go_wp2_with fail
  rw [← hX]
  clear hX
  refine (heldG_any k0 (H.out.keep (Keep.of HX.out hhi)) h0 h1).mono ?_
  rintro e w1 ⟨rfl, b1⟩
  have HB : Hid (Below w.heap.size w w1) := HX.out.trans (b1.mono HX.out.size)
  clear b1
  go_wp2
  go_ret
  exact ⟨rfl, HB.out⟩
end Go.Proofs.YtndfncjoknibaaaDoor
