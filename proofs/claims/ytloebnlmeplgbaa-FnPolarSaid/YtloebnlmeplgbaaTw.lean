/- Twice the matrix of a plate: both packages, one plain matrix in memory of the answer's own. -/
import Derived.Test.YtloebnlmeplgbaaSf
import Derived.Test.YtloebnlmeplgbaaEqs
import Derived.Test.YtloebnlmeplgbaaMarks
import Derived.Handy
import Derived.Laws.CopyOwn
import Derived.Laws.Rows
import Derived.Laws.Tables
namespace Go.Proofs.Ytloebnlmeplgbaa
open Go.RowKit
set_option linter.unusedVariables false
set_option linter.unusedSimpArgs false
theorem res_blk {fn : Func} {s : Nat} {t : TypeId} (hf : fn.results = #[.cell s t]) {tmps : Array Value} {r : Nat} (hp : tmps.getD s undef = .pointer (some ⟨r, 0, none⟩)) {W : World} {cs : Array Value}
    (h : (loadVar t ⟨r, 0, none⟩).run Try.prog W = .ok (.agg cs) W) : (results fn tmps).run Try.prog W = .ok (.agg cs) W := by
  have hp2 : tmps[s]?.getD undef = .pointer (some ⟨r, 0, none⟩) := by simpa using hp
  unfold loadVar at h
  unfold results loadVar
  rw [hf]
  simp [go_sem, asAddr, hp2] at h ⊢
  rw [h]
theorem Blk.setRow {W : World} {b : Nat} {cs c2 : Array Value} {t : TypeId} (h : Blk W b cs t) : Blk (W.setRow b c2) b c2 t := setRow_heap W b cs c2 t (0, 0) h
theorem Blk.setRowOther {W : World} {b r : Nat} {cs c2 : Array Value} {t : TypeId} (h : Blk W b cs t) (hr : b ≠ r) : Blk (W.setRow r c2) b cs t := (setRow_other W r b c2 hr).trans h
theorem setRow_low {lo : Nat} {w W : World} {b : Nat} {cs c2 : Array Value} {t : TypeId} (h : Below lo w W) (hb : Blk W b cs t) (hl : lo ≤ b) : Below lo w (W.setRow b c2) := below_setRow h hl _
def tw (p : Pl) : Rm.Mx
  | 0, 0 => (wrap64 ((wrap64 ((wrap64 ((gsq p.a) + (gsq p.b))) + (gsq p.c))) + (gsq p.d)))
  | 0, 1 => (wrap64 ((wrap64 ((wrap64 ((gsq p.a) - (gsq p.b))) + (gsq p.c))) - (gsq p.d)))
  | 0, 2 => (wrap64 ((wrap64 (2 * gr p.a p.b)) + (wrap64 (2 * gr p.c p.d))))
  | 0, _ => (wrap64 ((wrap64 (-(wrap64 (2 * gs p.a p.b)))) - (wrap64 (2 * gs p.c p.d))))
  | 1, 0 => (wrap64 ((wrap64 ((wrap64 ((gsq p.a) + (gsq p.b))) - (gsq p.c))) - (gsq p.d)))
  | 1, 1 => (wrap64 ((wrap64 ((wrap64 ((gsq p.a) - (gsq p.b))) - (gsq p.c))) + (gsq p.d)))
  | 1, 2 => (wrap64 ((wrap64 (2 * gr p.a p.b)) - (wrap64 (2 * gr p.c p.d))))
  | 1, _ => (wrap64 ((wrap64 (-(wrap64 (2 * gs p.a p.b)))) + (wrap64 (2 * gs p.c p.d))))
  | 2, 0 => (wrap64 ((wrap64 (2 * gr p.a p.c)) + (wrap64 (2 * gr p.b p.d))))
  | 2, 1 => (wrap64 ((wrap64 (2 * gr p.a p.c)) - (wrap64 (2 * gr p.b p.d))))
  | 2, 2 => (wrap64 ((wrap64 (2 * gr p.a p.d)) + (wrap64 (2 * gr p.b p.c))))
  | 2, _ => (wrap64 ((wrap64 (2 * gs p.b p.c)) - (wrap64 (2 * gs p.a p.d))))
  | _, 0 => (wrap64 ((wrap64 (2 * gs p.a p.c)) + (wrap64 (2 * gs p.b p.d))))
  | _, 1 => (wrap64 ((wrap64 (2 * gs p.a p.c)) - (wrap64 (2 * gs p.b p.d))))
  | _, 2 => (wrap64 ((wrap64 (2 * gs p.a p.d)) + (wrap64 (2 * gs p.b p.c))))
  | _, _ => (wrap64 ((wrap64 (2 * gr p.a p.d)) - (wrap64 (2 * gr p.b p.c))))
/-- Where four rows that were made one behind the other lie. -/
def lie4 (V : Nat) : Lie := { b := V + 4, cap := 4, bs := fun i => V + i, os := fun _ => 0, cs := fun _ => 4 }
theorem seg_blk {W : World} {b n : Nat} {t : TypeId} {cs : Array Value} {f : Nat → Value} (h : Blk W b cs t) (e : ∀ i, i < n → cs[i]? = some (f i)) : Seg W b t 0 n f := ⟨cs, h, fun i hi => by rw [Nat.zero_add]; exact e i hi⟩
theorem four {P : Nat → Prop} (h0 : P 0) (h1 : P 1) (h2 : P 2) (h3 : P 3) : ∀ i, i < 4 → P i
  | 0, _ => h0 | 1, _ => h1 | 2, _ => h2 | 3, _ => h3
  | i + 4, h => absurd h (by omega)
theorem mat4 {lo hi V : Nat} {W : World} {F : Rm.Mx} (h0 : Blk W V #[.int .i64 (F 0 0), .int .i64 (F 0 1), .int .i64 (F 0 2), .int .i64 (F 0 3)] 2) (h1 : Blk W (V + 1) #[.int .i64 (F 1 0), .int .i64 (F 1 1), .int .i64 (F 1 2), .int .i64 (F 1 3)] 2)
    (h2 : Blk W (V + 1 + 1) #[.int .i64 (F 2 0), .int .i64 (F 2 1), .int .i64 (F 2 2), .int .i64 (F 2 3)] 2) (h3 : Blk W (V + 1 + 1 + 1) #[.int .i64 (F 3 0), .int .i64 (F 3 1), .int .i64 (F 3 2), .int .i64 (F 3 3)] 2)
    (h4 : Blk W (V + 1 + 1 + 1 + 1) #[.slice (some ⟨V, 0, none⟩) 4 4, .slice (some ⟨V + 1, 0, none⟩) 4 4, .slice (some ⟨V + 1 + 1, 0, none⟩) 4 4, .slice (some ⟨V + 1 + 1 + 1, 0, none⟩) 4 4] 102)
    (hl : lo ≤ V) (hh : V + 4 < hi) : Mat lo hi W (lie4 V) 4 (fun _ => 4) F where
  top := seg_blk h4 (four rfl rfl rfl rfl)
  row := four (seg_blk h0 (four rfl rfl rfl rfl)) (seg_blk h1 (four rfl rfl rfl rfl)) (seg_blk h2 (four rfl rfl rfl rfl)) (seg_blk h3 (four rfl rfl rfl rfl))
  blo := by show lo ≤ V + 4; omega
  bhi := hh
  rlo := fun i hi => by show lo ≤ V + i; omega
  rhi := fun i hi => by show V + i < _; omega
  apart := fun i j _ _ h => by have h' : V + i = V + j := h; omega
set_option maxRecDepth 20000 in
set_option maxHeartbeats 3200000 in
theorem itw_3 (p : Pl) (hp : pcode p.a p.b p.c p.d = 3) (w : World) : Calls Try.prog 22 #[.agg #[.int .i64 p.a.re, .int .i64 p.a.im, .int .i64 p.b.re, .int .i64 p.b.im, .int .i64 p.c.re, .int .i64 p.c.im, .int .i64 p.d.re, .int .i64 p.d.im]] w fun e w' => e = .returned (.agg #[.int .i64 3, .slice none 0 0]) ∧ Below w.heap.size w w' := by
  go_enter Try.func22, Try.ntmps22
  have HO : Hid (Below w.heap.size w w) := Below.refl _ _
  go_upto_region 1 with fail
  obtain ⟨v1, hv⟩ : ∃ Xw, Xw = ((w.alloc (.cells #[.int .i64 p.a.re, .int .i64 p.a.im, .int .i64 p.b.re, .int .i64 p.b.im, .int .i64 p.c.re, .int .i64 p.c.im, .int .i64 p.d.re, .int .i64 p.d.im] 27)).alloc (.cells #[.int .i64 0, .slice none 0 0] 42)) := ⟨_, rfl⟩
  rw [← hv]
  have ne_p_r : Hid (w.heap.size ≠ w.heap.size + 1) := by show (w.heap.size : Nat) ≠ w.heap.size + 1; omega
  have B_p : Hid (Blk v1 (w.heap.size) #[.int .i64 p.a.re, .int .i64 p.a.im, .int .i64 p.b.re, .int .i64 p.b.im, .int .i64 p.c.re, .int .i64 p.c.im, .int .i64 p.d.re, .int .i64 p.d.im] 27) := by show Blk v1 (w.heap.size) _ _; rw [hv]; exact (Blk.alloc (Blk.new (by simp)) _)
  have low_p : Hid (w.heap.size ≤ w.heap.size) := by show w.heap.size ≤ w.heap.size; have := HO.out.size; omega
  have B_r : Hid (Blk v1 (w.heap.size + 1) #[.int .i64 0, .slice none 0 0] 42) := by show Blk v1 (w.heap.size + 1) _ _; rw [hv]; exact (Blk.new (by simp))
  have low_r : Hid (w.heap.size ≤ w.heap.size + 1) := by show w.heap.size ≤ w.heap.size + 1; have := HO.out.size; omega
  replace HO : Hid (Below w.heap.size w v1) := by show Below w.heap.size w v1; rw [hv]; exact (below_new (below_new HO.out _) _)
  clear hv
  have p_0 := B_p.out.cell (j := 0) rfl
  have p_1 := B_p.out.cell (j := 1) rfl
  have p_2 := B_p.out.cell (j := 2) rfl
  have p_3 := B_p.out.cell (j := 3) rfl
  have p_4 := B_p.out.cell (j := 4) rfl
  have p_5 := B_p.out.cell (j := 5) rfl
  have p_6 := B_p.out.cell (j := 6) rfl
  have p_7 := B_p.out.cell (j := 7) rfl
  have p_f := B_p.out.frozen
  have p_z := B_p.out.lt
  go_wp2_with fail
  refine (iplate p.a p.b p.c p.d _).mono ?_
  rintro e v2 ⟨rfl, hb⟩
  clear p_0 p_1 p_2 p_3 p_4 p_5 p_6 p_7 p_f p_z
  replace B_p : Hid (Blk v2 (w.heap.size) #[.int .i64 p.a.re, .int .i64 p.a.im, .int .i64 p.b.re, .int .i64 p.b.im, .int .i64 p.c.re, .int .i64 p.c.im, .int .i64 p.d.re, .int .i64 p.d.im] 27) := by show Blk v2 (w.heap.size) _ _; exact Blk.old B_p.out hb
  replace B_r : Hid (Blk v2 (w.heap.size + 1) #[.int .i64 0, .slice none 0 0] 42) := by show Blk v2 (w.heap.size + 1) _ _; exact Blk.old B_r.out hb
  replace HO : Hid (Below w.heap.size w v2) := box_step HO.out hb (Nat.le_refl _)
  clear hb
  rw [hp]
  have r_0 := B_r.out.cell (j := 0) rfl
  have r_1 := B_r.out.cell (j := 1) rfl
  have r_f := B_r.out.frozen
  have r_z := B_r.out.lt
  go_wp2
  refine bodyPost_ret (v := .agg #[.int .i64 3, .slice none 0 0]) (by simp [results, Try.results22, go_sem, r_0, r_1, r_f, r_z] <;> (repeat' (first | rfl | apply And.intro))) rfl ⟨rfl, ?_⟩
  exact (Below.setCell (Below.setCell HO.out low_r.out _) low_r.out _)
set_option maxRecDepth 20000 in
set_option maxHeartbeats 3200000 in
theorem stw_3 (p : Pl) (hp : pcode p.a p.b p.c p.d = 3) (w : World) : Calls Try.prog 54 #[.agg #[.int .i64 p.a.re, .int .i64 p.a.im, .int .i64 p.b.re, .int .i64 p.b.im, .int .i64 p.c.re, .int .i64 p.c.im, .int .i64 p.d.re, .int .i64 p.d.im]] w fun e w' => e = .returned (.agg #[.int .i64 3, .slice none 0 0]) ∧ Below w.heap.size w w' := by
  go_enter Try.func54, Try.ntmps54
  have HO : Hid (Below w.heap.size w w) := Below.refl _ _
  go_upto_region 1 with fail
  obtain ⟨v1, hv⟩ : ∃ Xw, Xw = ((w.alloc (.cells #[.int .i64 p.a.re, .int .i64 p.a.im, .int .i64 p.b.re, .int .i64 p.b.im, .int .i64 p.c.re, .int .i64 p.c.im, .int .i64 p.d.re, .int .i64 p.d.im] 27)).alloc (.cells #[.int .i64 0, .slice none 0 0] 42)) := ⟨_, rfl⟩
  rw [← hv]
  have ne_p_r : Hid (w.heap.size ≠ w.heap.size + 1) := by show (w.heap.size : Nat) ≠ w.heap.size + 1; omega
  have B_p : Hid (Blk v1 (w.heap.size) #[.int .i64 p.a.re, .int .i64 p.a.im, .int .i64 p.b.re, .int .i64 p.b.im, .int .i64 p.c.re, .int .i64 p.c.im, .int .i64 p.d.re, .int .i64 p.d.im] 27) := by show Blk v1 (w.heap.size) _ _; rw [hv]; exact (Blk.alloc (Blk.new (by simp)) _)
  have low_p : Hid (w.heap.size ≤ w.heap.size) := by show w.heap.size ≤ w.heap.size; have := HO.out.size; omega
  have B_r : Hid (Blk v1 (w.heap.size + 1) #[.int .i64 0, .slice none 0 0] 42) := by show Blk v1 (w.heap.size + 1) _ _; rw [hv]; exact (Blk.new (by simp))
  have low_r : Hid (w.heap.size ≤ w.heap.size + 1) := by show w.heap.size ≤ w.heap.size + 1; have := HO.out.size; omega
  replace HO : Hid (Below w.heap.size w v1) := by show Below w.heap.size w v1; rw [hv]; exact (below_new (below_new HO.out _) _)
  clear hv
  have p_0 := B_p.out.cell (j := 0) rfl
  have p_1 := B_p.out.cell (j := 1) rfl
  have p_2 := B_p.out.cell (j := 2) rfl
  have p_3 := B_p.out.cell (j := 3) rfl
  have p_4 := B_p.out.cell (j := 4) rfl
  have p_5 := B_p.out.cell (j := 5) rfl
  have p_6 := B_p.out.cell (j := 6) rfl
  have p_7 := B_p.out.cell (j := 7) rfl
  have p_f := B_p.out.frozen
  have p_z := B_p.out.lt
  go_wp2_with fail
  refine (splate p.a p.b p.c p.d _).mono ?_
  rintro e v2 ⟨rfl, hb⟩
  clear p_0 p_1 p_2 p_3 p_4 p_5 p_6 p_7 p_f p_z
  replace B_p : Hid (Blk v2 (w.heap.size) #[.int .i64 p.a.re, .int .i64 p.a.im, .int .i64 p.b.re, .int .i64 p.b.im, .int .i64 p.c.re, .int .i64 p.c.im, .int .i64 p.d.re, .int .i64 p.d.im] 27) := by show Blk v2 (w.heap.size) _ _; exact Blk.old B_p.out hb
  replace B_r : Hid (Blk v2 (w.heap.size + 1) #[.int .i64 0, .slice none 0 0] 42) := by show Blk v2 (w.heap.size + 1) _ _; exact Blk.old B_r.out hb
  replace HO : Hid (Below w.heap.size w v2) := box_step HO.out hb (Nat.le_refl _)
  clear hb
  rw [hp]
  have r_0 := B_r.out.cell (j := 0) rfl
  have r_1 := B_r.out.cell (j := 1) rfl
  have r_f := B_r.out.frozen
  have r_z := B_r.out.lt
  go_wp2
  refine bodyPost_ret (v := .agg #[.int .i64 3, .slice none 0 0]) (by simp [results, Try.results54, go_sem, r_0, r_1, r_f, r_z] <;> (repeat' (first | rfl | apply And.intro))) rfl ⟨rfl, ?_⟩
  exact (Below.setCell (Below.setCell HO.out low_r.out _) low_r.out _)
set_option maxRecDepth 20000 in
set_option maxHeartbeats 3200000 in
theorem itw_0 (p : Pl) (hp : pcode p.a p.b p.c p.d = 0) (w : World) : Calls Try.prog 22 #[.agg #[.int .i64 p.a.re, .int .i64 p.a.im, .int .i64 p.b.re, .int .i64 p.b.im, .int .i64 p.c.re, .int .i64 p.c.im, .int .i64 p.d.re, .int .i64 p.d.im]] w fun e w' => ∃ m : Lie, e = .returned (.agg #[.int .i64 0, .slice (some ⟨m.b, 0, none⟩) 4 m.cap]) ∧ Mat w.heap.size w'.heap.size w' m 4 (fun _ => 4) (tw p) ∧ Below w.heap.size w w' := by
  go_enter Try.func22, Try.ntmps22
  have HO : Hid (Below w.heap.size w w) := Below.refl _ _
  go_upto_region 1 with fail
  obtain ⟨v1, hv⟩ : ∃ Xw, Xw = ((w.alloc (.cells #[.int .i64 p.a.re, .int .i64 p.a.im, .int .i64 p.b.re, .int .i64 p.b.im, .int .i64 p.c.re, .int .i64 p.c.im, .int .i64 p.d.re, .int .i64 p.d.im] 27)).alloc (.cells #[.int .i64 0, .slice none 0 0] 42)) := ⟨_, rfl⟩
  rw [← hv]
  have ne_p_r : Hid (w.heap.size ≠ w.heap.size + 1) := by show (w.heap.size : Nat) ≠ w.heap.size + 1; omega
  have B_p : Hid (Blk v1 (w.heap.size) #[.int .i64 p.a.re, .int .i64 p.a.im, .int .i64 p.b.re, .int .i64 p.b.im, .int .i64 p.c.re, .int .i64 p.c.im, .int .i64 p.d.re, .int .i64 p.d.im] 27) := by show Blk v1 (w.heap.size) _ _; rw [hv]; exact (Blk.alloc (Blk.new (by simp)) _)
  have low_p : Hid (w.heap.size ≤ w.heap.size) := by show w.heap.size ≤ w.heap.size; have := HO.out.size; omega
  have B_r : Hid (Blk v1 (w.heap.size + 1) #[.int .i64 0, .slice none 0 0] 42) := by show Blk v1 (w.heap.size + 1) _ _; rw [hv]; exact (Blk.new (by simp))
  have low_r : Hid (w.heap.size ≤ w.heap.size + 1) := by show w.heap.size ≤ w.heap.size + 1; have := HO.out.size; omega
  replace HO : Hid (Below w.heap.size w v1) := by show Below w.heap.size w v1; rw [hv]; exact (below_new (below_new HO.out _) _)
  clear hv
  have p_0 := B_p.out.cell (j := 0) rfl
  have p_1 := B_p.out.cell (j := 1) rfl
  have p_2 := B_p.out.cell (j := 2) rfl
  have p_3 := B_p.out.cell (j := 3) rfl
  have p_4 := B_p.out.cell (j := 4) rfl
  have p_5 := B_p.out.cell (j := 5) rfl
  have p_6 := B_p.out.cell (j := 6) rfl
  have p_7 := B_p.out.cell (j := 7) rfl
  have p_f := B_p.out.frozen
  have p_z := B_p.out.lt
  go_wp2_with fail
  refine (iplate p.a p.b p.c p.d _).mono ?_
  rintro e v2 ⟨rfl, hb⟩
  clear p_0 p_1 p_2 p_3 p_4 p_5 p_6 p_7 p_f p_z
  replace B_p : Hid (Blk v2 (w.heap.size) #[.int .i64 p.a.re, .int .i64 p.a.im, .int .i64 p.b.re, .int .i64 p.b.im, .int .i64 p.c.re, .int .i64 p.c.im, .int .i64 p.d.re, .int .i64 p.d.im] 27) := by show Blk v2 (w.heap.size) _ _; exact Blk.old B_p.out hb
  replace B_r : Hid (Blk v2 (w.heap.size + 1) #[.int .i64 0, .slice none 0 0] 42) := by show Blk v2 (w.heap.size + 1) _ _; exact Blk.old B_r.out hb
  replace HO : Hid (Below w.heap.size w v2) := box_step HO.out hb (Nat.le_refl _)
  clear hb
  rw [hp]
  go_upto_region 4 with fail
  have k_p_0 : ∀ W, Below v2.heap.size v2 W → W.cell? ⟨w.heap.size, 0, none⟩ = some (.int .i64 p.a.re) := fun _ h => kold h (B_p.out.cell (j := 0) rfl)
  have k_p_1 : ∀ W, Below v2.heap.size v2 W → W.cell? ⟨w.heap.size, 1, none⟩ = some (.int .i64 p.a.im) := fun _ h => kold h (B_p.out.cell (j := 1) rfl)
  have k_p_2 : ∀ W, Below v2.heap.size v2 W → W.cell? ⟨w.heap.size, 2, none⟩ = some (.int .i64 p.b.re) := fun _ h => kold h (B_p.out.cell (j := 2) rfl)
  have k_p_3 : ∀ W, Below v2.heap.size v2 W → W.cell? ⟨w.heap.size, 3, none⟩ = some (.int .i64 p.b.im) := fun _ h => kold h (B_p.out.cell (j := 3) rfl)
  have k_p_4 : ∀ W, Below v2.heap.size v2 W → W.cell? ⟨w.heap.size, 4, none⟩ = some (.int .i64 p.c.re) := fun _ h => kold h (B_p.out.cell (j := 4) rfl)
  have k_p_5 : ∀ W, Below v2.heap.size v2 W → W.cell? ⟨w.heap.size, 5, none⟩ = some (.int .i64 p.c.im) := fun _ h => kold h (B_p.out.cell (j := 5) rfl)
  have k_p_6 : ∀ W, Below v2.heap.size v2 W → W.cell? ⟨w.heap.size, 6, none⟩ = some (.int .i64 p.d.re) := fun _ h => kold h (B_p.out.cell (j := 6) rfl)
  have k_p_7 : ∀ W, Below v2.heap.size v2 W → W.cell? ⟨w.heap.size, 7, none⟩ = some (.int .i64 p.d.im) := fun _ h => kold h (B_p.out.cell (j := 7) rfl)
  have hR0 : Below v2.heap.size v2 v2 := Below.refl _ _
  go_wp2_with fail
  go_region_held (fun W => Below v2.heap.size v2 W) (first | with_reducible assumption | with_reducible exact Below.drew ‹_› | with_reducible exact below_drewN ‹_› _)
    (first | (go_at_call 66; refine (isq _ _).mono ?_; rintro e u3 ⟨rfl, hb1⟩; have hR1 : Below v2.heap.size v2 u3 := box_step ‹_› hb1 (Nat.le_refl _)))
  clear k_p_0 k_p_1 k_p_2 k_p_3 k_p_4 k_p_5 k_p_6 k_p_7 hR0
  replace B_p : Hid (Blk u3 (w.heap.size) #[.int .i64 p.a.re, .int .i64 p.a.im, .int .i64 p.b.re, .int .i64 p.b.im, .int .i64 p.c.re, .int .i64 p.c.im, .int .i64 p.d.re, .int .i64 p.d.im] 27) := by show Blk u3 (w.heap.size) _ _; exact Blk.old B_p.out hR1
  replace B_r : Hid (Blk u3 (w.heap.size + 1) #[.int .i64 0, .slice none 0 0] 42) := by show Blk u3 (w.heap.size + 1) _ _; exact Blk.old B_r.out hR1
  replace HO : Hid (Below w.heap.size w u3) := HO.out.trans (hR1.mono HO.out.size)
  replace low_p : Hid (w.heap.size ≤ w.heap.size) := low_p.out
  replace low_r : Hid (w.heap.size ≤ w.heap.size + 1) := low_r.out
  clear hR1
  have p_0 := B_p.out.cell (j := 0) rfl
  have p_1 := B_p.out.cell (j := 1) rfl
  have p_2 := B_p.out.cell (j := 2) rfl
  have p_3 := B_p.out.cell (j := 3) rfl
  have p_4 := B_p.out.cell (j := 4) rfl
  have p_5 := B_p.out.cell (j := 5) rfl
  have p_6 := B_p.out.cell (j := 6) rfl
  have p_7 := B_p.out.cell (j := 7) rfl
  have p_f := B_p.out.frozen
  have p_z := B_p.out.lt
  go_wp2_with fail
  refine (ibeat p.a p.b _).mono ?_
  rintro e v4 ⟨rfl, hb⟩
  clear p_0 p_1 p_2 p_3 p_4 p_5 p_6 p_7 p_f p_z
  replace B_p : Hid (Blk v4 (w.heap.size) #[.int .i64 p.a.re, .int .i64 p.a.im, .int .i64 p.b.re, .int .i64 p.b.im, .int .i64 p.c.re, .int .i64 p.c.im, .int .i64 p.d.re, .int .i64 p.d.im] 27) := by show Blk v4 (w.heap.size) _ _; exact Blk.old B_p.out hb
  replace B_r : Hid (Blk v4 (w.heap.size + 1) #[.int .i64 0, .slice none 0 0] 42) := by show Blk v4 (w.heap.size + 1) _ _; exact Blk.old B_r.out hb
  replace HO : Hid (Below w.heap.size w v4) := box_step HO.out hb (Nat.le_refl _)
  clear hb
  have p_0 := B_p.out.cell (j := 0) rfl
  have p_1 := B_p.out.cell (j := 1) rfl
  have p_2 := B_p.out.cell (j := 2) rfl
  have p_3 := B_p.out.cell (j := 3) rfl
  have p_4 := B_p.out.cell (j := 4) rfl
  have p_5 := B_p.out.cell (j := 5) rfl
  have p_6 := B_p.out.cell (j := 6) rfl
  have p_7 := B_p.out.cell (j := 7) rfl
  have p_f := B_p.out.frozen
  have p_z := B_p.out.lt
  go_wp2_with fail
  refine (ibeat p.c p.d _).mono ?_
  rintro e v5 ⟨rfl, hb⟩
  clear p_0 p_1 p_2 p_3 p_4 p_5 p_6 p_7 p_f p_z
  replace B_p : Hid (Blk v5 (w.heap.size) #[.int .i64 p.a.re, .int .i64 p.a.im, .int .i64 p.b.re, .int .i64 p.b.im, .int .i64 p.c.re, .int .i64 p.c.im, .int .i64 p.d.re, .int .i64 p.d.im] 27) := by show Blk v5 (w.heap.size) _ _; exact Blk.old B_p.out hb
  replace B_r : Hid (Blk v5 (w.heap.size + 1) #[.int .i64 0, .slice none 0 0] 42) := by show Blk v5 (w.heap.size + 1) _ _; exact Blk.old B_r.out hb
  replace HO : Hid (Below w.heap.size w v5) := box_step HO.out hb (Nat.le_refl _)
  clear hb
  have p_0 := B_p.out.cell (j := 0) rfl
  have p_1 := B_p.out.cell (j := 1) rfl
  have p_2 := B_p.out.cell (j := 2) rfl
  have p_3 := B_p.out.cell (j := 3) rfl
  have p_4 := B_p.out.cell (j := 4) rfl
  have p_5 := B_p.out.cell (j := 5) rfl
  have p_6 := B_p.out.cell (j := 6) rfl
  have p_7 := B_p.out.cell (j := 7) rfl
  have p_f := B_p.out.frozen
  have p_z := B_p.out.lt
  go_wp2_with fail
  refine (ibeat p.a p.c _).mono ?_
  rintro e v6 ⟨rfl, hb⟩
  clear p_0 p_1 p_2 p_3 p_4 p_5 p_6 p_7 p_f p_z
  replace B_p : Hid (Blk v6 (w.heap.size) #[.int .i64 p.a.re, .int .i64 p.a.im, .int .i64 p.b.re, .int .i64 p.b.im, .int .i64 p.c.re, .int .i64 p.c.im, .int .i64 p.d.re, .int .i64 p.d.im] 27) := by show Blk v6 (w.heap.size) _ _; exact Blk.old B_p.out hb
  replace B_r : Hid (Blk v6 (w.heap.size + 1) #[.int .i64 0, .slice none 0 0] 42) := by show Blk v6 (w.heap.size + 1) _ _; exact Blk.old B_r.out hb
  replace HO : Hid (Below w.heap.size w v6) := box_step HO.out hb (Nat.le_refl _)
  clear hb
  have p_0 := B_p.out.cell (j := 0) rfl
  have p_1 := B_p.out.cell (j := 1) rfl
  have p_2 := B_p.out.cell (j := 2) rfl
  have p_3 := B_p.out.cell (j := 3) rfl
  have p_4 := B_p.out.cell (j := 4) rfl
  have p_5 := B_p.out.cell (j := 5) rfl
  have p_6 := B_p.out.cell (j := 6) rfl
  have p_7 := B_p.out.cell (j := 7) rfl
  have p_f := B_p.out.frozen
  have p_z := B_p.out.lt
  go_wp2_with fail
  refine (ibeat p.b p.d _).mono ?_
  rintro e v7 ⟨rfl, hb⟩
  clear p_0 p_1 p_2 p_3 p_4 p_5 p_6 p_7 p_f p_z
  replace B_p : Hid (Blk v7 (w.heap.size) #[.int .i64 p.a.re, .int .i64 p.a.im, .int .i64 p.b.re, .int .i64 p.b.im, .int .i64 p.c.re, .int .i64 p.c.im, .int .i64 p.d.re, .int .i64 p.d.im] 27) := by show Blk v7 (w.heap.size) _ _; exact Blk.old B_p.out hb
  replace B_r : Hid (Blk v7 (w.heap.size + 1) #[.int .i64 0, .slice none 0 0] 42) := by show Blk v7 (w.heap.size + 1) _ _; exact Blk.old B_r.out hb
  replace HO : Hid (Below w.heap.size w v7) := box_step HO.out hb (Nat.le_refl _)
  clear hb
  have p_0 := B_p.out.cell (j := 0) rfl
  have p_1 := B_p.out.cell (j := 1) rfl
  have p_2 := B_p.out.cell (j := 2) rfl
  have p_3 := B_p.out.cell (j := 3) rfl
  have p_4 := B_p.out.cell (j := 4) rfl
  have p_5 := B_p.out.cell (j := 5) rfl
  have p_6 := B_p.out.cell (j := 6) rfl
  have p_7 := B_p.out.cell (j := 7) rfl
  have p_f := B_p.out.frozen
  have p_z := B_p.out.lt
  go_wp2_with fail
  refine (ibeat p.a p.d _).mono ?_
  rintro e v8 ⟨rfl, hb⟩
  clear p_0 p_1 p_2 p_3 p_4 p_5 p_6 p_7 p_f p_z
  replace B_p : Hid (Blk v8 (w.heap.size) #[.int .i64 p.a.re, .int .i64 p.a.im, .int .i64 p.b.re, .int .i64 p.b.im, .int .i64 p.c.re, .int .i64 p.c.im, .int .i64 p.d.re, .int .i64 p.d.im] 27) := by show Blk v8 (w.heap.size) _ _; exact Blk.old B_p.out hb
  replace B_r : Hid (Blk v8 (w.heap.size + 1) #[.int .i64 0, .slice none 0 0] 42) := by show Blk v8 (w.heap.size + 1) _ _; exact Blk.old B_r.out hb
  replace HO : Hid (Below w.heap.size w v8) := box_step HO.out hb (Nat.le_refl _)
  clear hb
  have p_0 := B_p.out.cell (j := 0) rfl
  have p_1 := B_p.out.cell (j := 1) rfl
  have p_2 := B_p.out.cell (j := 2) rfl
  have p_3 := B_p.out.cell (j := 3) rfl
  have p_4 := B_p.out.cell (j := 4) rfl
  have p_5 := B_p.out.cell (j := 5) rfl
  have p_6 := B_p.out.cell (j := 6) rfl
  have p_7 := B_p.out.cell (j := 7) rfl
  have p_f := B_p.out.frozen
  have p_z := B_p.out.lt
  go_wp2_with fail
  refine (ibeat p.b p.c _).mono ?_
  rintro e v9 ⟨rfl, hb⟩
  clear p_0 p_1 p_2 p_3 p_4 p_5 p_6 p_7 p_f p_z
  replace B_p : Hid (Blk v9 (w.heap.size) #[.int .i64 p.a.re, .int .i64 p.a.im, .int .i64 p.b.re, .int .i64 p.b.im, .int .i64 p.c.re, .int .i64 p.c.im, .int .i64 p.d.re, .int .i64 p.d.im] 27) := by show Blk v9 (w.heap.size) _ _; exact Blk.old B_p.out hb
  replace B_r : Hid (Blk v9 (w.heap.size + 1) #[.int .i64 0, .slice none 0 0] 42) := by show Blk v9 (w.heap.size + 1) _ _; exact Blk.old B_r.out hb
  replace HO : Hid (Below w.heap.size w v9) := box_step HO.out hb (Nat.le_refl _)
  clear hb
  have r_f := B_r.out.frozen
  have r_z := B_r.out.lt
  have r_0 := B_r.out.cell (j := 0) rfl
  have r_1 := B_r.out.cell (j := 1) rfl
  have z0 : w.heap.size < v9.heap.size := by omega
  have z1 : w.heap.size < v9.heap.size + 1 := by omega
  have z2 : w.heap.size < v9.heap.size + 1 + 1 := by omega
  have z3 : w.heap.size < v9.heap.size + 1 + 1 + 1 := by omega
  have z4 : w.heap.size < v9.heap.size + 1 + 1 + 1 + 1 := by omega
  have y0 : w.heap.size + 1 < v9.heap.size := by omega
  have y1 : w.heap.size + 1 < v9.heap.size + 1 := by omega
  have y2 : w.heap.size + 1 < v9.heap.size + 1 + 1 := by omega
  have y3 : w.heap.size + 1 < v9.heap.size + 1 + 1 + 1 := by omega
  have y4 : w.heap.size + 1 < v9.heap.size + 1 + 1 + 1 + 1 := by omega
  have n0 : ¬ (w.heap.size = v9.heap.size) := by omega
  have n1 : ¬ (w.heap.size = v9.heap.size + 1) := by omega
  have n2 : ¬ (w.heap.size = v9.heap.size + 1 + 1) := by omega
  have n3 : ¬ (w.heap.size = v9.heap.size + 1 + 1 + 1) := by omega
  have n4 : ¬ (w.heap.size = v9.heap.size + 1 + 1 + 1 + 1) := by omega
  have n9 : ¬ (w.heap.size + 1 = v9.heap.size) := by omega
  go_wp2
  clear r_f r_z r_0 r_1 z0 z1 z2 z3 z4 y0 y1 y2 y3 y4 n0 n1 n2 n3 n4 n9
  have hV : Hid (w.heap.size ≤ v9.heap.size) := HO.out.size
  obtain ⟨v10, hv⟩ : ∃ Xw, Xw = (((((((v9.setCell ⟨w.heap.size + 1, 0, none⟩ (.int .i64 0)).setCell ⟨w.heap.size + 1, 1, none⟩ (.slice (some ⟨v9.heap.size + 1 + 1 + 1 + 1, 0, none⟩) 4 4)).alloc (.cells #[.int .i64 (wrap64 ((wrap64 ((wrap64 ((gsq p.a) + (gsq p.b))) + (gsq p.c))) + (gsq p.d))), .int .i64 (wrap64 ((wrap64 ((wrap64 ((gsq p.a) - (gsq p.b))) + (gsq p.c))) - (gsq p.d))), .int .i64 (wrap64 ((wrap64 (2 * gr p.a p.b)) + (wrap64 (2 * gr p.c p.d)))), .int .i64 (wrap64 ((wrap64 (-(wrap64 (2 * gs p.a p.b)))) - (wrap64 (2 * gs p.c p.d))))] 2)).alloc (.cells #[.int .i64 (wrap64 ((wrap64 ((wrap64 ((gsq p.a) + (gsq p.b))) - (gsq p.c))) - (gsq p.d))), .int .i64 (wrap64 ((wrap64 ((wrap64 ((gsq p.a) - (gsq p.b))) - (gsq p.c))) + (gsq p.d))), .int .i64 (wrap64 ((wrap64 (2 * gr p.a p.b)) - (wrap64 (2 * gr p.c p.d)))), .int .i64 (wrap64 ((wrap64 (-(wrap64 (2 * gs p.a p.b)))) + (wrap64 (2 * gs p.c p.d))))] 2)).alloc (.cells #[.int .i64 (wrap64 ((wrap64 (2 * gr p.a p.c)) + (wrap64 (2 * gr p.b p.d)))), .int .i64 (wrap64 ((wrap64 (2 * gr p.a p.c)) - (wrap64 (2 * gr p.b p.d)))), .int .i64 (wrap64 ((wrap64 (2 * gr p.a p.d)) + (wrap64 (2 * gr p.b p.c)))), .int .i64 (wrap64 ((wrap64 (2 * gs p.b p.c)) - (wrap64 (2 * gs p.a p.d))))] 2)).alloc (.cells #[.int .i64 (wrap64 ((wrap64 (2 * gs p.a p.c)) + (wrap64 (2 * gs p.b p.d)))), .int .i64 (wrap64 ((wrap64 (2 * gs p.a p.c)) - (wrap64 (2 * gs p.b p.d)))), .int .i64 (wrap64 ((wrap64 (2 * gs p.a p.d)) + (wrap64 (2 * gs p.b p.c)))), .int .i64 (wrap64 ((wrap64 (2 * gr p.a p.d)) - (wrap64 (2 * gr p.b p.c))))] 2)).alloc (.cells #[.slice (some ⟨v9.heap.size, 0, none⟩) 4 4, .slice (some ⟨v9.heap.size + 1, 0, none⟩) 4 4, .slice (some ⟨v9.heap.size + 1 + 1, 0, none⟩) 4 4, .slice (some ⟨v9.heap.size + 1 + 1 + 1, 0, none⟩) 4 4] 102)) := ⟨_, rfl⟩
  rw [← hv]
  have ne_p_q0 : Hid (w.heap.size ≠ v9.heap.size) := Nat.ne_of_lt (Nat.lt_of_lt_of_le B_p.out.lt (by omega))
  have ne_r_q0 : Hid (w.heap.size + 1 ≠ v9.heap.size) := Nat.ne_of_lt (Nat.lt_of_lt_of_le B_r.out.lt (by omega))
  have ne_p_q1 : Hid (w.heap.size ≠ v9.heap.size + 1) := Nat.ne_of_lt (Nat.lt_of_lt_of_le B_p.out.lt (by omega))
  have ne_r_q1 : Hid (w.heap.size + 1 ≠ v9.heap.size + 1) := Nat.ne_of_lt (Nat.lt_of_lt_of_le B_r.out.lt (by omega))
  have ne_q0_q1 : Hid (v9.heap.size ≠ v9.heap.size + 1) := by show (v9.heap.size : Nat) ≠ v9.heap.size + 1; omega
  have ne_p_q2 : Hid (w.heap.size ≠ v9.heap.size + 1 + 1) := Nat.ne_of_lt (Nat.lt_of_lt_of_le B_p.out.lt (by omega))
  have ne_r_q2 : Hid (w.heap.size + 1 ≠ v9.heap.size + 1 + 1) := Nat.ne_of_lt (Nat.lt_of_lt_of_le B_r.out.lt (by omega))
  have ne_q0_q2 : Hid (v9.heap.size ≠ v9.heap.size + 1 + 1) := by show (v9.heap.size : Nat) ≠ v9.heap.size + 1 + 1; omega
  have ne_q1_q2 : Hid (v9.heap.size + 1 ≠ v9.heap.size + 1 + 1) := by show (v9.heap.size + 1 : Nat) ≠ v9.heap.size + 1 + 1; omega
  have ne_p_q3 : Hid (w.heap.size ≠ v9.heap.size + 1 + 1 + 1) := Nat.ne_of_lt (Nat.lt_of_lt_of_le B_p.out.lt (by omega))
  have ne_r_q3 : Hid (w.heap.size + 1 ≠ v9.heap.size + 1 + 1 + 1) := Nat.ne_of_lt (Nat.lt_of_lt_of_le B_r.out.lt (by omega))
  have ne_q0_q3 : Hid (v9.heap.size ≠ v9.heap.size + 1 + 1 + 1) := by show (v9.heap.size : Nat) ≠ v9.heap.size + 1 + 1 + 1; omega
  have ne_q1_q3 : Hid (v9.heap.size + 1 ≠ v9.heap.size + 1 + 1 + 1) := by show (v9.heap.size + 1 : Nat) ≠ v9.heap.size + 1 + 1 + 1; omega
  have ne_q2_q3 : Hid (v9.heap.size + 1 + 1 ≠ v9.heap.size + 1 + 1 + 1) := by show (v9.heap.size + 1 + 1 : Nat) ≠ v9.heap.size + 1 + 1 + 1; omega
  have ne_p_q4 : Hid (w.heap.size ≠ v9.heap.size + 1 + 1 + 1 + 1) := Nat.ne_of_lt (Nat.lt_of_lt_of_le B_p.out.lt (by omega))
  have ne_r_q4 : Hid (w.heap.size + 1 ≠ v9.heap.size + 1 + 1 + 1 + 1) := Nat.ne_of_lt (Nat.lt_of_lt_of_le B_r.out.lt (by omega))
  have ne_q0_q4 : Hid (v9.heap.size ≠ v9.heap.size + 1 + 1 + 1 + 1) := by show (v9.heap.size : Nat) ≠ v9.heap.size + 1 + 1 + 1 + 1; omega
  have ne_q1_q4 : Hid (v9.heap.size + 1 ≠ v9.heap.size + 1 + 1 + 1 + 1) := by show (v9.heap.size + 1 : Nat) ≠ v9.heap.size + 1 + 1 + 1 + 1; omega
  have ne_q2_q4 : Hid (v9.heap.size + 1 + 1 ≠ v9.heap.size + 1 + 1 + 1 + 1) := by show (v9.heap.size + 1 + 1 : Nat) ≠ v9.heap.size + 1 + 1 + 1 + 1; omega
  have ne_q3_q4 : Hid (v9.heap.size + 1 + 1 + 1 ≠ v9.heap.size + 1 + 1 + 1 + 1) := by show (v9.heap.size + 1 + 1 + 1 : Nat) ≠ v9.heap.size + 1 + 1 + 1 + 1; omega
  have B_q0 : Hid (Blk v10 (v9.heap.size) #[.int .i64 (wrap64 ((wrap64 ((wrap64 ((gsq p.a) + (gsq p.b))) + (gsq p.c))) + (gsq p.d))), .int .i64 (wrap64 ((wrap64 ((wrap64 ((gsq p.a) - (gsq p.b))) + (gsq p.c))) - (gsq p.d))), .int .i64 (wrap64 ((wrap64 (2 * gr p.a p.b)) + (wrap64 (2 * gr p.c p.d)))), .int .i64 (wrap64 ((wrap64 (-(wrap64 (2 * gs p.a p.b)))) - (wrap64 (2 * gs p.c p.d))))] 2) := by show Blk v10 (v9.heap.size) _ _; rw [hv]; exact (Blk.alloc (Blk.alloc (Blk.alloc (Blk.alloc (Blk.new (by simp)) _) _) _) _)
  have low_q0 : Hid (w.heap.size ≤ v9.heap.size) := by show w.heap.size ≤ v9.heap.size; have := HO.out.size; omega
  have B_q1 : Hid (Blk v10 (v9.heap.size + 1) #[.int .i64 (wrap64 ((wrap64 ((wrap64 ((gsq p.a) + (gsq p.b))) - (gsq p.c))) - (gsq p.d))), .int .i64 (wrap64 ((wrap64 ((wrap64 ((gsq p.a) - (gsq p.b))) - (gsq p.c))) + (gsq p.d))), .int .i64 (wrap64 ((wrap64 (2 * gr p.a p.b)) - (wrap64 (2 * gr p.c p.d)))), .int .i64 (wrap64 ((wrap64 (-(wrap64 (2 * gs p.a p.b)))) + (wrap64 (2 * gs p.c p.d))))] 2) := by show Blk v10 (v9.heap.size + 1) _ _; rw [hv]; exact (Blk.alloc (Blk.alloc (Blk.alloc (Blk.new (by simp)) _) _) _)
  have low_q1 : Hid (w.heap.size ≤ v9.heap.size + 1) := by show w.heap.size ≤ v9.heap.size + 1; have := HO.out.size; omega
  have B_q2 : Hid (Blk v10 (v9.heap.size + 1 + 1) #[.int .i64 (wrap64 ((wrap64 (2 * gr p.a p.c)) + (wrap64 (2 * gr p.b p.d)))), .int .i64 (wrap64 ((wrap64 (2 * gr p.a p.c)) - (wrap64 (2 * gr p.b p.d)))), .int .i64 (wrap64 ((wrap64 (2 * gr p.a p.d)) + (wrap64 (2 * gr p.b p.c)))), .int .i64 (wrap64 ((wrap64 (2 * gs p.b p.c)) - (wrap64 (2 * gs p.a p.d))))] 2) := by show Blk v10 (v9.heap.size + 1 + 1) _ _; rw [hv]; exact (Blk.alloc (Blk.alloc (Blk.new (by simp)) _) _)
  have low_q2 : Hid (w.heap.size ≤ v9.heap.size + 1 + 1) := by show w.heap.size ≤ v9.heap.size + 1 + 1; have := HO.out.size; omega
  have B_q3 : Hid (Blk v10 (v9.heap.size + 1 + 1 + 1) #[.int .i64 (wrap64 ((wrap64 (2 * gs p.a p.c)) + (wrap64 (2 * gs p.b p.d)))), .int .i64 (wrap64 ((wrap64 (2 * gs p.a p.c)) - (wrap64 (2 * gs p.b p.d)))), .int .i64 (wrap64 ((wrap64 (2 * gs p.a p.d)) + (wrap64 (2 * gs p.b p.c)))), .int .i64 (wrap64 ((wrap64 (2 * gr p.a p.d)) - (wrap64 (2 * gr p.b p.c))))] 2) := by show Blk v10 (v9.heap.size + 1 + 1 + 1) _ _; rw [hv]; exact (Blk.alloc (Blk.new (by simp)) _)
  have low_q3 : Hid (w.heap.size ≤ v9.heap.size + 1 + 1 + 1) := by show w.heap.size ≤ v9.heap.size + 1 + 1 + 1; have := HO.out.size; omega
  have B_q4 : Hid (Blk v10 (v9.heap.size + 1 + 1 + 1 + 1) #[.slice (some ⟨v9.heap.size, 0, none⟩) 4 4, .slice (some ⟨v9.heap.size + 1, 0, none⟩) 4 4, .slice (some ⟨v9.heap.size + 1 + 1, 0, none⟩) 4 4, .slice (some ⟨v9.heap.size + 1 + 1 + 1, 0, none⟩) 4 4] 102) := by show Blk v10 (v9.heap.size + 1 + 1 + 1 + 1) _ _; rw [hv]; exact (Blk.new (by simp))
  have low_q4 : Hid (w.heap.size ≤ v9.heap.size + 1 + 1 + 1 + 1) := by show w.heap.size ≤ v9.heap.size + 1 + 1 + 1 + 1; have := HO.out.size; omega
  replace B_p : Hid (Blk v10 (w.heap.size) #[.int .i64 p.a.re, .int .i64 p.a.im, .int .i64 p.b.re, .int .i64 p.b.im, .int .i64 p.c.re, .int .i64 p.c.im, .int .i64 p.d.re, .int .i64 p.d.im] 27) := by show Blk v10 (w.heap.size) _ _; rw [hv]; exact (Blk.alloc (Blk.alloc (Blk.alloc (Blk.alloc (Blk.alloc (Blk.setOther (Blk.setOther B_p.out ne_p_r.out _) ne_p_r.out _) _) _) _) _) _)
  replace B_r : Hid (Blk v10 (w.heap.size + 1) #[.int .i64 0, .slice (some ⟨v9.heap.size + 1 + 1 + 1 + 1, 0, none⟩) 4 4] 42) := by show Blk v10 (w.heap.size + 1) _ _; rw [hv]; exact (Blk.alloc (Blk.alloc (Blk.alloc (Blk.alloc (Blk.alloc (Blk.set (Blk.set B_r.out _ _ rfl) _ _ rfl) _) _) _) _) _)
  replace HO : Hid (Below w.heap.size w v10) := by show Below w.heap.size w v10; rw [hv]; exact (below_new (below_new (below_new (below_new (below_new (Below.setCell (Below.setCell HO.out low_r.out _) low_r.out _) _) _) _) _) _)
  clear hv
  have r_0 := B_r.out.cell (j := 0) rfl
  have r_1 := B_r.out.cell (j := 1) rfl
  have r_f := B_r.out.frozen
  have r_z := B_r.out.lt
  refine bodyPost_ret (v := .agg #[.int .i64 0, .slice (some ⟨v9.heap.size + 1 + 1 + 1 + 1, 0, none⟩) 4 4]) (by simp [results, Try.results22, go_sem, r_0, r_1, r_f, r_z] <;> (repeat' (first | rfl | apply And.intro))) rfl ⟨lie4 v9.heap.size, rfl, mat4 (F := tw p) B_q0.out B_q1.out B_q2.out B_q3.out B_q4.out hV.out B_q4.out.lt, HO.out⟩
set_option maxRecDepth 20000 in
set_option maxHeartbeats 3200000 in
theorem stw_0 (p : Pl) (hp : pcode p.a p.b p.c p.d = 0) (w : World) : Calls Try.prog 54 #[.agg #[.int .i64 p.a.re, .int .i64 p.a.im, .int .i64 p.b.re, .int .i64 p.b.im, .int .i64 p.c.re, .int .i64 p.c.im, .int .i64 p.d.re, .int .i64 p.d.im]] w fun e w' => ∃ m : Lie, e = .returned (.agg #[.int .i64 0, .slice (some ⟨m.b, 0, none⟩) 4 m.cap]) ∧ Mat w.heap.size w'.heap.size w' m 4 (fun _ => 4) (tw p) ∧ Below w.heap.size w w' := by
  go_enter Try.func54, Try.ntmps54
  have HO : Hid (Below w.heap.size w w) := Below.refl _ _
  go_upto_region 1 with fail
  obtain ⟨v1, hv⟩ : ∃ Xw, Xw = ((w.alloc (.cells #[.int .i64 p.a.re, .int .i64 p.a.im, .int .i64 p.b.re, .int .i64 p.b.im, .int .i64 p.c.re, .int .i64 p.c.im, .int .i64 p.d.re, .int .i64 p.d.im] 27)).alloc (.cells #[.int .i64 0, .slice none 0 0] 42)) := ⟨_, rfl⟩
  rw [← hv]
  have ne_p_r : Hid (w.heap.size ≠ w.heap.size + 1) := by show (w.heap.size : Nat) ≠ w.heap.size + 1; omega
  have B_p : Hid (Blk v1 (w.heap.size) #[.int .i64 p.a.re, .int .i64 p.a.im, .int .i64 p.b.re, .int .i64 p.b.im, .int .i64 p.c.re, .int .i64 p.c.im, .int .i64 p.d.re, .int .i64 p.d.im] 27) := by show Blk v1 (w.heap.size) _ _; rw [hv]; exact (Blk.alloc (Blk.new (by simp)) _)
  have low_p : Hid (w.heap.size ≤ w.heap.size) := by show w.heap.size ≤ w.heap.size; have := HO.out.size; omega
  have B_r : Hid (Blk v1 (w.heap.size + 1) #[.int .i64 0, .slice none 0 0] 42) := by show Blk v1 (w.heap.size + 1) _ _; rw [hv]; exact (Blk.new (by simp))
  have low_r : Hid (w.heap.size ≤ w.heap.size + 1) := by show w.heap.size ≤ w.heap.size + 1; have := HO.out.size; omega
  replace HO : Hid (Below w.heap.size w v1) := by show Below w.heap.size w v1; rw [hv]; exact (below_new (below_new HO.out _) _)
  clear hv
  have p_0 := B_p.out.cell (j := 0) rfl
  have p_1 := B_p.out.cell (j := 1) rfl
  have p_2 := B_p.out.cell (j := 2) rfl
  have p_3 := B_p.out.cell (j := 3) rfl
  have p_4 := B_p.out.cell (j := 4) rfl
  have p_5 := B_p.out.cell (j := 5) rfl
  have p_6 := B_p.out.cell (j := 6) rfl
  have p_7 := B_p.out.cell (j := 7) rfl
  have p_f := B_p.out.frozen
  have p_z := B_p.out.lt
  go_wp2_with fail
  refine (splate p.a p.b p.c p.d _).mono ?_
  rintro e v2 ⟨rfl, hb⟩
  clear p_0 p_1 p_2 p_3 p_4 p_5 p_6 p_7 p_f p_z
  replace B_p : Hid (Blk v2 (w.heap.size) #[.int .i64 p.a.re, .int .i64 p.a.im, .int .i64 p.b.re, .int .i64 p.b.im, .int .i64 p.c.re, .int .i64 p.c.im, .int .i64 p.d.re, .int .i64 p.d.im] 27) := by show Blk v2 (w.heap.size) _ _; exact Blk.old B_p.out hb
  replace B_r : Hid (Blk v2 (w.heap.size + 1) #[.int .i64 0, .slice none 0 0] 42) := by show Blk v2 (w.heap.size + 1) _ _; exact Blk.old B_r.out hb
  replace HO : Hid (Below w.heap.size w v2) := box_step HO.out hb (Nat.le_refl _)
  clear hb
  rw [hp]
  have p_0 := B_p.out.cell (j := 0) rfl
  have p_1 := B_p.out.cell (j := 1) rfl
  have p_2 := B_p.out.cell (j := 2) rfl
  have p_3 := B_p.out.cell (j := 3) rfl
  have p_4 := B_p.out.cell (j := 4) rfl
  have p_5 := B_p.out.cell (j := 5) rfl
  have p_6 := B_p.out.cell (j := 6) rfl
  have p_7 := B_p.out.cell (j := 7) rfl
  have p_f := B_p.out.frozen
  have p_z := B_p.out.lt
  go_wp2_with fail
  refine (ssq p.a _).mono ?_
  rintro e v3 ⟨rfl, hb⟩
  clear p_0 p_1 p_2 p_3 p_4 p_5 p_6 p_7 p_f p_z
  replace B_p : Hid (Blk v3 (w.heap.size) #[.int .i64 p.a.re, .int .i64 p.a.im, .int .i64 p.b.re, .int .i64 p.b.im, .int .i64 p.c.re, .int .i64 p.c.im, .int .i64 p.d.re, .int .i64 p.d.im] 27) := by show Blk v3 (w.heap.size) _ _; exact Blk.old B_p.out hb
  replace B_r : Hid (Blk v3 (w.heap.size + 1) #[.int .i64 0, .slice none 0 0] 42) := by show Blk v3 (w.heap.size + 1) _ _; exact Blk.old B_r.out hb
  replace HO : Hid (Below w.heap.size w v3) := box_step HO.out hb (Nat.le_refl _)
  clear hb
  have p_0 := B_p.out.cell (j := 0) rfl
  have p_1 := B_p.out.cell (j := 1) rfl
  have p_2 := B_p.out.cell (j := 2) rfl
  have p_3 := B_p.out.cell (j := 3) rfl
  have p_4 := B_p.out.cell (j := 4) rfl
  have p_5 := B_p.out.cell (j := 5) rfl
  have p_6 := B_p.out.cell (j := 6) rfl
  have p_7 := B_p.out.cell (j := 7) rfl
  have p_f := B_p.out.frozen
  have p_z := B_p.out.lt
  go_wp2_with fail
  refine (ssq p.b _).mono ?_
  rintro e v4 ⟨rfl, hb⟩
  clear p_0 p_1 p_2 p_3 p_4 p_5 p_6 p_7 p_f p_z
  replace B_p : Hid (Blk v4 (w.heap.size) #[.int .i64 p.a.re, .int .i64 p.a.im, .int .i64 p.b.re, .int .i64 p.b.im, .int .i64 p.c.re, .int .i64 p.c.im, .int .i64 p.d.re, .int .i64 p.d.im] 27) := by show Blk v4 (w.heap.size) _ _; exact Blk.old B_p.out hb
  replace B_r : Hid (Blk v4 (w.heap.size + 1) #[.int .i64 0, .slice none 0 0] 42) := by show Blk v4 (w.heap.size + 1) _ _; exact Blk.old B_r.out hb
  replace HO : Hid (Below w.heap.size w v4) := box_step HO.out hb (Nat.le_refl _)
  clear hb
  have p_0 := B_p.out.cell (j := 0) rfl
  have p_1 := B_p.out.cell (j := 1) rfl
  have p_2 := B_p.out.cell (j := 2) rfl
  have p_3 := B_p.out.cell (j := 3) rfl
  have p_4 := B_p.out.cell (j := 4) rfl
  have p_5 := B_p.out.cell (j := 5) rfl
  have p_6 := B_p.out.cell (j := 6) rfl
  have p_7 := B_p.out.cell (j := 7) rfl
  have p_f := B_p.out.frozen
  have p_z := B_p.out.lt
  go_wp2_with fail
  refine (ssq p.c _).mono ?_
  rintro e v5 ⟨rfl, hb⟩
  clear p_0 p_1 p_2 p_3 p_4 p_5 p_6 p_7 p_f p_z
  replace B_p : Hid (Blk v5 (w.heap.size) #[.int .i64 p.a.re, .int .i64 p.a.im, .int .i64 p.b.re, .int .i64 p.b.im, .int .i64 p.c.re, .int .i64 p.c.im, .int .i64 p.d.re, .int .i64 p.d.im] 27) := by show Blk v5 (w.heap.size) _ _; exact Blk.old B_p.out hb
  replace B_r : Hid (Blk v5 (w.heap.size + 1) #[.int .i64 0, .slice none 0 0] 42) := by show Blk v5 (w.heap.size + 1) _ _; exact Blk.old B_r.out hb
  replace HO : Hid (Below w.heap.size w v5) := box_step HO.out hb (Nat.le_refl _)
  clear hb
  have p_0 := B_p.out.cell (j := 0) rfl
  have p_1 := B_p.out.cell (j := 1) rfl
  have p_2 := B_p.out.cell (j := 2) rfl
  have p_3 := B_p.out.cell (j := 3) rfl
  have p_4 := B_p.out.cell (j := 4) rfl
  have p_5 := B_p.out.cell (j := 5) rfl
  have p_6 := B_p.out.cell (j := 6) rfl
  have p_7 := B_p.out.cell (j := 7) rfl
  have p_f := B_p.out.frozen
  have p_z := B_p.out.lt
  go_wp2_with fail
  refine (ssq p.d _).mono ?_
  rintro e v6 ⟨rfl, hb⟩
  clear p_0 p_1 p_2 p_3 p_4 p_5 p_6 p_7 p_f p_z
  replace B_p : Hid (Blk v6 (w.heap.size) #[.int .i64 p.a.re, .int .i64 p.a.im, .int .i64 p.b.re, .int .i64 p.b.im, .int .i64 p.c.re, .int .i64 p.c.im, .int .i64 p.d.re, .int .i64 p.d.im] 27) := by show Blk v6 (w.heap.size) _ _; exact Blk.old B_p.out hb
  replace B_r : Hid (Blk v6 (w.heap.size + 1) #[.int .i64 0, .slice none 0 0] 42) := by show Blk v6 (w.heap.size + 1) _ _; exact Blk.old B_r.out hb
  replace HO : Hid (Below w.heap.size w v6) := box_step HO.out hb (Nat.le_refl _)
  clear hb
  have p_0 := B_p.out.cell (j := 0) rfl
  have p_1 := B_p.out.cell (j := 1) rfl
  have p_2 := B_p.out.cell (j := 2) rfl
  have p_3 := B_p.out.cell (j := 3) rfl
  have p_4 := B_p.out.cell (j := 4) rfl
  have p_5 := B_p.out.cell (j := 5) rfl
  have p_6 := B_p.out.cell (j := 6) rfl
  have p_7 := B_p.out.cell (j := 7) rfl
  have p_f := B_p.out.frozen
  have p_z := B_p.out.lt
  go_wp2_with fail
  refine (sr p.a p.b _).mono ?_
  rintro e v7 ⟨rfl, hb⟩
  clear p_0 p_1 p_2 p_3 p_4 p_5 p_6 p_7 p_f p_z
  replace B_p : Hid (Blk v7 (w.heap.size) #[.int .i64 p.a.re, .int .i64 p.a.im, .int .i64 p.b.re, .int .i64 p.b.im, .int .i64 p.c.re, .int .i64 p.c.im, .int .i64 p.d.re, .int .i64 p.d.im] 27) := by show Blk v7 (w.heap.size) _ _; exact Blk.old B_p.out hb
  replace B_r : Hid (Blk v7 (w.heap.size + 1) #[.int .i64 0, .slice none 0 0] 42) := by show Blk v7 (w.heap.size + 1) _ _; exact Blk.old B_r.out hb
  replace HO : Hid (Below w.heap.size w v7) := box_step HO.out hb (Nat.le_refl _)
  clear hb
  have p_0 := B_p.out.cell (j := 0) rfl
  have p_1 := B_p.out.cell (j := 1) rfl
  have p_2 := B_p.out.cell (j := 2) rfl
  have p_3 := B_p.out.cell (j := 3) rfl
  have p_4 := B_p.out.cell (j := 4) rfl
  have p_5 := B_p.out.cell (j := 5) rfl
  have p_6 := B_p.out.cell (j := 6) rfl
  have p_7 := B_p.out.cell (j := 7) rfl
  have p_f := B_p.out.frozen
  have p_z := B_p.out.lt
  go_wp2_with fail
  refine (sr p.c p.d _).mono ?_
  rintro e v8 ⟨rfl, hb⟩
  clear p_0 p_1 p_2 p_3 p_4 p_5 p_6 p_7 p_f p_z
  replace B_p : Hid (Blk v8 (w.heap.size) #[.int .i64 p.a.re, .int .i64 p.a.im, .int .i64 p.b.re, .int .i64 p.b.im, .int .i64 p.c.re, .int .i64 p.c.im, .int .i64 p.d.re, .int .i64 p.d.im] 27) := by show Blk v8 (w.heap.size) _ _; exact Blk.old B_p.out hb
  replace B_r : Hid (Blk v8 (w.heap.size + 1) #[.int .i64 0, .slice none 0 0] 42) := by show Blk v8 (w.heap.size + 1) _ _; exact Blk.old B_r.out hb
  replace HO : Hid (Below w.heap.size w v8) := box_step HO.out hb (Nat.le_refl _)
  clear hb
  have p_0 := B_p.out.cell (j := 0) rfl
  have p_1 := B_p.out.cell (j := 1) rfl
  have p_2 := B_p.out.cell (j := 2) rfl
  have p_3 := B_p.out.cell (j := 3) rfl
  have p_4 := B_p.out.cell (j := 4) rfl
  have p_5 := B_p.out.cell (j := 5) rfl
  have p_6 := B_p.out.cell (j := 6) rfl
  have p_7 := B_p.out.cell (j := 7) rfl
  have p_f := B_p.out.frozen
  have p_z := B_p.out.lt
  go_wp2_with fail
  refine (ss p.a p.b _).mono ?_
  rintro e v9 ⟨rfl, hb⟩
  clear p_0 p_1 p_2 p_3 p_4 p_5 p_6 p_7 p_f p_z
  replace B_p : Hid (Blk v9 (w.heap.size) #[.int .i64 p.a.re, .int .i64 p.a.im, .int .i64 p.b.re, .int .i64 p.b.im, .int .i64 p.c.re, .int .i64 p.c.im, .int .i64 p.d.re, .int .i64 p.d.im] 27) := by show Blk v9 (w.heap.size) _ _; exact Blk.old B_p.out hb
  replace B_r : Hid (Blk v9 (w.heap.size + 1) #[.int .i64 0, .slice none 0 0] 42) := by show Blk v9 (w.heap.size + 1) _ _; exact Blk.old B_r.out hb
  replace HO : Hid (Below w.heap.size w v9) := box_step HO.out hb (Nat.le_refl _)
  clear hb
  have p_0 := B_p.out.cell (j := 0) rfl
  have p_1 := B_p.out.cell (j := 1) rfl
  have p_2 := B_p.out.cell (j := 2) rfl
  have p_3 := B_p.out.cell (j := 3) rfl
  have p_4 := B_p.out.cell (j := 4) rfl
  have p_5 := B_p.out.cell (j := 5) rfl
  have p_6 := B_p.out.cell (j := 6) rfl
  have p_7 := B_p.out.cell (j := 7) rfl
  have p_f := B_p.out.frozen
  have p_z := B_p.out.lt
  go_wp2_with fail
  refine (ss p.c p.d _).mono ?_
  rintro e v10 ⟨rfl, hb⟩
  clear p_0 p_1 p_2 p_3 p_4 p_5 p_6 p_7 p_f p_z
  replace B_p : Hid (Blk v10 (w.heap.size) #[.int .i64 p.a.re, .int .i64 p.a.im, .int .i64 p.b.re, .int .i64 p.b.im, .int .i64 p.c.re, .int .i64 p.c.im, .int .i64 p.d.re, .int .i64 p.d.im] 27) := by show Blk v10 (w.heap.size) _ _; exact Blk.old B_p.out hb
  replace B_r : Hid (Blk v10 (w.heap.size + 1) #[.int .i64 0, .slice none 0 0] 42) := by show Blk v10 (w.heap.size + 1) _ _; exact Blk.old B_r.out hb
  replace HO : Hid (Below w.heap.size w v10) := box_step HO.out hb (Nat.le_refl _)
  clear hb
  have p_0 := B_p.out.cell (j := 0) rfl
  have p_1 := B_p.out.cell (j := 1) rfl
  have p_2 := B_p.out.cell (j := 2) rfl
  have p_3 := B_p.out.cell (j := 3) rfl
  have p_4 := B_p.out.cell (j := 4) rfl
  have p_5 := B_p.out.cell (j := 5) rfl
  have p_6 := B_p.out.cell (j := 6) rfl
  have p_7 := B_p.out.cell (j := 7) rfl
  have p_f := B_p.out.frozen
  have p_z := B_p.out.lt
  go_wp2_with fail
  refine (sr p.a p.c _).mono ?_
  rintro e v11 ⟨rfl, hb⟩
  clear p_0 p_1 p_2 p_3 p_4 p_5 p_6 p_7 p_f p_z
  replace B_p : Hid (Blk v11 (w.heap.size) #[.int .i64 p.a.re, .int .i64 p.a.im, .int .i64 p.b.re, .int .i64 p.b.im, .int .i64 p.c.re, .int .i64 p.c.im, .int .i64 p.d.re, .int .i64 p.d.im] 27) := by show Blk v11 (w.heap.size) _ _; exact Blk.old B_p.out hb
  replace B_r : Hid (Blk v11 (w.heap.size + 1) #[.int .i64 0, .slice none 0 0] 42) := by show Blk v11 (w.heap.size + 1) _ _; exact Blk.old B_r.out hb
  replace HO : Hid (Below w.heap.size w v11) := box_step HO.out hb (Nat.le_refl _)
  clear hb
  have p_0 := B_p.out.cell (j := 0) rfl
  have p_1 := B_p.out.cell (j := 1) rfl
  have p_2 := B_p.out.cell (j := 2) rfl
  have p_3 := B_p.out.cell (j := 3) rfl
  have p_4 := B_p.out.cell (j := 4) rfl
  have p_5 := B_p.out.cell (j := 5) rfl
  have p_6 := B_p.out.cell (j := 6) rfl
  have p_7 := B_p.out.cell (j := 7) rfl
  have p_f := B_p.out.frozen
  have p_z := B_p.out.lt
  go_wp2_with fail
  refine (sr p.b p.d _).mono ?_
  rintro e v12 ⟨rfl, hb⟩
  clear p_0 p_1 p_2 p_3 p_4 p_5 p_6 p_7 p_f p_z
  replace B_p : Hid (Blk v12 (w.heap.size) #[.int .i64 p.a.re, .int .i64 p.a.im, .int .i64 p.b.re, .int .i64 p.b.im, .int .i64 p.c.re, .int .i64 p.c.im, .int .i64 p.d.re, .int .i64 p.d.im] 27) := by show Blk v12 (w.heap.size) _ _; exact Blk.old B_p.out hb
  replace B_r : Hid (Blk v12 (w.heap.size + 1) #[.int .i64 0, .slice none 0 0] 42) := by show Blk v12 (w.heap.size + 1) _ _; exact Blk.old B_r.out hb
  replace HO : Hid (Below w.heap.size w v12) := box_step HO.out hb (Nat.le_refl _)
  clear hb
  have p_0 := B_p.out.cell (j := 0) rfl
  have p_1 := B_p.out.cell (j := 1) rfl
  have p_2 := B_p.out.cell (j := 2) rfl
  have p_3 := B_p.out.cell (j := 3) rfl
  have p_4 := B_p.out.cell (j := 4) rfl
  have p_5 := B_p.out.cell (j := 5) rfl
  have p_6 := B_p.out.cell (j := 6) rfl
  have p_7 := B_p.out.cell (j := 7) rfl
  have p_f := B_p.out.frozen
  have p_z := B_p.out.lt
  go_wp2_with fail
  refine (ss p.a p.c _).mono ?_
  rintro e v13 ⟨rfl, hb⟩
  clear p_0 p_1 p_2 p_3 p_4 p_5 p_6 p_7 p_f p_z
  replace B_p : Hid (Blk v13 (w.heap.size) #[.int .i64 p.a.re, .int .i64 p.a.im, .int .i64 p.b.re, .int .i64 p.b.im, .int .i64 p.c.re, .int .i64 p.c.im, .int .i64 p.d.re, .int .i64 p.d.im] 27) := by show Blk v13 (w.heap.size) _ _; exact Blk.old B_p.out hb
  replace B_r : Hid (Blk v13 (w.heap.size + 1) #[.int .i64 0, .slice none 0 0] 42) := by show Blk v13 (w.heap.size + 1) _ _; exact Blk.old B_r.out hb
  replace HO : Hid (Below w.heap.size w v13) := box_step HO.out hb (Nat.le_refl _)
  clear hb
  have p_0 := B_p.out.cell (j := 0) rfl
  have p_1 := B_p.out.cell (j := 1) rfl
  have p_2 := B_p.out.cell (j := 2) rfl
  have p_3 := B_p.out.cell (j := 3) rfl
  have p_4 := B_p.out.cell (j := 4) rfl
  have p_5 := B_p.out.cell (j := 5) rfl
  have p_6 := B_p.out.cell (j := 6) rfl
  have p_7 := B_p.out.cell (j := 7) rfl
  have p_f := B_p.out.frozen
  have p_z := B_p.out.lt
  go_wp2_with fail
  refine (ss p.b p.d _).mono ?_
  rintro e v14 ⟨rfl, hb⟩
  clear p_0 p_1 p_2 p_3 p_4 p_5 p_6 p_7 p_f p_z
  replace B_p : Hid (Blk v14 (w.heap.size) #[.int .i64 p.a.re, .int .i64 p.a.im, .int .i64 p.b.re, .int .i64 p.b.im, .int .i64 p.c.re, .int .i64 p.c.im, .int .i64 p.d.re, .int .i64 p.d.im] 27) := by show Blk v14 (w.heap.size) _ _; exact Blk.old B_p.out hb
  replace B_r : Hid (Blk v14 (w.heap.size + 1) #[.int .i64 0, .slice none 0 0] 42) := by show Blk v14 (w.heap.size + 1) _ _; exact Blk.old B_r.out hb
  replace HO : Hid (Below w.heap.size w v14) := box_step HO.out hb (Nat.le_refl _)
  clear hb
  have p_0 := B_p.out.cell (j := 0) rfl
  have p_1 := B_p.out.cell (j := 1) rfl
  have p_2 := B_p.out.cell (j := 2) rfl
  have p_3 := B_p.out.cell (j := 3) rfl
  have p_4 := B_p.out.cell (j := 4) rfl
  have p_5 := B_p.out.cell (j := 5) rfl
  have p_6 := B_p.out.cell (j := 6) rfl
  have p_7 := B_p.out.cell (j := 7) rfl
  have p_f := B_p.out.frozen
  have p_z := B_p.out.lt
  go_wp2_with fail
  refine (sr p.a p.d _).mono ?_
  rintro e v15 ⟨rfl, hb⟩
  clear p_0 p_1 p_2 p_3 p_4 p_5 p_6 p_7 p_f p_z
  replace B_p : Hid (Blk v15 (w.heap.size) #[.int .i64 p.a.re, .int .i64 p.a.im, .int .i64 p.b.re, .int .i64 p.b.im, .int .i64 p.c.re, .int .i64 p.c.im, .int .i64 p.d.re, .int .i64 p.d.im] 27) := by show Blk v15 (w.heap.size) _ _; exact Blk.old B_p.out hb
  replace B_r : Hid (Blk v15 (w.heap.size + 1) #[.int .i64 0, .slice none 0 0] 42) := by show Blk v15 (w.heap.size + 1) _ _; exact Blk.old B_r.out hb
  replace HO : Hid (Below w.heap.size w v15) := box_step HO.out hb (Nat.le_refl _)
  clear hb
  have p_0 := B_p.out.cell (j := 0) rfl
  have p_1 := B_p.out.cell (j := 1) rfl
  have p_2 := B_p.out.cell (j := 2) rfl
  have p_3 := B_p.out.cell (j := 3) rfl
  have p_4 := B_p.out.cell (j := 4) rfl
  have p_5 := B_p.out.cell (j := 5) rfl
  have p_6 := B_p.out.cell (j := 6) rfl
  have p_7 := B_p.out.cell (j := 7) rfl
  have p_f := B_p.out.frozen
  have p_z := B_p.out.lt
  go_wp2_with fail
  refine (sr p.b p.c _).mono ?_
  rintro e v16 ⟨rfl, hb⟩
  clear p_0 p_1 p_2 p_3 p_4 p_5 p_6 p_7 p_f p_z
  replace B_p : Hid (Blk v16 (w.heap.size) #[.int .i64 p.a.re, .int .i64 p.a.im, .int .i64 p.b.re, .int .i64 p.b.im, .int .i64 p.c.re, .int .i64 p.c.im, .int .i64 p.d.re, .int .i64 p.d.im] 27) := by show Blk v16 (w.heap.size) _ _; exact Blk.old B_p.out hb
  replace B_r : Hid (Blk v16 (w.heap.size + 1) #[.int .i64 0, .slice none 0 0] 42) := by show Blk v16 (w.heap.size + 1) _ _; exact Blk.old B_r.out hb
  replace HO : Hid (Below w.heap.size w v16) := box_step HO.out hb (Nat.le_refl _)
  clear hb
  have p_0 := B_p.out.cell (j := 0) rfl
  have p_1 := B_p.out.cell (j := 1) rfl
  have p_2 := B_p.out.cell (j := 2) rfl
  have p_3 := B_p.out.cell (j := 3) rfl
  have p_4 := B_p.out.cell (j := 4) rfl
  have p_5 := B_p.out.cell (j := 5) rfl
  have p_6 := B_p.out.cell (j := 6) rfl
  have p_7 := B_p.out.cell (j := 7) rfl
  have p_f := B_p.out.frozen
  have p_z := B_p.out.lt
  go_wp2_with fail
  refine (ss p.a p.d _).mono ?_
  rintro e v17 ⟨rfl, hb⟩
  clear p_0 p_1 p_2 p_3 p_4 p_5 p_6 p_7 p_f p_z
  replace B_p : Hid (Blk v17 (w.heap.size) #[.int .i64 p.a.re, .int .i64 p.a.im, .int .i64 p.b.re, .int .i64 p.b.im, .int .i64 p.c.re, .int .i64 p.c.im, .int .i64 p.d.re, .int .i64 p.d.im] 27) := by show Blk v17 (w.heap.size) _ _; exact Blk.old B_p.out hb
  replace B_r : Hid (Blk v17 (w.heap.size + 1) #[.int .i64 0, .slice none 0 0] 42) := by show Blk v17 (w.heap.size + 1) _ _; exact Blk.old B_r.out hb
  replace HO : Hid (Below w.heap.size w v17) := box_step HO.out hb (Nat.le_refl _)
  clear hb
  have p_0 := B_p.out.cell (j := 0) rfl
  have p_1 := B_p.out.cell (j := 1) rfl
  have p_2 := B_p.out.cell (j := 2) rfl
  have p_3 := B_p.out.cell (j := 3) rfl
  have p_4 := B_p.out.cell (j := 4) rfl
  have p_5 := B_p.out.cell (j := 5) rfl
  have p_6 := B_p.out.cell (j := 6) rfl
  have p_7 := B_p.out.cell (j := 7) rfl
  have p_f := B_p.out.frozen
  have p_z := B_p.out.lt
  go_wp2_with fail
  refine (ss p.b p.c _).mono ?_
  rintro e v18 ⟨rfl, hb⟩
  clear p_0 p_1 p_2 p_3 p_4 p_5 p_6 p_7 p_f p_z
  replace B_p : Hid (Blk v18 (w.heap.size) #[.int .i64 p.a.re, .int .i64 p.a.im, .int .i64 p.b.re, .int .i64 p.b.im, .int .i64 p.c.re, .int .i64 p.c.im, .int .i64 p.d.re, .int .i64 p.d.im] 27) := by show Blk v18 (w.heap.size) _ _; exact Blk.old B_p.out hb
  replace B_r : Hid (Blk v18 (w.heap.size + 1) #[.int .i64 0, .slice none 0 0] 42) := by show Blk v18 (w.heap.size + 1) _ _; exact Blk.old B_r.out hb
  replace HO : Hid (Below w.heap.size w v18) := box_step HO.out hb (Nat.le_refl _)
  clear hb
  have r_f := B_r.out.frozen
  have r_z := B_r.out.lt
  have r_0 := B_r.out.cell (j := 0) rfl
  have r_1 := B_r.out.cell (j := 1) rfl
  have z0 : w.heap.size < v18.heap.size := by omega
  have z1 : w.heap.size < v18.heap.size + 1 := by omega
  have z2 : w.heap.size < v18.heap.size + 1 + 1 := by omega
  have z3 : w.heap.size < v18.heap.size + 1 + 1 + 1 := by omega
  have z4 : w.heap.size < v18.heap.size + 1 + 1 + 1 + 1 := by omega
  have y0 : w.heap.size + 1 < v18.heap.size := by omega
  have y1 : w.heap.size + 1 < v18.heap.size + 1 := by omega
  have y2 : w.heap.size + 1 < v18.heap.size + 1 + 1 := by omega
  have y3 : w.heap.size + 1 < v18.heap.size + 1 + 1 + 1 := by omega
  have y4 : w.heap.size + 1 < v18.heap.size + 1 + 1 + 1 + 1 := by omega
  have n0 : ¬ (w.heap.size = v18.heap.size) := by omega
  have n1 : ¬ (w.heap.size = v18.heap.size + 1) := by omega
  have n2 : ¬ (w.heap.size = v18.heap.size + 1 + 1) := by omega
  have n3 : ¬ (w.heap.size = v18.heap.size + 1 + 1 + 1) := by omega
  have n4 : ¬ (w.heap.size = v18.heap.size + 1 + 1 + 1 + 1) := by omega
  have n9 : ¬ (w.heap.size + 1 = v18.heap.size) := by omega
  go_wp2
  clear r_f r_z r_0 r_1 z0 z1 z2 z3 z4 y0 y1 y2 y3 y4 n0 n1 n2 n3 n4 n9
  have hV : Hid (w.heap.size ≤ v18.heap.size) := HO.out.size
  obtain ⟨v19, hv⟩ : ∃ Xw, Xw = (((((((v18.setCell ⟨w.heap.size + 1, 0, none⟩ (.int .i64 0)).setCell ⟨w.heap.size + 1, 1, none⟩ (.slice (some ⟨v18.heap.size + 1 + 1 + 1 + 1, 0, none⟩) 4 4)).alloc (.cells #[.int .i64 (wrap64 ((wrap64 ((wrap64 ((gsq p.a) + (gsq p.b))) + (gsq p.c))) + (gsq p.d))), .int .i64 (wrap64 ((wrap64 ((wrap64 ((gsq p.a) - (gsq p.b))) + (gsq p.c))) - (gsq p.d))), .int .i64 (wrap64 ((wrap64 (2 * gr p.a p.b)) + (wrap64 (2 * gr p.c p.d)))), .int .i64 (wrap64 ((wrap64 (-(wrap64 (2 * gs p.a p.b)))) - (wrap64 (2 * gs p.c p.d))))] 2)).alloc (.cells #[.int .i64 (wrap64 ((wrap64 ((wrap64 ((gsq p.a) + (gsq p.b))) - (gsq p.c))) - (gsq p.d))), .int .i64 (wrap64 ((wrap64 ((wrap64 ((gsq p.a) - (gsq p.b))) - (gsq p.c))) + (gsq p.d))), .int .i64 (wrap64 ((wrap64 (2 * gr p.a p.b)) - (wrap64 (2 * gr p.c p.d)))), .int .i64 (wrap64 ((wrap64 (-(wrap64 (2 * gs p.a p.b)))) + (wrap64 (2 * gs p.c p.d))))] 2)).alloc (.cells #[.int .i64 (wrap64 ((wrap64 (2 * gr p.a p.c)) + (wrap64 (2 * gr p.b p.d)))), .int .i64 (wrap64 ((wrap64 (2 * gr p.a p.c)) - (wrap64 (2 * gr p.b p.d)))), .int .i64 (wrap64 ((wrap64 (2 * gr p.a p.d)) + (wrap64 (2 * gr p.b p.c)))), .int .i64 (wrap64 ((wrap64 (2 * gs p.b p.c)) - (wrap64 (2 * gs p.a p.d))))] 2)).alloc (.cells #[.int .i64 (wrap64 ((wrap64 (2 * gs p.a p.c)) + (wrap64 (2 * gs p.b p.d)))), .int .i64 (wrap64 ((wrap64 (2 * gs p.a p.c)) - (wrap64 (2 * gs p.b p.d)))), .int .i64 (wrap64 ((wrap64 (2 * gs p.a p.d)) + (wrap64 (2 * gs p.b p.c)))), .int .i64 (wrap64 ((wrap64 (2 * gr p.a p.d)) - (wrap64 (2 * gr p.b p.c))))] 2)).alloc (.cells #[.slice (some ⟨v18.heap.size, 0, none⟩) 4 4, .slice (some ⟨v18.heap.size + 1, 0, none⟩) 4 4, .slice (some ⟨v18.heap.size + 1 + 1, 0, none⟩) 4 4, .slice (some ⟨v18.heap.size + 1 + 1 + 1, 0, none⟩) 4 4] 102)) := ⟨_, rfl⟩
  rw [← hv]
  have ne_p_q0 : Hid (w.heap.size ≠ v18.heap.size) := Nat.ne_of_lt (Nat.lt_of_lt_of_le B_p.out.lt (by omega))
  have ne_r_q0 : Hid (w.heap.size + 1 ≠ v18.heap.size) := Nat.ne_of_lt (Nat.lt_of_lt_of_le B_r.out.lt (by omega))
  have ne_p_q1 : Hid (w.heap.size ≠ v18.heap.size + 1) := Nat.ne_of_lt (Nat.lt_of_lt_of_le B_p.out.lt (by omega))
  have ne_r_q1 : Hid (w.heap.size + 1 ≠ v18.heap.size + 1) := Nat.ne_of_lt (Nat.lt_of_lt_of_le B_r.out.lt (by omega))
  have ne_q0_q1 : Hid (v18.heap.size ≠ v18.heap.size + 1) := by show (v18.heap.size : Nat) ≠ v18.heap.size + 1; omega
  have ne_p_q2 : Hid (w.heap.size ≠ v18.heap.size + 1 + 1) := Nat.ne_of_lt (Nat.lt_of_lt_of_le B_p.out.lt (by omega))
  have ne_r_q2 : Hid (w.heap.size + 1 ≠ v18.heap.size + 1 + 1) := Nat.ne_of_lt (Nat.lt_of_lt_of_le B_r.out.lt (by omega))
  have ne_q0_q2 : Hid (v18.heap.size ≠ v18.heap.size + 1 + 1) := by show (v18.heap.size : Nat) ≠ v18.heap.size + 1 + 1; omega
  have ne_q1_q2 : Hid (v18.heap.size + 1 ≠ v18.heap.size + 1 + 1) := by show (v18.heap.size + 1 : Nat) ≠ v18.heap.size + 1 + 1; omega
  have ne_p_q3 : Hid (w.heap.size ≠ v18.heap.size + 1 + 1 + 1) := Nat.ne_of_lt (Nat.lt_of_lt_of_le B_p.out.lt (by omega))
  have ne_r_q3 : Hid (w.heap.size + 1 ≠ v18.heap.size + 1 + 1 + 1) := Nat.ne_of_lt (Nat.lt_of_lt_of_le B_r.out.lt (by omega))
  have ne_q0_q3 : Hid (v18.heap.size ≠ v18.heap.size + 1 + 1 + 1) := by show (v18.heap.size : Nat) ≠ v18.heap.size + 1 + 1 + 1; omega
  have ne_q1_q3 : Hid (v18.heap.size + 1 ≠ v18.heap.size + 1 + 1 + 1) := by show (v18.heap.size + 1 : Nat) ≠ v18.heap.size + 1 + 1 + 1; omega
  have ne_q2_q3 : Hid (v18.heap.size + 1 + 1 ≠ v18.heap.size + 1 + 1 + 1) := by show (v18.heap.size + 1 + 1 : Nat) ≠ v18.heap.size + 1 + 1 + 1; omega
  have ne_p_q4 : Hid (w.heap.size ≠ v18.heap.size + 1 + 1 + 1 + 1) := Nat.ne_of_lt (Nat.lt_of_lt_of_le B_p.out.lt (by omega))
  have ne_r_q4 : Hid (w.heap.size + 1 ≠ v18.heap.size + 1 + 1 + 1 + 1) := Nat.ne_of_lt (Nat.lt_of_lt_of_le B_r.out.lt (by omega))
  have ne_q0_q4 : Hid (v18.heap.size ≠ v18.heap.size + 1 + 1 + 1 + 1) := by show (v18.heap.size : Nat) ≠ v18.heap.size + 1 + 1 + 1 + 1; omega
  have ne_q1_q4 : Hid (v18.heap.size + 1 ≠ v18.heap.size + 1 + 1 + 1 + 1) := by show (v18.heap.size + 1 : Nat) ≠ v18.heap.size + 1 + 1 + 1 + 1; omega
  have ne_q2_q4 : Hid (v18.heap.size + 1 + 1 ≠ v18.heap.size + 1 + 1 + 1 + 1) := by show (v18.heap.size + 1 + 1 : Nat) ≠ v18.heap.size + 1 + 1 + 1 + 1; omega
  have ne_q3_q4 : Hid (v18.heap.size + 1 + 1 + 1 ≠ v18.heap.size + 1 + 1 + 1 + 1) := by show (v18.heap.size + 1 + 1 + 1 : Nat) ≠ v18.heap.size + 1 + 1 + 1 + 1; omega
  have B_q0 : Hid (Blk v19 (v18.heap.size) #[.int .i64 (wrap64 ((wrap64 ((wrap64 ((gsq p.a) + (gsq p.b))) + (gsq p.c))) + (gsq p.d))), .int .i64 (wrap64 ((wrap64 ((wrap64 ((gsq p.a) - (gsq p.b))) + (gsq p.c))) - (gsq p.d))), .int .i64 (wrap64 ((wrap64 (2 * gr p.a p.b)) + (wrap64 (2 * gr p.c p.d)))), .int .i64 (wrap64 ((wrap64 (-(wrap64 (2 * gs p.a p.b)))) - (wrap64 (2 * gs p.c p.d))))] 2) := by show Blk v19 (v18.heap.size) _ _; rw [hv]; exact (Blk.alloc (Blk.alloc (Blk.alloc (Blk.alloc (Blk.new (by simp)) _) _) _) _)
  have low_q0 : Hid (w.heap.size ≤ v18.heap.size) := by show w.heap.size ≤ v18.heap.size; have := HO.out.size; omega
  have B_q1 : Hid (Blk v19 (v18.heap.size + 1) #[.int .i64 (wrap64 ((wrap64 ((wrap64 ((gsq p.a) + (gsq p.b))) - (gsq p.c))) - (gsq p.d))), .int .i64 (wrap64 ((wrap64 ((wrap64 ((gsq p.a) - (gsq p.b))) - (gsq p.c))) + (gsq p.d))), .int .i64 (wrap64 ((wrap64 (2 * gr p.a p.b)) - (wrap64 (2 * gr p.c p.d)))), .int .i64 (wrap64 ((wrap64 (-(wrap64 (2 * gs p.a p.b)))) + (wrap64 (2 * gs p.c p.d))))] 2) := by show Blk v19 (v18.heap.size + 1) _ _; rw [hv]; exact (Blk.alloc (Blk.alloc (Blk.alloc (Blk.new (by simp)) _) _) _)
  have low_q1 : Hid (w.heap.size ≤ v18.heap.size + 1) := by show w.heap.size ≤ v18.heap.size + 1; have := HO.out.size; omega
  have B_q2 : Hid (Blk v19 (v18.heap.size + 1 + 1) #[.int .i64 (wrap64 ((wrap64 (2 * gr p.a p.c)) + (wrap64 (2 * gr p.b p.d)))), .int .i64 (wrap64 ((wrap64 (2 * gr p.a p.c)) - (wrap64 (2 * gr p.b p.d)))), .int .i64 (wrap64 ((wrap64 (2 * gr p.a p.d)) + (wrap64 (2 * gr p.b p.c)))), .int .i64 (wrap64 ((wrap64 (2 * gs p.b p.c)) - (wrap64 (2 * gs p.a p.d))))] 2) := by show Blk v19 (v18.heap.size + 1 + 1) _ _; rw [hv]; exact (Blk.alloc (Blk.alloc (Blk.new (by simp)) _) _)
  have low_q2 : Hid (w.heap.size ≤ v18.heap.size + 1 + 1) := by show w.heap.size ≤ v18.heap.size + 1 + 1; have := HO.out.size; omega
  have B_q3 : Hid (Blk v19 (v18.heap.size + 1 + 1 + 1) #[.int .i64 (wrap64 ((wrap64 (2 * gs p.a p.c)) + (wrap64 (2 * gs p.b p.d)))), .int .i64 (wrap64 ((wrap64 (2 * gs p.a p.c)) - (wrap64 (2 * gs p.b p.d)))), .int .i64 (wrap64 ((wrap64 (2 * gs p.a p.d)) + (wrap64 (2 * gs p.b p.c)))), .int .i64 (wrap64 ((wrap64 (2 * gr p.a p.d)) - (wrap64 (2 * gr p.b p.c))))] 2) := by show Blk v19 (v18.heap.size + 1 + 1 + 1) _ _; rw [hv]; exact (Blk.alloc (Blk.new (by simp)) _)
  have low_q3 : Hid (w.heap.size ≤ v18.heap.size + 1 + 1 + 1) := by show w.heap.size ≤ v18.heap.size + 1 + 1 + 1; have := HO.out.size; omega
  have B_q4 : Hid (Blk v19 (v18.heap.size + 1 + 1 + 1 + 1) #[.slice (some ⟨v18.heap.size, 0, none⟩) 4 4, .slice (some ⟨v18.heap.size + 1, 0, none⟩) 4 4, .slice (some ⟨v18.heap.size + 1 + 1, 0, none⟩) 4 4, .slice (some ⟨v18.heap.size + 1 + 1 + 1, 0, none⟩) 4 4] 102) := by show Blk v19 (v18.heap.size + 1 + 1 + 1 + 1) _ _; rw [hv]; exact (Blk.new (by simp))
  have low_q4 : Hid (w.heap.size ≤ v18.heap.size + 1 + 1 + 1 + 1) := by show w.heap.size ≤ v18.heap.size + 1 + 1 + 1 + 1; have := HO.out.size; omega
  replace B_p : Hid (Blk v19 (w.heap.size) #[.int .i64 p.a.re, .int .i64 p.a.im, .int .i64 p.b.re, .int .i64 p.b.im, .int .i64 p.c.re, .int .i64 p.c.im, .int .i64 p.d.re, .int .i64 p.d.im] 27) := by show Blk v19 (w.heap.size) _ _; rw [hv]; exact (Blk.alloc (Blk.alloc (Blk.alloc (Blk.alloc (Blk.alloc (Blk.setOther (Blk.setOther B_p.out ne_p_r.out _) ne_p_r.out _) _) _) _) _) _)
  replace B_r : Hid (Blk v19 (w.heap.size + 1) #[.int .i64 0, .slice (some ⟨v18.heap.size + 1 + 1 + 1 + 1, 0, none⟩) 4 4] 42) := by show Blk v19 (w.heap.size + 1) _ _; rw [hv]; exact (Blk.alloc (Blk.alloc (Blk.alloc (Blk.alloc (Blk.alloc (Blk.set (Blk.set B_r.out _ _ rfl) _ _ rfl) _) _) _) _) _)
  replace HO : Hid (Below w.heap.size w v19) := by show Below w.heap.size w v19; rw [hv]; exact (below_new (below_new (below_new (below_new (below_new (Below.setCell (Below.setCell HO.out low_r.out _) low_r.out _) _) _) _) _) _)
  clear hv
  have r_0 := B_r.out.cell (j := 0) rfl
  have r_1 := B_r.out.cell (j := 1) rfl
  have r_f := B_r.out.frozen
  have r_z := B_r.out.lt
  refine bodyPost_ret (v := .agg #[.int .i64 0, .slice (some ⟨v18.heap.size + 1 + 1 + 1 + 1, 0, none⟩) 4 4]) (by simp [results, Try.results54, go_sem, r_0, r_1, r_f, r_z] <;> (repeat' (first | rfl | apply And.intro))) rfl ⟨lie4 v18.heap.size, rfl, mat4 (F := tw p) B_q0.out B_q1.out B_q2.out B_q3.out B_q4.out hV.out B_q4.out.lt, HO.out⟩
end Go.Proofs.Ytloebnlmeplgbaa
