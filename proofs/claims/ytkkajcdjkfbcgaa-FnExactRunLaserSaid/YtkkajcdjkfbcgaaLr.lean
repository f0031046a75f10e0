/- Lasers: results compared and marked; the program's run. -/
import Derived.Test.YtkkajcdjkfbcgaaLl
import Derived.Handy
import Derived.Deep.RegionHeld3
namespace Go.Proofs.Ytkkajcdjkfbcgaa
open Go.RowKit
set_option linter.unusedVariables false
set_option linter.unusedSimpArgs false
abbrev Lv (c : Int) (t : L4) (v : Value) : Value := .agg #[.int .i64 c, .int .i64 t.u, .int .i64 t.i, .int .i64 t.o, .int .i64 t.s, v]
set_option maxRecDepth 20000 in
set_option maxHeartbeats 1600000 in
theorem eqLaser_same {w : World} {v v' : Value} {n : Nat} {f : Nat → Int} {c : Int} {t : L4} (h : RdRow w v n f) (h' : RdRow w v' n f) (hn : n ≤ 1000000000000) :
    Calls Try.prog 47 #[Lv c t v, Lv c t v'] w fun e w' => e = .returned (.bool true) ∧ Below w.heap.size w w' := by
  have HR : Hid (∀ W, Below w.heap.size w W → Calls Try.prog 35 #[v, v'] W fun e w' => e = .returned (.bool true) ∧ Below W.heap.size W w') := fun W b => (eqI_any (h.later b) (h'.later b) hn).mono fun _ _ h => drew_below h
  clear h h'
  obtain ⟨w2, hw2⟩ : ∃ W, W = (w.alloc (.cells #[.int .i64 c, .int .i64 t.u, .int .i64 t.i, .int .i64 t.o, .int .i64 t.s, v] 79)).alloc (.cells #[.int .i64 c, .int .i64 t.u, .int .i64 t.i, .int .i64 t.o, .int .i64 t.s, v'] 79) := ⟨_, rfl⟩
  have B : Hid (Below w.heap.size w w2) := by show Below _ _ _; rw [hw2]; exact ((Below.refl _ _).alloc (Nat.le_refl _) _).alloc (by simp) _
  have c0 : Hid (Blk w2 w.heap.size #[.int .i64 c, .int .i64 t.u, .int .i64 t.i, .int .i64 t.o, .int .i64 t.s, v] 79) := by show Blk _ _ _ _; rw [hw2]; exact (Blk.new rfl).alloc _
  have c1 : Hid (Blk w2 (w.heap.size + 1) #[.int .i64 c, .int .i64 t.u, .int .i64 t.i, .int .i64 t.o, .int .i64 t.s, v'] 79) := by show Blk _ _ _ _; rw [hw2]; exact Blk.new (by simp)
  go_enter Try.func47, Try.ntmps47
  go_wp2_with fail
  rw [← hw2]
  refine (HR.out _ B.out).mono ?_
  rintro e w3 ⟨rfl, b⟩
  have HB : Hid (Below w.heap.size w w3) := B.out.trans (b.mono B.out.size)
  clear hw2 B c0 c1 b HR
  go_wp2
  go_ret
  exact ⟨rfl, HB.out⟩
set_option maxRecDepth 20000 in
theorem markLaser_own {lo hi : Nat} {w : World} {v : Value} {n : Nat} {f : Nat → Int} {c : Int} {t : L4} (h : OwS 2 lo hi w v n (fun i => .int .i64 (f i))) (hl : lo ≤ w.heap.size) (k0 : Int) (h0 : 0 ≤ k0) (h1 : k0 + n ≤ 1000000000000) :
    Calls Try.prog 48 #[Lv c t v, .int .i64 k0] w fun e w' => e = .returned (.int .i64 (k0 + n)) ∧ OwS 2 lo hi w' v n (fun i => .int .i64 (k0 + i)) ∧ Within lo hi w w' ∧ w.heap.size ≤ w'.heap.size := by
  obtain ⟨w2, hw2⟩ : ∃ W, W = w.alloc (.cells #[.int .i64 c, .int .i64 t.u, .int .i64 t.i, .int .i64 t.o, .int .i64 t.s, v] 79) := ⟨_, rfl⟩
  have hb : Below w.heap.size w w2 := by rw [hw2]; exact (Below.refl _ _).alloc (Nat.le_refl _) _
  have W0 : Within lo hi w w2 := (Within.refl lo hi w).later hb hl
  have HM : Hid (Calls Try.prog 87 #[v, .int .i64 k0] w2 fun e w' => e = .returned (.int .i64 (k0 + n)) ∧ (OwS 2 lo hi w' v n (fun i => .int .i64 (k0 + i)) ∧ Within lo hi w w' ∧ w.heap.size ≤ w'.heap.size)) := by
    refine (markI_own (h.later hb) k0 h0 h1).mono ?_
    rintro e w' ⟨rfl, a, b, z⟩
    exact ⟨rfl, a, W0.trans b, by have := hb.size; omega⟩
  clear h hb W0
  go_enter Try.func48, Try.ntmps48
  go_wp2_with fail
  rw [← hw2]
  refine HM.out.mono ?_
  rintro e w3 ⟨rfl, h9⟩
  replace h9 : Hid _ := h9
  go_wp2
  go_ret
  exact ⟨rfl, h9.out⟩
theorem heldLaser_own {lo hi : Nat} {w : World} {v : Value} {n : Nat} {c : Int} {t : L4} {k0 : Int} (h : OwS 2 lo hi w v n (fun i => .int .i64 (k0 + i))) (h0 : 0 ≤ k0) (h1 : k0 + n ≤ 1000000000000) :
    Calls Try.prog 49 #[Lv c t v, .int .i64 k0] w fun e w' => e = .returned (.int .i64 (k0 + n)) ∧ Below w.heap.size w w' := by
  obtain ⟨w2, hw2⟩ : ∃ W, W = w.alloc (.cells #[.int .i64 c, .int .i64 t.u, .int .i64 t.i, .int .i64 t.o, .int .i64 t.s, v] 79) := ⟨_, rfl⟩
  have hb : Below w.heap.size w w2 := by rw [hw2]; exact (Below.refl _ _).alloc (Nat.le_refl _) _
  obtain ⟨M, hM⟩ : ∃ M : Int, M = k0 + n := ⟨_, rfl⟩
  have hM0 : ¬ M < 0 := by omega
  have HM : Hid (Calls Try.prog 88 #[v, .int .i64 k0] w2 fun e w' => e = .returned (.int .i64 M) ∧ w2 = w') := by
    rw [hM]
    exact heldI_own (h.later hb) h0 h1
  rw [← hM]
  have HB : Hid (Below w.heap.size w w2) := hb
  clear h hb hM h0 h1
  go_enter Try.func49, Try.ntmps49
  go_wp2_with fail
  rw [← hw2]
  clear hw2
  refine HM.out.mono ?_
  rintro e w3 ⟨rfl, rfl⟩
  go_wp2
  go_ret
  exact ⟨rfl, HB.out⟩
/-- What is answered: a code, a list of numbers in memory of its own, a number. -/
def FL (fn : FuncId) (args : Array Value) (w : World) (c : Int) (t : L4) (n : Nat) (F : Nat → Int) : Prop :=
  Calls Try.prog fn args w fun e w' => ∃ v, e = .returned (Lv c t v) ∧ OwS 2 w.heap.size w'.heap.size w' v n (fun i => .int .i64 (F i)) ∧ Below w.heap.size w w'
abbrev l0 : L4 := ⟨0, 0, 0, 0⟩
set_option maxRecDepth 20000 in
set_option maxHeartbeats 3200000 in
theorem laser_i3 (a : La) (n : Int) (h : lcode a ≠ 0) (w : World) : FL 46 #[.agg #[.int .i64 a.g, .int .i64 a.l, .int .i64 a.s, .int .i64 a.p], .int .i64 n] w (lcode a) l0 0 (fun _ => 0) := by
  unfold FL
  obtain ⟨C, hC⟩ : ∃ C, C = lcode a := ⟨_, rfl⟩
  have LF : Hid (∀ W, Calls Try.prog 44 #[.agg #[.int .i64 a.g, .int .i64 a.l, .int .i64 a.s, .int .i64 a.p]] W fun e w' => e = .returned (.int .i64 C) ∧ Below W.heap.size W w') := fun W => by rw [hC]; exact lfault_i a W
  rw [← hC] at h ⊢
  clear hC
  obtain ⟨w0, hw0⟩ : ∃ W, W = (w.alloc (.cells #[.int .i64 a.g, .int .i64 a.l, .int .i64 a.s, .int .i64 a.p] 75)).alloc (.cells #[.int .i64 0, .int .i64 0, .int .i64 0, .int .i64 0, .int .i64 0, .slice none 0 0] 79) := ⟨_, rfl⟩
  have HP : Hid (Blk w0 w.heap.size #[.int .i64 a.g, .int .i64 a.l, .int .i64 a.s, .int .i64 a.p] 75) := by show Blk _ _ _ _; rw [hw0]; exact (Blk.new rfl).alloc _
  have HR : Hid (Blk w0 (w.heap.size + 1) #[.int .i64 0, .int .i64 0, .int .i64 0, .int .i64 0, .int .i64 0, .slice none 0 0] 79) := by show Blk _ _ _ _; rw [hw0]; exact Blk.new (by simp)
  have HO : Hid (Below w.heap.size w w0) := by show Below _ _ _; rw [hw0]; exact ((Below.refl _ _).alloc (Nat.le_refl _) _).alloc (by simp) _
  have Z0 : Hid (w.heap.size + 2 ≤ w0.heap.size) := by show _ ≤ _; rw [hw0]; simp
  go_enter Try.func46, Try.ntmps46
  go_upto_region 1 with fail
  rw [← hw0]
  clear hw0
  have c0 := HP.out.cell (j := 0) (v := .int .i64 a.g) rfl
  have c1 := HP.out.cell (j := 1) (v := .int .i64 a.l) rfl
  have c2 := HP.out.cell (j := 2) (v := .int .i64 a.s) rfl
  have c3 := HP.out.cell (j := 3) (v := .int .i64 a.p) rfl
  go_wp2_with fail
  refine (LF.out _).mono ?_
  rintro e w1 ⟨rfl, b⟩
  replace HP : Hid (Blk w1 w.heap.size #[.int .i64 a.g, .int .i64 a.l, .int .i64 a.s, .int .i64 a.p] 75) := HP.out.later b
  replace HR : Hid (Blk w1 (w.heap.size + 1) #[.int .i64 0, .int .i64 0, .int .i64 0, .int .i64 0, .int .i64 0, .slice none 0 0] 79) := HR.out.later b
  replace HO : Hid (Below w.heap.size w w1) := HO.out.trans (b.mono HO.out.size)
  replace Z0 : Hid (w.heap.size + 2 ≤ w1.heap.size) := Nat.le_trans Z0.out b.size
  clear b c0 c1 c2 c3
  have d0 := HR.out.cell (j := 0) (v := .int .i64 0) rfl
  have f0 := HR.out.frozen 0
  have d1 := HR.out.cell (j := 1) (v := .int .i64 0) rfl
  have f1 := HR.out.frozen 1
  have d2 := HR.out.cell (j := 2) (v := .int .i64 0) rfl
  have f2 := HR.out.frozen 2
  have d3 := HR.out.cell (j := 3) (v := .int .i64 0) rfl
  have f3 := HR.out.frozen 3
  have d4 := HR.out.cell (j := 4) (v := .int .i64 0) rfl
  have f4 := HR.out.frozen 4
  have d5 := HR.out.cell (j := 5) (v := .slice none 0 0) rfl
  have f5 := HR.out.frozen 5
  clear HR HP
  go_wp2
  refine bodyPost_ret (v := Lv C l0 (.slice none 0 0)) (by simp [results, Try.results46, go_sem, d0, d1, d2, d3, d4, d5]) rfl ⟨_, rfl, Or.inl ⟨rfl, rfl⟩, ?_⟩
  exact (((((HO.out.setCell (by simp) _).setCell (by simp) _).setCell (by simp) _).setCell (by simp) _).setCell (by simp) _).setCell (by simp) _
set_option maxRecDepth 20000 in
set_option maxHeartbeats 3200000 in
theorem laser_i1 (a : La) (n : Int) (h : lcode a = 0) (hn : stepsB n = false) (w : World) : FL 46 #[.agg #[.int .i64 a.g, .int .i64 a.l, .int .i64 a.s, .int .i64 a.p], .int .i64 n] w 1 l0 0 (fun _ => 0) := by
  unfold FL
  have LF : Hid (∀ W, Calls Try.prog 44 #[.agg #[.int .i64 a.g, .int .i64 a.l, .int .i64 a.s, .int .i64 a.p]] W fun e w' => e = .returned (.int .i64 0) ∧ Below W.heap.size W w') := fun W => by have := lfault_i a W; rwa [h] at this
  clear h
  obtain ⟨w0, hw0⟩ : ∃ W, W = (w.alloc (.cells #[.int .i64 a.g, .int .i64 a.l, .int .i64 a.s, .int .i64 a.p] 75)).alloc (.cells #[.int .i64 0, .int .i64 0, .int .i64 0, .int .i64 0, .int .i64 0, .slice none 0 0] 79) := ⟨_, rfl⟩
  have HP : Hid (Blk w0 w.heap.size #[.int .i64 a.g, .int .i64 a.l, .int .i64 a.s, .int .i64 a.p] 75) := by show Blk _ _ _ _; rw [hw0]; exact (Blk.new rfl).alloc _
  have HR : Hid (Blk w0 (w.heap.size + 1) #[.int .i64 0, .int .i64 0, .int .i64 0, .int .i64 0, .int .i64 0, .slice none 0 0] 79) := by show Blk _ _ _ _; rw [hw0]; exact Blk.new (by simp)
  have HO : Hid (Below w.heap.size w w0) := by show Below _ _ _; rw [hw0]; exact ((Below.refl _ _).alloc (Nat.le_refl _) _).alloc (by simp) _
  have Z0 : Hid (w.heap.size + 2 ≤ w0.heap.size) := by show _ ≤ _; rw [hw0]; simp
  go_enter Try.func46, Try.ntmps46
  go_upto_region 1 with fail
  rw [← hw0]
  clear hw0
  have c0 := HP.out.cell (j := 0) (v := .int .i64 a.g) rfl
  have c1 := HP.out.cell (j := 1) (v := .int .i64 a.l) rfl
  have c2 := HP.out.cell (j := 2) (v := .int .i64 a.s) rfl
  have c3 := HP.out.cell (j := 3) (v := .int .i64 a.p) rfl
  go_wp2_with fail
  refine (LF.out _).mono ?_
  rintro e w1 ⟨rfl, b⟩
  replace HP : Hid (Blk w1 w.heap.size #[.int .i64 a.g, .int .i64 a.l, .int .i64 a.s, .int .i64 a.p] 75) := HP.out.later b
  replace HR : Hid (Blk w1 (w.heap.size + 1) #[.int .i64 0, .int .i64 0, .int .i64 0, .int .i64 0, .int .i64 0, .slice none 0 0] 79) := HR.out.later b
  replace HO : Hid (Below w.heap.size w w1) := HO.out.trans (b.mono HO.out.size)
  replace Z0 : Hid (w.heap.size + 2 ≤ w1.heap.size) := Nat.le_trans Z0.out b.size
  clear b c0 c1 c2 c3
  have d0 := HR.out.cell (j := 0) (v := .int .i64 0) rfl
  have f0 := HR.out.frozen 0
  have d1 := HR.out.cell (j := 1) (v := .int .i64 0) rfl
  have f1 := HR.out.frozen 1
  have d2 := HR.out.cell (j := 2) (v := .int .i64 0) rfl
  have f2 := HR.out.frozen 2
  have d3 := HR.out.cell (j := 3) (v := .int .i64 0) rfl
  have f3 := HR.out.frozen 3
  have d4 := HR.out.cell (j := 4) (v := .int .i64 0) rfl
  have f4 := HR.out.frozen 4
  have d5 := HR.out.cell (j := 5) (v := .slice none 0 0) rfl
  have f5 := HR.out.frozen 5
  go_wp2_with fail
  refine (steps_i n _).mono ?_
  rintro e w1 ⟨rfl, rfl⟩
  rw [hn]
  clear HR HP
  go_wp2
  refine bodyPost_ret (v := Lv 1 l0 (.slice none 0 0)) (by simp [results, Try.results46, go_sem, d0, d1, d2, d3, d4, d5]) rfl ⟨_, rfl, Or.inl ⟨rfl, rfl⟩, ?_⟩
  exact (((((HO.out.setCell (by simp) _).setCell (by simp) _).setCell (by simp) _).setCell (by simp) _).setCell (by simp) _).setCell (by simp) _
set_option maxRecDepth 20000 in
set_option maxHeartbeats 3200000 in
theorem laser_s3 (a : La) (n : Int) (h : lcode a ≠ 0) (w : World) : FL 45 #[.agg #[.int .i64 a.g, .int .i64 a.l, .int .i64 a.s, .int .i64 a.p], .int .i64 n] w (lcode a) l0 0 (fun _ => 0) := by
  unfold FL
  obtain ⟨C, hC⟩ : ∃ C, C = lcode a := ⟨_, rfl⟩
  have LF : Hid (∀ W, Calls Try.prog 42 #[.agg #[.int .i64 a.g, .int .i64 a.l, .int .i64 a.s, .int .i64 a.p]] W fun e w' => e = .returned (.int .i64 C) ∧ Below W.heap.size W w') := fun W => by rw [hC]; exact lfault_s a W
  rw [← hC] at h ⊢
  clear hC
  obtain ⟨w0, hw0⟩ : ∃ W, W = (w.alloc (.cells #[.int .i64 a.g, .int .i64 a.l, .int .i64 a.s, .int .i64 a.p] 75)).alloc (.cells #[.int .i64 0, .int .i64 0, .int .i64 0, .int .i64 0, .int .i64 0, .slice none 0 0] 79) := ⟨_, rfl⟩
  have HP : Hid (Blk w0 w.heap.size #[.int .i64 a.g, .int .i64 a.l, .int .i64 a.s, .int .i64 a.p] 75) := by show Blk _ _ _ _; rw [hw0]; exact (Blk.new rfl).alloc _
  have HR : Hid (Blk w0 (w.heap.size + 1) #[.int .i64 0, .int .i64 0, .int .i64 0, .int .i64 0, .int .i64 0, .slice none 0 0] 79) := by show Blk _ _ _ _; rw [hw0]; exact Blk.new (by simp)
  have HO : Hid (Below w.heap.size w w0) := by show Below _ _ _; rw [hw0]; exact ((Below.refl _ _).alloc (Nat.le_refl _) _).alloc (by simp) _
  have Z0 : Hid (w.heap.size + 2 ≤ w0.heap.size) := by show _ ≤ _; rw [hw0]; simp
  go_enter Try.func45, Try.ntmps45
  go_upto_region 1 with fail
  rw [← hw0]
  clear hw0
  have c0 := HP.out.cell (j := 0) (v := .int .i64 a.g) rfl
  have c1 := HP.out.cell (j := 1) (v := .int .i64 a.l) rfl
  have c2 := HP.out.cell (j := 2) (v := .int .i64 a.s) rfl
  have c3 := HP.out.cell (j := 3) (v := .int .i64 a.p) rfl
  go_wp2_with fail
  refine (LF.out _).mono ?_
  rintro e w1 ⟨rfl, b⟩
  replace HP : Hid (Blk w1 w.heap.size #[.int .i64 a.g, .int .i64 a.l, .int .i64 a.s, .int .i64 a.p] 75) := HP.out.later b
  replace HR : Hid (Blk w1 (w.heap.size + 1) #[.int .i64 0, .int .i64 0, .int .i64 0, .int .i64 0, .int .i64 0, .slice none 0 0] 79) := HR.out.later b
  replace HO : Hid (Below w.heap.size w w1) := HO.out.trans (b.mono HO.out.size)
  replace Z0 : Hid (w.heap.size + 2 ≤ w1.heap.size) := Nat.le_trans Z0.out b.size
  clear b c0 c1 c2 c3
  have d0 := HR.out.cell (j := 0) (v := .int .i64 0) rfl
  have f0 := HR.out.frozen 0
  have d1 := HR.out.cell (j := 1) (v := .int .i64 0) rfl
  have f1 := HR.out.frozen 1
  have d2 := HR.out.cell (j := 2) (v := .int .i64 0) rfl
  have f2 := HR.out.frozen 2
  have d3 := HR.out.cell (j := 3) (v := .int .i64 0) rfl
  have f3 := HR.out.frozen 3
  have d4 := HR.out.cell (j := 4) (v := .int .i64 0) rfl
  have f4 := HR.out.frozen 4
  have d5 := HR.out.cell (j := 5) (v := .slice none 0 0) rfl
  have f5 := HR.out.frozen 5
  clear HR HP
  go_wp2
  refine bodyPost_ret (v := Lv C l0 (.slice none 0 0)) (by simp [results, Try.results45, go_sem, d0, d1, d2, d3, d4, d5]) rfl ⟨_, rfl, Or.inl ⟨rfl, rfl⟩, ?_⟩
  exact (((((HO.out.setCell (by simp) _).setCell (by simp) _).setCell (by simp) _).setCell (by simp) _).setCell (by simp) _).setCell (by simp) _
set_option maxRecDepth 20000 in
set_option maxHeartbeats 3200000 in
theorem laser_s1 (a : La) (n : Int) (h : lcode a = 0) (hn : stepsB n = false) (w : World) : FL 45 #[.agg #[.int .i64 a.g, .int .i64 a.l, .int .i64 a.s, .int .i64 a.p], .int .i64 n] w 1 l0 0 (fun _ => 0) := by
  unfold FL
  have LF : Hid (∀ W, Calls Try.prog 42 #[.agg #[.int .i64 a.g, .int .i64 a.l, .int .i64 a.s, .int .i64 a.p]] W fun e w' => e = .returned (.int .i64 0) ∧ Below W.heap.size W w') := fun W => by have := lfault_s a W; rwa [h] at this
  clear h
  have hn2 : n < 0 ∨ 1000 < n := by simp [stepsB] at hn; omega
  rcases hn2 with hn2 | hn2
  all_goals (
    obtain ⟨w0, hw0⟩ : ∃ W, W = (w.alloc (.cells #[.int .i64 a.g, .int .i64 a.l, .int .i64 a.s, .int .i64 a.p] 75)).alloc (.cells #[.int .i64 0, .int .i64 0, .int .i64 0, .int .i64 0, .int .i64 0, .slice none 0 0] 79) := ⟨_, rfl⟩
    have HP : Hid (Blk w0 w.heap.size #[.int .i64 a.g, .int .i64 a.l, .int .i64 a.s, .int .i64 a.p] 75) := by show Blk _ _ _ _; rw [hw0]; exact (Blk.new rfl).alloc _
    have HR : Hid (Blk w0 (w.heap.size + 1) #[.int .i64 0, .int .i64 0, .int .i64 0, .int .i64 0, .int .i64 0, .slice none 0 0] 79) := by show Blk _ _ _ _; rw [hw0]; exact Blk.new (by simp)
    have HO : Hid (Below w.heap.size w w0) := by show Below _ _ _; rw [hw0]; exact ((Below.refl _ _).alloc (Nat.le_refl _) _).alloc (by simp) _
    have Z0 : Hid (w.heap.size + 2 ≤ w0.heap.size) := by show _ ≤ _; rw [hw0]; simp
    go_enter Try.func45, Try.ntmps45
    go_upto_region 1 with fail
    rw [← hw0]
    clear hw0
    have c0 := HP.out.cell (j := 0) (v := .int .i64 a.g) rfl
    have c1 := HP.out.cell (j := 1) (v := .int .i64 a.l) rfl
    have c2 := HP.out.cell (j := 2) (v := .int .i64 a.s) rfl
    have c3 := HP.out.cell (j := 3) (v := .int .i64 a.p) rfl
    go_wp2_with fail
    refine (LF.out _).mono ?_
    rintro e w1 ⟨rfl, b⟩
    replace HP : Hid (Blk w1 w.heap.size #[.int .i64 a.g, .int .i64 a.l, .int .i64 a.s, .int .i64 a.p] 75) := HP.out.later b
    replace HR : Hid (Blk w1 (w.heap.size + 1) #[.int .i64 0, .int .i64 0, .int .i64 0, .int .i64 0, .int .i64 0, .slice none 0 0] 79) := HR.out.later b
    replace HO : Hid (Below w.heap.size w w1) := HO.out.trans (b.mono HO.out.size)
    replace Z0 : Hid (w.heap.size + 2 ≤ w1.heap.size) := Nat.le_trans Z0.out b.size
    clear b c0 c1 c2 c3
    have d0 := HR.out.cell (j := 0) (v := .int .i64 0) rfl
    have f0 := HR.out.frozen 0
    have d1 := HR.out.cell (j := 1) (v := .int .i64 0) rfl
    have f1 := HR.out.frozen 1
    have d2 := HR.out.cell (j := 2) (v := .int .i64 0) rfl
    have f2 := HR.out.frozen 2
    have d3 := HR.out.cell (j := 3) (v := .int .i64 0) rfl
    have f3 := HR.out.frozen 3
    have d4 := HR.out.cell (j := 4) (v := .int .i64 0) rfl
    have f4 := HR.out.frozen 4
    have d5 := HR.out.cell (j := 5) (v := .slice none 0 0) rfl
    have f5 := HR.out.frozen 5
    clear HR HP
    go_wp2
    refine bodyPost_ret (v := Lv 1 l0 (.slice none 0 0)) (by simp [results, Try.results45, go_sem, d0, d1, d2, d3, d4, d5]) rfl ⟨_, rfl, Or.inl ⟨rfl, rfl⟩, ?_⟩
    exact (((((HO.out.setCell (by simp) _).setCell (by simp) _).setCell (by simp) _).setCell (by simp) _).setCell (by simp) _).setCell (by simp) _)
set_option maxRecDepth 20000 in
set_option maxHeartbeats 3200000 in
theorem laser_i0 (a : La) (n : Nat) (h : lcode a = 0) (hn : n ≤ 1000) (w : World) : FL 46 #[.agg #[.int .i64 a.g, .int .i64 a.l, .int .i64 a.s, .int .i64 a.p], .int .i64 (n : Int)] w 0 (lrun a n) n (fun i => (lrun a (i + 1)).i) := by
  unfold FL
  have LF : Hid (∀ W, Calls Try.prog 44 #[.agg #[.int .i64 a.g, .int .i64 a.l, .int .i64 a.s, .int .i64 a.p]] W fun e w' => e = .returned (.int .i64 0) ∧ Below W.heap.size W w') := fun W => by have := lfault_i a W; rwa [h] at this
  have hs : stepsB (n : Int) = true := by simp [stepsB]; omega
  have HG : Hid (Lgo a) := lgo_of h
  clear h
  obtain ⟨T, hT⟩ : ∃ T, T = lrun a n := ⟨_, rfl⟩
  rw [← hT]
  have HT : Hid (T = lrun a n) := hT
  clear hT
  obtain ⟨w0, hw0⟩ : ∃ W, W = (w.alloc (.cells #[.int .i64 a.g, .int .i64 a.l, .int .i64 a.s, .int .i64 a.p] 75)).alloc (.cells #[.int .i64 0, .int .i64 0, .int .i64 0, .int .i64 0, .int .i64 0, .slice none 0 0] 79) := ⟨_, rfl⟩
  have HP : Hid (Blk w0 w.heap.size #[.int .i64 a.g, .int .i64 a.l, .int .i64 a.s, .int .i64 a.p] 75) := by show Blk _ _ _ _; rw [hw0]; exact (Blk.new rfl).alloc _
  have HR : Hid (Blk w0 (w.heap.size + 1) #[.int .i64 0, .int .i64 0, .int .i64 0, .int .i64 0, .int .i64 0, .slice none 0 0] 79) := by show Blk _ _ _ _; rw [hw0]; exact Blk.new (by simp)
  have HO : Hid (Below w.heap.size w w0) := by show Below _ _ _; rw [hw0]; exact ((Below.refl _ _).alloc (Nat.le_refl _) _).alloc (by simp) _
  have Z0 : Hid (w.heap.size + 2 ≤ w0.heap.size) := by show _ ≤ _; rw [hw0]; simp
  go_enter Try.func46, Try.ntmps46
  go_upto_region 1 with fail
  rw [← hw0]
  clear hw0
  have c0 := HP.out.cell (j := 0) (v := .int .i64 a.g) rfl
  have c1 := HP.out.cell (j := 1) (v := .int .i64 a.l) rfl
  have c2 := HP.out.cell (j := 2) (v := .int .i64 a.s) rfl
  have c3 := HP.out.cell (j := 3) (v := .int .i64 a.p) rfl
  go_wp2_with fail
  refine (LF.out _).mono ?_
  rintro e w1 ⟨rfl, b⟩
  replace HP : Hid (Blk w1 w.heap.size #[.int .i64 a.g, .int .i64 a.l, .int .i64 a.s, .int .i64 a.p] 75) := HP.out.later b
  replace HR : Hid (Blk w1 (w.heap.size + 1) #[.int .i64 0, .int .i64 0, .int .i64 0, .int .i64 0, .int .i64 0, .slice none 0 0] 79) := HR.out.later b
  replace HO : Hid (Below w.heap.size w w1) := HO.out.trans (b.mono HO.out.size)
  replace Z0 : Hid (w.heap.size + 2 ≤ w1.heap.size) := Nat.le_trans Z0.out b.size
  clear b c0 c1 c2 c3
  have c0 := HP.out.cell (j := 0) (v := .int .i64 a.g) rfl
  have c1 := HP.out.cell (j := 1) (v := .int .i64 a.l) rfl
  have c2 := HP.out.cell (j := 2) (v := .int .i64 a.s) rfl
  have c3 := HP.out.cell (j := 3) (v := .int .i64 a.p) rfl
  go_wp2_with fail
  refine (steps_i n _).mono ?_
  rintro e w1' ⟨rfl, rfl⟩
  rw [hs]
  go_wp2_with fail
  refine (repeat_98 (I := fun k W => ∃ v, Lb a k w1.heap.size w1 W (w1.heap.size + 1) v) _ n hn _ ?_ ?_).mono ?_
  · rintro k W hk ⟨v, h⟩
    exact (lstep_i HG.out (by omega) h).mono fun e W' ⟨he, v', h'⟩ => ⟨he, v', h'⟩
  · exact ⟨.slice none 0 0, Blk.new rfl, owns_nil _ _ _ _, (Below.refl _ _).alloc (Nat.le_refl _) _, by omega, by simp⟩
  · rintro e W ⟨rfl, v, h⟩
    have hO := owned_il h.own
    obtain ⟨ao, cap, rfl⟩ := hO.form
    have hbox := h.box
    rw [← HT.out] at hbox
    have HW : Hid (OwS 2 (w1.heap.size + 1) W.heap.size W (.slice ao n cap) n (fun i => .int .i64 (lrun a (i + 1)).i)) := hO
    replace HR : Hid (Blk W (w.heap.size + 1) #[.int .i64 0, .int .i64 0, .int .i64 0, .int .i64 0, .int .i64 0, .slice none 0 0] 79) := HR.out.later h.below
    replace HO : Hid (Below w.heap.size w W) := HO.out.trans (h.below.mono HO.out.size)
    clear c0 c1 c2 c3
    have b0 := hbox.cell (j := 4) (v := .int .i64 0) rfl
    have b1 := hbox.cell (j := 5) (v := .int .i64 T.u) rfl
    have b2 := hbox.cell (j := 6) (v := .int .i64 T.i) rfl
    have b3 := hbox.cell (j := 7) (v := .int .i64 T.o) rfl
    have b4 := hbox.cell (j := 8) (v := .int .i64 T.s) rfl
    have b5 := hbox.cell (j := 9) (v := .slice ao n cap) rfl
    have d0 := HR.out.cell (j := 0) (v := .int .i64 0) rfl
    have f0 := HR.out.frozen 0
    have d1 := HR.out.cell (j := 1) (v := .int .i64 0) rfl
    have f1 := HR.out.frozen 1
    have d2 := HR.out.cell (j := 2) (v := .int .i64 0) rfl
    have f2 := HR.out.frozen 2
    have d3 := HR.out.cell (j := 3) (v := .int .i64 0) rfl
    have f3 := HR.out.frozen 3
    have d4 := HR.out.cell (j := 4) (v := .int .i64 0) rfl
    have f4 := HR.out.frozen 4
    have d5 := HR.out.cell (j := 5) (v := .slice none 0 0) rfl
    have f5 := HR.out.frozen 5
    clear h hbox hO HR HP LF HG HT
    go_wp2
    refine bodyPost_ret (v := Lv 0 T (.slice ao n cap)) (by simp [results, Try.results46, go_sem, d0, d1, d2, d3, d4, d5]) rfl ⟨_, rfl, ?_, ?_⟩
    · have z := Z0.out
      rcases HW.out with ⟨e1, e2⟩ | ⟨g, cp, e1, h1, h2, h3⟩
      · exact Or.inl ⟨e1, e2⟩
      · exact Or.inr ⟨g, cp, e1, by omega, by simpa using h2, (((((h3.setOther (by simp; omega) _).setOther (by simp; omega) _).setOther (by simp; omega) _).setOther (by simp; omega) _).setOther (by simp; omega) _).setOther (by simp; omega) _⟩
    · exact (((((HO.out.setCell (by simp) _).setCell (by simp) _).setCell (by simp) _).setCell (by simp) _).setCell (by simp) _).setCell (by simp) _
end Go.Proofs.Ytkkajcdjkfbcgaa
