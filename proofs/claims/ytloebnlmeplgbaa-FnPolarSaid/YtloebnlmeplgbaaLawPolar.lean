/- At every code: what FnPolar tells of a plate and a light that come out of it holds of the program; nothing that was there is changed. -/
import Derived.Test.YtloebnlmeplgbaaJs
import Derived.Test.YtloebnlmeplgbaaPs4
import Derived.Test.YtloebnlmeplgbaaPm
import Derived.Test.YtloebnlmeplgbaaPc
import Derived.Test.YtloebnlmeplgbaaArgb
import Derived.Test.YtloebnlmeplgbaaDz
import Derived.Test.YtloebnlmeplgbaaLwat
import Derived.Test.YtloebnlmeplgbaaTw
import Derived.Test.YtloebnlmeplgbaaPq
import Derived.Test.YtloebnlmeplgbaaSo
import Derived.Test.YtloebnlmeplgbaaOz
import Derived.Handy
import Derived.Deep.RegionHeld3
import Derived.Deep.DeepCutAuto
namespace Go.Proofs.Ytloebnlmeplgbaa.LawPolar
open Go.ChangeShapes Go.WideShapes Go.ChangeAt Go.RowKit Go.Joins
set_option linter.unusedVariables false

theorem field33_0 (k a b c e : Int) (w : World) : (Instr.field 33 (.agg #[.int .i64 k, .int .i64 a, .int .i64 b, .int .i64 c, .int .i64 e]) 0).run Try.prog w = .ok (.int .i64 k) w := by
  have h : ((Try.prog.fieldsOf 33)[0]?).map (fun f => (f.type, f.offset)) = some (2, 0) := by kernel_rfl
  obtain ⟨f, hf, e⟩ := Option.map_eq_some_iff.1 h
  simp only [Prod.mk.injEq] at e
  obtain ⟨h1, h2⟩ := e
  have hh : (Try.prog.fieldsOf 33)[0]? = some f := hf
  simp [Instr.field, run_underlying fields33s.1, hh, h1, h2, asAgg, part33_0]
theorem field33_1 (k a b c e : Int) (w : World) : (Instr.field 33 (.agg #[.int .i64 k, .int .i64 a, .int .i64 b, .int .i64 c, .int .i64 e]) 1).run Try.prog w = .ok (.agg #[.int .i64 a, .int .i64 b, .int .i64 c, .int .i64 e]) w := by
  have h : ((Try.prog.fieldsOf 33)[1]?).map (fun f => (f.type, f.offset)) = some (29, 1) := by kernel_rfl
  obtain ⟨f, hf, e⟩ := Option.map_eq_some_iff.1 h
  simp only [Prod.mk.injEq] at e
  obtain ⟨h1, h2⟩ := e
  have hh : (Try.prog.fieldsOf 33)[1]? = some f := hf
  simp [Instr.field, run_underlying fields33s.1, hh, h1, h2, asAgg, part33_1]
theorem field38_1 (k a b c e : Int) (w : World) : (Instr.field 38 (.agg #[.int .i64 k, .int .i64 a, .int .i64 b, .int .i64 c, .int .i64 e]) 1).run Try.prog w = .ok (.agg #[.int .i64 a, .int .i64 b, .int .i64 c, .int .i64 e]) w := by
  have h : ((Try.prog.fieldsOf 38)[1]?).map (fun f => (f.type, f.offset)) = some (36, 1) := by kernel_rfl
  obtain ⟨f, hf, e⟩ := Option.map_eq_some_iff.1 h
  simp only [Prod.mk.injEq] at e
  obtain ⟨h1, h2⟩ := e
  have hh : (Try.prog.fieldsOf 38)[1]? = some f := hf
  simp [Instr.field, run_underlying fields38s.1, hh, h1, h2, asAgg, part38_1]
theorem neq36_same (a : Sk) (w : World) : (binOp .neq 36 (.agg #[.int .i64 a.i, .int .i64 a.q, .int .i64 a.u, .int .i64 a.v]) (.agg #[.int .i64 a.i, .int .i64 a.q, .int .i64 a.u, .int .i64 a.v])).run Try.prog w = .ok (.bool false) w := by
  rw [neq36]
  simp [skeq]
set_option maxRecDepth 100000 in
set_option maxHeartbeats 25600000 in
theorem walk {w : World} {v : Value} {nb : Nat} {g : Nat → Int} (h : RdB w v nb g) (hn : nb ≤ 9223372036854775807) (hg : ∀ i, i < nb → 0 ≤ g i ∧ g i ≤ 255) :
    Calls Try.prog 3 #[v] w fun e w' => e = .returned (.bool true) ∧ Below w.heap.size w w' := by
  obtain ⟨ao, cap, rfl⟩ := h.form
  have HG : Hid (RdB w (.slice ao nb cap) nb g ∧ ∀ i, i < nb → 0 ≤ g i ∧ g i ≤ 255) := ⟨h, hg⟩
  clear h hg
  have BG : Hid (∀ w, Calls Try.prog 16 #[.slice ao nb cap] w fun e w' => e = .returned (.bool (decide ((1048576 : Int) < (nb : Int)))) ∧ w = w') := fun w => big_any ao nb cap w
  go_enter Try.func3, Try.ntmps3
  by_cases hb : 1048576 < nb
  · rw [show decide ((1048576 : Int) < (nb : Int)) = true by simp; omega] at BG
    go_wp2_with (first | (go_at_call 16; refine (BG.out _).mono ?_; rintro e w1 ⟨rfl, rfl⟩))
    go_ret
    exact ⟨rfl, Below.refl _ _⟩
  rw [show decide ((1048576 : Int) < (nb : Int)) = false by simp; omega] at BG
  have hn2 : nb ≤ 1000000000000 := by omega
  have HO : Hid (Below w.heap.size w w) := Below.refl _ _
  go_wp2_with fail
  refine (BG.out _).mono ?_
  rintro e wx ⟨rfl, rfl⟩
  clear BG
  have hf330 := field33_0
  have hf331 := field33_1
  have hf381 := field38_1
  go_wp2_with fail
  refine (draw_any HG.out.1 HG.out.2 hn2).mono ?_
  rintro e v1 ⟨m, l, rfl, hb⟩
  replace HO : Hid (Below w.heap.size w v1) := box_step HO.out hb (Nat.le_refl _)
  clear hb
  clear HG hn hn2
  go_upto_region 4 with fail
  obtain ⟨v2, hv⟩ : ∃ Xw, Xw = ((v1.alloc (.cells #[.int .i64 m.a.re, .int .i64 m.a.im, .int .i64 m.b.re, .int .i64 m.b.im, .int .i64 m.c.re, .int .i64 m.c.im, .int .i64 m.d.re, .int .i64 m.d.im] 27)).alloc (.cells #[.int .i64 l.x.re, .int .i64 l.x.im, .int .i64 l.y.re, .int .i64 l.y.im] 29)) := ⟨_, rfl⟩
  rw [← hv]
  have ne_p_l : Hid (v1.heap.size ≠ v1.heap.size + 1) := by show (v1.heap.size : Nat) ≠ v1.heap.size + 1; omega
  have B_p : Hid (Blk v2 (v1.heap.size) #[.int .i64 m.a.re, .int .i64 m.a.im, .int .i64 m.b.re, .int .i64 m.b.im, .int .i64 m.c.re, .int .i64 m.c.im, .int .i64 m.d.re, .int .i64 m.d.im] 27) := by show Blk v2 (v1.heap.size) _ _; rw [hv]; exact (Blk.alloc (Blk.new (by simp)) _)
  have low_p : Hid (w.heap.size ≤ v1.heap.size) := by show w.heap.size ≤ v1.heap.size; have := HO.out.size; omega
  have B_l : Hid (Blk v2 (v1.heap.size + 1) #[.int .i64 l.x.re, .int .i64 l.x.im, .int .i64 l.y.re, .int .i64 l.y.im] 29) := by show Blk v2 (v1.heap.size + 1) _ _; rw [hv]; exact (Blk.new (by simp))
  have low_l : Hid (w.heap.size ≤ v1.heap.size + 1) := by show w.heap.size ≤ v1.heap.size + 1; have := HO.out.size; omega
  replace HO : Hid (Below w.heap.size w v2) := by show Below w.heap.size w v2; rw [hv]; exact (below_new (below_new HO.out _) _)
  clear hv
  have p_0 := B_p.out.cell (j := 0) rfl
  have p_1 := B_p.out.cell (j := 1) rfl
  have p_2 := B_p.out.cell (j := 2) rfl
  have p_3 := B_p.out.cell (j := 3) rfl
  have p_4 := B_p.out.cell (j := 4) rfl
  have p_5 := B_p.out.cell (j := 5) rfl
  have p_6 := B_p.out.cell (j := 6) rfl
  have p_7 := B_p.out.cell (j := 7) rfl
  have p_f := B_p.out.frozen
  have p_z := B_p.out.lt
  have l_0 := B_l.out.cell (j := 0) rfl
  have l_1 := B_l.out.cell (j := 1) rfl
  have l_2 := B_l.out.cell (j := 2) rfl
  have l_3 := B_l.out.cell (j := 3) rfl
  have l_f := B_l.out.frozen
  have l_z := B_l.out.lt
  go_wp2_with fail
  refine (spj m l _).mono ?_
  rintro e v3 ⟨rfl, hb⟩
  clear p_0 p_1 p_2 p_3 p_4 p_5 p_6 p_7 p_f p_z l_0 l_1 l_2 l_3 l_f l_z
  replace B_p : Hid (Blk v3 (v1.heap.size) #[.int .i64 m.a.re, .int .i64 m.a.im, .int .i64 m.b.re, .int .i64 m.b.im, .int .i64 m.c.re, .int .i64 m.c.im, .int .i64 m.d.re, .int .i64 m.d.im] 27) := by show Blk v3 (v1.heap.size) _ _; exact Blk.old B_p.out hb
  replace B_l : Hid (Blk v3 (v1.heap.size + 1) #[.int .i64 l.x.re, .int .i64 l.x.im, .int .i64 l.y.re, .int .i64 l.y.im] 29) := by show Blk v3 (v1.heap.size + 1) _ _; exact Blk.old B_l.out hb
  replace HO : Hid (Below w.heap.size w v3) := box_step HO.out hb (Nat.le_refl _)
  clear hb
  by_cases hc : rcode m l = 0
  · skip
    obtain ⟨hp, hj, ho⟩ : pcode m.a m.b m.c m.d = 0 ∧ jcode l.x l.y = 0 ∧ jcode (pass m l).x (pass m l).y = 0 := by unfold rcode at hc; split at hc; assumption; cases hc
    have hrj : rjon m l = pass m l := by unfold rjon; rw [if_pos ⟨hp, hj, ho⟩]
    obtain ⟨n, hnn⟩ : ∃ n, n = pass m l := ⟨_, rfl⟩
    obtain ⟨a, haa⟩ : ∃ a, a = sok l := ⟨_, rfl⟩
    obtain ⟨o, hoo⟩ : ∃ o, o = sok n := ⟨_, rfl⟩
    have IP : Hid (∀ W, Calls Try.prog 19 #[.agg #[.int .i64 m.a.re, .int .i64 m.a.im, .int .i64 m.b.re, .int .i64 m.b.im, .int .i64 m.c.re, .int .i64 m.c.im, .int .i64 m.d.re, .int .i64 m.d.im], .agg #[.int .i64 l.x.re, .int .i64 l.x.im, .int .i64 l.y.re, .int .i64 l.y.im]] W fun e w' => e = .returned (.agg #[.int .i64 0, .int .i64 n.x.re, .int .i64 n.x.im, .int .i64 n.y.re, .int .i64 n.y.im]) ∧ Below W.heap.size W w') := fun W => by have h := ipj m l W; rw [hrj, hc, ← hnn] at h; exact h
    have IS : Hid (∀ W, Calls Try.prog 20 #[.agg #[.int .i64 l.x.re, .int .i64 l.x.im, .int .i64 l.y.re, .int .i64 l.y.im]] W fun e w' => e = .returned (.agg #[.int .i64 0, .int .i64 a.i, .int .i64 a.q, .int .i64 a.u, .int .i64 a.v]) ∧ Below W.heap.size W w') := fun W => by have h := iso l W; rw [show stk l = sok l by unfold stk; rw [if_pos hj], hj, ← haa] at h; exact h
    have SS : Hid (∀ W, Calls Try.prog 21 #[.agg #[.int .i64 l.x.re, .int .i64 l.x.im, .int .i64 l.y.re, .int .i64 l.y.im]] W fun e w' => e = .returned (.agg #[.int .i64 0, .int .i64 a.i, .int .i64 a.q, .int .i64 a.u, .int .i64 a.v]) ∧ Below W.heap.size W w') := fun W => by have h := sso l W; rw [show stk l = sok l by unfold stk; rw [if_pos hj], hj, ← haa] at h; exact h
    rw [← hnn] at ho
    have ISn : Hid (∀ W, Calls Try.prog 20 #[.agg #[.int .i64 n.x.re, .int .i64 n.x.im, .int .i64 n.y.re, .int .i64 n.y.im]] W fun e w' => e = .returned (.agg #[.int .i64 0, .int .i64 o.i, .int .i64 o.q, .int .i64 o.u, .int .i64 o.v]) ∧ Below W.heap.size W w') := fun W => by have h := iso n W; rw [show stk n = sok n by unfold stk; rw [if_pos ho], ho, ← hoo] at h; exact h
    rw [hrj, hc, ← hnn]
    have HM : Hid (pcode m.a m.b m.c m.d = 0 ∧ jcode l.x l.y = 0 ∧ jcode n.x n.y = 0 ∧ n = pass m l ∧ a = sok l ∧ o = sok n) := ⟨hp, hj, ho, hnn, haa, hoo⟩
    clear hp hj ho hrj hnn haa hoo hc
    go_upto_region 5 with fail
    obtain ⟨v4, hv⟩ : ∃ Xw, Xw = (v3.alloc (.cells #[.int .i64 0, .int .i64 n.x.re, .int .i64 n.x.im, .int .i64 n.y.re, .int .i64 n.y.im] 33)) := ⟨_, rfl⟩
    rw [← hv]
    have ne_p_r : Hid (v1.heap.size ≠ v3.heap.size) := Nat.ne_of_lt (Nat.lt_of_lt_of_le B_p.out.lt (by omega))
    have ne_l_r : Hid (v1.heap.size + 1 ≠ v3.heap.size) := Nat.ne_of_lt (Nat.lt_of_lt_of_le B_l.out.lt (by omega))
    have B_r : Hid (Blk v4 (v3.heap.size) #[.int .i64 0, .int .i64 n.x.re, .int .i64 n.x.im, .int .i64 n.y.re, .int .i64 n.y.im] 33) := by show Blk v4 (v3.heap.size) _ _; rw [hv]; exact (Blk.new (by simp))
    have low_r : Hid (w.heap.size ≤ v3.heap.size) := by show w.heap.size ≤ v3.heap.size; have := HO.out.size; omega
    replace B_p : Hid (Blk v4 (v1.heap.size) #[.int .i64 m.a.re, .int .i64 m.a.im, .int .i64 m.b.re, .int .i64 m.b.im, .int .i64 m.c.re, .int .i64 m.c.im, .int .i64 m.d.re, .int .i64 m.d.im] 27) := by show Blk v4 (v1.heap.size) _ _; rw [hv]; exact (Blk.alloc B_p.out _)
    replace B_l : Hid (Blk v4 (v1.heap.size + 1) #[.int .i64 l.x.re, .int .i64 l.x.im, .int .i64 l.y.re, .int .i64 l.y.im] 29) := by show Blk v4 (v1.heap.size + 1) _ _; rw [hv]; exact (Blk.alloc B_l.out _)
    replace HO : Hid (Below w.heap.size w v4) := by show Below w.heap.size w v4; rw [hv]; exact (below_new HO.out _)
    clear hv
    have r_0 := B_r.out.cell (j := 0) rfl
    have r_1 := B_r.out.cell (j := 1) rfl
    have r_2 := B_r.out.cell (j := 2) rfl
    have r_3 := B_r.out.cell (j := 3) rfl
    have r_4 := B_r.out.cell (j := 4) rfl
    have r_f := B_r.out.frozen
    have r_z := B_r.out.lt
    have l_0 := B_l.out.cell (j := 0) rfl
    have l_1 := B_l.out.cell (j := 1) rfl
    have l_2 := B_l.out.cell (j := 2) rfl
    have l_3 := B_l.out.cell (j := 3) rfl
    have l_f := B_l.out.frozen
    have l_z := B_l.out.lt
    go_wp2_with fail
    refine (IS.out _).mono ?_
    rintro e v5 ⟨rfl, hb⟩
    clear r_0 r_1 r_2 r_3 r_4 r_f r_z l_0 l_1 l_2 l_3 l_f l_z
    replace B_p : Hid (Blk v5 (v1.heap.size) #[.int .i64 m.a.re, .int .i64 m.a.im, .int .i64 m.b.re, .int .i64 m.b.im, .int .i64 m.c.re, .int .i64 m.c.im, .int .i64 m.d.re, .int .i64 m.d.im] 27) := by show Blk v5 (v1.heap.size) _ _; exact Blk.old B_p.out hb
    replace B_l : Hid (Blk v5 (v1.heap.size + 1) #[.int .i64 l.x.re, .int .i64 l.x.im, .int .i64 l.y.re, .int .i64 l.y.im] 29) := by show Blk v5 (v1.heap.size + 1) _ _; exact Blk.old B_l.out hb
    replace B_r : Hid (Blk v5 (v3.heap.size) #[.int .i64 0, .int .i64 n.x.re, .int .i64 n.x.im, .int .i64 n.y.re, .int .i64 n.y.im] 33) := by show Blk v5 (v3.heap.size) _ _; exact Blk.old B_r.out hb
    replace HO : Hid (Below w.heap.size w v5) := box_step HO.out hb (Nat.le_refl _)
    clear hb
    go_upto_region 8 with fail
    obtain ⟨v6, hv⟩ : ∃ Xw, Xw = (v5.alloc (.cells #[.int .i64 0, .int .i64 a.i, .int .i64 a.q, .int .i64 a.u, .int .i64 a.v] 38)) := ⟨_, rfl⟩
    rw [← hv]
    have ne_p_i : Hid (v1.heap.size ≠ v5.heap.size) := Nat.ne_of_lt (Nat.lt_of_lt_of_le B_p.out.lt (by omega))
    have ne_l_i : Hid (v1.heap.size + 1 ≠ v5.heap.size) := Nat.ne_of_lt (Nat.lt_of_lt_of_le B_l.out.lt (by omega))
    have ne_r_i : Hid (v3.heap.size ≠ v5.heap.size) := Nat.ne_of_lt (Nat.lt_of_lt_of_le B_r.out.lt (by omega))
    have B_i : Hid (Blk v6 (v5.heap.size) #[.int .i64 0, .int .i64 a.i, .int .i64 a.q, .int .i64 a.u, .int .i64 a.v] 38) := by show Blk v6 (v5.heap.size) _ _; rw [hv]; exact (Blk.new (by simp))
    have low_i : Hid (w.heap.size ≤ v5.heap.size) := by show w.heap.size ≤ v5.heap.size; have := HO.out.size; omega
    replace B_p : Hid (Blk v6 (v1.heap.size) #[.int .i64 m.a.re, .int .i64 m.a.im, .int .i64 m.b.re, .int .i64 m.b.im, .int .i64 m.c.re, .int .i64 m.c.im, .int .i64 m.d.re, .int .i64 m.d.im] 27) := by show Blk v6 (v1.heap.size) _ _; rw [hv]; exact (Blk.alloc B_p.out _)
    replace B_l : Hid (Blk v6 (v1.heap.size + 1) #[.int .i64 l.x.re, .int .i64 l.x.im, .int .i64 l.y.re, .int .i64 l.y.im] 29) := by show Blk v6 (v1.heap.size + 1) _ _; rw [hv]; exact (Blk.alloc B_l.out _)
    replace B_r : Hid (Blk v6 (v3.heap.size) #[.int .i64 0, .int .i64 n.x.re, .int .i64 n.x.im, .int .i64 n.y.re, .int .i64 n.y.im] 33) := by show Blk v6 (v3.heap.size) _ _; rw [hv]; exact (Blk.alloc B_r.out _)
    replace HO : Hid (Below w.heap.size w v6) := by show Below w.heap.size w v6; rw [hv]; exact (below_new HO.out _)
    clear hv
    have p_0 := B_p.out.cell (j := 0) rfl
    have p_1 := B_p.out.cell (j := 1) rfl
    have p_2 := B_p.out.cell (j := 2) rfl
    have p_3 := B_p.out.cell (j := 3) rfl
    have p_4 := B_p.out.cell (j := 4) rfl
    have p_5 := B_p.out.cell (j := 5) rfl
    have p_6 := B_p.out.cell (j := 6) rfl
    have p_7 := B_p.out.cell (j := 7) rfl
    have p_f := B_p.out.frozen
    have p_z := B_p.out.lt
    have l_0 := B_l.out.cell (j := 0) rfl
    have l_1 := B_l.out.cell (j := 1) rfl
    have l_2 := B_l.out.cell (j := 2) rfl
    have l_3 := B_l.out.cell (j := 3) rfl
    have l_f := B_l.out.frozen
    have l_z := B_l.out.lt
    go_wp2_with fail
    refine (IP.out _).mono ?_
    rintro e v7 ⟨rfl, hb⟩
    clear p_0 p_1 p_2 p_3 p_4 p_5 p_6 p_7 p_f p_z l_0 l_1 l_2 l_3 l_f l_z
    replace B_p : Hid (Blk v7 (v1.heap.size) #[.int .i64 m.a.re, .int .i64 m.a.im, .int .i64 m.b.re, .int .i64 m.b.im, .int .i64 m.c.re, .int .i64 m.c.im, .int .i64 m.d.re, .int .i64 m.d.im] 27) := by show Blk v7 (v1.heap.size) _ _; exact Blk.old B_p.out hb
    replace B_l : Hid (Blk v7 (v1.heap.size + 1) #[.int .i64 l.x.re, .int .i64 l.x.im, .int .i64 l.y.re, .int .i64 l.y.im] 29) := by show Blk v7 (v1.heap.size + 1) _ _; exact Blk.old B_l.out hb
    replace B_r : Hid (Blk v7 (v3.heap.size) #[.int .i64 0, .int .i64 n.x.re, .int .i64 n.x.im, .int .i64 n.y.re, .int .i64 n.y.im] 33) := by show Blk v7 (v3.heap.size) _ _; exact Blk.old B_r.out hb
    replace B_i : Hid (Blk v7 (v5.heap.size) #[.int .i64 0, .int .i64 a.i, .int .i64 a.q, .int .i64 a.u, .int .i64 a.v] 38) := by show Blk v7 (v5.heap.size) _ _; exact Blk.old B_i.out hb
    replace HO : Hid (Below w.heap.size w v7) := box_step HO.out hb (Nat.le_refl _)
    clear hb
    go_wp2_with fail
    refine (ISn.out _).mono ?_
    rintro e v8 ⟨rfl, hb⟩
    replace B_p : Hid (Blk v8 (v1.heap.size) #[.int .i64 m.a.re, .int .i64 m.a.im, .int .i64 m.b.re, .int .i64 m.b.im, .int .i64 m.c.re, .int .i64 m.c.im, .int .i64 m.d.re, .int .i64 m.d.im] 27) := by show Blk v8 (v1.heap.size) _ _; exact Blk.old B_p.out hb
    replace B_l : Hid (Blk v8 (v1.heap.size + 1) #[.int .i64 l.x.re, .int .i64 l.x.im, .int .i64 l.y.re, .int .i64 l.y.im] 29) := by show Blk v8 (v1.heap.size + 1) _ _; exact Blk.old B_l.out hb
    replace B_r : Hid (Blk v8 (v3.heap.size) #[.int .i64 0, .int .i64 n.x.re, .int .i64 n.x.im, .int .i64 n.y.re, .int .i64 n.y.im] 33) := by show Blk v8 (v3.heap.size) _ _; exact Blk.old B_r.out hb
    replace B_i : Hid (Blk v8 (v5.heap.size) #[.int .i64 0, .int .i64 a.i, .int .i64 a.q, .int .i64 a.u, .int .i64 a.v] 38) := by show Blk v8 (v5.heap.size) _ _; exact Blk.old B_i.out hb
    replace HO : Hid (Below w.heap.size w v8) := box_step HO.out hb (Nat.le_refl _)
    clear hb
    go_upto_region 9 with fail
    obtain ⟨v9, hv⟩ : ∃ Xw, Xw = (v8.alloc (.cells #[.int .i64 0, .int .i64 o.i, .int .i64 o.q, .int .i64 o.u, .int .i64 o.v] 38)) := ⟨_, rfl⟩
    rw [← hv]
    have ne_p_o : Hid (v1.heap.size ≠ v8.heap.size) := Nat.ne_of_lt (Nat.lt_of_lt_of_le B_p.out.lt (by omega))
    have ne_l_o : Hid (v1.heap.size + 1 ≠ v8.heap.size) := Nat.ne_of_lt (Nat.lt_of_lt_of_le B_l.out.lt (by omega))
    have ne_r_o : Hid (v3.heap.size ≠ v8.heap.size) := Nat.ne_of_lt (Nat.lt_of_lt_of_le B_r.out.lt (by omega))
    have ne_i_o : Hid (v5.heap.size ≠ v8.heap.size) := Nat.ne_of_lt (Nat.lt_of_lt_of_le B_i.out.lt (by omega))
    have B_o : Hid (Blk v9 (v8.heap.size) #[.int .i64 0, .int .i64 o.i, .int .i64 o.q, .int .i64 o.u, .int .i64 o.v] 38) := by show Blk v9 (v8.heap.size) _ _; rw [hv]; exact (Blk.new (by simp))
    have low_o : Hid (w.heap.size ≤ v8.heap.size) := by show w.heap.size ≤ v8.heap.size; have := HO.out.size; omega
    replace B_p : Hid (Blk v9 (v1.heap.size) #[.int .i64 m.a.re, .int .i64 m.a.im, .int .i64 m.b.re, .int .i64 m.b.im, .int .i64 m.c.re, .int .i64 m.c.im, .int .i64 m.d.re, .int .i64 m.d.im] 27) := by show Blk v9 (v1.heap.size) _ _; rw [hv]; exact (Blk.alloc B_p.out _)
    replace B_l : Hid (Blk v9 (v1.heap.size + 1) #[.int .i64 l.x.re, .int .i64 l.x.im, .int .i64 l.y.re, .int .i64 l.y.im] 29) := by show Blk v9 (v1.heap.size + 1) _ _; rw [hv]; exact (Blk.alloc B_l.out _)
    replace B_r : Hid (Blk v9 (v3.heap.size) #[.int .i64 0, .int .i64 n.x.re, .int .i64 n.x.im, .int .i64 n.y.re, .int .i64 n.y.im] 33) := by show Blk v9 (v3.heap.size) _ _; rw [hv]; exact (Blk.alloc B_r.out _)
    replace B_i : Hid (Blk v9 (v5.heap.size) #[.int .i64 0, .int .i64 a.i, .int .i64 a.q, .int .i64 a.u, .int .i64 a.v] 38) := by show Blk v9 (v5.heap.size) _ _; rw [hv]; exact (Blk.alloc B_i.out _)
    replace HO : Hid (Below w.heap.size w v9) := by show Below w.heap.size w v9; rw [hv]; exact (below_new HO.out _)
    clear hv
    have k_p_0 : ∀ x : Kept v9.heap.size v9, x.w.cell? ⟨v1.heap.size, 0, none⟩ = some (.int .i64 m.a.re) := fun x => x.cell B_p.out.lt (B_p.out.cell (j := 0) rfl)
    have k_p_1 : ∀ x : Kept v9.heap.size v9, x.w.cell? ⟨v1.heap.size, 1, none⟩ = some (.int .i64 m.a.im) := fun x => x.cell B_p.out.lt (B_p.out.cell (j := 1) rfl)
    have k_p_2 : ∀ x : Kept v9.heap.size v9, x.w.cell? ⟨v1.heap.size, 2, none⟩ = some (.int .i64 m.b.re) := fun x => x.cell B_p.out.lt (B_p.out.cell (j := 2) rfl)
    have k_p_3 : ∀ x : Kept v9.heap.size v9, x.w.cell? ⟨v1.heap.size, 3, none⟩ = some (.int .i64 m.b.im) := fun x => x.cell B_p.out.lt (B_p.out.cell (j := 3) rfl)
    have k_p_4 : ∀ x : Kept v9.heap.size v9, x.w.cell? ⟨v1.heap.size, 4, none⟩ = some (.int .i64 m.c.re) := fun x => x.cell B_p.out.lt (B_p.out.cell (j := 4) rfl)
    have k_p_5 : ∀ x : Kept v9.heap.size v9, x.w.cell? ⟨v1.heap.size, 5, none⟩ = some (.int .i64 m.c.im) := fun x => x.cell B_p.out.lt (B_p.out.cell (j := 5) rfl)
    have k_p_6 : ∀ x : Kept v9.heap.size v9, x.w.cell? ⟨v1.heap.size, 6, none⟩ = some (.int .i64 m.d.re) := fun x => x.cell B_p.out.lt (B_p.out.cell (j := 6) rfl)
    have k_p_7 : ∀ x : Kept v9.heap.size v9, x.w.cell? ⟨v1.heap.size, 7, none⟩ = some (.int .i64 m.d.im) := fun x => x.cell B_p.out.lt (B_p.out.cell (j := 7) rfl)
    have k_l_0 : ∀ x : Kept v9.heap.size v9, x.w.cell? ⟨v1.heap.size + 1, 0, none⟩ = some (.int .i64 l.x.re) := fun x => x.cell B_l.out.lt (B_l.out.cell (j := 0) rfl)
    have k_l_1 : ∀ x : Kept v9.heap.size v9, x.w.cell? ⟨v1.heap.size + 1, 1, none⟩ = some (.int .i64 l.x.im) := fun x => x.cell B_l.out.lt (B_l.out.cell (j := 1) rfl)
    have k_l_2 : ∀ x : Kept v9.heap.size v9, x.w.cell? ⟨v1.heap.size + 1, 2, none⟩ = some (.int .i64 l.y.re) := fun x => x.cell B_l.out.lt (B_l.out.cell (j := 2) rfl)
    have k_l_3 : ∀ x : Kept v9.heap.size v9, x.w.cell? ⟨v1.heap.size + 1, 3, none⟩ = some (.int .i64 l.y.im) := fun x => x.cell B_l.out.lt (B_l.out.cell (j := 3) rfl)
    have k_r_0 : ∀ x : Kept v9.heap.size v9, x.w.cell? ⟨v3.heap.size, 0, none⟩ = some (.int .i64 0) := fun x => x.cell B_r.out.lt (B_r.out.cell (j := 0) rfl)
    have k_r_1 : ∀ x : Kept v9.heap.size v9, x.w.cell? ⟨v3.heap.size, 1, none⟩ = some (.int .i64 n.x.re) := fun x => x.cell B_r.out.lt (B_r.out.cell (j := 1) rfl)
    have k_r_2 : ∀ x : Kept v9.heap.size v9, x.w.cell? ⟨v3.heap.size, 2, none⟩ = some (.int .i64 n.x.im) := fun x => x.cell B_r.out.lt (B_r.out.cell (j := 2) rfl)
    have k_r_3 : ∀ x : Kept v9.heap.size v9, x.w.cell? ⟨v3.heap.size, 3, none⟩ = some (.int .i64 n.y.re) := fun x => x.cell B_r.out.lt (B_r.out.cell (j := 3) rfl)
    have k_r_4 : ∀ x : Kept v9.heap.size v9, x.w.cell? ⟨v3.heap.size, 4, none⟩ = some (.int .i64 n.y.im) := fun x => x.cell B_r.out.lt (B_r.out.cell (j := 4) rfl)
    have k_i_0 : ∀ x : Kept v9.heap.size v9, x.w.cell? ⟨v5.heap.size, 0, none⟩ = some (.int .i64 0) := fun x => x.cell B_i.out.lt (B_i.out.cell (j := 0) rfl)
    have k_i_1 : ∀ x : Kept v9.heap.size v9, x.w.cell? ⟨v5.heap.size, 1, none⟩ = some (.int .i64 a.i) := fun x => x.cell B_i.out.lt (B_i.out.cell (j := 1) rfl)
    have k_i_2 : ∀ x : Kept v9.heap.size v9, x.w.cell? ⟨v5.heap.size, 2, none⟩ = some (.int .i64 a.q) := fun x => x.cell B_i.out.lt (B_i.out.cell (j := 2) rfl)
    have k_i_3 : ∀ x : Kept v9.heap.size v9, x.w.cell? ⟨v5.heap.size, 3, none⟩ = some (.int .i64 a.u) := fun x => x.cell B_i.out.lt (B_i.out.cell (j := 3) rfl)
    have k_i_4 : ∀ x : Kept v9.heap.size v9, x.w.cell? ⟨v5.heap.size, 4, none⟩ = some (.int .i64 a.v) := fun x => x.cell B_i.out.lt (B_i.out.cell (j := 4) rfl)
    have k_o_0 : ∀ x : Kept v9.heap.size v9, x.w.cell? ⟨v8.heap.size, 0, none⟩ = some (.int .i64 0) := fun x => x.cell B_o.out.lt (B_o.out.cell (j := 0) rfl)
    have k_o_1 : ∀ x : Kept v9.heap.size v9, x.w.cell? ⟨v8.heap.size, 1, none⟩ = some (.int .i64 o.i) := fun x => x.cell B_o.out.lt (B_o.out.cell (j := 1) rfl)
    have k_o_2 : ∀ x : Kept v9.heap.size v9, x.w.cell? ⟨v8.heap.size, 2, none⟩ = some (.int .i64 o.q) := fun x => x.cell B_o.out.lt (B_o.out.cell (j := 2) rfl)
    have k_o_3 : ∀ x : Kept v9.heap.size v9, x.w.cell? ⟨v8.heap.size, 3, none⟩ = some (.int .i64 o.u) := fun x => x.cell B_o.out.lt (B_o.out.cell (j := 3) rfl)
    have k_o_4 : ∀ x : Kept v9.heap.size v9, x.w.cell? ⟨v8.heap.size, 4, none⟩ = some (.int .i64 o.v) := fun x => x.cell B_o.out.lt (B_o.out.cell (j := 4) rfl)
    have hn38 := neq38_same
    have hn33 := neq33_same
    refine wp_region_kept v9.heap.size (by kernel_rfl) (by kernel_rfl) ?_
    intro hne
    repeat (go_big_quiet_step (first | (go_at_call 21; exact Calls.kept_of (Nat.le_refl _) (SS.out _)) | (go_at_call 19; exact Calls.kept_of (Nat.le_refl _) (IP.out _))))
    refine wpQuiet_nil ?_
    rintro u10 ⟨xk, hxk⟩
    have hR1 := xk.h
    rw [← hxk] at hR1
    clear hxk xk hne k_p_0 k_p_1 k_p_2 k_p_3 k_p_4 k_p_5 k_p_6 k_p_7 k_l_0 k_l_1 k_l_2 k_l_3 k_r_0 k_r_1 k_r_2 k_r_3 k_r_4 k_i_0 k_i_1 k_i_2 k_i_3 k_i_4 k_o_0 k_o_1 k_o_2 k_o_3 k_o_4
    replace B_p : Hid (Blk u10 (v1.heap.size) #[.int .i64 m.a.re, .int .i64 m.a.im, .int .i64 m.b.re, .int .i64 m.b.im, .int .i64 m.c.re, .int .i64 m.c.im, .int .i64 m.d.re, .int .i64 m.d.im] 27) := by show Blk u10 (v1.heap.size) _ _; exact Blk.old B_p.out hR1
    replace B_l : Hid (Blk u10 (v1.heap.size + 1) #[.int .i64 l.x.re, .int .i64 l.x.im, .int .i64 l.y.re, .int .i64 l.y.im] 29) := by show Blk u10 (v1.heap.size + 1) _ _; exact Blk.old B_l.out hR1
    replace B_r : Hid (Blk u10 (v3.heap.size) #[.int .i64 0, .int .i64 n.x.re, .int .i64 n.x.im, .int .i64 n.y.re, .int .i64 n.y.im] 33) := by show Blk u10 (v3.heap.size) _ _; exact Blk.old B_r.out hR1
    replace B_i : Hid (Blk u10 (v5.heap.size) #[.int .i64 0, .int .i64 a.i, .int .i64 a.q, .int .i64 a.u, .int .i64 a.v] 38) := by show Blk u10 (v5.heap.size) _ _; exact Blk.old B_i.out hR1
    replace B_o : Hid (Blk u10 (v8.heap.size) #[.int .i64 0, .int .i64 o.i, .int .i64 o.q, .int .i64 o.u, .int .i64 o.v] 38) := by show Blk u10 (v8.heap.size) _ _; exact Blk.old B_o.out hR1
    replace HO : Hid (Below w.heap.size w u10) := HO.out.trans (hR1.mono HO.out.size)
    clear hR1
    clear hn38 hn33 IP SS
    have hsq : (wrap64 (a.i * a.i) != wrap64 (wrap64 (wrap64 (a.q * a.q) + wrap64 (a.u * a.u)) + wrap64 (a.v * a.v))) = false := by obtain ⟨_, _, _, _, e, _⟩ := HM.out; rw [e, sok_sq]; simp
    have i_0 := B_i.out.cell (j := 0) rfl
    have i_1 := B_i.out.cell (j := 1) rfl
    have i_2 := B_i.out.cell (j := 2) rfl
    have i_3 := B_i.out.cell (j := 3) rfl
    have i_4 := B_i.out.cell (j := 4) rfl
    have i_f := B_i.out.frozen
    have i_z := B_i.out.lt
    go_upto_region 12 with fail
    clear i_0 i_1 i_2 i_3 i_4 i_f i_z
    obtain ⟨v11, hv⟩ : ∃ Xw, Xw = (u10.alloc (.cells #[.int .i64 a.i, .int .i64 a.q, .int .i64 a.u, .int .i64 a.v] 36)) := ⟨_, rfl⟩
    rw [← hv]
    have ne_p_s : Hid (v1.heap.size ≠ u10.heap.size) := Nat.ne_of_lt (Nat.lt_of_lt_of_le B_p.out.lt (by omega))
    have ne_l_s : Hid (v1.heap.size + 1 ≠ u10.heap.size) := Nat.ne_of_lt (Nat.lt_of_lt_of_le B_l.out.lt (by omega))
    have ne_r_s : Hid (v3.heap.size ≠ u10.heap.size) := Nat.ne_of_lt (Nat.lt_of_lt_of_le B_r.out.lt (by omega))
    have ne_i_s : Hid (v5.heap.size ≠ u10.heap.size) := Nat.ne_of_lt (Nat.lt_of_lt_of_le B_i.out.lt (by omega))
    have ne_o_s : Hid (v8.heap.size ≠ u10.heap.size) := Nat.ne_of_lt (Nat.lt_of_lt_of_le B_o.out.lt (by omega))
    have B_s : Hid (Blk v11 (u10.heap.size) #[.int .i64 a.i, .int .i64 a.q, .int .i64 a.u, .int .i64 a.v] 36) := by show Blk v11 (u10.heap.size) _ _; rw [hv]; exact (Blk.new (by simp))
    have low_s : Hid (w.heap.size ≤ u10.heap.size) := by show w.heap.size ≤ u10.heap.size; have := HO.out.size; omega
    replace B_p : Hid (Blk v11 (v1.heap.size) #[.int .i64 m.a.re, .int .i64 m.a.im, .int .i64 m.b.re, .int .i64 m.b.im, .int .i64 m.c.re, .int .i64 m.c.im, .int .i64 m.d.re, .int .i64 m.d.im] 27) := by show Blk v11 (v1.heap.size) _ _; rw [hv]; exact (Blk.alloc B_p.out _)
    replace B_l : Hid (Blk v11 (v1.heap.size + 1) #[.int .i64 l.x.re, .int .i64 l.x.im, .int .i64 l.y.re, .int .i64 l.y.im] 29) := by show Blk v11 (v1.heap.size + 1) _ _; rw [hv]; exact (Blk.alloc B_l.out _)
    replace B_r : Hid (Blk v11 (v3.heap.size) #[.int .i64 0, .int .i64 n.x.re, .int .i64 n.x.im, .int .i64 n.y.re, .int .i64 n.y.im] 33) := by show Blk v11 (v3.heap.size) _ _; rw [hv]; exact (Blk.alloc B_r.out _)
    replace B_i : Hid (Blk v11 (v5.heap.size) #[.int .i64 0, .int .i64 a.i, .int .i64 a.q, .int .i64 a.u, .int .i64 a.v] 38) := by show Blk v11 (v5.heap.size) _ _; rw [hv]; exact (Blk.alloc B_i.out _)
    replace B_o : Hid (Blk v11 (v8.heap.size) #[.int .i64 0, .int .i64 o.i, .int .i64 o.q, .int .i64 o.u, .int .i64 o.v] 38) := by show Blk v11 (v8.heap.size) _ _; rw [hv]; exact (Blk.alloc B_o.out _)
    replace HO : Hid (Below w.heap.size w v11) := by show Below w.heap.size w v11; rw [hv]; exact (below_new HO.out _)
    clear hv
    have s_0 := B_s.out.cell (j := 0) rfl
    have s_1 := B_s.out.cell (j := 1) rfl
    have s_2 := B_s.out.cell (j := 2) rfl
    have s_3 := B_s.out.cell (j := 3) rfl
    have s_f := B_s.out.frozen
    have s_z := B_s.out.lt
    have p_0 := B_p.out.cell (j := 0) rfl
    have p_1 := B_p.out.cell (j := 1) rfl
    have p_2 := B_p.out.cell (j := 2) rfl
    have p_3 := B_p.out.cell (j := 3) rfl
    have p_4 := B_p.out.cell (j := 4) rfl
    have p_5 := B_p.out.cell (j := 5) rfl
    have p_6 := B_p.out.cell (j := 6) rfl
    have p_7 := B_p.out.cell (j := 7) rfl
    have p_f := B_p.out.frozen
    have p_z := B_p.out.lt
    go_wp2_with fail
    refine (itw_0 m HM.out.1 _).mono ?_
    rintro e v12 ⟨t, rfl, hmt, hb⟩
    clear s_0 s_1 s_2 s_3 s_f s_z p_0 p_1 p_2 p_3 p_4 p_5 p_6 p_7 p_f p_z
    replace B_p : Hid (Blk v12 (v1.heap.size) #[.int .i64 m.a.re, .int .i64 m.a.im, .int .i64 m.b.re, .int .i64 m.b.im, .int .i64 m.c.re, .int .i64 m.c.im, .int .i64 m.d.re, .int .i64 m.d.im] 27) := by show Blk v12 (v1.heap.size) _ _; exact Blk.old B_p.out hb
    replace B_l : Hid (Blk v12 (v1.heap.size + 1) #[.int .i64 l.x.re, .int .i64 l.x.im, .int .i64 l.y.re, .int .i64 l.y.im] 29) := by show Blk v12 (v1.heap.size + 1) _ _; exact Blk.old B_l.out hb
    replace B_r : Hid (Blk v12 (v3.heap.size) #[.int .i64 0, .int .i64 n.x.re, .int .i64 n.x.im, .int .i64 n.y.re, .int .i64 n.y.im] 33) := by show Blk v12 (v3.heap.size) _ _; exact Blk.old B_r.out hb
    replace B_i : Hid (Blk v12 (v5.heap.size) #[.int .i64 0, .int .i64 a.i, .int .i64 a.q, .int .i64 a.u, .int .i64 a.v] 38) := by show Blk v12 (v5.heap.size) _ _; exact Blk.old B_i.out hb
    replace B_o : Hid (Blk v12 (v8.heap.size) #[.int .i64 0, .int .i64 o.i, .int .i64 o.q, .int .i64 o.u, .int .i64 o.v] 38) := by show Blk v12 (v8.heap.size) _ _; exact Blk.old B_o.out hb
    replace B_s : Hid (Blk v12 (u10.heap.size) #[.int .i64 a.i, .int .i64 a.q, .int .i64 a.u, .int .i64 a.v] 36) := by show Blk v12 (u10.heap.size) _ _; exact Blk.old B_s.out hb
    replace HO : Hid (Below w.heap.size w v12) := box_step HO.out hb (Nat.le_refl _)
    clear hb
    have KM : Hid (RdMat v12 (.slice (some ⟨t.b, 0, none⟩) 4 t.cap) 4 (fun _ => 4) (tw m)) := hmt.rd
    clear hmt hsq
    go_upto_region 15 with fail
    obtain ⟨v13, hv⟩ : ∃ Xw, Xw = (v12.alloc (.cells #[.int .i64 0, .slice (some ⟨t.b, 0, none⟩) 4 t.cap] 42)) := ⟨_, rfl⟩
    rw [← hv]
    have ne_p_q : Hid (v1.heap.size ≠ v12.heap.size) := Nat.ne_of_lt (Nat.lt_of_lt_of_le B_p.out.lt (by omega))
    have ne_l_q : Hid (v1.heap.size + 1 ≠ v12.heap.size) := Nat.ne_of_lt (Nat.lt_of_lt_of_le B_l.out.lt (by omega))
    have ne_r_q : Hid (v3.heap.size ≠ v12.heap.size) := Nat.ne_of_lt (Nat.lt_of_lt_of_le B_r.out.lt (by omega))
    have ne_i_q : Hid (v5.heap.size ≠ v12.heap.size) := Nat.ne_of_lt (Nat.lt_of_lt_of_le B_i.out.lt (by omega))
    have ne_o_q : Hid (v8.heap.size ≠ v12.heap.size) := Nat.ne_of_lt (Nat.lt_of_lt_of_le B_o.out.lt (by omega))
    have ne_s_q : Hid (u10.heap.size ≠ v12.heap.size) := Nat.ne_of_lt (Nat.lt_of_lt_of_le B_s.out.lt (by omega))
    have B_q : Hid (Blk v13 (v12.heap.size) #[.int .i64 0, .slice (some ⟨t.b, 0, none⟩) 4 t.cap] 42) := by show Blk v13 (v12.heap.size) _ _; rw [hv]; exact (Blk.new (by simp))
    have low_q : Hid (w.heap.size ≤ v12.heap.size) := by show w.heap.size ≤ v12.heap.size; have := HO.out.size; omega
    replace B_p : Hid (Blk v13 (v1.heap.size) #[.int .i64 m.a.re, .int .i64 m.a.im, .int .i64 m.b.re, .int .i64 m.b.im, .int .i64 m.c.re, .int .i64 m.c.im, .int .i64 m.d.re, .int .i64 m.d.im] 27) := by show Blk v13 (v1.heap.size) _ _; rw [hv]; exact (Blk.alloc B_p.out _)
    replace B_l : Hid (Blk v13 (v1.heap.size + 1) #[.int .i64 l.x.re, .int .i64 l.x.im, .int .i64 l.y.re, .int .i64 l.y.im] 29) := by show Blk v13 (v1.heap.size + 1) _ _; rw [hv]; exact (Blk.alloc B_l.out _)
    replace B_r : Hid (Blk v13 (v3.heap.size) #[.int .i64 0, .int .i64 n.x.re, .int .i64 n.x.im, .int .i64 n.y.re, .int .i64 n.y.im] 33) := by show Blk v13 (v3.heap.size) _ _; rw [hv]; exact (Blk.alloc B_r.out _)
    replace B_i : Hid (Blk v13 (v5.heap.size) #[.int .i64 0, .int .i64 a.i, .int .i64 a.q, .int .i64 a.u, .int .i64 a.v] 38) := by show Blk v13 (v5.heap.size) _ _; rw [hv]; exact (Blk.alloc B_i.out _)
    replace B_o : Hid (Blk v13 (v8.heap.size) #[.int .i64 0, .int .i64 o.i, .int .i64 o.q, .int .i64 o.u, .int .i64 o.v] 38) := by show Blk v13 (v8.heap.size) _ _; rw [hv]; exact (Blk.alloc B_o.out _)
    replace B_s : Hid (Blk v13 (u10.heap.size) #[.int .i64 a.i, .int .i64 a.q, .int .i64 a.u, .int .i64 a.v] 36) := by show Blk v13 (u10.heap.size) _ _; rw [hv]; exact (Blk.alloc B_s.out _)
    replace KM : Hid (RdMat v13 (.slice (some ⟨t.b, 0, none⟩) 4 t.cap) 4 (fun _ => 4) (tw m)) := by rw [hv]; exact KM.out.later (by go_grown)
    replace HO : Hid (Below w.heap.size w v13) := by show Below w.heap.size w v13; rw [hv]; exact (below_new HO.out _)
    clear hv
    have q_0 := B_q.out.cell (j := 0) rfl
    have q_1 := B_q.out.cell (j := 1) rfl
    have q_f := B_q.out.frozen
    have q_z := B_q.out.lt
    have s_0 := B_s.out.cell (j := 0) rfl
    have s_1 := B_s.out.cell (j := 1) rfl
    have s_2 := B_s.out.cell (j := 2) rfl
    have s_3 := B_s.out.cell (j := 3) rfl
    have s_f := B_s.out.frozen
    have s_z := B_s.out.lt
    go_wp2_with fail
    refine (sps a KM.out).mono ?_
    rintro e v14 ⟨rfl, hb⟩
    clear q_0 q_1 q_f q_z s_0 s_1 s_2 s_3 s_f s_z
    replace B_p : Hid (Blk v14 (v1.heap.size) #[.int .i64 m.a.re, .int .i64 m.a.im, .int .i64 m.b.re, .int .i64 m.b.im, .int .i64 m.c.re, .int .i64 m.c.im, .int .i64 m.d.re, .int .i64 m.d.im] 27) := by show Blk v14 (v1.heap.size) _ _; exact Blk.old B_p.out hb
    replace B_l : Hid (Blk v14 (v1.heap.size + 1) #[.int .i64 l.x.re, .int .i64 l.x.im, .int .i64 l.y.re, .int .i64 l.y.im] 29) := by show Blk v14 (v1.heap.size + 1) _ _; exact Blk.old B_l.out hb
    replace B_r : Hid (Blk v14 (v3.heap.size) #[.int .i64 0, .int .i64 n.x.re, .int .i64 n.x.im, .int .i64 n.y.re, .int .i64 n.y.im] 33) := by show Blk v14 (v3.heap.size) _ _; exact Blk.old B_r.out hb
    replace B_i : Hid (Blk v14 (v5.heap.size) #[.int .i64 0, .int .i64 a.i, .int .i64 a.q, .int .i64 a.u, .int .i64 a.v] 38) := by show Blk v14 (v5.heap.size) _ _; exact Blk.old B_i.out hb
    replace B_o : Hid (Blk v14 (v8.heap.size) #[.int .i64 0, .int .i64 o.i, .int .i64 o.q, .int .i64 o.u, .int .i64 o.v] 38) := by show Blk v14 (v8.heap.size) _ _; exact Blk.old B_o.out hb
    replace B_s : Hid (Blk v14 (u10.heap.size) #[.int .i64 a.i, .int .i64 a.q, .int .i64 a.u, .int .i64 a.v] 36) := by show Blk v14 (u10.heap.size) _ _; exact Blk.old B_s.out hb
    replace B_q : Hid (Blk v14 (v12.heap.size) #[.int .i64 0, .slice (some ⟨t.b, 0, none⟩) 4 t.cap] 42) := by show Blk v14 (v12.heap.size) _ _; exact Blk.old B_q.out hb
    replace KM : Hid (RdMat v14 (.slice (some ⟨t.b, 0, none⟩) 4 t.cap) 4 (fun _ => 4) (tw m)) := KM.out.later (box_step (B := v13.heap.size) (X := v13) (by go_grown) hb (Nat.le_refl _))
    replace HO : Hid (Below w.heap.size w v14) := box_step HO.out hb (Nat.le_refl _)
    clear hb
    obtain ⟨ct, hct⟩ : ∃ c, c = pcd 4 (fun _ => 4) (tw m) a := ⟨_, rfl⟩
    obtain ⟨kt, hkt⟩ : ∃ k, k = psk 4 (fun _ => 4) (tw m) a := ⟨_, rfl⟩
    rw [← hct, ← hkt]
    have IT : Hid (∀ W, RdMat W (.slice (some ⟨t.b, 0, none⟩) 4 t.cap) 4 (fun _ => 4) (tw m) → Calls Try.prog 24 #[.slice (some ⟨t.b, 0, none⟩) 4 t.cap, .agg #[.int .i64 a.i, .int .i64 a.q, .int .i64 a.u, .int .i64 a.v]] W fun e w' => e = .returned (.agg #[.int .i64 ct, .int .i64 kt.i, .int .i64 kt.q, .int .i64 kt.u, .int .i64 kt.v]) ∧ Below W.heap.size W w') := fun W h => by rw [hct, hkt]; exact ips a h
    have HK : Hid (ct = 0 → kt = o) := fun h => by obtain ⟨_, _, ho, hn, ha, he⟩ := HM.out; subst hn ha he; rw [hkt]; exact pass_alike m l ho (by rw [← hct]; exact h)
    clear hct hkt
    by_cases hz : ct = 0
    · subst hz
      have hko := (HK.out rfl).symm
      clear HK
      subst hko
      go_upto_region 16 with fail
      obtain ⟨v15, hv⟩ : ∃ Xw, Xw = (v14.alloc (.cells #[.int .i64 0, .int .i64 o.i, .int .i64 o.q, .int .i64 o.u, .int .i64 o.v] 38)) := ⟨_, rfl⟩
      rw [← hv]
      have ne_p_t : Hid (v1.heap.size ≠ v14.heap.size) := Nat.ne_of_lt (Nat.lt_of_lt_of_le B_p.out.lt (by omega))
      have ne_l_t : Hid (v1.heap.size + 1 ≠ v14.heap.size) := Nat.ne_of_lt (Nat.lt_of_lt_of_le B_l.out.lt (by omega))
      have ne_r_t : Hid (v3.heap.size ≠ v14.heap.size) := Nat.ne_of_lt (Nat.lt_of_lt_of_le B_r.out.lt (by omega))
      have ne_i_t : Hid (v5.heap.size ≠ v14.heap.size) := Nat.ne_of_lt (Nat.lt_of_lt_of_le B_i.out.lt (by omega))
      have ne_o_t : Hid (v8.heap.size ≠ v14.heap.size) := Nat.ne_of_lt (Nat.lt_of_lt_of_le B_o.out.lt (by omega))
      have ne_s_t : Hid (u10.heap.size ≠ v14.heap.size) := Nat.ne_of_lt (Nat.lt_of_lt_of_le B_s.out.lt (by omega))
      have ne_q_t : Hid (v12.heap.size ≠ v14.heap.size) := Nat.ne_of_lt (Nat.lt_of_lt_of_le B_q.out.lt (by omega))
      have B_t : Hid (Blk v15 (v14.heap.size) #[.int .i64 0, .int .i64 o.i, .int .i64 o.q, .int .i64 o.u, .int .i64 o.v] 38) := by show Blk v15 (v14.heap.size) _ _; rw [hv]; exact (Blk.new (by simp))
      have low_t : Hid (w.heap.size ≤ v14.heap.size) := by show w.heap.size ≤ v14.heap.size; have := HO.out.size; omega
      replace B_p : Hid (Blk v15 (v1.heap.size) #[.int .i64 m.a.re, .int .i64 m.a.im, .int .i64 m.b.re, .int .i64 m.b.im, .int .i64 m.c.re, .int .i64 m.c.im, .int .i64 m.d.re, .int .i64 m.d.im] 27) := by show Blk v15 (v1.heap.size) _ _; rw [hv]; exact (Blk.alloc B_p.out _)
      replace B_l : Hid (Blk v15 (v1.heap.size + 1) #[.int .i64 l.x.re, .int .i64 l.x.im, .int .i64 l.y.re, .int .i64 l.y.im] 29) := by show Blk v15 (v1.heap.size + 1) _ _; rw [hv]; exact (Blk.alloc B_l.out _)
      replace B_r : Hid (Blk v15 (v3.heap.size) #[.int .i64 0, .int .i64 n.x.re, .int .i64 n.x.im, .int .i64 n.y.re, .int .i64 n.y.im] 33) := by show Blk v15 (v3.heap.size) _ _; rw [hv]; exact (Blk.alloc B_r.out _)
      replace B_i : Hid (Blk v15 (v5.heap.size) #[.int .i64 0, .int .i64 a.i, .int .i64 a.q, .int .i64 a.u, .int .i64 a.v] 38) := by show Blk v15 (v5.heap.size) _ _; rw [hv]; exact (Blk.alloc B_i.out _)
      replace B_o : Hid (Blk v15 (v8.heap.size) #[.int .i64 0, .int .i64 o.i, .int .i64 o.q, .int .i64 o.u, .int .i64 o.v] 38) := by show Blk v15 (v8.heap.size) _ _; rw [hv]; exact (Blk.alloc B_o.out _)
      replace B_s : Hid (Blk v15 (u10.heap.size) #[.int .i64 a.i, .int .i64 a.q, .int .i64 a.u, .int .i64 a.v] 36) := by show Blk v15 (u10.heap.size) _ _; rw [hv]; exact (Blk.alloc B_s.out _)
      replace B_q : Hid (Blk v15 (v12.heap.size) #[.int .i64 0, .slice (some ⟨t.b, 0, none⟩) 4 t.cap] 42) := by show Blk v15 (v12.heap.size) _ _; rw [hv]; exact (Blk.alloc B_q.out _)
      replace KM : Hid (RdMat v15 (.slice (some ⟨t.b, 0, none⟩) 4 t.cap) 4 (fun _ => 4) (tw m)) := by rw [hv]; exact KM.out.later (by go_grown)
      replace HO : Hid (Below w.heap.size w v15) := by show Below w.heap.size w v15; rw [hv]; exact (below_new HO.out _)
      clear hv
      have k_q_0 : ∀ x : Kept v15.heap.size v15, x.w.cell? ⟨v12.heap.size, 0, none⟩ = some (.int .i64 0) := fun x => x.cell B_q.out.lt (B_q.out.cell (j := 0) rfl)
      have k_q_1 : ∀ x : Kept v15.heap.size v15, x.w.cell? ⟨v12.heap.size, 1, none⟩ = some (.slice (some ⟨t.b, 0, none⟩) 4 t.cap) := fun x => x.cell B_q.out.lt (B_q.out.cell (j := 1) rfl)
      have k_s_0 : ∀ x : Kept v15.heap.size v15, x.w.cell? ⟨u10.heap.size, 0, none⟩ = some (.int .i64 a.i) := fun x => x.cell B_s.out.lt (B_s.out.cell (j := 0) rfl)
      have k_s_1 : ∀ x : Kept v15.heap.size v15, x.w.cell? ⟨u10.heap.size, 1, none⟩ = some (.int .i64 a.q) := fun x => x.cell B_s.out.lt (B_s.out.cell (j := 1) rfl)
      have k_s_2 : ∀ x : Kept v15.heap.size v15, x.w.cell? ⟨u10.heap.size, 2, none⟩ = some (.int .i64 a.u) := fun x => x.cell B_s.out.lt (B_s.out.cell (j := 2) rfl)
      have k_s_3 : ∀ x : Kept v15.heap.size v15, x.w.cell? ⟨u10.heap.size, 3, none⟩ = some (.int .i64 a.v) := fun x => x.cell B_s.out.lt (B_s.out.cell (j := 3) rfl)
      have k_t_0 : ∀ x : Kept v15.heap.size v15, x.w.cell? ⟨v14.heap.size, 0, none⟩ = some (.int .i64 0) := fun x => x.cell B_t.out.lt (B_t.out.cell (j := 0) rfl)
      have k_t_1 : ∀ x : Kept v15.heap.size v15, x.w.cell? ⟨v14.heap.size, 1, none⟩ = some (.int .i64 o.i) := fun x => x.cell B_t.out.lt (B_t.out.cell (j := 1) rfl)
      have k_t_2 : ∀ x : Kept v15.heap.size v15, x.w.cell? ⟨v14.heap.size, 2, none⟩ = some (.int .i64 o.q) := fun x => x.cell B_t.out.lt (B_t.out.cell (j := 2) rfl)
      have k_t_3 : ∀ x : Kept v15.heap.size v15, x.w.cell? ⟨v14.heap.size, 3, none⟩ = some (.int .i64 o.u) := fun x => x.cell B_t.out.lt (B_t.out.cell (j := 3) rfl)
      have k_t_4 : ∀ x : Kept v15.heap.size v15, x.w.cell? ⟨v14.heap.size, 4, none⟩ = some (.int .i64 o.v) := fun x => x.cell B_t.out.lt (B_t.out.cell (j := 4) rfl)
      have k_o_0 : ∀ x : Kept v15.heap.size v15, x.w.cell? ⟨v8.heap.size, 0, none⟩ = some (.int .i64 0) := fun x => x.cell B_o.out.lt (B_o.out.cell (j := 0) rfl)
      have k_o_1 : ∀ x : Kept v15.heap.size v15, x.w.cell? ⟨v8.heap.size, 1, none⟩ = some (.int .i64 o.i) := fun x => x.cell B_o.out.lt (B_o.out.cell (j := 1) rfl)
      have k_o_2 : ∀ x : Kept v15.heap.size v15, x.w.cell? ⟨v8.heap.size, 2, none⟩ = some (.int .i64 o.q) := fun x => x.cell B_o.out.lt (B_o.out.cell (j := 2) rfl)
      have k_o_3 : ∀ x : Kept v15.heap.size v15, x.w.cell? ⟨v8.heap.size, 3, none⟩ = some (.int .i64 o.u) := fun x => x.cell B_o.out.lt (B_o.out.cell (j := 3) rfl)
      have k_o_4 : ∀ x : Kept v15.heap.size v15, x.w.cell? ⟨v8.heap.size, 4, none⟩ = some (.int .i64 o.v) := fun x => x.cell B_o.out.lt (B_o.out.cell (j := 4) rfl)
      have hn36 := neq36_same o
      refine wp_region_kept v15.heap.size (by kernel_rfl) (by kernel_rfl) ?_
      intro hne
      repeat (go_big_quiet_step (first | (go_at_call 24; exact Calls.kept_of (Nat.le_refl _) (IT.out _ (KM.out.later (Kept.h _))))))
      refine wpQuiet_nil ?_
      rintro u16 ⟨xk, hxk⟩
      have hR1 := xk.h
      rw [← hxk] at hR1
      clear hxk xk hne k_q_0 k_q_1 k_s_0 k_s_1 k_s_2 k_s_3 k_t_0 k_t_1 k_t_2 k_t_3 k_t_4 k_o_0 k_o_1 k_o_2 k_o_3 k_o_4
      replace B_p : Hid (Blk u16 (v1.heap.size) #[.int .i64 m.a.re, .int .i64 m.a.im, .int .i64 m.b.re, .int .i64 m.b.im, .int .i64 m.c.re, .int .i64 m.c.im, .int .i64 m.d.re, .int .i64 m.d.im] 27) := by show Blk u16 (v1.heap.size) _ _; exact Blk.old B_p.out hR1
      replace B_l : Hid (Blk u16 (v1.heap.size + 1) #[.int .i64 l.x.re, .int .i64 l.x.im, .int .i64 l.y.re, .int .i64 l.y.im] 29) := by show Blk u16 (v1.heap.size + 1) _ _; exact Blk.old B_l.out hR1
      replace B_r : Hid (Blk u16 (v3.heap.size) #[.int .i64 0, .int .i64 n.x.re, .int .i64 n.x.im, .int .i64 n.y.re, .int .i64 n.y.im] 33) := by show Blk u16 (v3.heap.size) _ _; exact Blk.old B_r.out hR1
      replace B_i : Hid (Blk u16 (v5.heap.size) #[.int .i64 0, .int .i64 a.i, .int .i64 a.q, .int .i64 a.u, .int .i64 a.v] 38) := by show Blk u16 (v5.heap.size) _ _; exact Blk.old B_i.out hR1
      replace B_o : Hid (Blk u16 (v8.heap.size) #[.int .i64 0, .int .i64 o.i, .int .i64 o.q, .int .i64 o.u, .int .i64 o.v] 38) := by show Blk u16 (v8.heap.size) _ _; exact Blk.old B_o.out hR1
      replace B_s : Hid (Blk u16 (u10.heap.size) #[.int .i64 a.i, .int .i64 a.q, .int .i64 a.u, .int .i64 a.v] 36) := by show Blk u16 (u10.heap.size) _ _; exact Blk.old B_s.out hR1
      replace B_q : Hid (Blk u16 (v12.heap.size) #[.int .i64 0, .slice (some ⟨t.b, 0, none⟩) 4 t.cap] 42) := by show Blk u16 (v12.heap.size) _ _; exact Blk.old B_q.out hR1
      replace B_t : Hid (Blk u16 (v14.heap.size) #[.int .i64 0, .int .i64 o.i, .int .i64 o.q, .int .i64 o.u, .int .i64 o.v] 38) := by show Blk u16 (v14.heap.size) _ _; exact Blk.old B_t.out hR1
      replace HO : Hid (Below w.heap.size w u16) := HO.out.trans (hR1.mono HO.out.size)
      clear hR1
      clear hn36 IT KM
      have s_0 := B_s.out.cell (j := 0) rfl
      have s_1 := B_s.out.cell (j := 1) rfl
      have s_2 := B_s.out.cell (j := 2) rfl
      have s_3 := B_s.out.cell (j := 3) rfl
      have s_f := B_s.out.frozen
      have s_z := B_s.out.lt
      go_wp2_with fail
      refine (sjf a _).mono ?_
      rintro e v17 ⟨c, f, rfl, hJ, hb⟩
      clear s_0 s_1 s_2 s_3 s_f s_z
      replace B_p : Hid (Blk v17 (v1.heap.size) #[.int .i64 m.a.re, .int .i64 m.a.im, .int .i64 m.b.re, .int .i64 m.b.im, .int .i64 m.c.re, .int .i64 m.c.im, .int .i64 m.d.re, .int .i64 m.d.im] 27) := by show Blk v17 (v1.heap.size) _ _; exact Blk.old B_p.out hb
      replace B_l : Hid (Blk v17 (v1.heap.size + 1) #[.int .i64 l.x.re, .int .i64 l.x.im, .int .i64 l.y.re, .int .i64 l.y.im] 29) := by show Blk v17 (v1.heap.size + 1) _ _; exact Blk.old B_l.out hb
      replace B_r : Hid (Blk v17 (v3.heap.size) #[.int .i64 0, .int .i64 n.x.re, .int .i64 n.x.im, .int .i64 n.y.re, .int .i64 n.y.im] 33) := by show Blk v17 (v3.heap.size) _ _; exact Blk.old B_r.out hb
      replace B_i : Hid (Blk v17 (v5.heap.size) #[.int .i64 0, .int .i64 a.i, .int .i64 a.q, .int .i64 a.u, .int .i64 a.v] 38) := by show Blk v17 (v5.heap.size) _ _; exact Blk.old B_i.out hb
      replace B_o : Hid (Blk v17 (v8.heap.size) #[.int .i64 0, .int .i64 o.i, .int .i64 o.q, .int .i64 o.u, .int .i64 o.v] 38) := by show Blk v17 (v8.heap.size) _ _; exact Blk.old B_o.out hb
      replace B_s : Hid (Blk v17 (u10.heap.size) #[.int .i64 a.i, .int .i64 a.q, .int .i64 a.u, .int .i64 a.v] 36) := by show Blk v17 (u10.heap.size) _ _; exact Blk.old B_s.out hb
      replace B_q : Hid (Blk v17 (v12.heap.size) #[.int .i64 0, .slice (some ⟨t.b, 0, none⟩) 4 t.cap] 42) := by show Blk v17 (v12.heap.size) _ _; exact Blk.old B_q.out hb
      replace B_t : Hid (Blk v17 (v14.heap.size) #[.int .i64 0, .int .i64 o.i, .int .i64 o.q, .int .i64 o.u, .int .i64 o.v] 38) := by show Blk v17 (v14.heap.size) _ _; exact Blk.old B_t.out hb
      replace HO : Hid (Below w.heap.size w v17) := box_step HO.out hb (Nat.le_refl _)
      clear hb
      replace hJ : Hid (JAns a c f) := hJ
      by_cases hc0 : c = 0
      · subst hc0
        go_upto_region 19 with fail
        obtain ⟨v18, hv⟩ : ∃ Xw, Xw = (v17.alloc (.cells #[.int .i64 0, .int .i64 f.x.re, .int .i64 f.x.im, .int .i64 f.y.re, .int .i64 f.y.im] 33)) := ⟨_, rfl⟩
        rw [← hv]
        have ne_p_f : Hid (v1.heap.size ≠ v17.heap.size) := Nat.ne_of_lt (Nat.lt_of_lt_of_le B_p.out.lt (by omega))
        have ne_l_f : Hid (v1.heap.size + 1 ≠ v17.heap.size) := Nat.ne_of_lt (Nat.lt_of_lt_of_le B_l.out.lt (by omega))
        have ne_r_f : Hid (v3.heap.size ≠ v17.heap.size) := Nat.ne_of_lt (Nat.lt_of_lt_of_le B_r.out.lt (by omega))
        have ne_i_f : Hid (v5.heap.size ≠ v17.heap.size) := Nat.ne_of_lt (Nat.lt_of_lt_of_le B_i.out.lt (by omega))
        have ne_o_f : Hid (v8.heap.size ≠ v17.heap.size) := Nat.ne_of_lt (Nat.lt_of_lt_of_le B_o.out.lt (by omega))
        have ne_s_f : Hid (u10.heap.size ≠ v17.heap.size) := Nat.ne_of_lt (Nat.lt_of_lt_of_le B_s.out.lt (by omega))
        have ne_q_f : Hid (v12.heap.size ≠ v17.heap.size) := Nat.ne_of_lt (Nat.lt_of_lt_of_le B_q.out.lt (by omega))
        have ne_t_f : Hid (v14.heap.size ≠ v17.heap.size) := Nat.ne_of_lt (Nat.lt_of_lt_of_le B_t.out.lt (by omega))
        have B_f : Hid (Blk v18 (v17.heap.size) #[.int .i64 0, .int .i64 f.x.re, .int .i64 f.x.im, .int .i64 f.y.re, .int .i64 f.y.im] 33) := by show Blk v18 (v17.heap.size) _ _; rw [hv]; exact (Blk.new (by simp))
        have low_f : Hid (w.heap.size ≤ v17.heap.size) := by show w.heap.size ≤ v17.heap.size; have := HO.out.size; omega
        replace B_p : Hid (Blk v18 (v1.heap.size) #[.int .i64 m.a.re, .int .i64 m.a.im, .int .i64 m.b.re, .int .i64 m.b.im, .int .i64 m.c.re, .int .i64 m.c.im, .int .i64 m.d.re, .int .i64 m.d.im] 27) := by show Blk v18 (v1.heap.size) _ _; rw [hv]; exact (Blk.alloc B_p.out _)
        replace B_l : Hid (Blk v18 (v1.heap.size + 1) #[.int .i64 l.x.re, .int .i64 l.x.im, .int .i64 l.y.re, .int .i64 l.y.im] 29) := by show Blk v18 (v1.heap.size + 1) _ _; rw [hv]; exact (Blk.alloc B_l.out _)
        replace B_r : Hid (Blk v18 (v3.heap.size) #[.int .i64 0, .int .i64 n.x.re, .int .i64 n.x.im, .int .i64 n.y.re, .int .i64 n.y.im] 33) := by show Blk v18 (v3.heap.size) _ _; rw [hv]; exact (Blk.alloc B_r.out _)
        replace B_i : Hid (Blk v18 (v5.heap.size) #[.int .i64 0, .int .i64 a.i, .int .i64 a.q, .int .i64 a.u, .int .i64 a.v] 38) := by show Blk v18 (v5.heap.size) _ _; rw [hv]; exact (Blk.alloc B_i.out _)
        replace B_o : Hid (Blk v18 (v8.heap.size) #[.int .i64 0, .int .i64 o.i, .int .i64 o.q, .int .i64 o.u, .int .i64 o.v] 38) := by show Blk v18 (v8.heap.size) _ _; rw [hv]; exact (Blk.alloc B_o.out _)
        replace B_s : Hid (Blk v18 (u10.heap.size) #[.int .i64 a.i, .int .i64 a.q, .int .i64 a.u, .int .i64 a.v] 36) := by show Blk v18 (u10.heap.size) _ _; rw [hv]; exact (Blk.alloc B_s.out _)
        replace B_q : Hid (Blk v18 (v12.heap.size) #[.int .i64 0, .slice (some ⟨t.b, 0, none⟩) 4 t.cap] 42) := by show Blk v18 (v12.heap.size) _ _; rw [hv]; exact (Blk.alloc B_q.out _)
        replace B_t : Hid (Blk v18 (v14.heap.size) #[.int .i64 0, .int .i64 o.i, .int .i64 o.q, .int .i64 o.u, .int .i64 o.v] 38) := by show Blk v18 (v14.heap.size) _ _; rw [hv]; exact (Blk.alloc B_t.out _)
        replace HO : Hid (Below w.heap.size w v18) := by show Below w.heap.size w v18; rw [hv]; exact (below_new HO.out _)
        clear hv
        have f_0 := B_f.out.cell (j := 0) rfl
        have f_1 := B_f.out.cell (j := 1) rfl
        have f_2 := B_f.out.cell (j := 2) rfl
        have f_3 := B_f.out.cell (j := 3) rfl
        have f_4 := B_f.out.cell (j := 4) rfl
        have f_f := B_f.out.frozen
        have f_z := B_f.out.lt
        have s_0 := B_s.out.cell (j := 0) rfl
        have s_1 := B_s.out.cell (j := 1) rfl
        have s_2 := B_s.out.cell (j := 2) rfl
        have s_3 := B_s.out.cell (j := 3) rfl
        have s_f := B_s.out.frozen
        have s_z := B_s.out.lt
        go_wp2_with fail
        refine (ijf a _).mono ?_
        rintro e v19 ⟨d, k, rfl, hK, hb⟩
        clear f_0 f_1 f_2 f_3 f_4 f_f f_z s_0 s_1 s_2 s_3 s_f s_z
        replace B_p : Hid (Blk v19 (v1.heap.size) #[.int .i64 m.a.re, .int .i64 m.a.im, .int .i64 m.b.re, .int .i64 m.b.im, .int .i64 m.c.re, .int .i64 m.c.im, .int .i64 m.d.re, .int .i64 m.d.im] 27) := by show Blk v19 (v1.heap.size) _ _; exact Blk.old B_p.out hb
        replace B_l : Hid (Blk v19 (v1.heap.size + 1) #[.int .i64 l.x.re, .int .i64 l.x.im, .int .i64 l.y.re, .int .i64 l.y.im] 29) := by show Blk v19 (v1.heap.size + 1) _ _; exact Blk.old B_l.out hb
        replace B_r : Hid (Blk v19 (v3.heap.size) #[.int .i64 0, .int .i64 n.x.re, .int .i64 n.x.im, .int .i64 n.y.re, .int .i64 n.y.im] 33) := by show Blk v19 (v3.heap.size) _ _; exact Blk.old B_r.out hb
        replace B_i : Hid (Blk v19 (v5.heap.size) #[.int .i64 0, .int .i64 a.i, .int .i64 a.q, .int .i64 a.u, .int .i64 a.v] 38) := by show Blk v19 (v5.heap.size) _ _; exact Blk.old B_i.out hb
        replace B_o : Hid (Blk v19 (v8.heap.size) #[.int .i64 0, .int .i64 o.i, .int .i64 o.q, .int .i64 o.u, .int .i64 o.v] 38) := by show Blk v19 (v8.heap.size) _ _; exact Blk.old B_o.out hb
        replace B_s : Hid (Blk v19 (u10.heap.size) #[.int .i64 a.i, .int .i64 a.q, .int .i64 a.u, .int .i64 a.v] 36) := by show Blk v19 (u10.heap.size) _ _; exact Blk.old B_s.out hb
        replace B_q : Hid (Blk v19 (v12.heap.size) #[.int .i64 0, .slice (some ⟨t.b, 0, none⟩) 4 t.cap] 42) := by show Blk v19 (v12.heap.size) _ _; exact Blk.old B_q.out hb
        replace B_t : Hid (Blk v19 (v14.heap.size) #[.int .i64 0, .int .i64 o.i, .int .i64 o.q, .int .i64 o.u, .int .i64 o.v] 38) := by show Blk v19 (v14.heap.size) _ _; exact Blk.old B_t.out hb
        replace B_f : Hid (Blk v19 (v17.heap.size) #[.int .i64 0, .int .i64 f.x.re, .int .i64 f.x.im, .int .i64 f.y.re, .int .i64 f.y.im] 33) := by show Blk v19 (v17.heap.size) _ _; exact Blk.old B_f.out hb
        replace HO : Hid (Below w.heap.size w v19) := box_step HO.out hb (Nat.le_refl _)
        clear hb
        obtain ⟨rfl, rfl⟩ := hJ.out.uniq hK
        clear hK
        have IF : Hid (∀ W, Calls Try.prog 20 #[.agg #[.int .i64 f.x.re, .int .i64 f.x.im, .int .i64 f.y.re, .int .i64 f.y.im]] W fun e w' => e = .returned (.agg #[.int .i64 0, .int .i64 a.i, .int .i64 a.q, .int .i64 a.u, .int .i64 a.v]) ∧ Below W.heap.size W w') := fun W => by have h := iso f W; rw [hJ.out.found.2, hJ.out.found.1.code] at h; exact h
        go_upto_region 21 with fail
        obtain ⟨v20, hv⟩ : ∃ Xw, Xw = (v19.alloc (.cells #[.int .i64 0, .int .i64 f.x.re, .int .i64 f.x.im, .int .i64 f.y.re, .int .i64 f.y.im] 33)) := ⟨_, rfl⟩
        rw [← hv]
        have ne_p_g : Hid (v1.heap.size ≠ v19.heap.size) := Nat.ne_of_lt (Nat.lt_of_lt_of_le B_p.out.lt (by omega))
        have ne_l_g : Hid (v1.heap.size + 1 ≠ v19.heap.size) := Nat.ne_of_lt (Nat.lt_of_lt_of_le B_l.out.lt (by omega))
        have ne_r_g : Hid (v3.heap.size ≠ v19.heap.size) := Nat.ne_of_lt (Nat.lt_of_lt_of_le B_r.out.lt (by omega))
        have ne_i_g : Hid (v5.heap.size ≠ v19.heap.size) := Nat.ne_of_lt (Nat.lt_of_lt_of_le B_i.out.lt (by omega))
        have ne_o_g : Hid (v8.heap.size ≠ v19.heap.size) := Nat.ne_of_lt (Nat.lt_of_lt_of_le B_o.out.lt (by omega))
        have ne_s_g : Hid (u10.heap.size ≠ v19.heap.size) := Nat.ne_of_lt (Nat.lt_of_lt_of_le B_s.out.lt (by omega))
        have ne_q_g : Hid (v12.heap.size ≠ v19.heap.size) := Nat.ne_of_lt (Nat.lt_of_lt_of_le B_q.out.lt (by omega))
        have ne_t_g : Hid (v14.heap.size ≠ v19.heap.size) := Nat.ne_of_lt (Nat.lt_of_lt_of_le B_t.out.lt (by omega))
        have ne_f_g : Hid (v17.heap.size ≠ v19.heap.size) := Nat.ne_of_lt (Nat.lt_of_lt_of_le B_f.out.lt (by omega))
        have B_g : Hid (Blk v20 (v19.heap.size) #[.int .i64 0, .int .i64 f.x.re, .int .i64 f.x.im, .int .i64 f.y.re, .int .i64 f.y.im] 33) := by show Blk v20 (v19.heap.size) _ _; rw [hv]; exact (Blk.new (by simp))
        have low_g : Hid (w.heap.size ≤ v19.heap.size) := by show w.heap.size ≤ v19.heap.size; have := HO.out.size; omega
        replace B_p : Hid (Blk v20 (v1.heap.size) #[.int .i64 m.a.re, .int .i64 m.a.im, .int .i64 m.b.re, .int .i64 m.b.im, .int .i64 m.c.re, .int .i64 m.c.im, .int .i64 m.d.re, .int .i64 m.d.im] 27) := by show Blk v20 (v1.heap.size) _ _; rw [hv]; exact (Blk.alloc B_p.out _)
        replace B_l : Hid (Blk v20 (v1.heap.size + 1) #[.int .i64 l.x.re, .int .i64 l.x.im, .int .i64 l.y.re, .int .i64 l.y.im] 29) := by show Blk v20 (v1.heap.size + 1) _ _; rw [hv]; exact (Blk.alloc B_l.out _)
        replace B_r : Hid (Blk v20 (v3.heap.size) #[.int .i64 0, .int .i64 n.x.re, .int .i64 n.x.im, .int .i64 n.y.re, .int .i64 n.y.im] 33) := by show Blk v20 (v3.heap.size) _ _; rw [hv]; exact (Blk.alloc B_r.out _)
        replace B_i : Hid (Blk v20 (v5.heap.size) #[.int .i64 0, .int .i64 a.i, .int .i64 a.q, .int .i64 a.u, .int .i64 a.v] 38) := by show Blk v20 (v5.heap.size) _ _; rw [hv]; exact (Blk.alloc B_i.out _)
        replace B_o : Hid (Blk v20 (v8.heap.size) #[.int .i64 0, .int .i64 o.i, .int .i64 o.q, .int .i64 o.u, .int .i64 o.v] 38) := by show Blk v20 (v8.heap.size) _ _; rw [hv]; exact (Blk.alloc B_o.out _)
        replace B_s : Hid (Blk v20 (u10.heap.size) #[.int .i64 a.i, .int .i64 a.q, .int .i64 a.u, .int .i64 a.v] 36) := by show Blk v20 (u10.heap.size) _ _; rw [hv]; exact (Blk.alloc B_s.out _)
        replace B_q : Hid (Blk v20 (v12.heap.size) #[.int .i64 0, .slice (some ⟨t.b, 0, none⟩) 4 t.cap] 42) := by show Blk v20 (v12.heap.size) _ _; rw [hv]; exact (Blk.alloc B_q.out _)
        replace B_t : Hid (Blk v20 (v14.heap.size) #[.int .i64 0, .int .i64 o.i, .int .i64 o.q, .int .i64 o.u, .int .i64 o.v] 38) := by show Blk v20 (v14.heap.size) _ _; rw [hv]; exact (Blk.alloc B_t.out _)
        replace B_f : Hid (Blk v20 (v17.heap.size) #[.int .i64 0, .int .i64 f.x.re, .int .i64 f.x.im, .int .i64 f.y.re, .int .i64 f.y.im] 33) := by show Blk v20 (v17.heap.size) _ _; rw [hv]; exact (Blk.alloc B_f.out _)
        replace HO : Hid (Below w.heap.size w v20) := by show Below w.heap.size w v20; rw [hv]; exact (below_new HO.out _)
        clear hv
        have k_g_0 : ∀ x : Kept v20.heap.size v20, x.w.cell? ⟨v19.heap.size, 0, none⟩ = some (.int .i64 0) := fun x => x.cell B_g.out.lt (B_g.out.cell (j := 0) rfl)
        have k_g_1 : ∀ x : Kept v20.heap.size v20, x.w.cell? ⟨v19.heap.size, 1, none⟩ = some (.int .i64 f.x.re) := fun x => x.cell B_g.out.lt (B_g.out.cell (j := 1) rfl)
        have k_g_2 : ∀ x : Kept v20.heap.size v20, x.w.cell? ⟨v19.heap.size, 2, none⟩ = some (.int .i64 f.x.im) := fun x => x.cell B_g.out.lt (B_g.out.cell (j := 2) rfl)
        have k_g_3 : ∀ x : Kept v20.heap.size v20, x.w.cell? ⟨v19.heap.size, 3, none⟩ = some (.int .i64 f.y.re) := fun x => x.cell B_g.out.lt (B_g.out.cell (j := 3) rfl)
        have k_g_4 : ∀ x : Kept v20.heap.size v20, x.w.cell? ⟨v19.heap.size, 4, none⟩ = some (.int .i64 f.y.im) := fun x => x.cell B_g.out.lt (B_g.out.cell (j := 4) rfl)
        have k_s_0 : ∀ x : Kept v20.heap.size v20, x.w.cell? ⟨u10.heap.size, 0, none⟩ = some (.int .i64 a.i) := fun x => x.cell B_s.out.lt (B_s.out.cell (j := 0) rfl)
        have k_s_1 : ∀ x : Kept v20.heap.size v20, x.w.cell? ⟨u10.heap.size, 1, none⟩ = some (.int .i64 a.q) := fun x => x.cell B_s.out.lt (B_s.out.cell (j := 1) rfl)
        have k_s_2 : ∀ x : Kept v20.heap.size v20, x.w.cell? ⟨u10.heap.size, 2, none⟩ = some (.int .i64 a.u) := fun x => x.cell B_s.out.lt (B_s.out.cell (j := 2) rfl)
        have k_s_3 : ∀ x : Kept v20.heap.size v20, x.w.cell? ⟨u10.heap.size, 3, none⟩ = some (.int .i64 a.v) := fun x => x.cell B_s.out.lt (B_s.out.cell (j := 3) rfl)
        have hn36 := neq36_same a
        refine wp_region_kept v20.heap.size (by kernel_rfl) (by kernel_rfl) ?_
        intro hne
        repeat (go_big_quiet_step (first | (go_at_call 20; exact Calls.kept_of (Nat.le_refl _) (IF.out _))))
        refine wpQuiet_nil ?_
        rintro u21 ⟨xk, hxk⟩
        have hR1 := xk.h
        rw [← hxk] at hR1
        clear hxk xk hne k_g_0 k_g_1 k_g_2 k_g_3 k_g_4 k_s_0 k_s_1 k_s_2 k_s_3
        replace B_p : Hid (Blk u21 (v1.heap.size) #[.int .i64 m.a.re, .int .i64 m.a.im, .int .i64 m.b.re, .int .i64 m.b.im, .int .i64 m.c.re, .int .i64 m.c.im, .int .i64 m.d.re, .int .i64 m.d.im] 27) := by show Blk u21 (v1.heap.size) _ _; exact Blk.old B_p.out hR1
        replace B_l : Hid (Blk u21 (v1.heap.size + 1) #[.int .i64 l.x.re, .int .i64 l.x.im, .int .i64 l.y.re, .int .i64 l.y.im] 29) := by show Blk u21 (v1.heap.size + 1) _ _; exact Blk.old B_l.out hR1
        replace B_r : Hid (Blk u21 (v3.heap.size) #[.int .i64 0, .int .i64 n.x.re, .int .i64 n.x.im, .int .i64 n.y.re, .int .i64 n.y.im] 33) := by show Blk u21 (v3.heap.size) _ _; exact Blk.old B_r.out hR1
        replace B_i : Hid (Blk u21 (v5.heap.size) #[.int .i64 0, .int .i64 a.i, .int .i64 a.q, .int .i64 a.u, .int .i64 a.v] 38) := by show Blk u21 (v5.heap.size) _ _; exact Blk.old B_i.out hR1
        replace B_o : Hid (Blk u21 (v8.heap.size) #[.int .i64 0, .int .i64 o.i, .int .i64 o.q, .int .i64 o.u, .int .i64 o.v] 38) := by show Blk u21 (v8.heap.size) _ _; exact Blk.old B_o.out hR1
        replace B_s : Hid (Blk u21 (u10.heap.size) #[.int .i64 a.i, .int .i64 a.q, .int .i64 a.u, .int .i64 a.v] 36) := by show Blk u21 (u10.heap.size) _ _; exact Blk.old B_s.out hR1
        replace B_q : Hid (Blk u21 (v12.heap.size) #[.int .i64 0, .slice (some ⟨t.b, 0, none⟩) 4 t.cap] 42) := by show Blk u21 (v12.heap.size) _ _; exact Blk.old B_q.out hR1
        replace B_t : Hid (Blk u21 (v14.heap.size) #[.int .i64 0, .int .i64 o.i, .int .i64 o.q, .int .i64 o.u, .int .i64 o.v] 38) := by show Blk u21 (v14.heap.size) _ _; exact Blk.old B_t.out hR1
        replace B_f : Hid (Blk u21 (v17.heap.size) #[.int .i64 0, .int .i64 f.x.re, .int .i64 f.x.im, .int .i64 f.y.re, .int .i64 f.y.im] 33) := by show Blk u21 (v17.heap.size) _ _; exact Blk.old B_f.out hR1
        replace B_g : Hid (Blk u21 (v19.heap.size) #[.int .i64 0, .int .i64 f.x.re, .int .i64 f.x.im, .int .i64 f.y.re, .int .i64 f.y.im] 33) := by show Blk u21 (v19.heap.size) _ _; exact Blk.old B_g.out hR1
        replace HO : Hid (Below w.heap.size w u21) := HO.out.trans (hR1.mono HO.out.size)
        clear hR1
        clear hn36 IF
        by_cases e1 : l.x.im = 0
        · have d1 : (l.x.im == 0) = true := by simpa using e1
          by_cases e2 : 0 < l.x.re
          · have d2 : decide (0 < l.x.re) = true := by simpa using e2
            have l_0 := B_l.out.cell (j := 0) rfl
            have l_1 := B_l.out.cell (j := 1) rfl
            have l_2 := B_l.out.cell (j := 2) rfl
            have l_3 := B_l.out.cell (j := 3) rfl
            have l_f := B_l.out.frozen
            have l_z := B_l.out.lt
            have s_0 := B_s.out.cell (j := 0) rfl
            have s_1 := B_s.out.cell (j := 1) rfl
            have s_2 := B_s.out.cell (j := 2) rfl
            have s_3 := B_s.out.cell (j := 3) rfl
            have s_f := B_s.out.frozen
            have s_z := B_s.out.lt
            go_wp2_with fail
            refine (sstokF a _).mono ?_
            rintro e v22 ⟨rfl, hb⟩
            clear l_0 l_1 l_2 l_3 l_f l_z s_0 s_1 s_2 s_3 s_f s_z
            replace B_p : Hid (Blk v22 (v1.heap.size) #[.int .i64 m.a.re, .int .i64 m.a.im, .int .i64 m.b.re, .int .i64 m.b.im, .int .i64 m.c.re, .int .i64 m.c.im, .int .i64 m.d.re, .int .i64 m.d.im] 27) := by show Blk v22 (v1.heap.size) _ _; exact Blk.old B_p.out hb
            replace B_l : Hid (Blk v22 (v1.heap.size + 1) #[.int .i64 l.x.re, .int .i64 l.x.im, .int .i64 l.y.re, .int .i64 l.y.im] 29) := by show Blk v22 (v1.heap.size + 1) _ _; exact Blk.old B_l.out hb
            replace B_r : Hid (Blk v22 (v3.heap.size) #[.int .i64 0, .int .i64 n.x.re, .int .i64 n.x.im, .int .i64 n.y.re, .int .i64 n.y.im] 33) := by show Blk v22 (v3.heap.size) _ _; exact Blk.old B_r.out hb
            replace B_i : Hid (Blk v22 (v5.heap.size) #[.int .i64 0, .int .i64 a.i, .int .i64 a.q, .int .i64 a.u, .int .i64 a.v] 38) := by show Blk v22 (v5.heap.size) _ _; exact Blk.old B_i.out hb
            replace B_o : Hid (Blk v22 (v8.heap.size) #[.int .i64 0, .int .i64 o.i, .int .i64 o.q, .int .i64 o.u, .int .i64 o.v] 38) := by show Blk v22 (v8.heap.size) _ _; exact Blk.old B_o.out hb
            replace B_s : Hid (Blk v22 (u10.heap.size) #[.int .i64 a.i, .int .i64 a.q, .int .i64 a.u, .int .i64 a.v] 36) := by show Blk v22 (u10.heap.size) _ _; exact Blk.old B_s.out hb
            replace B_q : Hid (Blk v22 (v12.heap.size) #[.int .i64 0, .slice (some ⟨t.b, 0, none⟩) 4 t.cap] 42) := by show Blk v22 (v12.heap.size) _ _; exact Blk.old B_q.out hb
            replace B_t : Hid (Blk v22 (v14.heap.size) #[.int .i64 0, .int .i64 o.i, .int .i64 o.q, .int .i64 o.u, .int .i64 o.v] 38) := by show Blk v22 (v14.heap.size) _ _; exact Blk.old B_t.out hb
            replace B_f : Hid (Blk v22 (v17.heap.size) #[.int .i64 0, .int .i64 f.x.re, .int .i64 f.x.im, .int .i64 f.y.re, .int .i64 f.y.im] 33) := by show Blk v22 (v17.heap.size) _ _; exact Blk.old B_f.out hb
            replace B_g : Hid (Blk v22 (v19.heap.size) #[.int .i64 0, .int .i64 f.x.re, .int .i64 f.x.im, .int .i64 f.y.re, .int .i64 f.y.im] 33) := by show Blk v22 (v19.heap.size) _ _; exact Blk.old B_g.out hb
            replace HO : Hid (Below w.heap.size w v22) := box_step HO.out hb (Nat.le_refl _)
            clear hb
            by_cases e3 : scode a = 0
            · skip
              have IJ : Hid (∀ W, Calls Try.prog 26 #[.agg #[.int .i64 a.i, .int .i64 a.q, .int .i64 a.u, .int .i64 a.v]] W fun e w' => e = .returned (.agg #[.int .i64 0, .int .i64 l.x.re, .int .i64 l.x.im, .int .i64 l.y.re, .int .i64 l.y.im]) ∧ Below W.heap.size W w') := fun W => by refine (ijf a W).mono ?_; rintro e w1 ⟨d, k, rfl, hK, hb⟩; obtain ⟨_, hj, _, _, rfl, _⟩ := HM.out; obtain ⟨rfl, rfl⟩ := hK.uniq (found_again hj e1 e2 e3); exact ⟨rfl, hb⟩
              rw [e3]
              clear e1 e2 e3
              go_upto_region 24 with fail
              have k_l_0 : ∀ x : Kept v22.heap.size v22, x.w.cell? ⟨v1.heap.size + 1, 0, none⟩ = some (.int .i64 l.x.re) := fun x => x.cell B_l.out.lt (B_l.out.cell (j := 0) rfl)
              have k_l_1 : ∀ x : Kept v22.heap.size v22, x.w.cell? ⟨v1.heap.size + 1, 1, none⟩ = some (.int .i64 l.x.im) := fun x => x.cell B_l.out.lt (B_l.out.cell (j := 1) rfl)
              have k_l_2 : ∀ x : Kept v22.heap.size v22, x.w.cell? ⟨v1.heap.size + 1, 2, none⟩ = some (.int .i64 l.y.re) := fun x => x.cell B_l.out.lt (B_l.out.cell (j := 2) rfl)
              have k_l_3 : ∀ x : Kept v22.heap.size v22, x.w.cell? ⟨v1.heap.size + 1, 3, none⟩ = some (.int .i64 l.y.im) := fun x => x.cell B_l.out.lt (B_l.out.cell (j := 3) rfl)
              have k_s_0 : ∀ x : Kept v22.heap.size v22, x.w.cell? ⟨u10.heap.size, 0, none⟩ = some (.int .i64 a.i) := fun x => x.cell B_s.out.lt (B_s.out.cell (j := 0) rfl)
              have k_s_1 : ∀ x : Kept v22.heap.size v22, x.w.cell? ⟨u10.heap.size, 1, none⟩ = some (.int .i64 a.q) := fun x => x.cell B_s.out.lt (B_s.out.cell (j := 1) rfl)
              have k_s_2 : ∀ x : Kept v22.heap.size v22, x.w.cell? ⟨u10.heap.size, 2, none⟩ = some (.int .i64 a.u) := fun x => x.cell B_s.out.lt (B_s.out.cell (j := 2) rfl)
              have k_s_3 : ∀ x : Kept v22.heap.size v22, x.w.cell? ⟨u10.heap.size, 3, none⟩ = some (.int .i64 a.v) := fun x => x.cell B_s.out.lt (B_s.out.cell (j := 3) rfl)
              have he29 := eql29_same
              refine wp_region_kept v22.heap.size (by kernel_rfl) (by kernel_rfl) ?_
              intro hne
              repeat (go_big_quiet_step (first | (go_at_call 26; exact Calls.kept_of (Nat.le_refl _) (IJ.out _))))
              refine wpQuiet_nil ?_
              rintro u23 ⟨xk, hxk⟩
              have hR1 := xk.h
              rw [← hxk] at hR1
              clear hxk xk hne k_l_0 k_l_1 k_l_2 k_l_3 k_s_0 k_s_1 k_s_2 k_s_3
              replace B_p : Hid (Blk u23 (v1.heap.size) #[.int .i64 m.a.re, .int .i64 m.a.im, .int .i64 m.b.re, .int .i64 m.b.im, .int .i64 m.c.re, .int .i64 m.c.im, .int .i64 m.d.re, .int .i64 m.d.im] 27) := by show Blk u23 (v1.heap.size) _ _; exact Blk.old B_p.out hR1
              replace B_l : Hid (Blk u23 (v1.heap.size + 1) #[.int .i64 l.x.re, .int .i64 l.x.im, .int .i64 l.y.re, .int .i64 l.y.im] 29) := by show Blk u23 (v1.heap.size + 1) _ _; exact Blk.old B_l.out hR1
              replace B_r : Hid (Blk u23 (v3.heap.size) #[.int .i64 0, .int .i64 n.x.re, .int .i64 n.x.im, .int .i64 n.y.re, .int .i64 n.y.im] 33) := by show Blk u23 (v3.heap.size) _ _; exact Blk.old B_r.out hR1
              replace B_i : Hid (Blk u23 (v5.heap.size) #[.int .i64 0, .int .i64 a.i, .int .i64 a.q, .int .i64 a.u, .int .i64 a.v] 38) := by show Blk u23 (v5.heap.size) _ _; exact Blk.old B_i.out hR1
              replace B_o : Hid (Blk u23 (v8.heap.size) #[.int .i64 0, .int .i64 o.i, .int .i64 o.q, .int .i64 o.u, .int .i64 o.v] 38) := by show Blk u23 (v8.heap.size) _ _; exact Blk.old B_o.out hR1
              replace B_s : Hid (Blk u23 (u10.heap.size) #[.int .i64 a.i, .int .i64 a.q, .int .i64 a.u, .int .i64 a.v] 36) := by show Blk u23 (u10.heap.size) _ _; exact Blk.old B_s.out hR1
              replace B_q : Hid (Blk u23 (v12.heap.size) #[.int .i64 0, .slice (some ⟨t.b, 0, none⟩) 4 t.cap] 42) := by show Blk u23 (v12.heap.size) _ _; exact Blk.old B_q.out hR1
              replace B_t : Hid (Blk u23 (v14.heap.size) #[.int .i64 0, .int .i64 o.i, .int .i64 o.q, .int .i64 o.u, .int .i64 o.v] 38) := by show Blk u23 (v14.heap.size) _ _; exact Blk.old B_t.out hR1
              replace B_f : Hid (Blk u23 (v17.heap.size) #[.int .i64 0, .int .i64 f.x.re, .int .i64 f.x.im, .int .i64 f.y.re, .int .i64 f.y.im] 33) := by show Blk u23 (v17.heap.size) _ _; exact Blk.old B_f.out hR1
              replace B_g : Hid (Blk u23 (v19.heap.size) #[.int .i64 0, .int .i64 f.x.re, .int .i64 f.x.im, .int .i64 f.y.re, .int .i64 f.y.im] 33) := by show Blk u23 (v19.heap.size) _ _; exact Blk.old B_g.out hR1
              replace HO : Hid (Below w.heap.size w u23) := HO.out.trans (hR1.mono HO.out.size)
              clear hR1
              clear he29
              go_wp2
              go_ret
              exact ⟨rfl, HO.out⟩
            have d3 : (scode a == 0) = false := by simpa using e3
            go_wp2
            go_ret
            exact ⟨rfl, HO.out⟩
          have d2 : decide (0 < l.x.re) = false := by simpa using e2
          have l_0 := B_l.out.cell (j := 0) rfl
          have l_1 := B_l.out.cell (j := 1) rfl
          have l_2 := B_l.out.cell (j := 2) rfl
          have l_3 := B_l.out.cell (j := 3) rfl
          have l_f := B_l.out.frozen
          have l_z := B_l.out.lt
          go_wp2
          go_ret
          exact ⟨rfl, HO.out⟩
        have d1 : (l.x.im == 0) = false := by simpa using e1
        have l_0 := B_l.out.cell (j := 0) rfl
        have l_1 := B_l.out.cell (j := 1) rfl
        have l_2 := B_l.out.cell (j := 2) rfl
        have l_3 := B_l.out.cell (j := 3) rfl
        have l_f := B_l.out.frozen
        have l_z := B_l.out.lt
        go_wp2
        go_ret
        exact ⟨rfl, HO.out⟩
      have hcb : (c == 0) = false := by simpa using hc0
      go_upto_region 19 with fail
      obtain ⟨v18, hv⟩ : ∃ Xw, Xw = (v17.alloc (.cells #[.int .i64 c, .int .i64 f.x.re, .int .i64 f.x.im, .int .i64 f.y.re, .int .i64 f.y.im] 33)) := ⟨_, rfl⟩
      rw [← hv]
      have ne_p_f : Hid (v1.heap.size ≠ v17.heap.size) := Nat.ne_of_lt (Nat.lt_of_lt_of_le B_p.out.lt (by omega))
      have ne_l_f : Hid (v1.heap.size + 1 ≠ v17.heap.size) := Nat.ne_of_lt (Nat.lt_of_lt_of_le B_l.out.lt (by omega))
      have ne_r_f : Hid (v3.heap.size ≠ v17.heap.size) := Nat.ne_of_lt (Nat.lt_of_lt_of_le B_r.out.lt (by omega))
      have ne_i_f : Hid (v5.heap.size ≠ v17.heap.size) := Nat.ne_of_lt (Nat.lt_of_lt_of_le B_i.out.lt (by omega))
      have ne_o_f : Hid (v8.heap.size ≠ v17.heap.size) := Nat.ne_of_lt (Nat.lt_of_lt_of_le B_o.out.lt (by omega))
      have ne_s_f : Hid (u10.heap.size ≠ v17.heap.size) := Nat.ne_of_lt (Nat.lt_of_lt_of_le B_s.out.lt (by omega))
      have ne_q_f : Hid (v12.heap.size ≠ v17.heap.size) := Nat.ne_of_lt (Nat.lt_of_lt_of_le B_q.out.lt (by omega))
      have ne_t_f : Hid (v14.heap.size ≠ v17.heap.size) := Nat.ne_of_lt (Nat.lt_of_lt_of_le B_t.out.lt (by omega))
      have B_f : Hid (Blk v18 (v17.heap.size) #[.int .i64 c, .int .i64 f.x.re, .int .i64 f.x.im, .int .i64 f.y.re, .int .i64 f.y.im] 33) := by show Blk v18 (v17.heap.size) _ _; rw [hv]; exact (Blk.new (by simp))
      have low_f : Hid (w.heap.size ≤ v17.heap.size) := by show w.heap.size ≤ v17.heap.size; have := HO.out.size; omega
      replace B_p : Hid (Blk v18 (v1.heap.size) #[.int .i64 m.a.re, .int .i64 m.a.im, .int .i64 m.b.re, .int .i64 m.b.im, .int .i64 m.c.re, .int .i64 m.c.im, .int .i64 m.d.re, .int .i64 m.d.im] 27) := by show Blk v18 (v1.heap.size) _ _; rw [hv]; exact (Blk.alloc B_p.out _)
      replace B_l : Hid (Blk v18 (v1.heap.size + 1) #[.int .i64 l.x.re, .int .i64 l.x.im, .int .i64 l.y.re, .int .i64 l.y.im] 29) := by show Blk v18 (v1.heap.size + 1) _ _; rw [hv]; exact (Blk.alloc B_l.out _)
      replace B_r : Hid (Blk v18 (v3.heap.size) #[.int .i64 0, .int .i64 n.x.re, .int .i64 n.x.im, .int .i64 n.y.re, .int .i64 n.y.im] 33) := by show Blk v18 (v3.heap.size) _ _; rw [hv]; exact (Blk.alloc B_r.out _)
      replace B_i : Hid (Blk v18 (v5.heap.size) #[.int .i64 0, .int .i64 a.i, .int .i64 a.q, .int .i64 a.u, .int .i64 a.v] 38) := by show Blk v18 (v5.heap.size) _ _; rw [hv]; exact (Blk.alloc B_i.out _)
      replace B_o : Hid (Blk v18 (v8.heap.size) #[.int .i64 0, .int .i64 o.i, .int .i64 o.q, .int .i64 o.u, .int .i64 o.v] 38) := by show Blk v18 (v8.heap.size) _ _; rw [hv]; exact (Blk.alloc B_o.out _)
      replace B_s : Hid (Blk v18 (u10.heap.size) #[.int .i64 a.i, .int .i64 a.q, .int .i64 a.u, .int .i64 a.v] 36) := by show Blk v18 (u10.heap.size) _ _; rw [hv]; exact (Blk.alloc B_s.out _)
      replace B_q : Hid (Blk v18 (v12.heap.size) #[.int .i64 0, .slice (some ⟨t.b, 0, none⟩) 4 t.cap] 42) := by show Blk v18 (v12.heap.size) _ _; rw [hv]; exact (Blk.alloc B_q.out _)
      replace B_t : Hid (Blk v18 (v14.heap.size) #[.int .i64 0, .int .i64 o.i, .int .i64 o.q, .int .i64 o.u, .int .i64 o.v] 38) := by show Blk v18 (v14.heap.size) _ _; rw [hv]; exact (Blk.alloc B_t.out _)
      replace HO : Hid (Below w.heap.size w v18) := by show Below w.heap.size w v18; rw [hv]; exact (below_new HO.out _)
      clear hv
      have f_0 := B_f.out.cell (j := 0) rfl
      have f_1 := B_f.out.cell (j := 1) rfl
      have f_2 := B_f.out.cell (j := 2) rfl
      have f_3 := B_f.out.cell (j := 3) rfl
      have f_4 := B_f.out.cell (j := 4) rfl
      have f_f := B_f.out.frozen
      have f_z := B_f.out.lt
      by_cases e1 : l.x.im = 0
      · have d1 : (l.x.im == 0) = true := by simpa using e1
        by_cases e2 : 0 < l.x.re
        · have d2 : decide (0 < l.x.re) = true := by simpa using e2
          have l_0 := B_l.out.cell (j := 0) rfl
          have l_1 := B_l.out.cell (j := 1) rfl
          have l_2 := B_l.out.cell (j := 2) rfl
          have l_3 := B_l.out.cell (j := 3) rfl
          have l_f := B_l.out.frozen
          have l_z := B_l.out.lt
          have s_0 := B_s.out.cell (j := 0) rfl
          have s_1 := B_s.out.cell (j := 1) rfl
          have s_2 := B_s.out.cell (j := 2) rfl
          have s_3 := B_s.out.cell (j := 3) rfl
          have s_f := B_s.out.frozen
          have s_z := B_s.out.lt
          go_wp2_with fail
          refine (sstokF a _).mono ?_
          rintro e v19 ⟨rfl, hb⟩
          clear l_0 l_1 l_2 l_3 l_f l_z s_0 s_1 s_2 s_3 s_f s_z
          replace B_p : Hid (Blk v19 (v1.heap.size) #[.int .i64 m.a.re, .int .i64 m.a.im, .int .i64 m.b.re, .int .i64 m.b.im, .int .i64 m.c.re, .int .i64 m.c.im, .int .i64 m.d.re, .int .i64 m.d.im] 27) := by show Blk v19 (v1.heap.size) _ _; exact Blk.old B_p.out hb
          replace B_l : Hid (Blk v19 (v1.heap.size + 1) #[.int .i64 l.x.re, .int .i64 l.x.im, .int .i64 l.y.re, .int .i64 l.y.im] 29) := by show Blk v19 (v1.heap.size + 1) _ _; exact Blk.old B_l.out hb
          replace B_r : Hid (Blk v19 (v3.heap.size) #[.int .i64 0, .int .i64 n.x.re, .int .i64 n.x.im, .int .i64 n.y.re, .int .i64 n.y.im] 33) := by show Blk v19 (v3.heap.size) _ _; exact Blk.old B_r.out hb
          replace B_i : Hid (Blk v19 (v5.heap.size) #[.int .i64 0, .int .i64 a.i, .int .i64 a.q, .int .i64 a.u, .int .i64 a.v] 38) := by show Blk v19 (v5.heap.size) _ _; exact Blk.old B_i.out hb
          replace B_o : Hid (Blk v19 (v8.heap.size) #[.int .i64 0, .int .i64 o.i, .int .i64 o.q, .int .i64 o.u, .int .i64 o.v] 38) := by show Blk v19 (v8.heap.size) _ _; exact Blk.old B_o.out hb
          replace B_s : Hid (Blk v19 (u10.heap.size) #[.int .i64 a.i, .int .i64 a.q, .int .i64 a.u, .int .i64 a.v] 36) := by show Blk v19 (u10.heap.size) _ _; exact Blk.old B_s.out hb
          replace B_q : Hid (Blk v19 (v12.heap.size) #[.int .i64 0, .slice (some ⟨t.b, 0, none⟩) 4 t.cap] 42) := by show Blk v19 (v12.heap.size) _ _; exact Blk.old B_q.out hb
          replace B_t : Hid (Blk v19 (v14.heap.size) #[.int .i64 0, .int .i64 o.i, .int .i64 o.q, .int .i64 o.u, .int .i64 o.v] 38) := by show Blk v19 (v14.heap.size) _ _; exact Blk.old B_t.out hb
          replace B_f : Hid (Blk v19 (v17.heap.size) #[.int .i64 c, .int .i64 f.x.re, .int .i64 f.x.im, .int .i64 f.y.re, .int .i64 f.y.im] 33) := by show Blk v19 (v17.heap.size) _ _; exact Blk.old B_f.out hb
          replace HO : Hid (Below w.heap.size w v19) := box_step HO.out hb (Nat.le_refl _)
          clear hb
          by_cases e3 : scode a = 0
          · skip
            have IJ : Hid (∀ W, Calls Try.prog 26 #[.agg #[.int .i64 a.i, .int .i64 a.q, .int .i64 a.u, .int .i64 a.v]] W fun e w' => e = .returned (.agg #[.int .i64 0, .int .i64 l.x.re, .int .i64 l.x.im, .int .i64 l.y.re, .int .i64 l.y.im]) ∧ Below W.heap.size W w') := fun W => by refine (ijf a W).mono ?_; rintro e w1 ⟨d, k, rfl, hK, hb⟩; obtain ⟨_, hj, _, _, rfl, _⟩ := HM.out; obtain ⟨rfl, rfl⟩ := hK.uniq (found_again hj e1 e2 e3); exact ⟨rfl, hb⟩
            rw [e3]
            clear e1 e2 e3
            go_upto_region 24 with fail
            have k_l_0 : ∀ x : Kept v19.heap.size v19, x.w.cell? ⟨v1.heap.size + 1, 0, none⟩ = some (.int .i64 l.x.re) := fun x => x.cell B_l.out.lt (B_l.out.cell (j := 0) rfl)
            have k_l_1 : ∀ x : Kept v19.heap.size v19, x.w.cell? ⟨v1.heap.size + 1, 1, none⟩ = some (.int .i64 l.x.im) := fun x => x.cell B_l.out.lt (B_l.out.cell (j := 1) rfl)
            have k_l_2 : ∀ x : Kept v19.heap.size v19, x.w.cell? ⟨v1.heap.size + 1, 2, none⟩ = some (.int .i64 l.y.re) := fun x => x.cell B_l.out.lt (B_l.out.cell (j := 2) rfl)
            have k_l_3 : ∀ x : Kept v19.heap.size v19, x.w.cell? ⟨v1.heap.size + 1, 3, none⟩ = some (.int .i64 l.y.im) := fun x => x.cell B_l.out.lt (B_l.out.cell (j := 3) rfl)
            have k_s_0 : ∀ x : Kept v19.heap.size v19, x.w.cell? ⟨u10.heap.size, 0, none⟩ = some (.int .i64 a.i) := fun x => x.cell B_s.out.lt (B_s.out.cell (j := 0) rfl)
            have k_s_1 : ∀ x : Kept v19.heap.size v19, x.w.cell? ⟨u10.heap.size, 1, none⟩ = some (.int .i64 a.q) := fun x => x.cell B_s.out.lt (B_s.out.cell (j := 1) rfl)
            have k_s_2 : ∀ x : Kept v19.heap.size v19, x.w.cell? ⟨u10.heap.size, 2, none⟩ = some (.int .i64 a.u) := fun x => x.cell B_s.out.lt (B_s.out.cell (j := 2) rfl)
            have k_s_3 : ∀ x : Kept v19.heap.size v19, x.w.cell? ⟨u10.heap.size, 3, none⟩ = some (.int .i64 a.v) := fun x => x.cell B_s.out.lt (B_s.out.cell (j := 3) rfl)
            have he29 := eql29_same
            refine wp_region_kept v19.heap.size (by kernel_rfl) (by kernel_rfl) ?_
            intro hne
            repeat (go_big_quiet_step (first | (go_at_call 26; exact Calls.kept_of (Nat.le_refl _) (IJ.out _))))
            refine wpQuiet_nil ?_
            rintro u20 ⟨xk, hxk⟩
            have hR1 := xk.h
            rw [← hxk] at hR1
            clear hxk xk hne k_l_0 k_l_1 k_l_2 k_l_3 k_s_0 k_s_1 k_s_2 k_s_3
            replace B_p : Hid (Blk u20 (v1.heap.size) #[.int .i64 m.a.re, .int .i64 m.a.im, .int .i64 m.b.re, .int .i64 m.b.im, .int .i64 m.c.re, .int .i64 m.c.im, .int .i64 m.d.re, .int .i64 m.d.im] 27) := by show Blk u20 (v1.heap.size) _ _; exact Blk.old B_p.out hR1
            replace B_l : Hid (Blk u20 (v1.heap.size + 1) #[.int .i64 l.x.re, .int .i64 l.x.im, .int .i64 l.y.re, .int .i64 l.y.im] 29) := by show Blk u20 (v1.heap.size + 1) _ _; exact Blk.old B_l.out hR1
            replace B_r : Hid (Blk u20 (v3.heap.size) #[.int .i64 0, .int .i64 n.x.re, .int .i64 n.x.im, .int .i64 n.y.re, .int .i64 n.y.im] 33) := by show Blk u20 (v3.heap.size) _ _; exact Blk.old B_r.out hR1
            replace B_i : Hid (Blk u20 (v5.heap.size) #[.int .i64 0, .int .i64 a.i, .int .i64 a.q, .int .i64 a.u, .int .i64 a.v] 38) := by show Blk u20 (v5.heap.size) _ _; exact Blk.old B_i.out hR1
            replace B_o : Hid (Blk u20 (v8.heap.size) #[.int .i64 0, .int .i64 o.i, .int .i64 o.q, .int .i64 o.u, .int .i64 o.v] 38) := by show Blk u20 (v8.heap.size) _ _; exact Blk.old B_o.out hR1
            replace B_s : Hid (Blk u20 (u10.heap.size) #[.int .i64 a.i, .int .i64 a.q, .int .i64 a.u, .int .i64 a.v] 36) := by show Blk u20 (u10.heap.size) _ _; exact Blk.old B_s.out hR1
            replace B_q : Hid (Blk u20 (v12.heap.size) #[.int .i64 0, .slice (some ⟨t.b, 0, none⟩) 4 t.cap] 42) := by show Blk u20 (v12.heap.size) _ _; exact Blk.old B_q.out hR1
            replace B_t : Hid (Blk u20 (v14.heap.size) #[.int .i64 0, .int .i64 o.i, .int .i64 o.q, .int .i64 o.u, .int .i64 o.v] 38) := by show Blk u20 (v14.heap.size) _ _; exact Blk.old B_t.out hR1
            replace B_f : Hid (Blk u20 (v17.heap.size) #[.int .i64 c, .int .i64 f.x.re, .int .i64 f.x.im, .int .i64 f.y.re, .int .i64 f.y.im] 33) := by show Blk u20 (v17.heap.size) _ _; exact Blk.old B_f.out hR1
            replace HO : Hid (Below w.heap.size w u20) := HO.out.trans (hR1.mono HO.out.size)
            clear hR1
            clear he29
            go_wp2
            go_ret
            exact ⟨rfl, HO.out⟩
          have d3 : (scode a == 0) = false := by simpa using e3
          go_wp2
          go_ret
          exact ⟨rfl, HO.out⟩
        have d2 : decide (0 < l.x.re) = false := by simpa using e2
        have l_0 := B_l.out.cell (j := 0) rfl
        have l_1 := B_l.out.cell (j := 1) rfl
        have l_2 := B_l.out.cell (j := 2) rfl
        have l_3 := B_l.out.cell (j := 3) rfl
        have l_f := B_l.out.frozen
        have l_z := B_l.out.lt
        go_wp2
        go_ret
        exact ⟨rfl, HO.out⟩
      have d1 : (l.x.im == 0) = false := by simpa using e1
      have l_0 := B_l.out.cell (j := 0) rfl
      have l_1 := B_l.out.cell (j := 1) rfl
      have l_2 := B_l.out.cell (j := 2) rfl
      have l_3 := B_l.out.cell (j := 3) rfl
      have l_f := B_l.out.frozen
      have l_z := B_l.out.lt
      go_wp2
      go_ret
      exact ⟨rfl, HO.out⟩
    have hzb : (ct == 0) = false := by simpa using hz
    go_upto_region 16 with fail
    obtain ⟨v15, hv⟩ : ∃ Xw, Xw = (v14.alloc (.cells #[.int .i64 ct, .int .i64 kt.i, .int .i64 kt.q, .int .i64 kt.u, .int .i64 kt.v] 38)) := ⟨_, rfl⟩
    rw [← hv]
    have ne_p_t : Hid (v1.heap.size ≠ v14.heap.size) := Nat.ne_of_lt (Nat.lt_of_lt_of_le B_p.out.lt (by omega))
    have ne_l_t : Hid (v1.heap.size + 1 ≠ v14.heap.size) := Nat.ne_of_lt (Nat.lt_of_lt_of_le B_l.out.lt (by omega))
    have ne_r_t : Hid (v3.heap.size ≠ v14.heap.size) := Nat.ne_of_lt (Nat.lt_of_lt_of_le B_r.out.lt (by omega))
    have ne_i_t : Hid (v5.heap.size ≠ v14.heap.size) := Nat.ne_of_lt (Nat.lt_of_lt_of_le B_i.out.lt (by omega))
    have ne_o_t : Hid (v8.heap.size ≠ v14.heap.size) := Nat.ne_of_lt (Nat.lt_of_lt_of_le B_o.out.lt (by omega))
    have ne_s_t : Hid (u10.heap.size ≠ v14.heap.size) := Nat.ne_of_lt (Nat.lt_of_lt_of_le B_s.out.lt (by omega))
    have ne_q_t : Hid (v12.heap.size ≠ v14.heap.size) := Nat.ne_of_lt (Nat.lt_of_lt_of_le B_q.out.lt (by omega))
    have B_t : Hid (Blk v15 (v14.heap.size) #[.int .i64 ct, .int .i64 kt.i, .int .i64 kt.q, .int .i64 kt.u, .int .i64 kt.v] 38) := by show Blk v15 (v14.heap.size) _ _; rw [hv]; exact (Blk.new (by simp))
    have low_t : Hid (w.heap.size ≤ v14.heap.size) := by show w.heap.size ≤ v14.heap.size; have := HO.out.size; omega
    replace B_p : Hid (Blk v15 (v1.heap.size) #[.int .i64 m.a.re, .int .i64 m.a.im, .int .i64 m.b.re, .int .i64 m.b.im, .int .i64 m.c.re, .int .i64 m.c.im, .int .i64 m.d.re, .int .i64 m.d.im] 27) := by show Blk v15 (v1.heap.size) _ _; rw [hv]; exact (Blk.alloc B_p.out _)
    replace B_l : Hid (Blk v15 (v1.heap.size + 1) #[.int .i64 l.x.re, .int .i64 l.x.im, .int .i64 l.y.re, .int .i64 l.y.im] 29) := by show Blk v15 (v1.heap.size + 1) _ _; rw [hv]; exact (Blk.alloc B_l.out _)
    replace B_r : Hid (Blk v15 (v3.heap.size) #[.int .i64 0, .int .i64 n.x.re, .int .i64 n.x.im, .int .i64 n.y.re, .int .i64 n.y.im] 33) := by show Blk v15 (v3.heap.size) _ _; rw [hv]; exact (Blk.alloc B_r.out _)
    replace B_i : Hid (Blk v15 (v5.heap.size) #[.int .i64 0, .int .i64 a.i, .int .i64 a.q, .int .i64 a.u, .int .i64 a.v] 38) := by show Blk v15 (v5.heap.size) _ _; rw [hv]; exact (Blk.alloc B_i.out _)
    replace B_o : Hid (Blk v15 (v8.heap.size) #[.int .i64 0, .int .i64 o.i, .int .i64 o.q, .int .i64 o.u, .int .i64 o.v] 38) := by show Blk v15 (v8.heap.size) _ _; rw [hv]; exact (Blk.alloc B_o.out _)
    replace B_s : Hid (Blk v15 (u10.heap.size) #[.int .i64 a.i, .int .i64 a.q, .int .i64 a.u, .int .i64 a.v] 36) := by show Blk v15 (u10.heap.size) _ _; rw [hv]; exact (Blk.alloc B_s.out _)
    replace B_q : Hid (Blk v15 (v12.heap.size) #[.int .i64 0, .slice (some ⟨t.b, 0, none⟩) 4 t.cap] 42) := by show Blk v15 (v12.heap.size) _ _; rw [hv]; exact (Blk.alloc B_q.out _)
    replace KM : Hid (RdMat v15 (.slice (some ⟨t.b, 0, none⟩) 4 t.cap) 4 (fun _ => 4) (tw m)) := by rw [hv]; exact KM.out.later (by go_grown)
    replace HO : Hid (Below w.heap.size w v15) := by show Below w.heap.size w v15; rw [hv]; exact (below_new HO.out _)
    clear hv
    have k_q_0 : ∀ x : Kept v15.heap.size v15, x.w.cell? ⟨v12.heap.size, 0, none⟩ = some (.int .i64 0) := fun x => x.cell B_q.out.lt (B_q.out.cell (j := 0) rfl)
    have k_q_1 : ∀ x : Kept v15.heap.size v15, x.w.cell? ⟨v12.heap.size, 1, none⟩ = some (.slice (some ⟨t.b, 0, none⟩) 4 t.cap) := fun x => x.cell B_q.out.lt (B_q.out.cell (j := 1) rfl)
    have k_s_0 : ∀ x : Kept v15.heap.size v15, x.w.cell? ⟨u10.heap.size, 0, none⟩ = some (.int .i64 a.i) := fun x => x.cell B_s.out.lt (B_s.out.cell (j := 0) rfl)
    have k_s_1 : ∀ x : Kept v15.heap.size v15, x.w.cell? ⟨u10.heap.size, 1, none⟩ = some (.int .i64 a.q) := fun x => x.cell B_s.out.lt (B_s.out.cell (j := 1) rfl)
    have k_s_2 : ∀ x : Kept v15.heap.size v15, x.w.cell? ⟨u10.heap.size, 2, none⟩ = some (.int .i64 a.u) := fun x => x.cell B_s.out.lt (B_s.out.cell (j := 2) rfl)
    have k_s_3 : ∀ x : Kept v15.heap.size v15, x.w.cell? ⟨u10.heap.size, 3, none⟩ = some (.int .i64 a.v) := fun x => x.cell B_s.out.lt (B_s.out.cell (j := 3) rfl)
    have k_t_0 : ∀ x : Kept v15.heap.size v15, x.w.cell? ⟨v14.heap.size, 0, none⟩ = some (.int .i64 ct) := fun x => x.cell B_t.out.lt (B_t.out.cell (j := 0) rfl)
    have k_t_1 : ∀ x : Kept v15.heap.size v15, x.w.cell? ⟨v14.heap.size, 1, none⟩ = some (.int .i64 kt.i) := fun x => x.cell B_t.out.lt (B_t.out.cell (j := 1) rfl)
    have k_t_2 : ∀ x : Kept v15.heap.size v15, x.w.cell? ⟨v14.heap.size, 2, none⟩ = some (.int .i64 kt.q) := fun x => x.cell B_t.out.lt (B_t.out.cell (j := 2) rfl)
    have k_t_3 : ∀ x : Kept v15.heap.size v15, x.w.cell? ⟨v14.heap.size, 3, none⟩ = some (.int .i64 kt.u) := fun x => x.cell B_t.out.lt (B_t.out.cell (j := 3) rfl)
    have k_t_4 : ∀ x : Kept v15.heap.size v15, x.w.cell? ⟨v14.heap.size, 4, none⟩ = some (.int .i64 kt.v) := fun x => x.cell B_t.out.lt (B_t.out.cell (j := 4) rfl)
    have k_o_0 : ∀ x : Kept v15.heap.size v15, x.w.cell? ⟨v8.heap.size, 0, none⟩ = some (.int .i64 0) := fun x => x.cell B_o.out.lt (B_o.out.cell (j := 0) rfl)
    have k_o_1 : ∀ x : Kept v15.heap.size v15, x.w.cell? ⟨v8.heap.size, 1, none⟩ = some (.int .i64 o.i) := fun x => x.cell B_o.out.lt (B_o.out.cell (j := 1) rfl)
    have k_o_2 : ∀ x : Kept v15.heap.size v15, x.w.cell? ⟨v8.heap.size, 2, none⟩ = some (.int .i64 o.q) := fun x => x.cell B_o.out.lt (B_o.out.cell (j := 2) rfl)
    have k_o_3 : ∀ x : Kept v15.heap.size v15, x.w.cell? ⟨v8.heap.size, 3, none⟩ = some (.int .i64 o.u) := fun x => x.cell B_o.out.lt (B_o.out.cell (j := 3) rfl)
    have k_o_4 : ∀ x : Kept v15.heap.size v15, x.w.cell? ⟨v8.heap.size, 4, none⟩ = some (.int .i64 o.v) := fun x => x.cell B_o.out.lt (B_o.out.cell (j := 4) rfl)
    refine wp_region_kept v15.heap.size (by kernel_rfl) (by kernel_rfl) ?_
    intro hne
    repeat (go_big_quiet_step (fail))
    refine wpQuiet_nil ?_
    rintro u16 ⟨xk, hxk⟩
    have hR1 := xk.h
    rw [← hxk] at hR1
    clear hxk xk hne k_q_0 k_q_1 k_s_0 k_s_1 k_s_2 k_s_3 k_t_0 k_t_1 k_t_2 k_t_3 k_t_4 k_o_0 k_o_1 k_o_2 k_o_3 k_o_4
    replace B_p : Hid (Blk u16 (v1.heap.size) #[.int .i64 m.a.re, .int .i64 m.a.im, .int .i64 m.b.re, .int .i64 m.b.im, .int .i64 m.c.re, .int .i64 m.c.im, .int .i64 m.d.re, .int .i64 m.d.im] 27) := by show Blk u16 (v1.heap.size) _ _; exact Blk.old B_p.out hR1
    replace B_l : Hid (Blk u16 (v1.heap.size + 1) #[.int .i64 l.x.re, .int .i64 l.x.im, .int .i64 l.y.re, .int .i64 l.y.im] 29) := by show Blk u16 (v1.heap.size + 1) _ _; exact Blk.old B_l.out hR1
    replace B_r : Hid (Blk u16 (v3.heap.size) #[.int .i64 0, .int .i64 n.x.re, .int .i64 n.x.im, .int .i64 n.y.re, .int .i64 n.y.im] 33) := by show Blk u16 (v3.heap.size) _ _; exact Blk.old B_r.out hR1
    replace B_i : Hid (Blk u16 (v5.heap.size) #[.int .i64 0, .int .i64 a.i, .int .i64 a.q, .int .i64 a.u, .int .i64 a.v] 38) := by show Blk u16 (v5.heap.size) _ _; exact Blk.old B_i.out hR1
    replace B_o : Hid (Blk u16 (v8.heap.size) #[.int .i64 0, .int .i64 o.i, .int .i64 o.q, .int .i64 o.u, .int .i64 o.v] 38) := by show Blk u16 (v8.heap.size) _ _; exact Blk.old B_o.out hR1
    replace B_s : Hid (Blk u16 (u10.heap.size) #[.int .i64 a.i, .int .i64 a.q, .int .i64 a.u, .int .i64 a.v] 36) := by show Blk u16 (u10.heap.size) _ _; exact Blk.old B_s.out hR1
    replace B_q : Hid (Blk u16 (v12.heap.size) #[.int .i64 0, .slice (some ⟨t.b, 0, none⟩) 4 t.cap] 42) := by show Blk u16 (v12.heap.size) _ _; exact Blk.old B_q.out hR1
    replace B_t : Hid (Blk u16 (v14.heap.size) #[.int .i64 ct, .int .i64 kt.i, .int .i64 kt.q, .int .i64 kt.u, .int .i64 kt.v] 38) := by show Blk u16 (v14.heap.size) _ _; exact Blk.old B_t.out hR1
    replace HO : Hid (Below w.heap.size w u16) := HO.out.trans (hR1.mono HO.out.size)
    clear hR1
    clear IT KM HK hzb hz
    have s_0 := B_s.out.cell (j := 0) rfl
    have s_1 := B_s.out.cell (j := 1) rfl
    have s_2 := B_s.out.cell (j := 2) rfl
    have s_3 := B_s.out.cell (j := 3) rfl
    have s_f := B_s.out.frozen
    have s_z := B_s.out.lt
    go_wp2_with fail
    refine (sjf a _).mono ?_
    rintro e v17 ⟨c, f, rfl, hJ, hb⟩
    clear s_0 s_1 s_2 s_3 s_f s_z
    replace B_p : Hid (Blk v17 (v1.heap.size) #[.int .i64 m.a.re, .int .i64 m.a.im, .int .i64 m.b.re, .int .i64 m.b.im, .int .i64 m.c.re, .int .i64 m.c.im, .int .i64 m.d.re, .int .i64 m.d.im] 27) := by show Blk v17 (v1.heap.size) _ _; exact Blk.old B_p.out hb
    replace B_l : Hid (Blk v17 (v1.heap.size + 1) #[.int .i64 l.x.re, .int .i64 l.x.im, .int .i64 l.y.re, .int .i64 l.y.im] 29) := by show Blk v17 (v1.heap.size + 1) _ _; exact Blk.old B_l.out hb
    replace B_r : Hid (Blk v17 (v3.heap.size) #[.int .i64 0, .int .i64 n.x.re, .int .i64 n.x.im, .int .i64 n.y.re, .int .i64 n.y.im] 33) := by show Blk v17 (v3.heap.size) _ _; exact Blk.old B_r.out hb
    replace B_i : Hid (Blk v17 (v5.heap.size) #[.int .i64 0, .int .i64 a.i, .int .i64 a.q, .int .i64 a.u, .int .i64 a.v] 38) := by show Blk v17 (v5.heap.size) _ _; exact Blk.old B_i.out hb
    replace B_o : Hid (Blk v17 (v8.heap.size) #[.int .i64 0, .int .i64 o.i, .int .i64 o.q, .int .i64 o.u, .int .i64 o.v] 38) := by show Blk v17 (v8.heap.size) _ _; exact Blk.old B_o.out hb
    replace B_s : Hid (Blk v17 (u10.heap.size) #[.int .i64 a.i, .int .i64 a.q, .int .i64 a.u, .int .i64 a.v] 36) := by show Blk v17 (u10.heap.size) _ _; exact Blk.old B_s.out hb
    replace B_q : Hid (Blk v17 (v12.heap.size) #[.int .i64 0, .slice (some ⟨t.b, 0, none⟩) 4 t.cap] 42) := by show Blk v17 (v12.heap.size) _ _; exact Blk.old B_q.out hb
    replace B_t : Hid (Blk v17 (v14.heap.size) #[.int .i64 ct, .int .i64 kt.i, .int .i64 kt.q, .int .i64 kt.u, .int .i64 kt.v] 38) := by show Blk v17 (v14.heap.size) _ _; exact Blk.old B_t.out hb
    replace HO : Hid (Below w.heap.size w v17) := box_step HO.out hb (Nat.le_refl _)
    clear hb
    replace hJ : Hid (JAns a c f) := hJ
    by_cases hc0 : c = 0
    · subst hc0
      go_upto_region 19 with fail
      obtain ⟨v18, hv⟩ : ∃ Xw, Xw = (v17.alloc (.cells #[.int .i64 0, .int .i64 f.x.re, .int .i64 f.x.im, .int .i64 f.y.re, .int .i64 f.y.im] 33)) := ⟨_, rfl⟩
      rw [← hv]
      have ne_p_f : Hid (v1.heap.size ≠ v17.heap.size) := Nat.ne_of_lt (Nat.lt_of_lt_of_le B_p.out.lt (by omega))
      have ne_l_f : Hid (v1.heap.size + 1 ≠ v17.heap.size) := Nat.ne_of_lt (Nat.lt_of_lt_of_le B_l.out.lt (by omega))
      have ne_r_f : Hid (v3.heap.size ≠ v17.heap.size) := Nat.ne_of_lt (Nat.lt_of_lt_of_le B_r.out.lt (by omega))
      have ne_i_f : Hid (v5.heap.size ≠ v17.heap.size) := Nat.ne_of_lt (Nat.lt_of_lt_of_le B_i.out.lt (by omega))
      have ne_o_f : Hid (v8.heap.size ≠ v17.heap.size) := Nat.ne_of_lt (Nat.lt_of_lt_of_le B_o.out.lt (by omega))
      have ne_s_f : Hid (u10.heap.size ≠ v17.heap.size) := Nat.ne_of_lt (Nat.lt_of_lt_of_le B_s.out.lt (by omega))
      have ne_q_f : Hid (v12.heap.size ≠ v17.heap.size) := Nat.ne_of_lt (Nat.lt_of_lt_of_le B_q.out.lt (by omega))
      have ne_t_f : Hid (v14.heap.size ≠ v17.heap.size) := Nat.ne_of_lt (Nat.lt_of_lt_of_le B_t.out.lt (by omega))
      have B_f : Hid (Blk v18 (v17.heap.size) #[.int .i64 0, .int .i64 f.x.re, .int .i64 f.x.im, .int .i64 f.y.re, .int .i64 f.y.im] 33) := by show Blk v18 (v17.heap.size) _ _; rw [hv]; exact (Blk.new (by simp))
      have low_f : Hid (w.heap.size ≤ v17.heap.size) := by show w.heap.size ≤ v17.heap.size; have := HO.out.size; omega
      replace B_p : Hid (Blk v18 (v1.heap.size) #[.int .i64 m.a.re, .int .i64 m.a.im, .int .i64 m.b.re, .int .i64 m.b.im, .int .i64 m.c.re, .int .i64 m.c.im, .int .i64 m.d.re, .int .i64 m.d.im] 27) := by show Blk v18 (v1.heap.size) _ _; rw [hv]; exact (Blk.alloc B_p.out _)
      replace B_l : Hid (Blk v18 (v1.heap.size + 1) #[.int .i64 l.x.re, .int .i64 l.x.im, .int .i64 l.y.re, .int .i64 l.y.im] 29) := by show Blk v18 (v1.heap.size + 1) _ _; rw [hv]; exact (Blk.alloc B_l.out _)
      replace B_r : Hid (Blk v18 (v3.heap.size) #[.int .i64 0, .int .i64 n.x.re, .int .i64 n.x.im, .int .i64 n.y.re, .int .i64 n.y.im] 33) := by show Blk v18 (v3.heap.size) _ _; rw [hv]; exact (Blk.alloc B_r.out _)
      replace B_i : Hid (Blk v18 (v5.heap.size) #[.int .i64 0, .int .i64 a.i, .int .i64 a.q, .int .i64 a.u, .int .i64 a.v] 38) := by show Blk v18 (v5.heap.size) _ _; rw [hv]; exact (Blk.alloc B_i.out _)
      replace B_o : Hid (Blk v18 (v8.heap.size) #[.int .i64 0, .int .i64 o.i, .int .i64 o.q, .int .i64 o.u, .int .i64 o.v] 38) := by show Blk v18 (v8.heap.size) _ _; rw [hv]; exact (Blk.alloc B_o.out _)
      replace B_s : Hid (Blk v18 (u10.heap.size) #[.int .i64 a.i, .int .i64 a.q, .int .i64 a.u, .int .i64 a.v] 36) := by show Blk v18 (u10.heap.size) _ _; rw [hv]; exact (Blk.alloc B_s.out _)
      replace B_q : Hid (Blk v18 (v12.heap.size) #[.int .i64 0, .slice (some ⟨t.b, 0, none⟩) 4 t.cap] 42) := by show Blk v18 (v12.heap.size) _ _; rw [hv]; exact (Blk.alloc B_q.out _)
      replace B_t : Hid (Blk v18 (v14.heap.size) #[.int .i64 ct, .int .i64 kt.i, .int .i64 kt.q, .int .i64 kt.u, .int .i64 kt.v] 38) := by show Blk v18 (v14.heap.size) _ _; rw [hv]; exact (Blk.alloc B_t.out _)
      replace HO : Hid (Below w.heap.size w v18) := by show Below w.heap.size w v18; rw [hv]; exact (below_new HO.out _)
      clear hv
      have f_0 := B_f.out.cell (j := 0) rfl
      have f_1 := B_f.out.cell (j := 1) rfl
      have f_2 := B_f.out.cell (j := 2) rfl
      have f_3 := B_f.out.cell (j := 3) rfl
      have f_4 := B_f.out.cell (j := 4) rfl
      have f_f := B_f.out.frozen
      have f_z := B_f.out.lt
      have s_0 := B_s.out.cell (j := 0) rfl
      have s_1 := B_s.out.cell (j := 1) rfl
      have s_2 := B_s.out.cell (j := 2) rfl
      have s_3 := B_s.out.cell (j := 3) rfl
      have s_f := B_s.out.frozen
      have s_z := B_s.out.lt
      go_wp2_with fail
      refine (ijf a _).mono ?_
      rintro e v19 ⟨d, k, rfl, hK, hb⟩
      clear f_0 f_1 f_2 f_3 f_4 f_f f_z s_0 s_1 s_2 s_3 s_f s_z
      replace B_p : Hid (Blk v19 (v1.heap.size) #[.int .i64 m.a.re, .int .i64 m.a.im, .int .i64 m.b.re, .int .i64 m.b.im, .int .i64 m.c.re, .int .i64 m.c.im, .int .i64 m.d.re, .int .i64 m.d.im] 27) := by show Blk v19 (v1.heap.size) _ _; exact Blk.old B_p.out hb
      replace B_l : Hid (Blk v19 (v1.heap.size + 1) #[.int .i64 l.x.re, .int .i64 l.x.im, .int .i64 l.y.re, .int .i64 l.y.im] 29) := by show Blk v19 (v1.heap.size + 1) _ _; exact Blk.old B_l.out hb
      replace B_r : Hid (Blk v19 (v3.heap.size) #[.int .i64 0, .int .i64 n.x.re, .int .i64 n.x.im, .int .i64 n.y.re, .int .i64 n.y.im] 33) := by show Blk v19 (v3.heap.size) _ _; exact Blk.old B_r.out hb
      replace B_i : Hid (Blk v19 (v5.heap.size) #[.int .i64 0, .int .i64 a.i, .int .i64 a.q, .int .i64 a.u, .int .i64 a.v] 38) := by show Blk v19 (v5.heap.size) _ _; exact Blk.old B_i.out hb
      replace B_o : Hid (Blk v19 (v8.heap.size) #[.int .i64 0, .int .i64 o.i, .int .i64 o.q, .int .i64 o.u, .int .i64 o.v] 38) := by show Blk v19 (v8.heap.size) _ _; exact Blk.old B_o.out hb
      replace B_s : Hid (Blk v19 (u10.heap.size) #[.int .i64 a.i, .int .i64 a.q, .int .i64 a.u, .int .i64 a.v] 36) := by show Blk v19 (u10.heap.size) _ _; exact Blk.old B_s.out hb
      replace B_q : Hid (Blk v19 (v12.heap.size) #[.int .i64 0, .slice (some ⟨t.b, 0, none⟩) 4 t.cap] 42) := by show Blk v19 (v12.heap.size) _ _; exact Blk.old B_q.out hb
      replace B_t : Hid (Blk v19 (v14.heap.size) #[.int .i64 ct, .int .i64 kt.i, .int .i64 kt.q, .int .i64 kt.u, .int .i64 kt.v] 38) := by show Blk v19 (v14.heap.size) _ _; exact Blk.old B_t.out hb
      replace B_f : Hid (Blk v19 (v17.heap.size) #[.int .i64 0, .int .i64 f.x.re, .int .i64 f.x.im, .int .i64 f.y.re, .int .i64 f.y.im] 33) := by show Blk v19 (v17.heap.size) _ _; exact Blk.old B_f.out hb
      replace HO : Hid (Below w.heap.size w v19) := box_step HO.out hb (Nat.le_refl _)
      clear hb
      obtain ⟨rfl, rfl⟩ := hJ.out.uniq hK
      clear hK
      have IF : Hid (∀ W, Calls Try.prog 20 #[.agg #[.int .i64 f.x.re, .int .i64 f.x.im, .int .i64 f.y.re, .int .i64 f.y.im]] W fun e w' => e = .returned (.agg #[.int .i64 0, .int .i64 a.i, .int .i64 a.q, .int .i64 a.u, .int .i64 a.v]) ∧ Below W.heap.size W w') := fun W => by have h := iso f W; rw [hJ.out.found.2, hJ.out.found.1.code] at h; exact h
      go_upto_region 21 with fail
      obtain ⟨v20, hv⟩ : ∃ Xw, Xw = (v19.alloc (.cells #[.int .i64 0, .int .i64 f.x.re, .int .i64 f.x.im, .int .i64 f.y.re, .int .i64 f.y.im] 33)) := ⟨_, rfl⟩
      rw [← hv]
      have ne_p_g : Hid (v1.heap.size ≠ v19.heap.size) := Nat.ne_of_lt (Nat.lt_of_lt_of_le B_p.out.lt (by omega))
      have ne_l_g : Hid (v1.heap.size + 1 ≠ v19.heap.size) := Nat.ne_of_lt (Nat.lt_of_lt_of_le B_l.out.lt (by omega))
      have ne_r_g : Hid (v3.heap.size ≠ v19.heap.size) := Nat.ne_of_lt (Nat.lt_of_lt_of_le B_r.out.lt (by omega))
      have ne_i_g : Hid (v5.heap.size ≠ v19.heap.size) := Nat.ne_of_lt (Nat.lt_of_lt_of_le B_i.out.lt (by omega))
      have ne_o_g : Hid (v8.heap.size ≠ v19.heap.size) := Nat.ne_of_lt (Nat.lt_of_lt_of_le B_o.out.lt (by omega))
      have ne_s_g : Hid (u10.heap.size ≠ v19.heap.size) := Nat.ne_of_lt (Nat.lt_of_lt_of_le B_s.out.lt (by omega))
      have ne_q_g : Hid (v12.heap.size ≠ v19.heap.size) := Nat.ne_of_lt (Nat.lt_of_lt_of_le B_q.out.lt (by omega))
      have ne_t_g : Hid (v14.heap.size ≠ v19.heap.size) := Nat.ne_of_lt (Nat.lt_of_lt_of_le B_t.out.lt (by omega))
      have ne_f_g : Hid (v17.heap.size ≠ v19.heap.size) := Nat.ne_of_lt (Nat.lt_of_lt_of_le B_f.out.lt (by omega))
      have B_g : Hid (Blk v20 (v19.heap.size) #[.int .i64 0, .int .i64 f.x.re, .int .i64 f.x.im, .int .i64 f.y.re, .int .i64 f.y.im] 33) := by show Blk v20 (v19.heap.size) _ _; rw [hv]; exact (Blk.new (by simp))
      have low_g : Hid (w.heap.size ≤ v19.heap.size) := by show w.heap.size ≤ v19.heap.size; have := HO.out.size; omega
      replace B_p : Hid (Blk v20 (v1.heap.size) #[.int .i64 m.a.re, .int .i64 m.a.im, .int .i64 m.b.re, .int .i64 m.b.im, .int .i64 m.c.re, .int .i64 m.c.im, .int .i64 m.d.re, .int .i64 m.d.im] 27) := by show Blk v20 (v1.heap.size) _ _; rw [hv]; exact (Blk.alloc B_p.out _)
      replace B_l : Hid (Blk v20 (v1.heap.size + 1) #[.int .i64 l.x.re, .int .i64 l.x.im, .int .i64 l.y.re, .int .i64 l.y.im] 29) := by show Blk v20 (v1.heap.size + 1) _ _; rw [hv]; exact (Blk.alloc B_l.out _)
      replace B_r : Hid (Blk v20 (v3.heap.size) #[.int .i64 0, .int .i64 n.x.re, .int .i64 n.x.im, .int .i64 n.y.re, .int .i64 n.y.im] 33) := by show Blk v20 (v3.heap.size) _ _; rw [hv]; exact (Blk.alloc B_r.out _)
      replace B_i : Hid (Blk v20 (v5.heap.size) #[.int .i64 0, .int .i64 a.i, .int .i64 a.q, .int .i64 a.u, .int .i64 a.v] 38) := by show Blk v20 (v5.heap.size) _ _; rw [hv]; exact (Blk.alloc B_i.out _)
      replace B_o : Hid (Blk v20 (v8.heap.size) #[.int .i64 0, .int .i64 o.i, .int .i64 o.q, .int .i64 o.u, .int .i64 o.v] 38) := by show Blk v20 (v8.heap.size) _ _; rw [hv]; exact (Blk.alloc B_o.out _)
      replace B_s : Hid (Blk v20 (u10.heap.size) #[.int .i64 a.i, .int .i64 a.q, .int .i64 a.u, .int .i64 a.v] 36) := by show Blk v20 (u10.heap.size) _ _; rw [hv]; exact (Blk.alloc B_s.out _)
      replace B_q : Hid (Blk v20 (v12.heap.size) #[.int .i64 0, .slice (some ⟨t.b, 0, none⟩) 4 t.cap] 42) := by show Blk v20 (v12.heap.size) _ _; rw [hv]; exact (Blk.alloc B_q.out _)
      replace B_t : Hid (Blk v20 (v14.heap.size) #[.int .i64 ct, .int .i64 kt.i, .int .i64 kt.q, .int .i64 kt.u, .int .i64 kt.v] 38) := by show Blk v20 (v14.heap.size) _ _; rw [hv]; exact (Blk.alloc B_t.out _)
      replace B_f : Hid (Blk v20 (v17.heap.size) #[.int .i64 0, .int .i64 f.x.re, .int .i64 f.x.im, .int .i64 f.y.re, .int .i64 f.y.im] 33) := by show Blk v20 (v17.heap.size) _ _; rw [hv]; exact (Blk.alloc B_f.out _)
      replace HO : Hid (Below w.heap.size w v20) := by show Below w.heap.size w v20; rw [hv]; exact (below_new HO.out _)
      clear hv
      have k_g_0 : ∀ x : Kept v20.heap.size v20, x.w.cell? ⟨v19.heap.size, 0, none⟩ = some (.int .i64 0) := fun x => x.cell B_g.out.lt (B_g.out.cell (j := 0) rfl)
      have k_g_1 : ∀ x : Kept v20.heap.size v20, x.w.cell? ⟨v19.heap.size, 1, none⟩ = some (.int .i64 f.x.re) := fun x => x.cell B_g.out.lt (B_g.out.cell (j := 1) rfl)
      have k_g_2 : ∀ x : Kept v20.heap.size v20, x.w.cell? ⟨v19.heap.size, 2, none⟩ = some (.int .i64 f.x.im) := fun x => x.cell B_g.out.lt (B_g.out.cell (j := 2) rfl)
      have k_g_3 : ∀ x : Kept v20.heap.size v20, x.w.cell? ⟨v19.heap.size, 3, none⟩ = some (.int .i64 f.y.re) := fun x => x.cell B_g.out.lt (B_g.out.cell (j := 3) rfl)
      have k_g_4 : ∀ x : Kept v20.heap.size v20, x.w.cell? ⟨v19.heap.size, 4, none⟩ = some (.int .i64 f.y.im) := fun x => x.cell B_g.out.lt (B_g.out.cell (j := 4) rfl)
      have k_s_0 : ∀ x : Kept v20.heap.size v20, x.w.cell? ⟨u10.heap.size, 0, none⟩ = some (.int .i64 a.i) := fun x => x.cell B_s.out.lt (B_s.out.cell (j := 0) rfl)
      have k_s_1 : ∀ x : Kept v20.heap.size v20, x.w.cell? ⟨u10.heap.size, 1, none⟩ = some (.int .i64 a.q) := fun x => x.cell B_s.out.lt (B_s.out.cell (j := 1) rfl)
      have k_s_2 : ∀ x : Kept v20.heap.size v20, x.w.cell? ⟨u10.heap.size, 2, none⟩ = some (.int .i64 a.u) := fun x => x.cell B_s.out.lt (B_s.out.cell (j := 2) rfl)
      have k_s_3 : ∀ x : Kept v20.heap.size v20, x.w.cell? ⟨u10.heap.size, 3, none⟩ = some (.int .i64 a.v) := fun x => x.cell B_s.out.lt (B_s.out.cell (j := 3) rfl)
      have hn36 := neq36_same a
      refine wp_region_kept v20.heap.size (by kernel_rfl) (by kernel_rfl) ?_
      intro hne
      repeat (go_big_quiet_step (first | (go_at_call 20; exact Calls.kept_of (Nat.le_refl _) (IF.out _))))
      refine wpQuiet_nil ?_
      rintro u21 ⟨xk, hxk⟩
      have hR1 := xk.h
      rw [← hxk] at hR1
      clear hxk xk hne k_g_0 k_g_1 k_g_2 k_g_3 k_g_4 k_s_0 k_s_1 k_s_2 k_s_3
      replace B_p : Hid (Blk u21 (v1.heap.size) #[.int .i64 m.a.re, .int .i64 m.a.im, .int .i64 m.b.re, .int .i64 m.b.im, .int .i64 m.c.re, .int .i64 m.c.im, .int .i64 m.d.re, .int .i64 m.d.im] 27) := by show Blk u21 (v1.heap.size) _ _; exact Blk.old B_p.out hR1
      replace B_l : Hid (Blk u21 (v1.heap.size + 1) #[.int .i64 l.x.re, .int .i64 l.x.im, .int .i64 l.y.re, .int .i64 l.y.im] 29) := by show Blk u21 (v1.heap.size + 1) _ _; exact Blk.old B_l.out hR1
      replace B_r : Hid (Blk u21 (v3.heap.size) #[.int .i64 0, .int .i64 n.x.re, .int .i64 n.x.im, .int .i64 n.y.re, .int .i64 n.y.im] 33) := by show Blk u21 (v3.heap.size) _ _; exact Blk.old B_r.out hR1
      replace B_i : Hid (Blk u21 (v5.heap.size) #[.int .i64 0, .int .i64 a.i, .int .i64 a.q, .int .i64 a.u, .int .i64 a.v] 38) := by show Blk u21 (v5.heap.size) _ _; exact Blk.old B_i.out hR1
      replace B_o : Hid (Blk u21 (v8.heap.size) #[.int .i64 0, .int .i64 o.i, .int .i64 o.q, .int .i64 o.u, .int .i64 o.v] 38) := by show Blk u21 (v8.heap.size) _ _; exact Blk.old B_o.out hR1
      replace B_s : Hid (Blk u21 (u10.heap.size) #[.int .i64 a.i, .int .i64 a.q, .int .i64 a.u, .int .i64 a.v] 36) := by show Blk u21 (u10.heap.size) _ _; exact Blk.old B_s.out hR1
      replace B_q : Hid (Blk u21 (v12.heap.size) #[.int .i64 0, .slice (some ⟨t.b, 0, none⟩) 4 t.cap] 42) := by show Blk u21 (v12.heap.size) _ _; exact Blk.old B_q.out hR1
      replace B_t : Hid (Blk u21 (v14.heap.size) #[.int .i64 ct, .int .i64 kt.i, .int .i64 kt.q, .int .i64 kt.u, .int .i64 kt.v] 38) := by show Blk u21 (v14.heap.size) _ _; exact Blk.old B_t.out hR1
      replace B_f : Hid (Blk u21 (v17.heap.size) #[.int .i64 0, .int .i64 f.x.re, .int .i64 f.x.im, .int .i64 f.y.re, .int .i64 f.y.im] 33) := by show Blk u21 (v17.heap.size) _ _; exact Blk.old B_f.out hR1
      replace B_g : Hid (Blk u21 (v19.heap.size) #[.int .i64 0, .int .i64 f.x.re, .int .i64 f.x.im, .int .i64 f.y.re, .int .i64 f.y.im] 33) := by show Blk u21 (v19.heap.size) _ _; exact Blk.old B_g.out hR1
      replace HO : Hid (Below w.heap.size w u21) := HO.out.trans (hR1.mono HO.out.size)
      clear hR1
      clear hn36 IF
      by_cases e1 : l.x.im = 0
      · have d1 : (l.x.im == 0) = true := by simpa using e1
        by_cases e2 : 0 < l.x.re
        · have d2 : decide (0 < l.x.re) = true := by simpa using e2
          have l_0 := B_l.out.cell (j := 0) rfl
          have l_1 := B_l.out.cell (j := 1) rfl
          have l_2 := B_l.out.cell (j := 2) rfl
          have l_3 := B_l.out.cell (j := 3) rfl
          have l_f := B_l.out.frozen
          have l_z := B_l.out.lt
          have s_0 := B_s.out.cell (j := 0) rfl
          have s_1 := B_s.out.cell (j := 1) rfl
          have s_2 := B_s.out.cell (j := 2) rfl
          have s_3 := B_s.out.cell (j := 3) rfl
          have s_f := B_s.out.frozen
          have s_z := B_s.out.lt
          go_wp2_with fail
          refine (sstokF a _).mono ?_
          rintro e v22 ⟨rfl, hb⟩
          clear l_0 l_1 l_2 l_3 l_f l_z s_0 s_1 s_2 s_3 s_f s_z
          replace B_p : Hid (Blk v22 (v1.heap.size) #[.int .i64 m.a.re, .int .i64 m.a.im, .int .i64 m.b.re, .int .i64 m.b.im, .int .i64 m.c.re, .int .i64 m.c.im, .int .i64 m.d.re, .int .i64 m.d.im] 27) := by show Blk v22 (v1.heap.size) _ _; exact Blk.old B_p.out hb
          replace B_l : Hid (Blk v22 (v1.heap.size + 1) #[.int .i64 l.x.re, .int .i64 l.x.im, .int .i64 l.y.re, .int .i64 l.y.im] 29) := by show Blk v22 (v1.heap.size + 1) _ _; exact Blk.old B_l.out hb
          replace B_r : Hid (Blk v22 (v3.heap.size) #[.int .i64 0, .int .i64 n.x.re, .int .i64 n.x.im, .int .i64 n.y.re, .int .i64 n.y.im] 33) := by show Blk v22 (v3.heap.size) _ _; exact Blk.old B_r.out hb
          replace B_i : Hid (Blk v22 (v5.heap.size) #[.int .i64 0, .int .i64 a.i, .int .i64 a.q, .int .i64 a.u, .int .i64 a.v] 38) := by show Blk v22 (v5.heap.size) _ _; exact Blk.old B_i.out hb
          replace B_o : Hid (Blk v22 (v8.heap.size) #[.int .i64 0, .int .i64 o.i, .int .i64 o.q, .int .i64 o.u, .int .i64 o.v] 38) := by show Blk v22 (v8.heap.size) _ _; exact Blk.old B_o.out hb
          replace B_s : Hid (Blk v22 (u10.heap.size) #[.int .i64 a.i, .int .i64 a.q, .int .i64 a.u, .int .i64 a.v] 36) := by show Blk v22 (u10.heap.size) _ _; exact Blk.old B_s.out hb
          replace B_q : Hid (Blk v22 (v12.heap.size) #[.int .i64 0, .slice (some ⟨t.b, 0, none⟩) 4 t.cap] 42) := by show Blk v22 (v12.heap.size) _ _; exact Blk.old B_q.out hb
          replace B_t : Hid (Blk v22 (v14.heap.size) #[.int .i64 ct, .int .i64 kt.i, .int .i64 kt.q, .int .i64 kt.u, .int .i64 kt.v] 38) := by show Blk v22 (v14.heap.size) _ _; exact Blk.old B_t.out hb
          replace B_f : Hid (Blk v22 (v17.heap.size) #[.int .i64 0, .int .i64 f.x.re, .int .i64 f.x.im, .int .i64 f.y.re, .int .i64 f.y.im] 33) := by show Blk v22 (v17.heap.size) _ _; exact Blk.old B_f.out hb
          replace B_g : Hid (Blk v22 (v19.heap.size) #[.int .i64 0, .int .i64 f.x.re, .int .i64 f.x.im, .int .i64 f.y.re, .int .i64 f.y.im] 33) := by show Blk v22 (v19.heap.size) _ _; exact Blk.old B_g.out hb
          replace HO : Hid (Below w.heap.size w v22) := box_step HO.out hb (Nat.le_refl _)
          clear hb
          by_cases e3 : scode a = 0
          · skip
            have IJ : Hid (∀ W, Calls Try.prog 26 #[.agg #[.int .i64 a.i, .int .i64 a.q, .int .i64 a.u, .int .i64 a.v]] W fun e w' => e = .returned (.agg #[.int .i64 0, .int .i64 l.x.re, .int .i64 l.x.im, .int .i64 l.y.re, .int .i64 l.y.im]) ∧ Below W.heap.size W w') := fun W => by refine (ijf a W).mono ?_; rintro e w1 ⟨d, k, rfl, hK, hb⟩; obtain ⟨_, hj, _, _, rfl, _⟩ := HM.out; obtain ⟨rfl, rfl⟩ := hK.uniq (found_again hj e1 e2 e3); exact ⟨rfl, hb⟩
            rw [e3]
            clear e1 e2 e3
            go_upto_region 24 with fail
            have k_l_0 : ∀ x : Kept v22.heap.size v22, x.w.cell? ⟨v1.heap.size + 1, 0, none⟩ = some (.int .i64 l.x.re) := fun x => x.cell B_l.out.lt (B_l.out.cell (j := 0) rfl)
            have k_l_1 : ∀ x : Kept v22.heap.size v22, x.w.cell? ⟨v1.heap.size + 1, 1, none⟩ = some (.int .i64 l.x.im) := fun x => x.cell B_l.out.lt (B_l.out.cell (j := 1) rfl)
            have k_l_2 : ∀ x : Kept v22.heap.size v22, x.w.cell? ⟨v1.heap.size + 1, 2, none⟩ = some (.int .i64 l.y.re) := fun x => x.cell B_l.out.lt (B_l.out.cell (j := 2) rfl)
            have k_l_3 : ∀ x : Kept v22.heap.size v22, x.w.cell? ⟨v1.heap.size + 1, 3, none⟩ = some (.int .i64 l.y.im) := fun x => x.cell B_l.out.lt (B_l.out.cell (j := 3) rfl)
            have k_s_0 : ∀ x : Kept v22.heap.size v22, x.w.cell? ⟨u10.heap.size, 0, none⟩ = some (.int .i64 a.i) := fun x => x.cell B_s.out.lt (B_s.out.cell (j := 0) rfl)
            have k_s_1 : ∀ x : Kept v22.heap.size v22, x.w.cell? ⟨u10.heap.size, 1, none⟩ = some (.int .i64 a.q) := fun x => x.cell B_s.out.lt (B_s.out.cell (j := 1) rfl)
            have k_s_2 : ∀ x : Kept v22.heap.size v22, x.w.cell? ⟨u10.heap.size, 2, none⟩ = some (.int .i64 a.u) := fun x => x.cell B_s.out.lt (B_s.out.cell (j := 2) rfl)
            have k_s_3 : ∀ x : Kept v22.heap.size v22, x.w.cell? ⟨u10.heap.size, 3, none⟩ = some (.int .i64 a.v) := fun x => x.cell B_s.out.lt (B_s.out.cell (j := 3) rfl)
            have he29 := eql29_same
            refine wp_region_kept v22.heap.size (by kernel_rfl) (by kernel_rfl) ?_
            intro hne
            repeat (go_big_quiet_step (first | (go_at_call 26; exact Calls.kept_of (Nat.le_refl _) (IJ.out _))))
            refine wpQuiet_nil ?_
            rintro u23 ⟨xk, hxk⟩
            have hR1 := xk.h
            rw [← hxk] at hR1
            clear hxk xk hne k_l_0 k_l_1 k_l_2 k_l_3 k_s_0 k_s_1 k_s_2 k_s_3
            replace B_p : Hid (Blk u23 (v1.heap.size) #[.int .i64 m.a.re, .int .i64 m.a.im, .int .i64 m.b.re, .int .i64 m.b.im, .int .i64 m.c.re, .int .i64 m.c.im, .int .i64 m.d.re, .int .i64 m.d.im] 27) := by show Blk u23 (v1.heap.size) _ _; exact Blk.old B_p.out hR1
            replace B_l : Hid (Blk u23 (v1.heap.size + 1) #[.int .i64 l.x.re, .int .i64 l.x.im, .int .i64 l.y.re, .int .i64 l.y.im] 29) := by show Blk u23 (v1.heap.size + 1) _ _; exact Blk.old B_l.out hR1
            replace B_r : Hid (Blk u23 (v3.heap.size) #[.int .i64 0, .int .i64 n.x.re, .int .i64 n.x.im, .int .i64 n.y.re, .int .i64 n.y.im] 33) := by show Blk u23 (v3.heap.size) _ _; exact Blk.old B_r.out hR1
            replace B_i : Hid (Blk u23 (v5.heap.size) #[.int .i64 0, .int .i64 a.i, .int .i64 a.q, .int .i64 a.u, .int .i64 a.v] 38) := by show Blk u23 (v5.heap.size) _ _; exact Blk.old B_i.out hR1
            replace B_o : Hid (Blk u23 (v8.heap.size) #[.int .i64 0, .int .i64 o.i, .int .i64 o.q, .int .i64 o.u, .int .i64 o.v] 38) := by show Blk u23 (v8.heap.size) _ _; exact Blk.old B_o.out hR1
            replace B_s : Hid (Blk u23 (u10.heap.size) #[.int .i64 a.i, .int .i64 a.q, .int .i64 a.u, .int .i64 a.v] 36) := by show Blk u23 (u10.heap.size) _ _; exact Blk.old B_s.out hR1
            replace B_q : Hid (Blk u23 (v12.heap.size) #[.int .i64 0, .slice (some ⟨t.b, 0, none⟩) 4 t.cap] 42) := by show Blk u23 (v12.heap.size) _ _; exact Blk.old B_q.out hR1
            replace B_t : Hid (Blk u23 (v14.heap.size) #[.int .i64 ct, .int .i64 kt.i, .int .i64 kt.q, .int .i64 kt.u, .int .i64 kt.v] 38) := by show Blk u23 (v14.heap.size) _ _; exact Blk.old B_t.out hR1
            replace B_f : Hid (Blk u23 (v17.heap.size) #[.int .i64 0, .int .i64 f.x.re, .int .i64 f.x.im, .int .i64 f.y.re, .int .i64 f.y.im] 33) := by show Blk u23 (v17.heap.size) _ _; exact Blk.old B_f.out hR1
            replace B_g : Hid (Blk u23 (v19.heap.size) #[.int .i64 0, .int .i64 f.x.re, .int .i64 f.x.im, .int .i64 f.y.re, .int .i64 f.y.im] 33) := by show Blk u23 (v19.heap.size) _ _; exact Blk.old B_g.out hR1
            replace HO : Hid (Below w.heap.size w u23) := HO.out.trans (hR1.mono HO.out.size)
            clear hR1
            clear he29
            go_wp2
            go_ret
            exact ⟨rfl, HO.out⟩
          have d3 : (scode a == 0) = false := by simpa using e3
          go_wp2
          go_ret
          exact ⟨rfl, HO.out⟩
        have d2 : decide (0 < l.x.re) = false := by simpa using e2
        have l_0 := B_l.out.cell (j := 0) rfl
        have l_1 := B_l.out.cell (j := 1) rfl
        have l_2 := B_l.out.cell (j := 2) rfl
        have l_3 := B_l.out.cell (j := 3) rfl
        have l_f := B_l.out.frozen
        have l_z := B_l.out.lt
        go_wp2
        go_ret
        exact ⟨rfl, HO.out⟩
      have d1 : (l.x.im == 0) = false := by simpa using e1
      have l_0 := B_l.out.cell (j := 0) rfl
      have l_1 := B_l.out.cell (j := 1) rfl
      have l_2 := B_l.out.cell (j := 2) rfl
      have l_3 := B_l.out.cell (j := 3) rfl
      have l_f := B_l.out.frozen
      have l_z := B_l.out.lt
      go_wp2
      go_ret
      exact ⟨rfl, HO.out⟩
    have hcb : (c == 0) = false := by simpa using hc0
    go_upto_region 19 with fail
    obtain ⟨v18, hv⟩ : ∃ Xw, Xw = (v17.alloc (.cells #[.int .i64 c, .int .i64 f.x.re, .int .i64 f.x.im, .int .i64 f.y.re, .int .i64 f.y.im] 33)) := ⟨_, rfl⟩
    rw [← hv]
    have ne_p_f : Hid (v1.heap.size ≠ v17.heap.size) := Nat.ne_of_lt (Nat.lt_of_lt_of_le B_p.out.lt (by omega))
    have ne_l_f : Hid (v1.heap.size + 1 ≠ v17.heap.size) := Nat.ne_of_lt (Nat.lt_of_lt_of_le B_l.out.lt (by omega))
    have ne_r_f : Hid (v3.heap.size ≠ v17.heap.size) := Nat.ne_of_lt (Nat.lt_of_lt_of_le B_r.out.lt (by omega))
    have ne_i_f : Hid (v5.heap.size ≠ v17.heap.size) := Nat.ne_of_lt (Nat.lt_of_lt_of_le B_i.out.lt (by omega))
    have ne_o_f : Hid (v8.heap.size ≠ v17.heap.size) := Nat.ne_of_lt (Nat.lt_of_lt_of_le B_o.out.lt (by omega))
    have ne_s_f : Hid (u10.heap.size ≠ v17.heap.size) := Nat.ne_of_lt (Nat.lt_of_lt_of_le B_s.out.lt (by omega))
    have ne_q_f : Hid (v12.heap.size ≠ v17.heap.size) := Nat.ne_of_lt (Nat.lt_of_lt_of_le B_q.out.lt (by omega))
    have ne_t_f : Hid (v14.heap.size ≠ v17.heap.size) := Nat.ne_of_lt (Nat.lt_of_lt_of_le B_t.out.lt (by omega))
    have B_f : Hid (Blk v18 (v17.heap.size) #[.int .i64 c, .int .i64 f.x.re, .int .i64 f.x.im, .int .i64 f.y.re, .int .i64 f.y.im] 33) := by show Blk v18 (v17.heap.size) _ _; rw [hv]; exact (Blk.new (by simp))
    have low_f : Hid (w.heap.size ≤ v17.heap.size) := by show w.heap.size ≤ v17.heap.size; have := HO.out.size; omega
    replace B_p : Hid (Blk v18 (v1.heap.size) #[.int .i64 m.a.re, .int .i64 m.a.im, .int .i64 m.b.re, .int .i64 m.b.im, .int .i64 m.c.re, .int .i64 m.c.im, .int .i64 m.d.re, .int .i64 m.d.im] 27) := by show Blk v18 (v1.heap.size) _ _; rw [hv]; exact (Blk.alloc B_p.out _)
    replace B_l : Hid (Blk v18 (v1.heap.size + 1) #[.int .i64 l.x.re, .int .i64 l.x.im, .int .i64 l.y.re, .int .i64 l.y.im] 29) := by show Blk v18 (v1.heap.size + 1) _ _; rw [hv]; exact (Blk.alloc B_l.out _)
    replace B_r : Hid (Blk v18 (v3.heap.size) #[.int .i64 0, .int .i64 n.x.re, .int .i64 n.x.im, .int .i64 n.y.re, .int .i64 n.y.im] 33) := by show Blk v18 (v3.heap.size) _ _; rw [hv]; exact (Blk.alloc B_r.out _)
    replace B_i : Hid (Blk v18 (v5.heap.size) #[.int .i64 0, .int .i64 a.i, .int .i64 a.q, .int .i64 a.u, .int .i64 a.v] 38) := by show Blk v18 (v5.heap.size) _ _; rw [hv]; exact (Blk.alloc B_i.out _)
    replace B_o : Hid (Blk v18 (v8.heap.size) #[.int .i64 0, .int .i64 o.i, .int .i64 o.q, .int .i64 o.u, .int .i64 o.v] 38) := by show Blk v18 (v8.heap.size) _ _; rw [hv]; exact (Blk.alloc B_o.out _)
    replace B_s : Hid (Blk v18 (u10.heap.size) #[.int .i64 a.i, .int .i64 a.q, .int .i64 a.u, .int .i64 a.v] 36) := by show Blk v18 (u10.heap.size) _ _; rw [hv]; exact (Blk.alloc B_s.out _)
    replace B_q : Hid (Blk v18 (v12.heap.size) #[.int .i64 0, .slice (some ⟨t.b, 0, none⟩) 4 t.cap] 42) := by show Blk v18 (v12.heap.size) _ _; rw [hv]; exact (Blk.alloc B_q.out _)
    replace B_t : Hid (Blk v18 (v14.heap.size) #[.int .i64 ct, .int .i64 kt.i, .int .i64 kt.q, .int .i64 kt.u, .int .i64 kt.v] 38) := by show Blk v18 (v14.heap.size) _ _; rw [hv]; exact (Blk.alloc B_t.out _)
    replace HO : Hid (Below w.heap.size w v18) := by show Below w.heap.size w v18; rw [hv]; exact (below_new HO.out _)
    clear hv
    have f_0 := B_f.out.cell (j := 0) rfl
    have f_1 := B_f.out.cell (j := 1) rfl
    have f_2 := B_f.out.cell (j := 2) rfl
    have f_3 := B_f.out.cell (j := 3) rfl
    have f_4 := B_f.out.cell (j := 4) rfl
    have f_f := B_f.out.frozen
    have f_z := B_f.out.lt
    by_cases e1 : l.x.im = 0
    · have d1 : (l.x.im == 0) = true := by simpa using e1
      by_cases e2 : 0 < l.x.re
      · have d2 : decide (0 < l.x.re) = true := by simpa using e2
        have l_0 := B_l.out.cell (j := 0) rfl
        have l_1 := B_l.out.cell (j := 1) rfl
        have l_2 := B_l.out.cell (j := 2) rfl
        have l_3 := B_l.out.cell (j := 3) rfl
        have l_f := B_l.out.frozen
        have l_z := B_l.out.lt
        have s_0 := B_s.out.cell (j := 0) rfl
        have s_1 := B_s.out.cell (j := 1) rfl
        have s_2 := B_s.out.cell (j := 2) rfl
        have s_3 := B_s.out.cell (j := 3) rfl
        have s_f := B_s.out.frozen
        have s_z := B_s.out.lt
        go_wp2_with fail
        refine (sstokF a _).mono ?_
        rintro e v19 ⟨rfl, hb⟩
        clear l_0 l_1 l_2 l_3 l_f l_z s_0 s_1 s_2 s_3 s_f s_z
        replace B_p : Hid (Blk v19 (v1.heap.size) #[.int .i64 m.a.re, .int .i64 m.a.im, .int .i64 m.b.re, .int .i64 m.b.im, .int .i64 m.c.re, .int .i64 m.c.im, .int .i64 m.d.re, .int .i64 m.d.im] 27) := by show Blk v19 (v1.heap.size) _ _; exact Blk.old B_p.out hb
        replace B_l : Hid (Blk v19 (v1.heap.size + 1) #[.int .i64 l.x.re, .int .i64 l.x.im, .int .i64 l.y.re, .int .i64 l.y.im] 29) := by show Blk v19 (v1.heap.size + 1) _ _; exact Blk.old B_l.out hb
        replace B_r : Hid (Blk v19 (v3.heap.size) #[.int .i64 0, .int .i64 n.x.re, .int .i64 n.x.im, .int .i64 n.y.re, .int .i64 n.y.im] 33) := by show Blk v19 (v3.heap.size) _ _; exact Blk.old B_r.out hb
        replace B_i : Hid (Blk v19 (v5.heap.size) #[.int .i64 0, .int .i64 a.i, .int .i64 a.q, .int .i64 a.u, .int .i64 a.v] 38) := by show Blk v19 (v5.heap.size) _ _; exact Blk.old B_i.out hb
        replace B_o : Hid (Blk v19 (v8.heap.size) #[.int .i64 0, .int .i64 o.i, .int .i64 o.q, .int .i64 o.u, .int .i64 o.v] 38) := by show Blk v19 (v8.heap.size) _ _; exact Blk.old B_o.out hb
        replace B_s : Hid (Blk v19 (u10.heap.size) #[.int .i64 a.i, .int .i64 a.q, .int .i64 a.u, .int .i64 a.v] 36) := by show Blk v19 (u10.heap.size) _ _; exact Blk.old B_s.out hb
        replace B_q : Hid (Blk v19 (v12.heap.size) #[.int .i64 0, .slice (some ⟨t.b, 0, none⟩) 4 t.cap] 42) := by show Blk v19 (v12.heap.size) _ _; exact Blk.old B_q.out hb
        replace B_t : Hid (Blk v19 (v14.heap.size) #[.int .i64 ct, .int .i64 kt.i, .int .i64 kt.q, .int .i64 kt.u, .int .i64 kt.v] 38) := by show Blk v19 (v14.heap.size) _ _; exact Blk.old B_t.out hb
        replace B_f : Hid (Blk v19 (v17.heap.size) #[.int .i64 c, .int .i64 f.x.re, .int .i64 f.x.im, .int .i64 f.y.re, .int .i64 f.y.im] 33) := by show Blk v19 (v17.heap.size) _ _; exact Blk.old B_f.out hb
        replace HO : Hid (Below w.heap.size w v19) := box_step HO.out hb (Nat.le_refl _)
        clear hb
        by_cases e3 : scode a = 0
        · skip
          have IJ : Hid (∀ W, Calls Try.prog 26 #[.agg #[.int .i64 a.i, .int .i64 a.q, .int .i64 a.u, .int .i64 a.v]] W fun e w' => e = .returned (.agg #[.int .i64 0, .int .i64 l.x.re, .int .i64 l.x.im, .int .i64 l.y.re, .int .i64 l.y.im]) ∧ Below W.heap.size W w') := fun W => by refine (ijf a W).mono ?_; rintro e w1 ⟨d, k, rfl, hK, hb⟩; obtain ⟨_, hj, _, _, rfl, _⟩ := HM.out; obtain ⟨rfl, rfl⟩ := hK.uniq (found_again hj e1 e2 e3); exact ⟨rfl, hb⟩
          rw [e3]
          clear e1 e2 e3
          go_upto_region 24 with fail
          have k_l_0 : ∀ x : Kept v19.heap.size v19, x.w.cell? ⟨v1.heap.size + 1, 0, none⟩ = some (.int .i64 l.x.re) := fun x => x.cell B_l.out.lt (B_l.out.cell (j := 0) rfl)
          have k_l_1 : ∀ x : Kept v19.heap.size v19, x.w.cell? ⟨v1.heap.size + 1, 1, none⟩ = some (.int .i64 l.x.im) := fun x => x.cell B_l.out.lt (B_l.out.cell (j := 1) rfl)
          have k_l_2 : ∀ x : Kept v19.heap.size v19, x.w.cell? ⟨v1.heap.size + 1, 2, none⟩ = some (.int .i64 l.y.re) := fun x => x.cell B_l.out.lt (B_l.out.cell (j := 2) rfl)
          have k_l_3 : ∀ x : Kept v19.heap.size v19, x.w.cell? ⟨v1.heap.size + 1, 3, none⟩ = some (.int .i64 l.y.im) := fun x => x.cell B_l.out.lt (B_l.out.cell (j := 3) rfl)
          have k_s_0 : ∀ x : Kept v19.heap.size v19, x.w.cell? ⟨u10.heap.size, 0, none⟩ = some (.int .i64 a.i) := fun x => x.cell B_s.out.lt (B_s.out.cell (j := 0) rfl)
          have k_s_1 : ∀ x : Kept v19.heap.size v19, x.w.cell? ⟨u10.heap.size, 1, none⟩ = some (.int .i64 a.q) := fun x => x.cell B_s.out.lt (B_s.out.cell (j := 1) rfl)
          have k_s_2 : ∀ x : Kept v19.heap.size v19, x.w.cell? ⟨u10.heap.size, 2, none⟩ = some (.int .i64 a.u) := fun x => x.cell B_s.out.lt (B_s.out.cell (j := 2) rfl)
          have k_s_3 : ∀ x : Kept v19.heap.size v19, x.w.cell? ⟨u10.heap.size, 3, none⟩ = some (.int .i64 a.v) := fun x => x.cell B_s.out.lt (B_s.out.cell (j := 3) rfl)
          have he29 := eql29_same
          refine wp_region_kept v19.heap.size (by kernel_rfl) (by kernel_rfl) ?_
          intro hne
          repeat (go_big_quiet_step (first | (go_at_call 26; exact Calls.kept_of (Nat.le_refl _) (IJ.out _))))
          refine wpQuiet_nil ?_
          rintro u20 ⟨xk, hxk⟩
          have hR1 := xk.h
          rw [← hxk] at hR1
          clear hxk xk hne k_l_0 k_l_1 k_l_2 k_l_3 k_s_0 k_s_1 k_s_2 k_s_3
          replace B_p : Hid (Blk u20 (v1.heap.size) #[.int .i64 m.a.re, .int .i64 m.a.im, .int .i64 m.b.re, .int .i64 m.b.im, .int .i64 m.c.re, .int .i64 m.c.im, .int .i64 m.d.re, .int .i64 m.d.im] 27) := by show Blk u20 (v1.heap.size) _ _; exact Blk.old B_p.out hR1
          replace B_l : Hid (Blk u20 (v1.heap.size + 1) #[.int .i64 l.x.re, .int .i64 l.x.im, .int .i64 l.y.re, .int .i64 l.y.im] 29) := by show Blk u20 (v1.heap.size + 1) _ _; exact Blk.old B_l.out hR1
          replace B_r : Hid (Blk u20 (v3.heap.size) #[.int .i64 0, .int .i64 n.x.re, .int .i64 n.x.im, .int .i64 n.y.re, .int .i64 n.y.im] 33) := by show Blk u20 (v3.heap.size) _ _; exact Blk.old B_r.out hR1
          replace B_i : Hid (Blk u20 (v5.heap.size) #[.int .i64 0, .int .i64 a.i, .int .i64 a.q, .int .i64 a.u, .int .i64 a.v] 38) := by show Blk u20 (v5.heap.size) _ _; exact Blk.old B_i.out hR1
          replace B_o : Hid (Blk u20 (v8.heap.size) #[.int .i64 0, .int .i64 o.i, .int .i64 o.q, .int .i64 o.u, .int .i64 o.v] 38) := by show Blk u20 (v8.heap.size) _ _; exact Blk.old B_o.out hR1
          replace B_s : Hid (Blk u20 (u10.heap.size) #[.int .i64 a.i, .int .i64 a.q, .int .i64 a.u, .int .i64 a.v] 36) := by show Blk u20 (u10.heap.size) _ _; exact Blk.old B_s.out hR1
          replace B_q : Hid (Blk u20 (v12.heap.size) #[.int .i64 0, .slice (some ⟨t.b, 0, none⟩) 4 t.cap] 42) := by show Blk u20 (v12.heap.size) _ _; exact Blk.old B_q.out hR1
          replace B_t : Hid (Blk u20 (v14.heap.size) #[.int .i64 ct, .int .i64 kt.i, .int .i64 kt.q, .int .i64 kt.u, .int .i64 kt.v] 38) := by show Blk u20 (v14.heap.size) _ _; exact Blk.old B_t.out hR1
          replace B_f : Hid (Blk u20 (v17.heap.size) #[.int .i64 c, .int .i64 f.x.re, .int .i64 f.x.im, .int .i64 f.y.re, .int .i64 f.y.im] 33) := by show Blk u20 (v17.heap.size) _ _; exact Blk.old B_f.out hR1
          replace HO : Hid (Below w.heap.size w u20) := HO.out.trans (hR1.mono HO.out.size)
          clear hR1
          clear he29
          go_wp2
          go_ret
          exact ⟨rfl, HO.out⟩
        have d3 : (scode a == 0) = false := by simpa using e3
        go_wp2
        go_ret
        exact ⟨rfl, HO.out⟩
      have d2 : decide (0 < l.x.re) = false := by simpa using e2
      have l_0 := B_l.out.cell (j := 0) rfl
      have l_1 := B_l.out.cell (j := 1) rfl
      have l_2 := B_l.out.cell (j := 2) rfl
      have l_3 := B_l.out.cell (j := 3) rfl
      have l_f := B_l.out.frozen
      have l_z := B_l.out.lt
      go_wp2
      go_ret
      exact ⟨rfl, HO.out⟩
    have d1 : (l.x.im == 0) = false := by simpa using e1
    have l_0 := B_l.out.cell (j := 0) rfl
    have l_1 := B_l.out.cell (j := 1) rfl
    have l_2 := B_l.out.cell (j := 2) rfl
    have l_3 := B_l.out.cell (j := 3) rfl
    have l_f := B_l.out.frozen
    have l_z := B_l.out.lt
    go_wp2
    go_ret
    exact ⟨rfl, HO.out⟩
  obtain ⟨cz, hcz⟩ : ∃ c, c = rcode m l := ⟨_, rfl⟩
  obtain ⟨n, hnn⟩ : ∃ n, n = rjon m l := ⟨_, rfl⟩
  rw [← hcz, ← hnn]
  rw [← hcz] at hc
  have IP : Hid (∀ W, Calls Try.prog 19 #[.agg #[.int .i64 m.a.re, .int .i64 m.a.im, .int .i64 m.b.re, .int .i64 m.b.im, .int .i64 m.c.re, .int .i64 m.c.im, .int .i64 m.d.re, .int .i64 m.d.im], .agg #[.int .i64 l.x.re, .int .i64 l.x.im, .int .i64 l.y.re, .int .i64 l.y.im]] W fun e w' => e = .returned (.agg #[.int .i64 cz, .int .i64 n.x.re, .int .i64 n.x.im, .int .i64 n.y.re, .int .i64 n.y.im]) ∧ Below W.heap.size W w') := fun W => by rw [hcz, hnn]; exact ipj m l W
  clear hcz hnn
  have hpb : (cz != 0) = true := by simpa using hc
  go_upto_region 5 with fail
  obtain ⟨v4, hv⟩ : ∃ Xw, Xw = (v3.alloc (.cells #[.int .i64 cz, .int .i64 n.x.re, .int .i64 n.x.im, .int .i64 n.y.re, .int .i64 n.y.im] 33)) := ⟨_, rfl⟩
  rw [← hv]
  have ne_p_r : Hid (v1.heap.size ≠ v3.heap.size) := Nat.ne_of_lt (Nat.lt_of_lt_of_le B_p.out.lt (by omega))
  have ne_l_r : Hid (v1.heap.size + 1 ≠ v3.heap.size) := Nat.ne_of_lt (Nat.lt_of_lt_of_le B_l.out.lt (by omega))
  have B_r : Hid (Blk v4 (v3.heap.size) #[.int .i64 cz, .int .i64 n.x.re, .int .i64 n.x.im, .int .i64 n.y.re, .int .i64 n.y.im] 33) := by show Blk v4 (v3.heap.size) _ _; rw [hv]; exact (Blk.new (by simp))
  have low_r : Hid (w.heap.size ≤ v3.heap.size) := by show w.heap.size ≤ v3.heap.size; have := HO.out.size; omega
  replace B_p : Hid (Blk v4 (v1.heap.size) #[.int .i64 m.a.re, .int .i64 m.a.im, .int .i64 m.b.re, .int .i64 m.b.im, .int .i64 m.c.re, .int .i64 m.c.im, .int .i64 m.d.re, .int .i64 m.d.im] 27) := by show Blk v4 (v1.heap.size) _ _; rw [hv]; exact (Blk.alloc B_p.out _)
  replace B_l : Hid (Blk v4 (v1.heap.size + 1) #[.int .i64 l.x.re, .int .i64 l.x.im, .int .i64 l.y.re, .int .i64 l.y.im] 29) := by show Blk v4 (v1.heap.size + 1) _ _; rw [hv]; exact (Blk.alloc B_l.out _)
  replace HO : Hid (Below w.heap.size w v4) := by show Below w.heap.size w v4; rw [hv]; exact (below_new HO.out _)
  clear hv
  have r_0 := B_r.out.cell (j := 0) rfl
  have r_1 := B_r.out.cell (j := 1) rfl
  have r_2 := B_r.out.cell (j := 2) rfl
  have r_3 := B_r.out.cell (j := 3) rfl
  have r_4 := B_r.out.cell (j := 4) rfl
  have r_f := B_r.out.frozen
  have r_z := B_r.out.lt
  go_upto_region 6 with fail
  clear r_0 r_1 r_2 r_3 r_4 r_f r_z
  have k_p_0 : ∀ x : Kept v4.heap.size v4, x.w.cell? ⟨v1.heap.size, 0, none⟩ = some (.int .i64 m.a.re) := fun x => x.cell B_p.out.lt (B_p.out.cell (j := 0) rfl)
  have k_p_1 : ∀ x : Kept v4.heap.size v4, x.w.cell? ⟨v1.heap.size, 1, none⟩ = some (.int .i64 m.a.im) := fun x => x.cell B_p.out.lt (B_p.out.cell (j := 1) rfl)
  have k_p_2 : ∀ x : Kept v4.heap.size v4, x.w.cell? ⟨v1.heap.size, 2, none⟩ = some (.int .i64 m.b.re) := fun x => x.cell B_p.out.lt (B_p.out.cell (j := 2) rfl)
  have k_p_3 : ∀ x : Kept v4.heap.size v4, x.w.cell? ⟨v1.heap.size, 3, none⟩ = some (.int .i64 m.b.im) := fun x => x.cell B_p.out.lt (B_p.out.cell (j := 3) rfl)
  have k_p_4 : ∀ x : Kept v4.heap.size v4, x.w.cell? ⟨v1.heap.size, 4, none⟩ = some (.int .i64 m.c.re) := fun x => x.cell B_p.out.lt (B_p.out.cell (j := 4) rfl)
  have k_p_5 : ∀ x : Kept v4.heap.size v4, x.w.cell? ⟨v1.heap.size, 5, none⟩ = some (.int .i64 m.c.im) := fun x => x.cell B_p.out.lt (B_p.out.cell (j := 5) rfl)
  have k_p_6 : ∀ x : Kept v4.heap.size v4, x.w.cell? ⟨v1.heap.size, 6, none⟩ = some (.int .i64 m.d.re) := fun x => x.cell B_p.out.lt (B_p.out.cell (j := 6) rfl)
  have k_p_7 : ∀ x : Kept v4.heap.size v4, x.w.cell? ⟨v1.heap.size, 7, none⟩ = some (.int .i64 m.d.im) := fun x => x.cell B_p.out.lt (B_p.out.cell (j := 7) rfl)
  have k_l_0 : ∀ x : Kept v4.heap.size v4, x.w.cell? ⟨v1.heap.size + 1, 0, none⟩ = some (.int .i64 l.x.re) := fun x => x.cell B_l.out.lt (B_l.out.cell (j := 0) rfl)
  have k_l_1 : ∀ x : Kept v4.heap.size v4, x.w.cell? ⟨v1.heap.size + 1, 1, none⟩ = some (.int .i64 l.x.im) := fun x => x.cell B_l.out.lt (B_l.out.cell (j := 1) rfl)
  have k_l_2 : ∀ x : Kept v4.heap.size v4, x.w.cell? ⟨v1.heap.size + 1, 2, none⟩ = some (.int .i64 l.y.re) := fun x => x.cell B_l.out.lt (B_l.out.cell (j := 2) rfl)
  have k_l_3 : ∀ x : Kept v4.heap.size v4, x.w.cell? ⟨v1.heap.size + 1, 3, none⟩ = some (.int .i64 l.y.im) := fun x => x.cell B_l.out.lt (B_l.out.cell (j := 3) rfl)
  have k_r_0 : ∀ x : Kept v4.heap.size v4, x.w.cell? ⟨v3.heap.size, 0, none⟩ = some (.int .i64 cz) := fun x => x.cell B_r.out.lt (B_r.out.cell (j := 0) rfl)
  have k_r_1 : ∀ x : Kept v4.heap.size v4, x.w.cell? ⟨v3.heap.size, 1, none⟩ = some (.int .i64 n.x.re) := fun x => x.cell B_r.out.lt (B_r.out.cell (j := 1) rfl)
  have k_r_2 : ∀ x : Kept v4.heap.size v4, x.w.cell? ⟨v3.heap.size, 2, none⟩ = some (.int .i64 n.x.im) := fun x => x.cell B_r.out.lt (B_r.out.cell (j := 2) rfl)
  have k_r_3 : ∀ x : Kept v4.heap.size v4, x.w.cell? ⟨v3.heap.size, 3, none⟩ = some (.int .i64 n.y.re) := fun x => x.cell B_r.out.lt (B_r.out.cell (j := 3) rfl)
  have k_r_4 : ∀ x : Kept v4.heap.size v4, x.w.cell? ⟨v3.heap.size, 4, none⟩ = some (.int .i64 n.y.im) := fun x => x.cell B_r.out.lt (B_r.out.cell (j := 4) rfl)
  refine wp_region_kept v4.heap.size (by kernel_rfl) (by kernel_rfl) ?_
  intro hne
  repeat (go_big_quiet_step (first | (go_at_call 19; exact Calls.kept_of (Nat.le_refl _) (IP.out _))))
  refine wpQuiet_nil ?_
  rintro u5 ⟨xk, hxk⟩
  have hR1 := xk.h
  rw [← hxk] at hR1
  clear hxk xk hne k_p_0 k_p_1 k_p_2 k_p_3 k_p_4 k_p_5 k_p_6 k_p_7 k_l_0 k_l_1 k_l_2 k_l_3 k_r_0 k_r_1 k_r_2 k_r_3 k_r_4
  replace B_p : Hid (Blk u5 (v1.heap.size) #[.int .i64 m.a.re, .int .i64 m.a.im, .int .i64 m.b.re, .int .i64 m.b.im, .int .i64 m.c.re, .int .i64 m.c.im, .int .i64 m.d.re, .int .i64 m.d.im] 27) := by show Blk u5 (v1.heap.size) _ _; exact Blk.old B_p.out hR1
  replace B_l : Hid (Blk u5 (v1.heap.size + 1) #[.int .i64 l.x.re, .int .i64 l.x.im, .int .i64 l.y.re, .int .i64 l.y.im] 29) := by show Blk u5 (v1.heap.size + 1) _ _; exact Blk.old B_l.out hR1
  replace B_r : Hid (Blk u5 (v3.heap.size) #[.int .i64 cz, .int .i64 n.x.re, .int .i64 n.x.im, .int .i64 n.y.re, .int .i64 n.y.im] 33) := by show Blk u5 (v3.heap.size) _ _; exact Blk.old B_r.out hR1
  replace HO : Hid (Below w.heap.size w u5) := HO.out.trans (hR1.mono HO.out.size)
  clear hR1
  go_wp2
  go_ret
  exact ⟨rfl, HO.out⟩

set_option maxRecDepth 100000 in
theorem lifted (os : Os) (started : os.Started) (H : Type) (enc : TypeId × Value → H) :
    ReturnsInHanded {} Try.checked os 3 .any (Rows.fnPolarSpec.pre6 enc Try.prog Try.f3 Rows.fnPolarRow.domain false) (Rows.fnPolarSpec.post enc Try.prog Try.f3 false true false false) := by
  refine returnsInHanded_of_change (C := Try.checked) own started (by kernel_rfl) Try.func3
    (ChangeSpec.witness6 (enc := enc) (C := Try.checked) false ⟨#[], #[.slice none 0 0], []⟩ 8 (by kernel_rfl) (by kernel_rfl) (by kernel_rfl) (by kernel_rfl)) ?_
  intro W base args ds gs before hval0 hW hcnd _
  have hval : ∀ (j : Nat) t v, Try.f3.params[j]? = some t → args[j]? = some v → Value.okWide Try.prog W .any base t v := hval0
  have hW' := hW
  obtain ⟨p, q, hA0, hV, rfl, hfz, hnd⟩ := hW
  have hA : DataW.TrodAll enc Try.prog W 0 (fun _ => true) true Try.f3.params.toList args.toList ds p := hA0
  rw [Try.params3] at hA hval
  obtain ⟨v0, vs0, d0, ds0, p0, q0, hargs, rfl, rfl, h0, r0⟩ := trodAll_cons hA
  obtain ⟨rfl, rfl, rfl⟩ := trodAll_nil r0
  obtain rfl : args = #[v0] := by cases args; simp_all
  obtain ⟨rfl, rfl⟩ := trodVars_none hV
  have k0 := h0
  have lt0 : ∀ x ∈ p0, x.block < W.heap.size := by obtain ⟨m, hm⟩ := k0; exact DataW.trod_lt m _ _ _ hm
  obtain ⟨n0, F0, R0, nb0, fb0⟩ := open_bytes (hval 0 22 v0 rfl rfl) h0
  clear hA0 hval0
  refine (walk R0 nb0 fb0).mono fun e W' ⟨he, bel⟩ => ?_
  subst he
  exact ⟨_, rfl, _, _, _, [], _, [], hW', trodAll_mk1 (shut_bool Try.underlying4 _), (trodAll_cons_mk (Below.trod laidOut (by kernel_rfl) (of_decide_eq_true (by kernel_rfl)) k0 bel lt0) trodAll_mk0), rfl, bel.frame _, fun h => by cases h⟩

theorem over : Rows.fnPolarRow.holds Try.pinned (OpenSpec.ofChange Rows.fnPolarSpec) :=
  OpenClaim.holds_of_wide 3 Try.f3 rfl rfl rfl rfl rfl rfl rfl ⟨rfl, rfl, rfl, rfl, rfl⟩ rfl rfl rfl rfl rfl (by kernel_rfl) Try.func3 (by kernel_rfl)
    (of_decide_eq_true (by kernel_rfl)) (by unfold Func.isWrapper; first | (rw [if_pos (by decide +kernel)]; kernel_rfl) | (rw [if_neg (by decide +kernel)]; exact ⟨rfl, rfl⟩))
    (fun os started H enc _ => lifted os started H enc)
end Go.Proofs.Ytloebnlmeplgbaa.LawPolar
namespace Go.Proofs.Ytloebnlmeplgbaa
theorem polar_holds : Rows.FnPolarSaid := LawPolar.over
#print axioms polar_holds
end Go.Proofs.Ytloebnlmeplgbaa
