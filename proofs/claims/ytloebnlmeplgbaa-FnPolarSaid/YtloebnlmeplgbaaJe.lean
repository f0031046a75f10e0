/- Four numbers compared, as an array and as a struct; what JonesFrom of the program answers. -/
import Derived.Test.YtloebnlmeplgbaaJl
import Derived.Handy
import Derived.Laws.StructEq
namespace Go.Proofs.Ytloebnlmeplgbaa
open Go.RowKit
set_option linter.unusedVariables false
set_option linter.unusedSimpArgs false
/-- The elements one by one, till one differs. -/
theorem run_equalIn_array {P : Program} (d : Nat) (t e : TypeId) (n sz : Nat) (ht : P.underlying t = some (.array n e)) (hsz : ∀ w, (sizeOf e).run P w = .ok sz w) (xs ys : Array Value) (q : Nat → Bool)
    (hel : ∀ i, i < n → ∃ a b, (∀ w, (part e xs (i * sz)).run P w = .ok a w) ∧ (∀ w, (part e ys (i * sz)).run P w = .ok b w) ∧ ∀ w, (Op.equalIn d e a b).run P w = .ok (q i) w) (w : World) :
    (Op.equalIn (d + 1) t (.agg xs) (.agg ys)).run P w = .ok ((List.range n).all q) w := by
  rw [List.range_eq_range', Op.equalIn]
  simp only [Sem.run_bind, run_underlying ht, Result.andThen_ok, hsz, Std.Legacy.Range.forIn_eq_forIn_range', Std.Legacy.Range.size, Nat.sub_zero, Nat.add_sub_cancel, Nat.div_one]
  have hl : ∀ i ∈ List.range' 0 n 1, i < n := fun i hi => by simpa using (List.mem_range'_1.1 hi).2
  generalize List.range' 0 n 1 = l at hl ⊢
  induction l with
  | nil => simp
  | cons i l ih =>
    obtain ⟨a, b, pa, pb, pe⟩ := hel i (hl i (by simp))
    simp only [List.forIn_cons, Sem.run_bind, pa, pb, pe, Result.andThen_ok, List.all_cons]
    cases hq : q i
    · simp
    · simp only [Bool.not_true, Bool.false_eq_true, if_false, Sem.run_pure, Result.andThen_ok, Bool.true_and]
      exact ih fun j hj => hl j (by simp [hj])
theorem size2r (w : World) : (sizeOf 2).run Try.prog w = .ok 1 w := by
  have h : (Try.prog.info? 2).map (·.size) = some 1 := by kernel_rfl
  obtain ⟨i, hi, hs⟩ := Option.map_eq_some_iff.1 h
  simp [sizeOf, typeInfo, hi, hs]
theorem eq_int (d : Nat) (a b : Int) (w : World) : (Op.equalIn (d + 1) 2 (.int .i64 a) (.int .i64 b)).run Try.prog w = .ok (a == b) w := by
  simp [Op.equalIn, run_underlying Try.underlying2]
def skeq (x y : Sk) : Bool := (x.i == y.i) && (x.q == y.q) && (x.u == y.u) && (x.v == y.v)
theorem skeq_t {x y : Sk} (h : skeq x y = true) : x = y := by
  simp only [skeq, Bool.and_eq_true, beq_iff_eq] at h
  obtain ⟨⟨⟨h1, h2⟩, h3⟩, h4⟩ := h
  cases x; cases y
  simp_all
theorem skeq_f {x y : Sk} (h : skeq x y = false) : x ≠ y := by
  intro e
  subst e
  simp [skeq] at h
theorem part4 (x : Sk) {i : Nat} (hi : i < 4) (w : World) : (part 2 #[.int .i64 x.i, .int .i64 x.q, .int .i64 x.u, .int .i64 x.v] (i * 1)).run Try.prog w = .ok (.int .i64 (snum x i)) w := by
  match i, hi with
  | 0, _ => simp [part, isAgg, run_underlying Try.underlying2, snum]
  | 1, _ => simp [part, isAgg, run_underlying Try.underlying2, snum]
  | 2, _ => simp [part, isAgg, run_underlying Try.underlying2, snum]
  | 3, _ => simp [part, isAgg, run_underlying Try.underlying2, snum]
theorem eq105 (x y : Sk) (w : World) : (Op.equal 105 (.agg #[.int .i64 x.i, .int .i64 x.q, .int .i64 x.u, .int .i64 x.v]) (.agg #[.int .i64 y.i, .int .i64 y.q, .int .i64 y.u, .int .i64 y.v])).run Try.prog w = .ok (skeq x y) w := by
  show (Op.equalIn (9999 + 1) 105 _ _).run Try.prog w = _
  rw [run_equalIn_array 9999 105 2 4 1 Try.underlying105 size2r _ _ (fun i => snum x i == snum y i) (fun i hi => ⟨_, _, part4 x hi, part4 y hi, fun w => eq_int 9998 _ _ w⟩)]
  have h : (List.range 4).all (fun i => snum x i == snum y i) = skeq x y := by
    simp [List.range, List.range.loop, snum, skeq, Bool.and_assoc]
  rw [h]
theorem neq105 (x y : Sk) (w : World) : (binOp .neq 105 (.agg #[.int .i64 x.i, .int .i64 x.q, .int .i64 x.u, .int .i64 x.v]) (.agg #[.int .i64 y.i, .int .i64 y.q, .int .i64 y.u, .int .i64 y.v])).run Try.prog w = .ok (.bool (!skeq x y)) w := by
  simp [binOp, go_sem, eq105]
theorem fields36 : Try.prog.underlying 36 = some (.struct (Try.prog.fieldsOf 36)) ∧ Try.prog.stoodInHeld 36 = false := ⟨by kernel_rfl, by kernel_rfl⟩
theorem eq36 (x y : Sk) (w : World) : (Op.equal 36 (.agg #[.int .i64 x.i, .int .i64 x.q, .int .i64 x.u, .int .i64 x.v]) (.agg #[.int .i64 y.i, .int .i64 y.q, .int .i64 y.u, .int .i64 y.v])).run Try.prog w = .ok (skeq x y) w := by
  show (Op.equalIn (9999 + 1) 36 _ _).run Try.prog w = _
  rw [run_equalIn_struct w 9999 36 _ _ fields36.1 fields36.2]
  have hf : (Try.prog.fieldsOf 36).toList.map (fun f => (f.name, f.type, f.offset)) = [("I", 2, 0), ("Q", 2, 1), ("U", 2, 2), ("V", 2, 3)] := by kernel_rfl
  generalize (Try.prog.fieldsOf 36).toList = fs at hf
  obtain ⟨f0, f1, f2, f3, rfl⟩ : ∃ f0 f1 f2 f3, fs = [f0, f1, f2, f3] := by
    have h := congrArg List.length hf
    rw [List.length_map] at h
    match fs, h with
    | [a, b, c, d], _ => exact ⟨a, b, c, d, rfl⟩
  simp only [List.map_cons, List.map_nil, List.cons.injEq, Prod.mk.injEq, and_true] at hf
  obtain ⟨⟨n0, t0, o0⟩, ⟨n1, t1, o1⟩, ⟨n2, t2, o2⟩, n3, t3, o3⟩ := hf
  have p0 := fun (x : Sk) w => part4 x (show 0 < 4 by omega) w
  have p1 := fun (x : Sk) w => part4 x (show 1 < 4 by omega) w
  have p2 := fun (x : Sk) w => part4 x (show 2 < 4 by omega) w
  have p3 := fun (x : Sk) w => part4 x (show 3 < 4 by omega) w
  simp only [Nat.mul_one, Nat.zero_mul, Nat.one_mul, snum] at p0 p1 p2 p3
  simp only [Op.eqFields, n0, t0, o0, n1, t1, o1, n2, t2, o2, n3, t3, o3]
  simp only [Sem.run_bind, p0, p1, p2, p3, Result.andThen_ok, eq_int, Sem.run_ite, Sem.run_pure, if_pos (show ("I" : String) ≠ "_" by decide), if_pos (show ("Q" : String) ≠ "_" by decide), if_pos (show ("U" : String) ≠ "_" by decide), if_pos (show ("V" : String) ≠ "_" by decide)]
  unfold skeq
  cases x.i == y.i <;> cases x.q == y.q <;> cases x.u == y.u <;> cases x.v == y.v <;> simp
theorem neq36 (x y : Sk) (w : World) : (binOp .neq 36 (.agg #[.int .i64 x.i, .int .i64 x.q, .int .i64 x.u, .int .i64 x.v]) (.agg #[.int .i64 y.i, .int .i64 y.q, .int .i64 y.u, .int .i64 y.v])).run Try.prog w = .ok (.bool (!skeq x y)) w := by
  simp [binOp, go_sem, eq36]
theorem wp_region_kept {P : Program} {id : Nat} {Q : Exit → Act → World → Prop} {a : Act} {w : World} {l : List Oper} (B : Nat) (hm : P.follows .mixedOrders = true) (hB : Region.lexB .any l.toArray = true)
    (h : Nonempty (Kept B w) → wpQuiet P l.toArray (fun w' => ∃ x : Kept B w, w' = x.w) (fun a' => ∀ w', (∃ x : Kept B w, w' = x.w) → Q .normal a' w') l a) : (Code.region id l.toArray true).wp P Q a w :=
  wp_region_quiet (C := fun w' => ∃ x : Kept B w, w' = x.w) hm hB ⟨⟨w.drew, (Below.refl B w).drew⟩, rfl⟩ (by simpa using h ⟨⟨w, Below.refl B w⟩⟩)
theorem jans_bad {a : Sk} {l : Jn} (hs : scode a = 0) (hl : Lik a l) (h : jcode l.x l.y ≠ 0 ∨ sok l ≠ a) : JAns a 4 ⟨⟨0, 0⟩, ⟨0, 0⟩⟩ :=
  Or.inr (Or.inr ⟨hs, rfl, rfl, fun m hm => by
    have e := hl.2.2.2 m hm
    subst e
    rcases h with h | h
    · exact h hm.code
    · exact h hm.nums⟩)
theorem jans_ok {a : Sk} {l : Jn} (hs : scode a = 0) (hl : Lik a l) (h : jcode l.x l.y = 0) (k : sok l = a) : JAns a 0 l := Or.inr (Or.inl ⟨hs, rfl, h, k, hl.1, hl.2.1, hl.2.2.1⟩)
theorem jans_fault {a : Sk} (hs : scode a ≠ 0) : JAns a (scode a) ⟨⟨0, 0⟩, ⟨0, 0⟩⟩ := Or.inl ⟨hs, rfl, rfl⟩
set_option maxRecDepth 20000 in
set_option maxHeartbeats 3200000 in
theorem ijf (a : Sk) (w : World) : Calls Try.prog 26 #[.agg #[.int .i64 a.i, .int .i64 a.q, .int .i64 a.u, .int .i64 a.v]] w fun e w' => ∃ c l, e = .returned (.agg #[.int .i64 c, .int .i64 l.x.re, .int .i64 l.x.im, .int .i64 l.y.re, .int .i64 l.y.im]) ∧ JAns a c l ∧ Below w.heap.size w w' := by
  go_enter Try.func26, Try.ntmps26
  have HO : Hid (Below w.heap.size w w) := Below.refl _ _
  go_upto_region 1 with fail
  obtain ⟨v1, hv⟩ : ∃ Xw, Xw = ((w.alloc (.cells #[.int .i64 a.i, .int .i64 a.q, .int .i64 a.u, .int .i64 a.v] 36)).alloc (.cells #[.int .i64 0, .int .i64 0, .int .i64 0, .int .i64 0, .int .i64 0] 33)) := ⟨_, rfl⟩
  rw [← hv]
  have ne_p_r : Hid (w.heap.size ≠ w.heap.size + 1) := by show (w.heap.size : Nat) ≠ w.heap.size + 1; omega
  have B_p : Hid (Blk v1 (w.heap.size) #[.int .i64 a.i, .int .i64 a.q, .int .i64 a.u, .int .i64 a.v] 36) := by show Blk v1 (w.heap.size) _ _; rw [hv]; exact (Blk.alloc (Blk.new (by simp)) _)
  have low_p : Hid (w.heap.size ≤ w.heap.size) := by show w.heap.size ≤ w.heap.size; have := HO.out.size; omega
  have B_r : Hid (Blk v1 (w.heap.size + 1) #[.int .i64 0, .int .i64 0, .int .i64 0, .int .i64 0, .int .i64 0] 33) := by show Blk v1 (w.heap.size + 1) _ _; rw [hv]; exact (Blk.new (by simp))
  have low_r : Hid (w.heap.size ≤ w.heap.size + 1) := by show w.heap.size ≤ w.heap.size + 1; have := HO.out.size; omega
  replace HO : Hid (Below w.heap.size w v1) := by show Below w.heap.size w v1; rw [hv]; exact (below_new (below_new HO.out _) _)
  clear hv
  have p_0 := B_p.out.cell (j := 0) rfl
  have p_1 := B_p.out.cell (j := 1) rfl
  have p_2 := B_p.out.cell (j := 2) rfl
  have p_3 := B_p.out.cell (j := 3) rfl
  have p_f := B_p.out.frozen
  have p_z := B_p.out.lt
  go_wp2_with fail
  refine (istokF a _).mono ?_
  rintro e v2 ⟨rfl, hb⟩
  clear p_0 p_1 p_2 p_3 p_f p_z
  replace B_p : Hid (Blk v2 (w.heap.size) #[.int .i64 a.i, .int .i64 a.q, .int .i64 a.u, .int .i64 a.v] 36) := by show Blk v2 (w.heap.size) _ _; exact Blk.old B_p.out hb
  replace B_r : Hid (Blk v2 (w.heap.size + 1) #[.int .i64 0, .int .i64 0, .int .i64 0, .int .i64 0, .int .i64 0] 33) := by show Blk v2 (w.heap.size + 1) _ _; exact Blk.old B_r.out hb
  replace HO : Hid (Below w.heap.size w v2) := box_step HO.out hb (Nat.le_refl _)
  clear hb
  by_cases hs : scode a = 0
  · skip
    rw [hs]
    have p_0 := B_p.out.cell (j := 0) rfl
    have p_1 := B_p.out.cell (j := 1) rfl
    have p_2 := B_p.out.cell (j := 2) rfl
    have p_3 := B_p.out.cell (j := 3) rfl
    have p_f := B_p.out.frozen
    have p_z := B_p.out.lt
    go_wp2_with fail
    refine (ilikely a hs _).mono ?_
    rintro e v3 ⟨l, rfl, hl, hb⟩
    clear p_0 p_1 p_2 p_3 p_f p_z
    replace B_p : Hid (Blk v3 (w.heap.size) #[.int .i64 a.i, .int .i64 a.q, .int .i64 a.u, .int .i64 a.v] 36) := by show Blk v3 (w.heap.size) _ _; exact Blk.old B_p.out hb
    replace B_r : Hid (Blk v3 (w.heap.size + 1) #[.int .i64 0, .int .i64 0, .int .i64 0, .int .i64 0, .int .i64 0] 33) := by show Blk v3 (w.heap.size + 1) _ _; exact Blk.old B_r.out hb
    replace HO : Hid (Below w.heap.size w v3) := box_step HO.out hb (Nat.le_refl _)
    clear hb
    replace hl : Hid (Lik a l) := hl
    replace hs : Hid (scode a = 0) := hs
    go_upto_region 5 with fail
    obtain ⟨v4, hv⟩ : ∃ Xw, Xw = (v3.alloc (.cells #[.int .i64 l.x.re, .int .i64 l.x.im, .int .i64 l.y.re, .int .i64 l.y.im] 29)) := ⟨_, rfl⟩
    rw [← hv]
    have ne_p_g : Hid (w.heap.size ≠ v3.heap.size) := Nat.ne_of_lt (Nat.lt_of_lt_of_le B_p.out.lt (by omega))
    have ne_r_g : Hid (w.heap.size + 1 ≠ v3.heap.size) := Nat.ne_of_lt (Nat.lt_of_lt_of_le B_r.out.lt (by omega))
    have B_g : Hid (Blk v4 (v3.heap.size) #[.int .i64 l.x.re, .int .i64 l.x.im, .int .i64 l.y.re, .int .i64 l.y.im] 29) := by show Blk v4 (v3.heap.size) _ _; rw [hv]; exact (Blk.new (by simp))
    have low_g : Hid (w.heap.size ≤ v3.heap.size) := by show w.heap.size ≤ v3.heap.size; have := HO.out.size; omega
    replace B_p : Hid (Blk v4 (w.heap.size) #[.int .i64 a.i, .int .i64 a.q, .int .i64 a.u, .int .i64 a.v] 36) := by show Blk v4 (w.heap.size) _ _; rw [hv]; exact (Blk.alloc B_p.out _)
    replace B_r : Hid (Blk v4 (w.heap.size + 1) #[.int .i64 0, .int .i64 0, .int .i64 0, .int .i64 0, .int .i64 0] 33) := by show Blk v4 (w.heap.size + 1) _ _; rw [hv]; exact (Blk.alloc B_r.out _)
    replace HO : Hid (Below w.heap.size w v4) := by show Below w.heap.size w v4; rw [hv]; exact (below_new HO.out _)
    clear hv
    have g_0 := B_g.out.cell (j := 0) rfl
    have g_1 := B_g.out.cell (j := 1) rfl
    have g_2 := B_g.out.cell (j := 2) rfl
    have g_3 := B_g.out.cell (j := 3) rfl
    have g_f := B_g.out.frozen
    have g_z := B_g.out.lt
    go_wp2_with fail
    refine (iso l _).mono ?_
    rintro e v5 ⟨rfl, hb⟩
    clear g_0 g_1 g_2 g_3 g_f g_z
    replace B_p : Hid (Blk v5 (w.heap.size) #[.int .i64 a.i, .int .i64 a.q, .int .i64 a.u, .int .i64 a.v] 36) := by show Blk v5 (w.heap.size) _ _; exact Blk.old B_p.out hb
    replace B_r : Hid (Blk v5 (w.heap.size + 1) #[.int .i64 0, .int .i64 0, .int .i64 0, .int .i64 0, .int .i64 0] 33) := by show Blk v5 (w.heap.size + 1) _ _; exact Blk.old B_r.out hb
    replace B_g : Hid (Blk v5 (v3.heap.size) #[.int .i64 l.x.re, .int .i64 l.x.im, .int .i64 l.y.re, .int .i64 l.y.im] 29) := by show Blk v5 (v3.heap.size) _ _; exact Blk.old B_g.out hb
    replace HO : Hid (Below w.heap.size w v5) := box_step HO.out hb (Nat.le_refl _)
    clear hb
    rcases jc_or l.x l.y with hj | hj
    · skip
      have hk : stk l = sok l := by simp [stk, hj]
      rw [hk, hj]
      obtain ⟨k, hkk⟩ : ∃ k, k = sok l := ⟨_, rfl⟩
      rw [← hkk]
      replace hkk : Hid (k = sok l) := hkk
      replace hj : Hid (jcode l.x l.y = 0) := hj
      clear hk
      go_upto_region 6 with fail
      obtain ⟨v6, hv⟩ : ∃ Xw, Xw = (v5.alloc (.cells #[.int .i64 0, .int .i64 k.i, .int .i64 k.q, .int .i64 k.u, .int .i64 k.v] 38)) := ⟨_, rfl⟩
      rw [← hv]
      have ne_p_t : Hid (w.heap.size ≠ v5.heap.size) := Nat.ne_of_lt (Nat.lt_of_lt_of_le B_p.out.lt (by omega))
      have ne_r_t : Hid (w.heap.size + 1 ≠ v5.heap.size) := Nat.ne_of_lt (Nat.lt_of_lt_of_le B_r.out.lt (by omega))
      have ne_g_t : Hid (v3.heap.size ≠ v5.heap.size) := Nat.ne_of_lt (Nat.lt_of_lt_of_le B_g.out.lt (by omega))
      have B_t : Hid (Blk v6 (v5.heap.size) #[.int .i64 0, .int .i64 k.i, .int .i64 k.q, .int .i64 k.u, .int .i64 k.v] 38) := by show Blk v6 (v5.heap.size) _ _; rw [hv]; exact (Blk.new (by simp))
      have low_t : Hid (w.heap.size ≤ v5.heap.size) := by show w.heap.size ≤ v5.heap.size; have := HO.out.size; omega
      replace B_p : Hid (Blk v6 (w.heap.size) #[.int .i64 a.i, .int .i64 a.q, .int .i64 a.u, .int .i64 a.v] 36) := by show Blk v6 (w.heap.size) _ _; rw [hv]; exact (Blk.alloc B_p.out _)
      replace B_r : Hid (Blk v6 (w.heap.size + 1) #[.int .i64 0, .int .i64 0, .int .i64 0, .int .i64 0, .int .i64 0] 33) := by show Blk v6 (w.heap.size + 1) _ _; rw [hv]; exact (Blk.alloc B_r.out _)
      replace B_g : Hid (Blk v6 (v3.heap.size) #[.int .i64 l.x.re, .int .i64 l.x.im, .int .i64 l.y.re, .int .i64 l.y.im] 29) := by show Blk v6 (v3.heap.size) _ _; rw [hv]; exact (Blk.alloc B_g.out _)
      replace HO : Hid (Below w.heap.size w v6) := by show Below w.heap.size w v6; rw [hv]; exact (below_new HO.out _)
      clear hv
      have k_p_0 : ∀ x : Kept v6.heap.size v6, x.w.cell? ⟨w.heap.size, 0, none⟩ = some (.int .i64 a.i) := fun x => x.cell B_p.out.lt (B_p.out.cell (j := 0) rfl)
      have k_p_1 : ∀ x : Kept v6.heap.size v6, x.w.cell? ⟨w.heap.size, 1, none⟩ = some (.int .i64 a.q) := fun x => x.cell B_p.out.lt (B_p.out.cell (j := 1) rfl)
      have k_p_2 : ∀ x : Kept v6.heap.size v6, x.w.cell? ⟨w.heap.size, 2, none⟩ = some (.int .i64 a.u) := fun x => x.cell B_p.out.lt (B_p.out.cell (j := 2) rfl)
      have k_p_3 : ∀ x : Kept v6.heap.size v6, x.w.cell? ⟨w.heap.size, 3, none⟩ = some (.int .i64 a.v) := fun x => x.cell B_p.out.lt (B_p.out.cell (j := 3) rfl)
      have k_t_0 : ∀ x : Kept v6.heap.size v6, x.w.cell? ⟨v5.heap.size, 0, none⟩ = some (.int .i64 0) := fun x => x.cell B_t.out.lt (B_t.out.cell (j := 0) rfl)
      have k_t_1 : ∀ x : Kept v6.heap.size v6, x.w.cell? ⟨v5.heap.size, 1, none⟩ = some (.int .i64 k.i) := fun x => x.cell B_t.out.lt (B_t.out.cell (j := 1) rfl)
      have k_t_2 : ∀ x : Kept v6.heap.size v6, x.w.cell? ⟨v5.heap.size, 2, none⟩ = some (.int .i64 k.q) := fun x => x.cell B_t.out.lt (B_t.out.cell (j := 2) rfl)
      have k_t_3 : ∀ x : Kept v6.heap.size v6, x.w.cell? ⟨v5.heap.size, 3, none⟩ = some (.int .i64 k.u) := fun x => x.cell B_t.out.lt (B_t.out.cell (j := 3) rfl)
      have k_t_4 : ∀ x : Kept v6.heap.size v6, x.w.cell? ⟨v5.heap.size, 4, none⟩ = some (.int .i64 k.v) := fun x => x.cell B_t.out.lt (B_t.out.cell (j := 4) rfl)
      have hneq := neq105
      refine wp_region_kept v6.heap.size (by kernel_rfl) (by kernel_rfl) ?_
      intro hne
      repeat (go_big_quiet_step (first | (go_at_call 73; exact Calls.kept_of (Nat.le_refl _) (inums _ _))))
      refine wpQuiet_nil ?_
      rintro u7 ⟨xk, hxk⟩
      have hR1 := xk.h
      rw [← hxk] at hR1
      clear hxk xk hne k_p_0 k_p_1 k_p_2 k_p_3 k_t_0 k_t_1 k_t_2 k_t_3 k_t_4
      replace B_p : Hid (Blk u7 (w.heap.size) #[.int .i64 a.i, .int .i64 a.q, .int .i64 a.u, .int .i64 a.v] 36) := by show Blk u7 (w.heap.size) _ _; exact Blk.old B_p.out hR1
      replace B_r : Hid (Blk u7 (w.heap.size + 1) #[.int .i64 0, .int .i64 0, .int .i64 0, .int .i64 0, .int .i64 0] 33) := by show Blk u7 (w.heap.size + 1) _ _; exact Blk.old B_r.out hR1
      replace B_g : Hid (Blk u7 (v3.heap.size) #[.int .i64 l.x.re, .int .i64 l.x.im, .int .i64 l.y.re, .int .i64 l.y.im] 29) := by show Blk u7 (v3.heap.size) _ _; exact Blk.old B_g.out hR1
      replace B_t : Hid (Blk u7 (v5.heap.size) #[.int .i64 0, .int .i64 k.i, .int .i64 k.q, .int .i64 k.u, .int .i64 k.v] 38) := by show Blk u7 (v5.heap.size) _ _; exact Blk.old B_t.out hR1
      replace HO : Hid (Below w.heap.size w u7) := HO.out.trans (hR1.mono HO.out.size)
      clear hR1
      clear hneq
      cases hq : skeq k a with
      | true =>
        have hJ : Hid (JAns a 0 l) := jans_ok hs.out hl.out hj.out (by rw [← hkk.out]; exact skeq_t hq)
        clear hq
        have g_0 := B_g.out.cell (j := 0) rfl
        have g_1 := B_g.out.cell (j := 1) rfl
        have g_2 := B_g.out.cell (j := 2) rfl
        have g_3 := B_g.out.cell (j := 3) rfl
        have g_f := B_g.out.frozen
        have g_z := B_g.out.lt
        have r_0 := B_r.out.cell (j := 0) rfl
        have r_1 := B_r.out.cell (j := 1) rfl
        have r_2 := B_r.out.cell (j := 2) rfl
        have r_3 := B_r.out.cell (j := 3) rfl
        have r_4 := B_r.out.cell (j := 4) rfl
        have r_f := B_r.out.frozen
        have r_z := B_r.out.lt
        go_wp2
        refine bodyPost_ret (v := .agg #[.int .i64 0, .int .i64 l.x.re, .int .i64 l.x.im, .int .i64 l.y.re, .int .i64 l.y.im]) (by simp [results, Try.results26, go_sem, g_0, g_1, g_2, g_3, g_f, g_z, r_0, r_1, r_2, r_3, r_4, r_f, r_z] <;> (repeat' (first | rfl | apply And.intro))) rfl ⟨0, l, rfl, hJ.out, ?_⟩
        exact (Below.setCell (Below.setCell (Below.setCell (Below.setCell (Below.setCell HO.out low_r.out _) low_r.out _) low_r.out _) low_r.out _) low_r.out _)
      | false =>
        have hJ : Hid (JAns a 4 ⟨⟨0, 0⟩, ⟨0, 0⟩⟩) := jans_bad hs.out hl.out (Or.inr (by rw [← hkk.out]; exact skeq_f hq))
        clear hq
        have r_0 := B_r.out.cell (j := 0) rfl
        have r_1 := B_r.out.cell (j := 1) rfl
        have r_2 := B_r.out.cell (j := 2) rfl
        have r_3 := B_r.out.cell (j := 3) rfl
        have r_4 := B_r.out.cell (j := 4) rfl
        have r_f := B_r.out.frozen
        have r_z := B_r.out.lt
        go_wp2
        refine bodyPost_ret (v := .agg #[.int .i64 4, .int .i64 0, .int .i64 0, .int .i64 0, .int .i64 0]) (by simp [results, Try.results26, go_sem, r_0, r_1, r_2, r_3, r_4, r_f, r_z] <;> (repeat' (first | rfl | apply And.intro))) rfl ⟨4, ⟨⟨0, 0⟩, ⟨0, 0⟩⟩, rfl, hJ.out, ?_⟩
        exact (Below.setCell (Below.setCell (Below.setCell (Below.setCell (Below.setCell HO.out low_r.out _) low_r.out _) low_r.out _) low_r.out _) low_r.out _)
    · skip
      have hk : stk l = ⟨0, 0, 0, 0⟩ := by simp [stk, hj]
      rw [hk, hj]
      have hJ : Hid (JAns a 4 ⟨⟨0, 0⟩, ⟨0, 0⟩⟩) := jans_bad hs.out hl.out (Or.inl (by rw [hj]; decide))
      clear hk hj
      go_upto_region 6 with fail
      obtain ⟨v6, hv⟩ : ∃ Xw, Xw = (v5.alloc (.cells #[.int .i64 3, .int .i64 0, .int .i64 0, .int .i64 0, .int .i64 0] 38)) := ⟨_, rfl⟩
      rw [← hv]
      have ne_p_t : Hid (w.heap.size ≠ v5.heap.size) := Nat.ne_of_lt (Nat.lt_of_lt_of_le B_p.out.lt (by omega))
      have ne_r_t : Hid (w.heap.size + 1 ≠ v5.heap.size) := Nat.ne_of_lt (Nat.lt_of_lt_of_le B_r.out.lt (by omega))
      have ne_g_t : Hid (v3.heap.size ≠ v5.heap.size) := Nat.ne_of_lt (Nat.lt_of_lt_of_le B_g.out.lt (by omega))
      have B_t : Hid (Blk v6 (v5.heap.size) #[.int .i64 3, .int .i64 0, .int .i64 0, .int .i64 0, .int .i64 0] 38) := by show Blk v6 (v5.heap.size) _ _; rw [hv]; exact (Blk.new (by simp))
      have low_t : Hid (w.heap.size ≤ v5.heap.size) := by show w.heap.size ≤ v5.heap.size; have := HO.out.size; omega
      replace B_p : Hid (Blk v6 (w.heap.size) #[.int .i64 a.i, .int .i64 a.q, .int .i64 a.u, .int .i64 a.v] 36) := by show Blk v6 (w.heap.size) _ _; rw [hv]; exact (Blk.alloc B_p.out _)
      replace B_r : Hid (Blk v6 (w.heap.size + 1) #[.int .i64 0, .int .i64 0, .int .i64 0, .int .i64 0, .int .i64 0] 33) := by show Blk v6 (w.heap.size + 1) _ _; rw [hv]; exact (Blk.alloc B_r.out _)
      replace B_g : Hid (Blk v6 (v3.heap.size) #[.int .i64 l.x.re, .int .i64 l.x.im, .int .i64 l.y.re, .int .i64 l.y.im] 29) := by show Blk v6 (v3.heap.size) _ _; rw [hv]; exact (Blk.alloc B_g.out _)
      replace HO : Hid (Below w.heap.size w v6) := by show Below w.heap.size w v6; rw [hv]; exact (below_new HO.out _)
      clear hv
      have k_p_0 : ∀ x : Kept v6.heap.size v6, x.w.cell? ⟨w.heap.size, 0, none⟩ = some (.int .i64 a.i) := fun x => x.cell B_p.out.lt (B_p.out.cell (j := 0) rfl)
      have k_p_1 : ∀ x : Kept v6.heap.size v6, x.w.cell? ⟨w.heap.size, 1, none⟩ = some (.int .i64 a.q) := fun x => x.cell B_p.out.lt (B_p.out.cell (j := 1) rfl)
      have k_p_2 : ∀ x : Kept v6.heap.size v6, x.w.cell? ⟨w.heap.size, 2, none⟩ = some (.int .i64 a.u) := fun x => x.cell B_p.out.lt (B_p.out.cell (j := 2) rfl)
      have k_p_3 : ∀ x : Kept v6.heap.size v6, x.w.cell? ⟨w.heap.size, 3, none⟩ = some (.int .i64 a.v) := fun x => x.cell B_p.out.lt (B_p.out.cell (j := 3) rfl)
      have k_t_0 : ∀ x : Kept v6.heap.size v6, x.w.cell? ⟨v5.heap.size, 0, none⟩ = some (.int .i64 3) := fun x => x.cell B_t.out.lt (B_t.out.cell (j := 0) rfl)
      have k_t_1 : ∀ x : Kept v6.heap.size v6, x.w.cell? ⟨v5.heap.size, 1, none⟩ = some (.int .i64 0) := fun x => x.cell B_t.out.lt (B_t.out.cell (j := 1) rfl)
      have k_t_2 : ∀ x : Kept v6.heap.size v6, x.w.cell? ⟨v5.heap.size, 2, none⟩ = some (.int .i64 0) := fun x => x.cell B_t.out.lt (B_t.out.cell (j := 2) rfl)
      have k_t_3 : ∀ x : Kept v6.heap.size v6, x.w.cell? ⟨v5.heap.size, 3, none⟩ = some (.int .i64 0) := fun x => x.cell B_t.out.lt (B_t.out.cell (j := 3) rfl)
      have k_t_4 : ∀ x : Kept v6.heap.size v6, x.w.cell? ⟨v5.heap.size, 4, none⟩ = some (.int .i64 0) := fun x => x.cell B_t.out.lt (B_t.out.cell (j := 4) rfl)
      refine wp_region_kept v6.heap.size (by kernel_rfl) (by kernel_rfl) ?_
      intro hne
      repeat (go_big_quiet_step (first | (go_at_call 73; exact Calls.kept_of (Nat.le_refl _) (inums _ _))))
      refine wpQuiet_nil ?_
      rintro u7 ⟨xk, hxk⟩
      have hR1 := xk.h
      rw [← hxk] at hR1
      clear hxk xk hne k_p_0 k_p_1 k_p_2 k_p_3 k_t_0 k_t_1 k_t_2 k_t_3 k_t_4
      replace B_p : Hid (Blk u7 (w.heap.size) #[.int .i64 a.i, .int .i64 a.q, .int .i64 a.u, .int .i64 a.v] 36) := by show Blk u7 (w.heap.size) _ _; exact Blk.old B_p.out hR1
      replace B_r : Hid (Blk u7 (w.heap.size + 1) #[.int .i64 0, .int .i64 0, .int .i64 0, .int .i64 0, .int .i64 0] 33) := by show Blk u7 (w.heap.size + 1) _ _; exact Blk.old B_r.out hR1
      replace B_g : Hid (Blk u7 (v3.heap.size) #[.int .i64 l.x.re, .int .i64 l.x.im, .int .i64 l.y.re, .int .i64 l.y.im] 29) := by show Blk u7 (v3.heap.size) _ _; exact Blk.old B_g.out hR1
      replace B_t : Hid (Blk u7 (v5.heap.size) #[.int .i64 3, .int .i64 0, .int .i64 0, .int .i64 0, .int .i64 0] 38) := by show Blk u7 (v5.heap.size) _ _; exact Blk.old B_t.out hR1
      replace HO : Hid (Below w.heap.size w u7) := HO.out.trans (hR1.mono HO.out.size)
      clear hR1
      have r_0 := B_r.out.cell (j := 0) rfl
      have r_1 := B_r.out.cell (j := 1) rfl
      have r_2 := B_r.out.cell (j := 2) rfl
      have r_3 := B_r.out.cell (j := 3) rfl
      have r_4 := B_r.out.cell (j := 4) rfl
      have r_f := B_r.out.frozen
      have r_z := B_r.out.lt
      go_wp2
      refine bodyPost_ret (v := .agg #[.int .i64 4, .int .i64 0, .int .i64 0, .int .i64 0, .int .i64 0]) (by simp [results, Try.results26, go_sem, r_0, r_1, r_2, r_3, r_4, r_f, r_z] <;> (repeat' (first | rfl | apply And.intro))) rfl ⟨4, ⟨⟨0, 0⟩, ⟨0, 0⟩⟩, rfl, hJ.out, ?_⟩
      exact (Below.setCell (Below.setCell (Below.setCell (Below.setCell (Below.setCell HO.out low_r.out _) low_r.out _) low_r.out _) low_r.out _) low_r.out _)
  · skip
    have hJ : Hid (JAns a (scode a) ⟨⟨0, 0⟩, ⟨0, 0⟩⟩) := jans_fault hs
    obtain ⟨cz, hcz⟩ : ∃ c, c = scode a := ⟨_, rfl⟩
    rw [← hcz] at hs hJ ⊢
    clear hcz
    have hpb : (cz != 0) = true := by simpa using hs
    have r_0 := B_r.out.cell (j := 0) rfl
    have r_1 := B_r.out.cell (j := 1) rfl
    have r_2 := B_r.out.cell (j := 2) rfl
    have r_3 := B_r.out.cell (j := 3) rfl
    have r_4 := B_r.out.cell (j := 4) rfl
    have r_f := B_r.out.frozen
    have r_z := B_r.out.lt
    go_wp2
    refine bodyPost_ret (v := .agg #[.int .i64 cz, .int .i64 0, .int .i64 0, .int .i64 0, .int .i64 0]) (by simp [results, Try.results26, go_sem, r_0, r_1, r_2, r_3, r_4, r_f, r_z] <;> (repeat' (first | rfl | apply And.intro))) rfl ⟨cz, ⟨⟨0, 0⟩, ⟨0, 0⟩⟩, rfl, hJ.out, ?_⟩
    exact (Below.setCell (Below.setCell (Below.setCell (Below.setCell (Below.setCell HO.out low_r.out _) low_r.out _) low_r.out _) low_r.out _) low_r.out _)
end Go.Proofs.Ytloebnlmeplgbaa
