/- Of bytes that draw a cavity: comparisons, the system of no part, and the walk: stable just if half its trace is from -1 to 1, and seen from the other side alike. -/
import Derived.Test.YtkkajcdjkfbcgaaLwat
import Derived.Handy
import Derived.Laws.StructEq
import Derived.Test.YtkkajcdjkfbcgaaDk
import Derived.Deep.Quiet
import Derived.BigQuiet
import Derived.Test.YtkkajcdjkfbcgaaCy
import Derived.Deep.RegionHeld3
namespace Go.Proofs.Ytkkajcdjkfbcgaa
open Go.RowKit
set_option linter.unusedVariables false
set_option linter.unusedSimpArgs false
theorem eq_int (d : Nat) (a b : Int) (w : World) : (Op.equalIn (d + 1) 2 (.int .i64 a) (.int .i64 b)).run Try.prog w = .ok (a == b) w := by
  simp [Op.equalIn, run_underlying Try.underlying2]
theorem size32r (w : World) : (sizeOf 32).run Try.prog w = .ok 2 w := by
  have h : (Try.prog.info? 32).map (·.size) = some 2 := by kernel_rfl
  obtain ⟨i, hi, hs⟩ := Option.map_eq_some_iff.1 h
  simp [sizeOf, typeInfo, hi, hs]
theorem fields32s : Try.prog.underlying 32 = some (.struct (Try.prog.fieldsOf 32)) ∧ Try.prog.stoodInHeld 32 = false := ⟨by kernel_rfl, by kernel_rfl⟩
theorem part32_0 (a b : Int) (w : World) : (part 2 #[.int .i64 a, .int .i64 b] 0).run Try.prog w = .ok (.int .i64 a) w := by
  simp [part, isAgg, run_underlying Try.underlying2]
theorem part32_1 (a b : Int) (w : World) : (part 2 #[.int .i64 a, .int .i64 b] 1).run Try.prog w = .ok (.int .i64 b) w := by
  simp [part, isAgg, run_underlying Try.underlying2]
theorem self32 (d : Nat) (a b : Int) (w : World) : (Op.equalIn (d + 2) 32 (.agg #[.int .i64 a, .int .i64 b]) (.agg #[.int .i64 a, .int .i64 b])).run Try.prog w = .ok true w := by
  rw [run_equalIn_struct w (d + 1) 32 _ _ fields32s.1 fields32s.2]
  have hf : (Try.prog.fieldsOf 32).toList.map (fun f => (f.name, f.type, f.offset)) = [("Num", 2, 0), ("Den", 2, 1)] := by kernel_rfl
  generalize (Try.prog.fieldsOf 32).toList = fs at hf
  obtain ⟨f0, f1, rfl⟩ : ∃ f0 f1, fs = [f0, f1] := by
    have h := congrArg List.length hf
    rw [List.length_map] at h
    match fs, h with
    | [b0, b1], _ => exact ⟨b0, b1, rfl⟩
  simp only [List.map_cons, List.map_nil, List.cons.injEq, Prod.mk.injEq, and_true] at hf
  obtain ⟨⟨n0, t0, o0⟩, n1, t1, o1⟩ := hf
  simp only [Op.eqFields, n0, t0, o0, n1, t1, o1]
  simp [Sem.run_bind, part32_0, part32_1, Result.andThen_ok, eq_int, Sem.run_pure]
theorem eql32_same (a b : Int) (w : World) : (binOp .eql 32 (.agg #[.int .i64 a, .int .i64 b]) (.agg #[.int .i64 a, .int .i64 b])).run Try.prog w = .ok (.bool true) w := by
  have h : (Op.equal 32 (.agg #[.int .i64 a, .int .i64 b]) (.agg #[.int .i64 a, .int .i64 b])).run Try.prog w = .ok true w := self32 9998 a b w
  simp [binOp, go_sem, h]
theorem neq32_same (a b : Int) (w : World) : (binOp .neq 32 (.agg #[.int .i64 a, .int .i64 b]) (.agg #[.int .i64 a, .int .i64 b])).run Try.prog w = .ok (.bool false) w := by
  have h : (Op.equal 32 (.agg #[.int .i64 a, .int .i64 b]) (.agg #[.int .i64 a, .int .i64 b])).run Try.prog w = .ok true w := self32 9998 a b w
  simp [binOp, go_sem, h]
set_option maxRecDepth 20000 in
set_option maxHeartbeats 3200000 in
theorem drawCav {w : World} {v : Value} {n : Nat} {g : Nat → Int} (hB : RdB w v n g) (hg : ∀ i, i < n → 0 ≤ g i ∧ g i ≤ 255) (hn : n ≤ 1000000000000) :
    Calls Try.prog 18 #[v] w fun e w' => ∃ (x y z : Q), e = .returned (.tuple #[.agg #[.int .i64 x.n, .int .i64 x.d], .agg #[.int .i64 y.n, .int .i64 y.d], .agg #[.int .i64 z.n, .int .i64 z.d]]) ∧ (QB 3000000000 x ∧ QB 3000000000 y ∧ QB 3000000000 z) ∧ Below w.heap.size w w' := by
  obtain ⟨ao, cap, rfl⟩ := hB.form
  obtain ⟨v1, hv⟩ : ∃ X, X = ((w.alloc (.cells #[.int .i64 0, .int .i64 0] 32)).alloc (.cells #[.int .i64 0, .int .i64 0] 32)).alloc (.cells #[.int .i64 0, .int .i64 0] 32) := ⟨_, rfl⟩
  have H1 : Hid (Below w.heap.size w v1) := by show Below _ _ _; rw [hv]; go_grown
  have B0 : Hid (Blk v1 w.heap.size #[.int .i64 0, .int .i64 0] 32) := by show Blk _ _ _ _; rw [hv]; exact Blk.alloc (Blk.alloc (Blk.new rfl) _) _
  have B1 : Hid (Blk v1 (w.heap.size + 1) #[.int .i64 0, .int .i64 0] 32) := by show Blk _ _ _ _; rw [hv]; exact Blk.alloc (Blk.new (by simp)) _
  have B2 : Hid (Blk v1 (w.heap.size + 1 + 1) #[.int .i64 0, .int .i64 0] 32) := by show Blk _ _ _ _; rw [hv]; exact Blk.new (by simp)
  have MI : Hid (Calls Try.prog 59 #[.slice ao n cap] v1 fun e w' => ∃ (x y z : Q), e = .returned (.tuple #[.agg #[.int .i64 x.n, .int .i64 x.d], .agg #[.int .i64 y.n, .int .i64 y.d], .agg #[.int .i64 z.n, .int .i64 z.d]]) ∧ (QB 3000000000 x ∧ QB 3000000000 y ∧ QB 3000000000 z) ∧ Below v1.heap.size v1 w') := mirrors_any (hB.later H1.out) hg hn
  clear hB hg
  go_enter Try.func18, Try.ntmps18
  go_upto_region 1 with fail
  rw [← hv]
  clear hv
  go_wp2_with fail
  refine MI.out.mono ?_
  rintro e w2 ⟨x, y, z, rfl, qb, hb⟩
  have HQ : Hid (QB 3000000000 x ∧ QB 3000000000 y ∧ QB 3000000000 z) := qb
  have D0 := B0.out.old hb
  have D1 := B1.out.old hb
  have D2 := B2.out.old hb
  have HO : Hid (Below w.heap.size w w2) := H1.out.trans (hb.mono H1.out.size)
  clear hb qb MI
  have c0 := D0.cell (j := 0) rfl
  have c1 := D0.cell (j := 1) rfl
  have d0 := D1.cell (j := 0) rfl
  have d1 := D1.cell (j := 1) rfl
  have g0 := D2.cell (j := 0) rfl
  have g1 := D2.cell (j := 1) rfl
  have cf := D0.frozen
  have df := D1.frozen
  have gf := D2.frozen
  have cz := D0.lt
  have dz := D1.lt
  have gz := D2.lt
  go_wp2
  refine bodyPost_ret (v := .tuple #[.agg #[.int .i64 x.n, .int .i64 x.d], .agg #[.int .i64 y.n, .int .i64 y.d], .agg #[.int .i64 z.n, .int .i64 z.d]]) (by simp [results, Try.results18, go_sem, c0, c1, d0, d1, g0, g1, cf, df, gf, cz, dz, gz] <;> (repeat' (first | rfl | apply And.intro))) rfl ⟨x, y, z, rfl, HQ.out, ?_⟩
  have h := HO.out
  go_grown
set_option maxRecDepth 20000 in
set_option maxHeartbeats 3200000 in
theorem sparts_nil (w : World) : Calls Try.prog 76 #[.slice none 0 0] w fun e w' => e = .returned (.int .i64 0) ∧ Below w.heap.size w w' := by
  go_enter Try.func76, Try.ntmps76
  go_wp2_with fail
  go_loopw [3] (fun i wr => i = .int .i64 0 ∧ Below w.heap.size w wr) (fun i _ => 0)
  case atStart => exact ⟨rfl, Below.refl _ _⟩
  case round =>
    obtain ⟨rfl, hb⟩ := hrel
    have HB : Hid (Below w.heap.size w wr) := hb
    clear hb
    go_wp2
    go_ret
    exact ⟨rfl, HB.out⟩
set_option maxRecDepth 20000 in
set_option maxHeartbeats 3200000 in
theorem smatrix_nil (w : World) : Calls Try.prog 23 #[.slice none 0 0] w fun e w' => e = .returned (.agg #[.int .i64 0, .int .i64 1, .int .i64 1, .int .i64 0, .int .i64 1, .int .i64 0, .int .i64 1, .int .i64 1, .int .i64 1]) ∧ Below w.heap.size w w' := by
  go_enter Try.func23, Try.ntmps23
  go_wp2_with fail
  refine (sparts_nil _).mono ?_
  rintro e w1 ⟨rfl, hb⟩
  have RB : Hid (Blk w1 w.heap.size #[.int .i64 0, .int .i64 0, .int .i64 0, .int .i64 0, .int .i64 0, .int .i64 0, .int .i64 0, .int .i64 0, .int .i64 0] 46) := Blk.old (Blk.new rfl) hb
  have HO : Hid (Below w.heap.size w w1) := by refine box_step ?_ hb (by go_size); go_grown
  clear hb
  go_wp2_with fail
  refine (sone _).mono ?_
  rintro e w2 ⟨rfl, hb⟩
  have RB : Hid (Blk w2 w.heap.size #[.int .i64 0, .int .i64 0, .int .i64 0, .int .i64 0, .int .i64 0, .int .i64 0, .int .i64 0, .int .i64 0, .int .i64 0] 46) := Blk.old RB.out hb
  have HO : Hid (Below w.heap.size w w2) := box_step HO.out hb (by first | exact Nat.le_refl _ | exact HO.out.size)
  clear hb
  go_wp2_with fail
  go_loopw [5] (fun i wr => i = .int .i64 0 ∧ Below w2.heap.size w2 wr ∧ Blk wr w2.heap.size #[.int .i64 0, .int .i64 1, .int .i64 1, .int .i64 0, .int .i64 1, .int .i64 0, .int .i64 1, .int .i64 1, .int .i64 1] 46) (fun i _ => 0)
  case atStart => exact ⟨rfl, (Below.refl _ _).alloc (Nat.le_refl _) _, Blk.new rfl⟩
  case round =>
    obtain ⟨rfl, hB, hP⟩ := hrel
    have HB : Hid (Below w2.heap.size w2 wr) := hB
    have p0 := hP.cell (j := 0) rfl
    have p1 := hP.cell (j := 1) rfl
    have p2 := hP.cell (j := 2) rfl
    have p3 := hP.cell (j := 3) rfl
    have p4 := hP.cell (j := 4) rfl
    have p5 := hP.cell (j := 5) rfl
    have p6 := hP.cell (j := 6) rfl
    have p7 := hP.cell (j := 7) rfl
    have p8 := hP.cell (j := 8) rfl
    have RR : Blk wr w.heap.size #[.int .i64 0, .int .i64 0, .int .i64 0, .int .i64 0, .int .i64 0, .int .i64 0, .int .i64 0, .int .i64 0, .int .i64 0] 46 := Blk.old RB.out HB.out
    have r0 := RR.cell (j := 0) rfl
    have r1 := RR.cell (j := 1) rfl
    have r2 := RR.cell (j := 2) rfl
    have r3 := RR.cell (j := 3) rfl
    have r4 := RR.cell (j := 4) rfl
    have r5 := RR.cell (j := 5) rfl
    have r6 := RR.cell (j := 6) rfl
    have r7 := RR.cell (j := 7) rfl
    have r8 := RR.cell (j := 8) rfl
    have rf := RR.frozen
    have rz := RR.lt
    have hne : w.heap.size ≠ w2.heap.size := by have := RB.out.lt; omega
    clear hP hB RR
    go_upto_region 9 with fail
    repeat go_step
    refine bodyPost_ret (v := .agg #[.int .i64 0, .int .i64 1, .int .i64 1, .int .i64 0, .int .i64 1, .int .i64 0, .int .i64 1, .int .i64 1, .int .i64 1]) (by simp [results, Try.results23, go_sem, r0, r1, r2, r3, r4, r5, r6, r7, r8, rf, rz] <;> (repeat' (first | rfl | apply And.intro))) rfl ⟨rfl, ?_⟩
    have h := HO.out.trans (HB.out.mono HO.out.size)
    go_grown
structure Bn (w W : World) (pl pa pb : Nat) (L A B : Q) : Prop where
  l : Blk W pl #[.int .i64 L.n, .int .i64 L.d] 32
  a : Blk W pa #[.int .i64 A.n, .int .i64 A.d] 32
  b : Blk W pb #[.int .i64 B.n, .int .i64 B.d] 32
  o : Below w.heap.size w W
theorem Bn.later {w W W' : World} {pl pa pb : Nat} {L A B : Q} (h : Bn w W pl pa pb L A B) (k : Below W.heap.size W W') : Bn w W' pl pa pb L A B := ⟨h.l.old k, h.a.old k, h.b.old k, h.o.trans (k.mono h.o.size)⟩
theorem field36_0 (c x0 x1 x2 x3 x4 x5 : Int) (s : Bool) (w : World) : (Instr.field 36 (.agg #[.int .i64 c, .int .i64 x0, .int .i64 x1, .int .i64 x2, .int .i64 x3, .int .i64 x4, .int .i64 x5, .bool s]) 0).run Try.prog w = .ok (.int .i64 c) w := by
  have hu : Try.prog.underlying 36 = some (.struct (Try.prog.fieldsOf 36)) := by kernel_rfl
  have h : ((Try.prog.fieldsOf 36)[0]?).map (fun f => (f.type, f.offset)) = some (2, 0) := by kernel_rfl
  obtain ⟨f, hf, e⟩ := Option.map_eq_some_iff.1 h
  simp only [Prod.mk.injEq] at e
  obtain ⟨h1, h2⟩ := e
  have hh : (Try.prog.fieldsOf 36)[0]? = some f := hf
  simp [Instr.field, run_underlying hu, hh, h1, h2, asAgg, part, isAgg, run_underlying Try.underlying2, go_sem]
theorem seg_rdp {W : World} {g n : Nat} {F : Nat → Pt} (h : SegV W g 111 n 3 (fun i j => tcell (F i) j)) : RdP W g 0 n F := by
  obtain ⟨cs, hb, hc⟩ := h
  intro i hi
  rw [Nat.zero_add]
  have hB : Blk W g cs 111 := hb
  exact ⟨hB.cell (hc i hi 0 (by omega)), hB.cell (hc i hi 1 (by omega)), hB.cell (hc i hi 2 (by omega))⟩
theorem below_one (W : World) (o : Obj) : Below W.heap.size W (W.alloc o) := (Below.refl _ _).alloc (Nat.le_refl _) o
set_option maxRecDepth 20000 in
set_option maxHeartbeats 6400000 in
theorem walkc {w : World} {v : Value} {n : Nat} {g : Nat → Int} (hB : RdB w v n g) (nb : n ≤ 9223372036854775807) (hg : ∀ i, i < n → 0 ≤ g i ∧ g i ≤ 255) : Calls Try.prog 4 #[v] w fun e w' => e = .returned (.bool true) ∧ Below w.heap.size w w' := by
  obtain ⟨ao, cap, rfl⟩ := hB.form
  by_cases hbig : (1048576 : Int) < n
  · clear hB hg
    go_enter Try.func4, Try.ntmps4
    go_wp2_with fail
    refine (big_any ao n cap w).mono ?_
    rintro e w' ⟨rfl, rfl⟩
    rw [decide_eq_true (by omega)]
    go_wp2
    go_ret
    exact ⟨rfl, Below.refl _ _⟩
  have DL := drawCav hB hg (by omega)
  clear hB hg
  go_enter Try.func4, Try.ntmps4
  go_wp2_with fail
  refine (big_any ao n cap w).mono ?_
  rintro e w' ⟨rfl, rfl⟩
  rw [decide_eq_false (by omega)]
  go_wp2_with fail
  refine DL.mono ?_
  rintro e w1 ⟨L, A, B, rfl, qb, b1⟩
  clear DL hbig qb
  go_upto_region 4 with fail
  obtain ⟨w2, hw2⟩ : ∃ W, W = ((w1.alloc (.cells #[.int .i64 L.n, .int .i64 L.d] 32)).alloc (.cells #[.int .i64 A.n, .int .i64 A.d] 32)).alloc (.cells #[.int .i64 B.n, .int .i64 B.d] 32) := ⟨_, rfl⟩
  have HN : Hid (Bn w w2 w1.heap.size (w1.heap.size + 1) (w1.heap.size + 1 + 1) L A B) := by
    show Bn _ _ _ _ _ _ _ _
    rw [hw2]
    have s1 := b1.size
    exact ⟨Blk.alloc (Blk.alloc (Blk.new rfl) _) _, Blk.alloc (Blk.new (by simp)) _, Blk.new (by simp), ((b1.alloc s1 _).alloc (by simp; omega) _).alloc (by simp; omega) _⟩
  rw [← hw2]
  clear hw2 b1
  obtain ⟨pl, hpl⟩ : ∃ P, P = w1.heap.size := ⟨_, rfl⟩
  obtain ⟨pa, hpa⟩ : ∃ P, P = pl + 1 := ⟨_, rfl⟩
  obtain ⟨pb, hpb⟩ : ∃ P, P = pa + 1 := ⟨_, rfl⟩
  rw [← hpl, ← hpa, ← hpb] at HN
  rw [← hpl, ← hpa, ← hpb]
  clear hpl hpa hpb
  obtain ⟨c, a, b, f, st, hx, hS, hI⟩ := cav_x L A B
  have SC : Hid (∀ W, Calls Try.prog 19 #[.agg #[.int .i64 L.n, .int .i64 L.d], .agg #[.int .i64 A.n, .int .i64 A.d], .agg #[.int .i64 B.n, .int .i64 B.d]] W fun e w' => e = .returned (.agg #[.int .i64 c, .int .i64 a.n, .int .i64 a.d, .int .i64 b.n, .int .i64 b.d, .int .i64 f.n, .int .i64 f.d, .bool st]) ∧ Below W.heap.size W w') := hS
  have IC : Hid (∀ W, Calls Try.prog 20 #[.agg #[.int .i64 L.n, .int .i64 L.d], .agg #[.int .i64 A.n, .int .i64 A.d], .agg #[.int .i64 B.n, .int .i64 B.d]] W fun e w' => e = .returned (.agg #[.int .i64 c, .int .i64 a.n, .int .i64 a.d, .int .i64 b.n, .int .i64 b.d, .int .i64 f.n, .int .i64 f.d, .bool st]) ∧ Below W.heap.size W w') := hI
  clear hS hI
  have ul0 := HN.out.l.cell (j := 0) rfl
  have ul1 := HN.out.l.cell (j := 1) rfl
  have ua0 := HN.out.a.cell (j := 0) rfl
  have ua1 := HN.out.a.cell (j := 1) rfl
  have ub0 := HN.out.b.cell (j := 0) rfl
  have ub1 := HN.out.b.cell (j := 1) rfl
  go_wp2_with fail
  refine (SC.out _).mono ?_
  rintro e w3 ⟨rfl, b3⟩
  clear ul0 ul1 ua0 ua1 ub0 ub1
  replace HN : Hid (Bn w w3 pl pa pb L A B) := HN.out.later b3
  clear b3 SC
  go_upto_region 5 with fail
  obtain ⟨w4, hw4⟩ : ∃ W, W = w3.alloc (.cells #[.int .i64 c, .int .i64 a.n, .int .i64 a.d, .int .i64 b.n, .int .i64 b.d, .int .i64 f.n, .int .i64 f.d, .bool st] 36) := ⟨_, rfl⟩
  obtain ⟨pr, hpr⟩ : ∃ P, P = w3.heap.size := ⟨_, rfl⟩
  have BR : Hid (Blk w4 pr #[.int .i64 c, .int .i64 a.n, .int .i64 a.d, .int .i64 b.n, .int .i64 b.d, .int .i64 f.n, .int .i64 f.d, .bool st] 36) := by show Blk _ _ _ _; rw [hw4]; exact Blk.new hpr
  replace HN : Hid (Bn w w4 pl pa pb L A B) := HN.out.later (by rw [hw4]; exact below_one _ _)
  rw [← hw4, ← hpr]
  clear hw4 hpr
  have cr := BR.out.cell (j := 0) (v := .int .i64 c) rfl
  rcases hx with ⟨rfl, hK, hxa, hxb, hxf, hxs⟩ | ⟨hc0, hK⟩
  case inr =>
    have hcb : (c == 0) = false := by simpa using hc0
    have hcn : (c != 0) = true := by simp [bne, hcb]
    go_upto_region 6 with fail
    have kl0 : ∀ x : Kept w4.heap.size w4, x.w.cell? ⟨pl, 0, none⟩ = some (.int .i64 L.n) := fun x => x.cell HN.out.l.lt (HN.out.l.cell (j := 0) rfl)
    have kl1 : ∀ x : Kept w4.heap.size w4, x.w.cell? ⟨pl, 1, none⟩ = some (.int .i64 L.d) := fun x => x.cell HN.out.l.lt (HN.out.l.cell (j := 1) rfl)
    have ka0 : ∀ x : Kept w4.heap.size w4, x.w.cell? ⟨pa, 0, none⟩ = some (.int .i64 A.n) := fun x => x.cell HN.out.a.lt (HN.out.a.cell (j := 0) rfl)
    have ka1 : ∀ x : Kept w4.heap.size w4, x.w.cell? ⟨pa, 1, none⟩ = some (.int .i64 A.d) := fun x => x.cell HN.out.a.lt (HN.out.a.cell (j := 1) rfl)
    have kb0 : ∀ x : Kept w4.heap.size w4, x.w.cell? ⟨pb, 0, none⟩ = some (.int .i64 B.n) := fun x => x.cell HN.out.b.lt (HN.out.b.cell (j := 0) rfl)
    have kb1 : ∀ x : Kept w4.heap.size w4, x.w.cell? ⟨pb, 1, none⟩ = some (.int .i64 B.d) := fun x => x.cell HN.out.b.lt (HN.out.b.cell (j := 1) rfl)
    have kr : ∀ x : Kept w4.heap.size w4, x.w.cell? ⟨pr, 0, none⟩ = some (.int .i64 c) := fun x => x.cell BR.out.lt (BR.out.cell (j := 0) rfl)
    have hfd := field36_0
    refine wp_region_kept w4.heap.size (by kernel_rfl) (by kernel_rfl) ?_
    intro hne
    repeat (go_big_quiet_step (first | (go_at_call 20; exact Calls.kept_of (Nat.le_refl _) (IC.out _))))
    refine wpQuiet_nil ?_
    rintro w5 ⟨xk, hxk⟩
    have hR1 := xk.h
    rw [← hxk] at hR1
    clear hxk xk hne kl0 kl1 ka0 ka1 kb0 kb1 kr hfd cr
    have HO : Hid (Below w.heap.size w w5) := HN.out.o.trans (hR1.mono HN.out.o.size)
    clear hR1
    go_wp2
    go_ret
    exact ⟨by simp, HO.out⟩
  obtain ⟨c', a', b', f', st', hx', hS', hI'⟩ := cav_x L B A
  have IB : Hid (∀ W, Calls Try.prog 20 #[.agg #[.int .i64 L.n, .int .i64 L.d], .agg #[.int .i64 B.n, .int .i64 B.d], .agg #[.int .i64 A.n, .int .i64 A.d]] W fun e w' => e = .returned (.agg #[.int .i64 0, .int .i64 b.n, .int .i64 b.d, .int .i64 a.n, .int .i64 a.d, .int .i64 f.n, .int .i64 f.d, .bool st]) ∧ Below W.heap.size W w') := by
    rcases hx' with ⟨rfl, hK', ya, yb, yf, ys⟩ | ⟨_, hK'⟩
    · rw [(mul_comm' (sdQ L B) (sdQ L A)).2] at yf ys
      intro W
      have := hI' W
      rw [ya, yb, yf, ys] at this
      rw [hxa, hxb, hxf, hxs]
      exact this
    · rw [cav_swap, hK] at hK'
      cases hK'
  clear hx' hS' hI'
  have HF : Hid (st = !(decide (0 < cmpF f.n f.d 1 1) || decide (cmpF f.n f.d (-1) 1 < 0))) := by
    have hfs := far_st hK
    rw [← hxf, ← hxs] at hfs
    exact hfs
  have HX : Hid (cavK L A B = true ∧ f = hfQ (mulQ (sdQ L A) (sdQ L B))) := ⟨hK, hxf⟩
  clear hxa hxb hxf hxs hK
  have ul0 := HN.out.l.cell (j := 0) rfl
  have ul1 := HN.out.l.cell (j := 1) rfl
  have ua0 := HN.out.a.cell (j := 0) rfl
  have ua1 := HN.out.a.cell (j := 1) rfl
  have ub0 := HN.out.b.cell (j := 0) rfl
  have ub1 := HN.out.b.cell (j := 1) rfl
  go_wp2_with fail
  refine (IC.out _).mono ?_
  rintro e w5 ⟨rfl, b5⟩
  clear ul0 ul1 ua0 ua1 ub0 ub1
  replace HN : Hid (Bn w w5 pl pa pb L A B) := HN.out.later b5
  clear b5 IC cr BR
  go_upto_region 8 with fail
  obtain ⟨w6, hw6⟩ : ∃ W, W = w5.alloc (.cells #[.int .i64 0, .int .i64 a.n, .int .i64 a.d, .int .i64 b.n, .int .i64 b.d, .int .i64 f.n, .int .i64 f.d, .bool st] 36) := ⟨_, rfl⟩
  obtain ⟨pc, hpc⟩ : ∃ P, P = w5.heap.size := ⟨_, rfl⟩
  have BC : Hid (Blk w6 pc #[.int .i64 0, .int .i64 a.n, .int .i64 a.d, .int .i64 b.n, .int .i64 b.d, .int .i64 f.n, .int .i64 f.d, .bool st] 36) := by show Blk _ _ _ _; rw [hw6]; exact Blk.new hpc
  replace HN : Hid (Bn w w6 pl pa pb L A B) := HN.out.later (by rw [hw6]; exact below_one _ _)
  rw [← hw6, ← hpc]
  clear hw6 hpc
  have ul0 := HN.out.l.cell (j := 0) rfl
  have ul1 := HN.out.l.cell (j := 1) rfl
  have ua0 := HN.out.a.cell (j := 0) rfl
  have ua1 := HN.out.a.cell (j := 1) rfl
  have ub0 := HN.out.b.cell (j := 0) rfl
  have ub1 := HN.out.b.cell (j := 1) rfl
  go_wp2_with fail
  refine (IB.out _).mono ?_
  rintro e w7 ⟨rfl, b7⟩
  clear ul0 ul1 ua0 ua1 ub0 ub1
  replace HN : Hid (Bn w w7 pl pa pb L A B) := HN.out.later b7
  replace BC : Hid (Blk w7 pc #[.int .i64 0, .int .i64 a.n, .int .i64 a.d, .int .i64 b.n, .int .i64 b.d, .int .i64 f.n, .int .i64 f.d, .bool st] 36) := BC.out.old b7
  clear b7 IB
  go_upto_region 9 with fail
  obtain ⟨w8, hw8⟩ : ∃ W, W = w7.alloc (.cells #[.int .i64 0, .int .i64 b.n, .int .i64 b.d, .int .i64 a.n, .int .i64 a.d, .int .i64 f.n, .int .i64 f.d, .bool st] 36) := ⟨_, rfl⟩
  obtain ⟨pk, hpk⟩ : ∃ P, P = w7.heap.size := ⟨_, rfl⟩
  have BK : Hid (Blk w8 pk #[.int .i64 0, .int .i64 b.n, .int .i64 b.d, .int .i64 a.n, .int .i64 a.d, .int .i64 f.n, .int .i64 f.d, .bool st] 36) := by show Blk _ _ _ _; rw [hw8]; exact Blk.new hpk
  replace HN : Hid (Bn w w8 pl pa pb L A B) := HN.out.later (by rw [hw8]; exact below_one _ _)
  replace BC : Hid (Blk w8 pc #[.int .i64 0, .int .i64 a.n, .int .i64 a.d, .int .i64 b.n, .int .i64 b.d, .int .i64 f.n, .int .i64 f.d, .bool st] 36) := BC.out.old (by rw [hw8]; exact below_one _ _)
  rw [← hw8, ← hpk]
  clear hw8 hpk
  have m0 := BC.out.cell (j := 0) rfl
  have m1 := BC.out.cell (j := 1) rfl
  have m2 := BC.out.cell (j := 2) rfl
  have m3 := BC.out.cell (j := 3) rfl
  have m4 := BC.out.cell (j := 4) rfl
  have m5 := BC.out.cell (j := 5) rfl
  have m6 := BC.out.cell (j := 6) rfl
  have m7 := BC.out.cell (j := 7) rfl
  have k1 := BK.out.cell (j := 1) rfl
  have k2 := BK.out.cell (j := 2) rfl
  have k5 := BK.out.cell (j := 5) rfl
  have k6 := BK.out.cell (j := 6) rfl
  have k7 := BK.out.cell (j := 7) rfl
  have hneq := neq32_same
  go_upto_region 11 with fail
  clear k1 k2 k5 k6 k7 BK hneq m1 m2 m3 m4
  go_upto_region 12 with fail
  obtain ⟨w9, hw9⟩ : ∃ W, W = w8.alloc (.cells #[.int .i64 1, .int .i64 1] 32) := ⟨_, rfl⟩
  obtain ⟨po, hpo⟩ : ∃ P, P = w8.heap.size := ⟨_, rfl⟩
  have BO := show Blk w9 po #[.int .i64 1, .int .i64 1] 32 by rw [hw9]; exact Blk.new hpo
  replace HN : Hid (Bn w w9 pl pa pb L A B) := HN.out.later (by rw [hw9]; exact below_one _ _)
  replace BC : Hid (Blk w9 pc #[.int .i64 0, .int .i64 a.n, .int .i64 a.d, .int .i64 b.n, .int .i64 b.d, .int .i64 f.n, .int .i64 f.d, .bool st] 36) := BC.out.old (by rw [hw9]; exact below_one _ _)
  rw [← hw9, ← hpo]
  clear hw9 hpo m0 m5 m6 m7
  have m5 := BC.out.cell (j := 5) rfl
  have m6 := BC.out.cell (j := 6) rfl
  have o0 := BO.cell (j := 0) rfl
  have o1 := BO.cell (j := 1) rfl
  clear BO
  go_wp2_with fail
  refine (scmp f.n f.d 1 1 _).mono ?_
  rintro e wa ⟨rfl, ba⟩
  replace HN : Hid (Bn w wa pl pa pb L A B) := HN.out.later ba
  replace BC : Hid (Blk wa pc #[.int .i64 0, .int .i64 a.n, .int .i64 a.d, .int .i64 b.n, .int .i64 b.d, .int .i64 f.n, .int .i64 f.d, .bool st] 36) := BC.out.old ba
  clear ba m5 m6 o0 o1
  obtain ⟨g1, hg1⟩ : ∃ x, x = cmpF f.n f.d 1 1 := ⟨_, rfl⟩
  rw [← hg1] at HF ⊢
  clear hg1
  by_cases hg1 : 0 < g1
  · obtain rfl : st = false := by rw [HF.out, decide_eq_true hg1]; rfl
    have m7 := BC.out.cell (j := 7) rfl
    go_upto_region 15 with fail
    all_goals try clear m7
    rcases trip_x L A B (cavK_t HX.out.1).1 with ⟨hpA, hpB, TR0⟩ | ⟨F, TR0⟩
    · have HPP : Hid (poK A = true ∧ poK B = true) := ⟨hpA, hpB⟩
      clear hpA hpB
      have TR : Hid (∀ W, Calls Try.prog 22 #[.agg #[.int .i64 L.n, .int .i64 L.d], .agg #[.int .i64 A.n, .int .i64 A.d], .agg #[.int .i64 B.n, .int .i64 B.d]] W fun e w' => ∃ v, e = .returned (.agg #[.int .i64 0, v]) ∧ OwL w' W.heap.size v 4 (trp L (poQ A) (poQ B)) ∧ Below W.heap.size W w') := TR0
      clear TR0
      have ul0 := HN.out.l.cell (j := 0) rfl
      have ul1 := HN.out.l.cell (j := 1) rfl
      have ua0 := HN.out.a.cell (j := 0) rfl
      have ua1 := HN.out.a.cell (j := 1) rfl
      have ub0 := HN.out.b.cell (j := 0) rfl
      have ub1 := HN.out.b.cell (j := 1) rfl
      go_wp2_with fail
      refine (TR.out _).mono ?_
      rintro e wt ⟨vv, rfl, ow, bt⟩
      clear ul0 ul1 ua0 ua1 ub0 ub1
      replace HN : Hid (Bn w wt pl pa pb L A B) := HN.out.later bt
      replace BC : Hid (Blk wt pc #[.int .i64 0, .int .i64 a.n, .int .i64 a.d, .int .i64 b.n, .int .i64 b.d, .int .i64 f.n, .int .i64 f.d, .bool false] 36) := BC.out.old bt
      clear bt
      clear TR
      rcases ow with ⟨_, h40⟩ | ⟨gq, cp, rfl, hlo, sg⟩
      · cases h40
      have RD : Hid (RdP wt gq 0 4 (trp L (poQ A) (poQ B))) := seg_rdp sg
      clear sg hlo
      go_upto_region 16 with fail
      obtain ⟨wu, hX⟩ : ∃ W, W = wt.alloc (.cells #[.int .i64 0, .slice (some ⟨gq, 0, none⟩) 4 cp] 41) := ⟨_, rfl⟩
      obtain ⟨pt, hP⟩ : ∃ P, P = wt.heap.size := ⟨_, rfl⟩
      have BT : Hid (Blk wu pt #[.int .i64 0, .slice (some ⟨gq, 0, none⟩) 4 cp] 41) := by show Blk _ _ _ _; rw [hX]; exact Blk.new hP
      have bX : Below wt.heap.size wt wu := by rw [hX]; exact below_one _ _
      rw [← hX, ← hP]
      clear hX hP
      replace RD : Hid (RdP wu gq 0 4 (trp L (poQ A) (poQ B))) := RD.out.old bX
      replace HN : Hid (Bn w wu pl pa pb L A B) := HN.out.later bX
      replace BC : Hid (Blk wu pc #[.int .i64 0, .int .i64 a.n, .int .i64 a.d, .int .i64 b.n, .int .i64 b.d, .int .i64 f.n, .int .i64 f.d, .bool false] 36) := BC.out.old bX
      clear bX
      have t0 := BT.out.cell (j := 0) rfl
      have t1 := BT.out.cell (j := 1) rfl
      go_wp2_with fail
      refine (smatrix gq 0 4 cp (trp L (poQ A) (poQ B)) _ (by omega) RD.out).mono ?_
      rintro e wv ⟨rfl, bv⟩
      clear t0 t1 RD
      replace HN : Hid (Bn w wv pl pa pb L A B) := HN.out.later bv
      replace BC : Hid (Blk wv pc #[.int .i64 0, .int .i64 a.n, .int .i64 a.d, .int .i64 b.n, .int .i64 b.d, .int .i64 f.n, .int .i64 f.d, .bool false] 36) := BC.out.old bv
      replace BT : Hid (Blk wv pt #[.int .i64 0, .slice (some ⟨gq, 0, none⟩) 4 cp] 41) := BT.out.old bv
      clear bv
      obtain ⟨mc, hmc⟩ : ∃ x, x = mC (trp L (poQ A) (poQ B)) 4 := ⟨_, rfl⟩
      obtain ⟨M, hM⟩ : ∃ x, x = mM (trp L (poQ A) (poQ B)) 4 := ⟨_, rfl⟩
      rw [← hmc, ← hM]
      have HM : Hid (mc = mC (trp L (poQ A) (poQ B)) 4 ∧ M = mM (trp L (poQ A) (poQ B)) 4) := ⟨hmc, hM⟩
      clear hmc hM
      go_upto_region 17 with fail
      obtain ⟨wx, hX⟩ : ∃ W, W = wv.alloc (.cells #[.int .i64 mc, .int .i64 M.A.n, .int .i64 M.A.d, .int .i64 M.B.n, .int .i64 M.B.d, .int .i64 M.C.n, .int .i64 M.C.d, .int .i64 M.D.n, .int .i64 M.D.d] 46) := ⟨_, rfl⟩
      obtain ⟨pm, hP⟩ : ∃ P, P = wv.heap.size := ⟨_, rfl⟩
      have BM : Hid (Blk wx pm #[.int .i64 mc, .int .i64 M.A.n, .int .i64 M.A.d, .int .i64 M.B.n, .int .i64 M.B.d, .int .i64 M.C.n, .int .i64 M.C.d, .int .i64 M.D.n, .int .i64 M.D.d] 46) := by show Blk _ _ _ _; rw [hX]; exact Blk.new hP
      have bX : Below wv.heap.size wv wx := by rw [hX]; exact below_one _ _
      rw [← hX, ← hP]
      clear hX hP
      replace HN : Hid (Bn w wx pl pa pb L A B) := HN.out.later bX
      replace BC : Hid (Blk wx pc #[.int .i64 0, .int .i64 a.n, .int .i64 a.d, .int .i64 b.n, .int .i64 b.d, .int .i64 f.n, .int .i64 f.d, .bool false] 36) := BC.out.old bX
      replace BT : Hid (Blk wx pt #[.int .i64 0, .slice (some ⟨gq, 0, none⟩) 4 cp] 41) := BT.out.old bX
      clear bX
      have t0 := BT.out.cell (j := 0) rfl
      have q0 := BM.out.cell (j := 0) (v := .int .i64 mc) rfl
      by_cases hz : mc = 0
      case neg =>
        have hzb : (mc == 0) = false := by simpa using hz
        go_wp2
        go_ret
        exact ⟨by simp [hz], HN.out.o⟩
      have hzb : (mc == 0) = true := by simpa using hz
      have HZ : Hid (mc = 0) := hz
      clear hz
      go_upto_region 19 with fail
      clear t0 q0 hzb BT
      have a0 := BM.out.cell (j := 1) rfl
      have a1 := BM.out.cell (j := 2) rfl
      have d0 := BM.out.cell (j := 7) rfl
      have d1 := BM.out.cell (j := 8) rfl
      go_wp2_with fail
      refine (saddq M.A M.D _).mono ?_
      rintro e wy ⟨rfl, b9⟩
      clear a0 a1 d0 d1 BM
      replace HN : Hid (Bn w wy pl pa pb L A B) := HN.out.later b9
      replace BC : Hid (Blk wy pc #[.int .i64 0, .int .i64 a.n, .int .i64 a.d, .int .i64 b.n, .int .i64 b.d, .int .i64 f.n, .int .i64 f.d, .bool false] 36) := BC.out.old b9
      clear b9
      go_upto_region 20 with fail
      obtain ⟨wz, hX⟩ : ∃ W, W = wy.alloc (.cells #[.int .i64 (addC M.A M.D), .int .i64 (addQ M.A M.D).n, .int .i64 (addQ M.A M.D).d] 49) := ⟨_, rfl⟩
      obtain ⟨p1, hP⟩ : ∃ P, P = wy.heap.size := ⟨_, rfl⟩
      have BS : Hid (Blk wz p1 #[.int .i64 (addC M.A M.D), .int .i64 (addQ M.A M.D).n, .int .i64 (addQ M.A M.D).d] 49) := by show Blk _ _ _ _; rw [hX]; exact Blk.new hP
      have bX : Below wy.heap.size wy wz := by rw [hX]; exact below_one _ _
      rw [← hX, ← hP]
      clear hX hP
      replace HN : Hid (Bn w wz pl pa pb L A B) := HN.out.later bX
      replace BC : Hid (Blk wz pc #[.int .i64 0, .int .i64 a.n, .int .i64 a.d, .int .i64 b.n, .int .i64 b.d, .int .i64 f.n, .int .i64 f.d, .bool false] 36) := BC.out.old bX
      clear bX
      have f0 := BC.out.cell (j := 5) rfl
      have f1 := BC.out.cell (j := 6) rfl
      go_wp2_with fail
      refine (saddq f f _).mono ?_
      rintro e wA ⟨rfl, b9⟩
      clear f0 f1
      replace HN : Hid (Bn w wA pl pa pb L A B) := HN.out.later b9
      replace BC : Hid (Blk wA pc #[.int .i64 0, .int .i64 a.n, .int .i64 a.d, .int .i64 b.n, .int .i64 b.d, .int .i64 f.n, .int .i64 f.d, .bool false] 36) := BC.out.old b9
      replace BS : Hid (Blk wA p1 #[.int .i64 (addC M.A M.D), .int .i64 (addQ M.A M.D).n, .int .i64 (addQ M.A M.D).d] 49) := BS.out.old b9
      clear b9
      go_upto_region 21 with fail
      obtain ⟨wB, hX⟩ : ∃ W, W = wA.alloc (.cells #[.int .i64 (addC f f), .int .i64 (addQ f f).n, .int .i64 (addQ f f).d] 49) := ⟨_, rfl⟩
      obtain ⟨p2, hP⟩ : ∃ P, P = wA.heap.size := ⟨_, rfl⟩
      have BW : Hid (Blk wB p2 #[.int .i64 (addC f f), .int .i64 (addQ f f).n, .int .i64 (addQ f f).d] 49) := by show Blk _ _ _ _; rw [hX]; exact Blk.new hP
      have bX : Below wA.heap.size wA wB := by rw [hX]; exact below_one _ _
      rw [← hX, ← hP]
      clear hX hP
      replace HN : Hid (Bn w wB pl pa pb L A B) := HN.out.later bX
      replace BC : Hid (Blk wB pc #[.int .i64 0, .int .i64 a.n, .int .i64 a.d, .int .i64 b.n, .int .i64 b.d, .int .i64 f.n, .int .i64 f.d, .bool false] 36) := BC.out.old bX
      replace BS : Hid (Blk wB p1 #[.int .i64 (addC M.A M.D), .int .i64 (addQ M.A M.D).n, .int .i64 (addQ M.A M.D).d] 49) := BS.out.old bX
      clear bX
      have s0 := BS.out.cell (j := 0) rfl
      have s1 := BS.out.cell (j := 1) rfl
      have s2 := BS.out.cell (j := 2) rfl
      have r0 := BW.out.cell (j := 0) rfl
      have r1 := BW.out.cell (j := 1) rfl
      have r2 := BW.out.cell (j := 2) rfl
      have heql := eql32_same
      cases h1 : addK M.A M.D
      · have h1b : (addC M.A M.D == 0) = false := h1
        have h1n : (addC M.A M.D != 0) = true := by simp [bne, h1b]
        go_wp2
        all_goals first | (exfalso; simp_all; done) | (go_ret; exact ⟨by simp_all, HN.out.o⟩)
      cases h2 : addK f f
      · have h1b : (addC M.A M.D == 0) = true := h1
        have h2b : (addC f f == 0) = false := h2
        have h2n : (addC f f != 0) = true := by simp [bne, h2b]
        go_wp2
        all_goals first | (exfalso; simp_all; done) | (go_ret; exact ⟨by simp_all, HN.out.o⟩)
      have h1b : (addC M.A M.D == 0) = true := h1
      have h2b : (addC f f == 0) = true := h2
      have hEQ : addQ M.A M.D = addQ f f := by
        obtain ⟨e1, e2⟩ := HM.out
        obtain ⟨x1, x2⟩ := HX.out
        rw [e2] at h1 ⊢
        rw [x2] at h2 ⊢
        exact trace_half x1 HPP.out.1 HPP.out.2 (e1.symm.trans HZ.out) h1 h2
      rw [hEQ] at s1 s2
      clear hEQ h1 h2 BS BW
      go_wp2
      all_goals (go_ret; exact ⟨by simp, HN.out.o⟩)
    · have TR : Hid (∀ W, Calls Try.prog 22 #[.agg #[.int .i64 L.n, .int .i64 L.d], .agg #[.int .i64 A.n, .int .i64 A.d], .agg #[.int .i64 B.n, .int .i64 B.d]] W fun e w' => ∃ v, e = .returned (.agg #[.int .i64 3, v]) ∧ OwL w' W.heap.size v 0 F ∧ Below W.heap.size W w') := TR0
      clear TR0
      have ul0 := HN.out.l.cell (j := 0) rfl
      have ul1 := HN.out.l.cell (j := 1) rfl
      have ua0 := HN.out.a.cell (j := 0) rfl
      have ua1 := HN.out.a.cell (j := 1) rfl
      have ub0 := HN.out.b.cell (j := 0) rfl
      have ub1 := HN.out.b.cell (j := 1) rfl
      go_wp2_with fail
      refine (TR.out _).mono ?_
      rintro e wt ⟨vv, rfl, ow, bt⟩
      clear ul0 ul1 ua0 ua1 ub0 ub1
      replace HN : Hid (Bn w wt pl pa pb L A B) := HN.out.later bt
      replace BC : Hid (Blk wt pc #[.int .i64 0, .int .i64 a.n, .int .i64 a.d, .int .i64 b.n, .int .i64 b.d, .int .i64 f.n, .int .i64 f.d, .bool false] 36) := BC.out.old bt
      clear bt
      clear TR
      rcases ow with ⟨rfl, _⟩ | ⟨gq, cp, rfl, hlo, sg⟩
      · go_upto_region 16 with fail
        obtain ⟨wu, hX⟩ : ∃ W, W = wt.alloc (.cells #[.int .i64 3, .slice none 0 0] 41) := ⟨_, rfl⟩
        obtain ⟨pt, hP⟩ : ∃ P, P = wt.heap.size := ⟨_, rfl⟩
        have BT : Hid (Blk wu pt #[.int .i64 3, .slice none 0 0] 41) := by show Blk _ _ _ _; rw [hX]; exact Blk.new hP
        have bX : Below wt.heap.size wt wu := by rw [hX]; exact below_one _ _
        rw [← hX, ← hP]
        clear hX hP
        replace HN : Hid (Bn w wu pl pa pb L A B) := HN.out.later bX
        replace BC : Hid (Blk wu pc #[.int .i64 0, .int .i64 a.n, .int .i64 a.d, .int .i64 b.n, .int .i64 b.d, .int .i64 f.n, .int .i64 f.d, .bool false] 36) := BC.out.old bX
        clear bX
        have t0 := BT.out.cell (j := 0) rfl
        have t1 := BT.out.cell (j := 1) rfl
        go_wp2_with fail
        refine (smatrix_nil _).mono ?_
        rintro e wv ⟨rfl, bv⟩
        clear t0 t1
        replace HN : Hid (Bn w wv pl pa pb L A B) := HN.out.later bv
        replace BC : Hid (Blk wv pc #[.int .i64 0, .int .i64 a.n, .int .i64 a.d, .int .i64 b.n, .int .i64 b.d, .int .i64 f.n, .int .i64 f.d, .bool false] 36) := BC.out.old bv
        replace BT : Hid (Blk wv pt #[.int .i64 3, .slice none 0 0] 41) := BT.out.old bv
        clear bv
        go_upto_region 17 with fail
        obtain ⟨wx, hX⟩ : ∃ W, W = wv.alloc (.cells #[.int .i64 0, .int .i64 1, .int .i64 1, .int .i64 0, .int .i64 1, .int .i64 0, .int .i64 1, .int .i64 1, .int .i64 1] 46) := ⟨_, rfl⟩
        obtain ⟨pm, hP⟩ : ∃ P, P = wv.heap.size := ⟨_, rfl⟩
        have BM : Hid (Blk wx pm #[.int .i64 0, .int .i64 1, .int .i64 1, .int .i64 0, .int .i64 1, .int .i64 0, .int .i64 1, .int .i64 1, .int .i64 1] 46) := by show Blk _ _ _ _; rw [hX]; exact Blk.new hP
        have bX : Below wv.heap.size wv wx := by rw [hX]; exact below_one _ _
        rw [← hX, ← hP]
        clear hX hP
        replace HN : Hid (Bn w wx pl pa pb L A B) := HN.out.later bX
        replace BC : Hid (Blk wx pc #[.int .i64 0, .int .i64 a.n, .int .i64 a.d, .int .i64 b.n, .int .i64 b.d, .int .i64 f.n, .int .i64 f.d, .bool false] 36) := BC.out.old bX
        replace BT : Hid (Blk wx pt #[.int .i64 3, .slice none 0 0] 41) := BT.out.old bX
        clear bX
        have t0 := BT.out.cell (j := 0) rfl
        go_wp2
        go_ret
        exact ⟨by simp, HN.out.o⟩
      · go_upto_region 16 with fail
        obtain ⟨wu, hX⟩ : ∃ W, W = wt.alloc (.cells #[.int .i64 3, .slice (some ⟨gq, 0, none⟩) 0 cp] 41) := ⟨_, rfl⟩
        obtain ⟨pt, hP⟩ : ∃ P, P = wt.heap.size := ⟨_, rfl⟩
        have BT : Hid (Blk wu pt #[.int .i64 3, .slice (some ⟨gq, 0, none⟩) 0 cp] 41) := by show Blk _ _ _ _; rw [hX]; exact Blk.new hP
        have bX : Below wt.heap.size wt wu := by rw [hX]; exact below_one _ _
        rw [← hX, ← hP]
        clear hX hP
        replace HN : Hid (Bn w wu pl pa pb L A B) := HN.out.later bX
        replace BC : Hid (Blk wu pc #[.int .i64 0, .int .i64 a.n, .int .i64 a.d, .int .i64 b.n, .int .i64 b.d, .int .i64 f.n, .int .i64 f.d, .bool false] 36) := BC.out.old bX
        clear bX
        have t0 := BT.out.cell (j := 0) rfl
        have t1 := BT.out.cell (j := 1) rfl
        go_wp2_with fail
        refine (smatrix gq 0 0 cp F _ (by omega) (fun i hi => by omega)).mono ?_
        rintro e wv ⟨rfl, bv⟩
        clear t0 t1
        replace HN : Hid (Bn w wv pl pa pb L A B) := HN.out.later bv
        replace BC : Hid (Blk wv pc #[.int .i64 0, .int .i64 a.n, .int .i64 a.d, .int .i64 b.n, .int .i64 b.d, .int .i64 f.n, .int .i64 f.d, .bool false] 36) := BC.out.old bv
        replace BT : Hid (Blk wv pt #[.int .i64 3, .slice (some ⟨gq, 0, none⟩) 0 cp] 41) := BT.out.old bv
        clear bv
        go_upto_region 17 with fail
        obtain ⟨wx, hX⟩ : ∃ W, W = wv.alloc (.cells #[.int .i64 (mC F 0), .int .i64 (mM F 0).A.n, .int .i64 (mM F 0).A.d, .int .i64 (mM F 0).B.n, .int .i64 (mM F 0).B.d, .int .i64 (mM F 0).C.n, .int .i64 (mM F 0).C.d, .int .i64 (mM F 0).D.n, .int .i64 (mM F 0).D.d] 46) := ⟨_, rfl⟩
        obtain ⟨pm, hP⟩ : ∃ P, P = wv.heap.size := ⟨_, rfl⟩
        have BM : Hid (Blk wx pm #[.int .i64 (mC F 0), .int .i64 (mM F 0).A.n, .int .i64 (mM F 0).A.d, .int .i64 (mM F 0).B.n, .int .i64 (mM F 0).B.d, .int .i64 (mM F 0).C.n, .int .i64 (mM F 0).C.d, .int .i64 (mM F 0).D.n, .int .i64 (mM F 0).D.d] 46) := by show Blk _ _ _ _; rw [hX]; exact Blk.new hP
        have bX : Below wv.heap.size wv wx := by rw [hX]; exact below_one _ _
        rw [← hX, ← hP]
        clear hX hP
        replace HN : Hid (Bn w wx pl pa pb L A B) := HN.out.later bX
        replace BC : Hid (Blk wx pc #[.int .i64 0, .int .i64 a.n, .int .i64 a.d, .int .i64 b.n, .int .i64 b.d, .int .i64 f.n, .int .i64 f.d, .bool false] 36) := BC.out.old bX
        replace BT : Hid (Blk wx pt #[.int .i64 3, .slice (some ⟨gq, 0, none⟩) 0 cp] 41) := BT.out.old bX
        clear bX
        have t0 := BT.out.cell (j := 0) rfl
        go_wp2
        go_ret
        exact ⟨by simp, HN.out.o⟩
  have m5 := BC.out.cell (j := 5) rfl
  have m6 := BC.out.cell (j := 6) rfl
  go_wp2_with fail
  refine (scmp f.n f.d (-1) 1 _).mono ?_
  rintro e wb ⟨rfl, bb⟩
  clear m5 m6
  replace HN : Hid (Bn w wb pl pa pb L A B) := HN.out.later bb
  replace BC : Hid (Blk wb pc #[.int .i64 0, .int .i64 a.n, .int .i64 a.d, .int .i64 b.n, .int .i64 b.d, .int .i64 f.n, .int .i64 f.d, .bool st] 36) := BC.out.old bb
  clear bb
  obtain ⟨g2, hg2⟩ : ∃ x, x = cmpF f.n f.d (-1) 1 := ⟨_, rfl⟩
  rw [← hg2] at HF ⊢
  clear hg2
  by_cases hg2 : g2 < 0
  · obtain rfl : st = false := by rw [HF.out, decide_eq_true hg2]; simp
    have m7 := BC.out.cell (j := 7) rfl
    go_upto_region 15 with fail
    all_goals try clear m7
    rcases trip_x L A B (cavK_t HX.out.1).1 with ⟨hpA, hpB, TR0⟩ | ⟨F, TR0⟩
    · have HPP : Hid (poK A = true ∧ poK B = true) := ⟨hpA, hpB⟩
      clear hpA hpB
      have TR : Hid (∀ W, Calls Try.prog 22 #[.agg #[.int .i64 L.n, .int .i64 L.d], .agg #[.int .i64 A.n, .int .i64 A.d], .agg #[.int .i64 B.n, .int .i64 B.d]] W fun e w' => ∃ v, e = .returned (.agg #[.int .i64 0, v]) ∧ OwL w' W.heap.size v 4 (trp L (poQ A) (poQ B)) ∧ Below W.heap.size W w') := TR0
      clear TR0
      have ul0 := HN.out.l.cell (j := 0) rfl
      have ul1 := HN.out.l.cell (j := 1) rfl
      have ua0 := HN.out.a.cell (j := 0) rfl
      have ua1 := HN.out.a.cell (j := 1) rfl
      have ub0 := HN.out.b.cell (j := 0) rfl
      have ub1 := HN.out.b.cell (j := 1) rfl
      go_wp2_with fail
      refine (TR.out _).mono ?_
      rintro e wt ⟨vv, rfl, ow, bt⟩
      clear ul0 ul1 ua0 ua1 ub0 ub1
      replace HN : Hid (Bn w wt pl pa pb L A B) := HN.out.later bt
      replace BC : Hid (Blk wt pc #[.int .i64 0, .int .i64 a.n, .int .i64 a.d, .int .i64 b.n, .int .i64 b.d, .int .i64 f.n, .int .i64 f.d, .bool false] 36) := BC.out.old bt
      clear bt
      clear TR
      rcases ow with ⟨_, h40⟩ | ⟨gq, cp, rfl, hlo, sg⟩
      · cases h40
      have RD : Hid (RdP wt gq 0 4 (trp L (poQ A) (poQ B))) := seg_rdp sg
      clear sg hlo
      go_upto_region 16 with fail
      obtain ⟨wu, hX⟩ : ∃ W, W = wt.alloc (.cells #[.int .i64 0, .slice (some ⟨gq, 0, none⟩) 4 cp] 41) := ⟨_, rfl⟩
      obtain ⟨pt, hP⟩ : ∃ P, P = wt.heap.size := ⟨_, rfl⟩
      have BT : Hid (Blk wu pt #[.int .i64 0, .slice (some ⟨gq, 0, none⟩) 4 cp] 41) := by show Blk _ _ _ _; rw [hX]; exact Blk.new hP
      have bX : Below wt.heap.size wt wu := by rw [hX]; exact below_one _ _
      rw [← hX, ← hP]
      clear hX hP
      replace RD : Hid (RdP wu gq 0 4 (trp L (poQ A) (poQ B))) := RD.out.old bX
      replace HN : Hid (Bn w wu pl pa pb L A B) := HN.out.later bX
      replace BC : Hid (Blk wu pc #[.int .i64 0, .int .i64 a.n, .int .i64 a.d, .int .i64 b.n, .int .i64 b.d, .int .i64 f.n, .int .i64 f.d, .bool false] 36) := BC.out.old bX
      clear bX
      have t0 := BT.out.cell (j := 0) rfl
      have t1 := BT.out.cell (j := 1) rfl
      go_wp2_with fail
      refine (smatrix gq 0 4 cp (trp L (poQ A) (poQ B)) _ (by omega) RD.out).mono ?_
      rintro e wv ⟨rfl, bv⟩
      clear t0 t1 RD
      replace HN : Hid (Bn w wv pl pa pb L A B) := HN.out.later bv
      replace BC : Hid (Blk wv pc #[.int .i64 0, .int .i64 a.n, .int .i64 a.d, .int .i64 b.n, .int .i64 b.d, .int .i64 f.n, .int .i64 f.d, .bool false] 36) := BC.out.old bv
      replace BT : Hid (Blk wv pt #[.int .i64 0, .slice (some ⟨gq, 0, none⟩) 4 cp] 41) := BT.out.old bv
      clear bv
      obtain ⟨mc, hmc⟩ : ∃ x, x = mC (trp L (poQ A) (poQ B)) 4 := ⟨_, rfl⟩
      obtain ⟨M, hM⟩ : ∃ x, x = mM (trp L (poQ A) (poQ B)) 4 := ⟨_, rfl⟩
      rw [← hmc, ← hM]
      have HM : Hid (mc = mC (trp L (poQ A) (poQ B)) 4 ∧ M = mM (trp L (poQ A) (poQ B)) 4) := ⟨hmc, hM⟩
      clear hmc hM
      go_upto_region 17 with fail
      obtain ⟨wx, hX⟩ : ∃ W, W = wv.alloc (.cells #[.int .i64 mc, .int .i64 M.A.n, .int .i64 M.A.d, .int .i64 M.B.n, .int .i64 M.B.d, .int .i64 M.C.n, .int .i64 M.C.d, .int .i64 M.D.n, .int .i64 M.D.d] 46) := ⟨_, rfl⟩
      obtain ⟨pm, hP⟩ : ∃ P, P = wv.heap.size := ⟨_, rfl⟩
      have BM : Hid (Blk wx pm #[.int .i64 mc, .int .i64 M.A.n, .int .i64 M.A.d, .int .i64 M.B.n, .int .i64 M.B.d, .int .i64 M.C.n, .int .i64 M.C.d, .int .i64 M.D.n, .int .i64 M.D.d] 46) := by show Blk _ _ _ _; rw [hX]; exact Blk.new hP
      have bX : Below wv.heap.size wv wx := by rw [hX]; exact below_one _ _
      rw [← hX, ← hP]
      clear hX hP
      replace HN : Hid (Bn w wx pl pa pb L A B) := HN.out.later bX
      replace BC : Hid (Blk wx pc #[.int .i64 0, .int .i64 a.n, .int .i64 a.d, .int .i64 b.n, .int .i64 b.d, .int .i64 f.n, .int .i64 f.d, .bool false] 36) := BC.out.old bX
      replace BT : Hid (Blk wx pt #[.int .i64 0, .slice (some ⟨gq, 0, none⟩) 4 cp] 41) := BT.out.old bX
      clear bX
      have t0 := BT.out.cell (j := 0) rfl
      have q0 := BM.out.cell (j := 0) (v := .int .i64 mc) rfl
      by_cases hz : mc = 0
      case neg =>
        have hzb : (mc == 0) = false := by simpa using hz
        go_wp2
        go_ret
        exact ⟨by simp [hz], HN.out.o⟩
      have hzb : (mc == 0) = true := by simpa using hz
      have HZ : Hid (mc = 0) := hz
      clear hz
      go_upto_region 19 with fail
      clear t0 q0 hzb BT
      have a0 := BM.out.cell (j := 1) rfl
      have a1 := BM.out.cell (j := 2) rfl
      have d0 := BM.out.cell (j := 7) rfl
      have d1 := BM.out.cell (j := 8) rfl
      go_wp2_with fail
      refine (saddq M.A M.D _).mono ?_
      rintro e wy ⟨rfl, b9⟩
      clear a0 a1 d0 d1 BM
      replace HN : Hid (Bn w wy pl pa pb L A B) := HN.out.later b9
      replace BC : Hid (Blk wy pc #[.int .i64 0, .int .i64 a.n, .int .i64 a.d, .int .i64 b.n, .int .i64 b.d, .int .i64 f.n, .int .i64 f.d, .bool false] 36) := BC.out.old b9
      clear b9
      go_upto_region 20 with fail
      obtain ⟨wz, hX⟩ : ∃ W, W = wy.alloc (.cells #[.int .i64 (addC M.A M.D), .int .i64 (addQ M.A M.D).n, .int .i64 (addQ M.A M.D).d] 49) := ⟨_, rfl⟩
      obtain ⟨p1, hP⟩ : ∃ P, P = wy.heap.size := ⟨_, rfl⟩
      have BS : Hid (Blk wz p1 #[.int .i64 (addC M.A M.D), .int .i64 (addQ M.A M.D).n, .int .i64 (addQ M.A M.D).d] 49) := by show Blk _ _ _ _; rw [hX]; exact Blk.new hP
      have bX : Below wy.heap.size wy wz := by rw [hX]; exact below_one _ _
      rw [← hX, ← hP]
      clear hX hP
      replace HN : Hid (Bn w wz pl pa pb L A B) := HN.out.later bX
      replace BC : Hid (Blk wz pc #[.int .i64 0, .int .i64 a.n, .int .i64 a.d, .int .i64 b.n, .int .i64 b.d, .int .i64 f.n, .int .i64 f.d, .bool false] 36) := BC.out.old bX
      clear bX
      have f0 := BC.out.cell (j := 5) rfl
      have f1 := BC.out.cell (j := 6) rfl
      go_wp2_with fail
      refine (saddq f f _).mono ?_
      rintro e wA ⟨rfl, b9⟩
      clear f0 f1
      replace HN : Hid (Bn w wA pl pa pb L A B) := HN.out.later b9
      replace BC : Hid (Blk wA pc #[.int .i64 0, .int .i64 a.n, .int .i64 a.d, .int .i64 b.n, .int .i64 b.d, .int .i64 f.n, .int .i64 f.d, .bool false] 36) := BC.out.old b9
      replace BS : Hid (Blk wA p1 #[.int .i64 (addC M.A M.D), .int .i64 (addQ M.A M.D).n, .int .i64 (addQ M.A M.D).d] 49) := BS.out.old b9
      clear b9
      go_upto_region 21 with fail
      obtain ⟨wB, hX⟩ : ∃ W, W = wA.alloc (.cells #[.int .i64 (addC f f), .int .i64 (addQ f f).n, .int .i64 (addQ f f).d] 49) := ⟨_, rfl⟩
      obtain ⟨p2, hP⟩ : ∃ P, P = wA.heap.size := ⟨_, rfl⟩
      have BW : Hid (Blk wB p2 #[.int .i64 (addC f f), .int .i64 (addQ f f).n, .int .i64 (addQ f f).d] 49) := by show Blk _ _ _ _; rw [hX]; exact Blk.new hP
      have bX : Below wA.heap.size wA wB := by rw [hX]; exact below_one _ _
      rw [← hX, ← hP]
      clear hX hP
      replace HN : Hid (Bn w wB pl pa pb L A B) := HN.out.later bX
      replace BC : Hid (Blk wB pc #[.int .i64 0, .int .i64 a.n, .int .i64 a.d, .int .i64 b.n, .int .i64 b.d, .int .i64 f.n, .int .i64 f.d, .bool false] 36) := BC.out.old bX
      replace BS : Hid (Blk wB p1 #[.int .i64 (addC M.A M.D), .int .i64 (addQ M.A M.D).n, .int .i64 (addQ M.A M.D).d] 49) := BS.out.old bX
      clear bX
      have s0 := BS.out.cell (j := 0) rfl
      have s1 := BS.out.cell (j := 1) rfl
      have s2 := BS.out.cell (j := 2) rfl
      have r0 := BW.out.cell (j := 0) rfl
      have r1 := BW.out.cell (j := 1) rfl
      have r2 := BW.out.cell (j := 2) rfl
      have heql := eql32_same
      cases h1 : addK M.A M.D
      · have h1b : (addC M.A M.D == 0) = false := h1
        have h1n : (addC M.A M.D != 0) = true := by simp [bne, h1b]
        go_wp2
        all_goals first | (exfalso; simp_all; done) | (go_ret; exact ⟨by simp_all, HN.out.o⟩)
      cases h2 : addK f f
      · have h1b : (addC M.A M.D == 0) = true := h1
        have h2b : (addC f f == 0) = false := h2
        have h2n : (addC f f != 0) = true := by simp [bne, h2b]
        go_wp2
        all_goals first | (exfalso; simp_all; done) | (go_ret; exact ⟨by simp_all, HN.out.o⟩)
      have h1b : (addC M.A M.D == 0) = true := h1
      have h2b : (addC f f == 0) = true := h2
      have hEQ : addQ M.A M.D = addQ f f := by
        obtain ⟨e1, e2⟩ := HM.out
        obtain ⟨x1, x2⟩ := HX.out
        rw [e2] at h1 ⊢
        rw [x2] at h2 ⊢
        exact trace_half x1 HPP.out.1 HPP.out.2 (e1.symm.trans HZ.out) h1 h2
      rw [hEQ] at s1 s2
      clear hEQ h1 h2 BS BW
      go_wp2
      all_goals (go_ret; exact ⟨by simp, HN.out.o⟩)
    · have TR : Hid (∀ W, Calls Try.prog 22 #[.agg #[.int .i64 L.n, .int .i64 L.d], .agg #[.int .i64 A.n, .int .i64 A.d], .agg #[.int .i64 B.n, .int .i64 B.d]] W fun e w' => ∃ v, e = .returned (.agg #[.int .i64 3, v]) ∧ OwL w' W.heap.size v 0 F ∧ Below W.heap.size W w') := TR0
      clear TR0
      have ul0 := HN.out.l.cell (j := 0) rfl
      have ul1 := HN.out.l.cell (j := 1) rfl
      have ua0 := HN.out.a.cell (j := 0) rfl
      have ua1 := HN.out.a.cell (j := 1) rfl
      have ub0 := HN.out.b.cell (j := 0) rfl
      have ub1 := HN.out.b.cell (j := 1) rfl
      go_wp2_with fail
      refine (TR.out _).mono ?_
      rintro e wt ⟨vv, rfl, ow, bt⟩
      clear ul0 ul1 ua0 ua1 ub0 ub1
      replace HN : Hid (Bn w wt pl pa pb L A B) := HN.out.later bt
      replace BC : Hid (Blk wt pc #[.int .i64 0, .int .i64 a.n, .int .i64 a.d, .int .i64 b.n, .int .i64 b.d, .int .i64 f.n, .int .i64 f.d, .bool false] 36) := BC.out.old bt
      clear bt
      clear TR
      rcases ow with ⟨rfl, _⟩ | ⟨gq, cp, rfl, hlo, sg⟩
      · go_upto_region 16 with fail
        obtain ⟨wu, hX⟩ : ∃ W, W = wt.alloc (.cells #[.int .i64 3, .slice none 0 0] 41) := ⟨_, rfl⟩
        obtain ⟨pt, hP⟩ : ∃ P, P = wt.heap.size := ⟨_, rfl⟩
        have BT : Hid (Blk wu pt #[.int .i64 3, .slice none 0 0] 41) := by show Blk _ _ _ _; rw [hX]; exact Blk.new hP
        have bX : Below wt.heap.size wt wu := by rw [hX]; exact below_one _ _
        rw [← hX, ← hP]
        clear hX hP
        replace HN : Hid (Bn w wu pl pa pb L A B) := HN.out.later bX
        replace BC : Hid (Blk wu pc #[.int .i64 0, .int .i64 a.n, .int .i64 a.d, .int .i64 b.n, .int .i64 b.d, .int .i64 f.n, .int .i64 f.d, .bool false] 36) := BC.out.old bX
        clear bX
        have t0 := BT.out.cell (j := 0) rfl
        have t1 := BT.out.cell (j := 1) rfl
        go_wp2_with fail
        refine (smatrix_nil _).mono ?_
        rintro e wv ⟨rfl, bv⟩
        clear t0 t1
        replace HN : Hid (Bn w wv pl pa pb L A B) := HN.out.later bv
        replace BC : Hid (Blk wv pc #[.int .i64 0, .int .i64 a.n, .int .i64 a.d, .int .i64 b.n, .int .i64 b.d, .int .i64 f.n, .int .i64 f.d, .bool false] 36) := BC.out.old bv
        replace BT : Hid (Blk wv pt #[.int .i64 3, .slice none 0 0] 41) := BT.out.old bv
        clear bv
        go_upto_region 17 with fail
        obtain ⟨wx, hX⟩ : ∃ W, W = wv.alloc (.cells #[.int .i64 0, .int .i64 1, .int .i64 1, .int .i64 0, .int .i64 1, .int .i64 0, .int .i64 1, .int .i64 1, .int .i64 1] 46) := ⟨_, rfl⟩
        obtain ⟨pm, hP⟩ : ∃ P, P = wv.heap.size := ⟨_, rfl⟩
        have BM : Hid (Blk wx pm #[.int .i64 0, .int .i64 1, .int .i64 1, .int .i64 0, .int .i64 1, .int .i64 0, .int .i64 1, .int .i64 1, .int .i64 1] 46) := by show Blk _ _ _ _; rw [hX]; exact Blk.new hP
        have bX : Below wv.heap.size wv wx := by rw [hX]; exact below_one _ _
        rw [← hX, ← hP]
        clear hX hP
        replace HN : Hid (Bn w wx pl pa pb L A B) := HN.out.later bX
        replace BC : Hid (Blk wx pc #[.int .i64 0, .int .i64 a.n, .int .i64 a.d, .int .i64 b.n, .int .i64 b.d, .int .i64 f.n, .int .i64 f.d, .bool false] 36) := BC.out.old bX
        replace BT : Hid (Blk wx pt #[.int .i64 3, .slice none 0 0] 41) := BT.out.old bX
        clear bX
        have t0 := BT.out.cell (j := 0) rfl
        go_wp2
        go_ret
        exact ⟨by simp, HN.out.o⟩
      · go_upto_region 16 with fail
        obtain ⟨wu, hX⟩ : ∃ W, W = wt.alloc (.cells #[.int .i64 3, .slice (some ⟨gq, 0, none⟩) 0 cp] 41) := ⟨_, rfl⟩
        obtain ⟨pt, hP⟩ : ∃ P, P = wt.heap.size := ⟨_, rfl⟩
        have BT : Hid (Blk wu pt #[.int .i64 3, .slice (some ⟨gq, 0, none⟩) 0 cp] 41) := by show Blk _ _ _ _; rw [hX]; exact Blk.new hP
        have bX : Below wt.heap.size wt wu := by rw [hX]; exact below_one _ _
        rw [← hX, ← hP]
        clear hX hP
        replace HN : Hid (Bn w wu pl pa pb L A B) := HN.out.later bX
        replace BC : Hid (Blk wu pc #[.int .i64 0, .int .i64 a.n, .int .i64 a.d, .int .i64 b.n, .int .i64 b.d, .int .i64 f.n, .int .i64 f.d, .bool false] 36) := BC.out.old bX
        clear bX
        have t0 := BT.out.cell (j := 0) rfl
        have t1 := BT.out.cell (j := 1) rfl
        go_wp2_with fail
        refine (smatrix gq 0 0 cp F _ (by omega) (fun i hi => by omega)).mono ?_
        rintro e wv ⟨rfl, bv⟩
        clear t0 t1
        replace HN : Hid (Bn w wv pl pa pb L A B) := HN.out.later bv
        replace BC : Hid (Blk wv pc #[.int .i64 0, .int .i64 a.n, .int .i64 a.d, .int .i64 b.n, .int .i64 b.d, .int .i64 f.n, .int .i64 f.d, .bool false] 36) := BC.out.old bv
        replace BT : Hid (Blk wv pt #[.int .i64 3, .slice (some ⟨gq, 0, none⟩) 0 cp] 41) := BT.out.old bv
        clear bv
        go_upto_region 17 with fail
        obtain ⟨wx, hX⟩ : ∃ W, W = wv.alloc (.cells #[.int .i64 (mC F 0), .int .i64 (mM F 0).A.n, .int .i64 (mM F 0).A.d, .int .i64 (mM F 0).B.n, .int .i64 (mM F 0).B.d, .int .i64 (mM F 0).C.n, .int .i64 (mM F 0).C.d, .int .i64 (mM F 0).D.n, .int .i64 (mM F 0).D.d] 46) := ⟨_, rfl⟩
        obtain ⟨pm, hP⟩ : ∃ P, P = wv.heap.size := ⟨_, rfl⟩
        have BM : Hid (Blk wx pm #[.int .i64 (mC F 0), .int .i64 (mM F 0).A.n, .int .i64 (mM F 0).A.d, .int .i64 (mM F 0).B.n, .int .i64 (mM F 0).B.d, .int .i64 (mM F 0).C.n, .int .i64 (mM F 0).C.d, .int .i64 (mM F 0).D.n, .int .i64 (mM F 0).D.d] 46) := by show Blk _ _ _ _; rw [hX]; exact Blk.new hP
        have bX : Below wv.heap.size wv wx := by rw [hX]; exact below_one _ _
        rw [← hX, ← hP]
        clear hX hP
        replace HN : Hid (Bn w wx pl pa pb L A B) := HN.out.later bX
        replace BC : Hid (Blk wx pc #[.int .i64 0, .int .i64 a.n, .int .i64 a.d, .int .i64 b.n, .int .i64 b.d, .int .i64 f.n, .int .i64 f.d, .bool false] 36) := BC.out.old bX
        replace BT : Hid (Blk wx pt #[.int .i64 3, .slice (some ⟨gq, 0, none⟩) 0 cp] 41) := BT.out.old bX
        clear bX
        have t0 := BT.out.cell (j := 0) rfl
        go_wp2
        go_ret
        exact ⟨by simp, HN.out.o⟩
  · obtain rfl : st = true := by rw [HF.out, decide_eq_false (p := 0 < g1) (by omega), decide_eq_false (p := g2 < 0) (by omega)]; rfl
    have m7 := BC.out.cell (j := 7) rfl
    go_upto_region 15 with fail
    all_goals try clear m7
    rcases trip_x L A B (cavK_t HX.out.1).1 with ⟨hpA, hpB, TR0⟩ | ⟨F, TR0⟩
    · have HPP : Hid (poK A = true ∧ poK B = true) := ⟨hpA, hpB⟩
      clear hpA hpB
      have TR : Hid (∀ W, Calls Try.prog 22 #[.agg #[.int .i64 L.n, .int .i64 L.d], .agg #[.int .i64 A.n, .int .i64 A.d], .agg #[.int .i64 B.n, .int .i64 B.d]] W fun e w' => ∃ v, e = .returned (.agg #[.int .i64 0, v]) ∧ OwL w' W.heap.size v 4 (trp L (poQ A) (poQ B)) ∧ Below W.heap.size W w') := TR0
      clear TR0
      have ul0 := HN.out.l.cell (j := 0) rfl
      have ul1 := HN.out.l.cell (j := 1) rfl
      have ua0 := HN.out.a.cell (j := 0) rfl
      have ua1 := HN.out.a.cell (j := 1) rfl
      have ub0 := HN.out.b.cell (j := 0) rfl
      have ub1 := HN.out.b.cell (j := 1) rfl
      go_wp2_with fail
      refine (TR.out _).mono ?_
      rintro e wt ⟨vv, rfl, ow, bt⟩
      clear ul0 ul1 ua0 ua1 ub0 ub1
      replace HN : Hid (Bn w wt pl pa pb L A B) := HN.out.later bt
      replace BC : Hid (Blk wt pc #[.int .i64 0, .int .i64 a.n, .int .i64 a.d, .int .i64 b.n, .int .i64 b.d, .int .i64 f.n, .int .i64 f.d, .bool true] 36) := BC.out.old bt
      clear bt
      clear TR
      rcases ow with ⟨_, h40⟩ | ⟨gq, cp, rfl, hlo, sg⟩
      · cases h40
      have RD : Hid (RdP wt gq 0 4 (trp L (poQ A) (poQ B))) := seg_rdp sg
      clear sg hlo
      go_upto_region 16 with fail
      obtain ⟨wu, hX⟩ : ∃ W, W = wt.alloc (.cells #[.int .i64 0, .slice (some ⟨gq, 0, none⟩) 4 cp] 41) := ⟨_, rfl⟩
      obtain ⟨pt, hP⟩ : ∃ P, P = wt.heap.size := ⟨_, rfl⟩
      have BT : Hid (Blk wu pt #[.int .i64 0, .slice (some ⟨gq, 0, none⟩) 4 cp] 41) := by show Blk _ _ _ _; rw [hX]; exact Blk.new hP
      have bX : Below wt.heap.size wt wu := by rw [hX]; exact below_one _ _
      rw [← hX, ← hP]
      clear hX hP
      replace RD : Hid (RdP wu gq 0 4 (trp L (poQ A) (poQ B))) := RD.out.old bX
      replace HN : Hid (Bn w wu pl pa pb L A B) := HN.out.later bX
      replace BC : Hid (Blk wu pc #[.int .i64 0, .int .i64 a.n, .int .i64 a.d, .int .i64 b.n, .int .i64 b.d, .int .i64 f.n, .int .i64 f.d, .bool true] 36) := BC.out.old bX
      clear bX
      have t0 := BT.out.cell (j := 0) rfl
      have t1 := BT.out.cell (j := 1) rfl
      go_wp2_with fail
      refine (smatrix gq 0 4 cp (trp L (poQ A) (poQ B)) _ (by omega) RD.out).mono ?_
      rintro e wv ⟨rfl, bv⟩
      clear t0 t1 RD
      replace HN : Hid (Bn w wv pl pa pb L A B) := HN.out.later bv
      replace BC : Hid (Blk wv pc #[.int .i64 0, .int .i64 a.n, .int .i64 a.d, .int .i64 b.n, .int .i64 b.d, .int .i64 f.n, .int .i64 f.d, .bool true] 36) := BC.out.old bv
      replace BT : Hid (Blk wv pt #[.int .i64 0, .slice (some ⟨gq, 0, none⟩) 4 cp] 41) := BT.out.old bv
      clear bv
      obtain ⟨mc, hmc⟩ : ∃ x, x = mC (trp L (poQ A) (poQ B)) 4 := ⟨_, rfl⟩
      obtain ⟨M, hM⟩ : ∃ x, x = mM (trp L (poQ A) (poQ B)) 4 := ⟨_, rfl⟩
      rw [← hmc, ← hM]
      have HM : Hid (mc = mC (trp L (poQ A) (poQ B)) 4 ∧ M = mM (trp L (poQ A) (poQ B)) 4) := ⟨hmc, hM⟩
      clear hmc hM
      go_upto_region 17 with fail
      obtain ⟨wx, hX⟩ : ∃ W, W = wv.alloc (.cells #[.int .i64 mc, .int .i64 M.A.n, .int .i64 M.A.d, .int .i64 M.B.n, .int .i64 M.B.d, .int .i64 M.C.n, .int .i64 M.C.d, .int .i64 M.D.n, .int .i64 M.D.d] 46) := ⟨_, rfl⟩
      obtain ⟨pm, hP⟩ : ∃ P, P = wv.heap.size := ⟨_, rfl⟩
      have BM : Hid (Blk wx pm #[.int .i64 mc, .int .i64 M.A.n, .int .i64 M.A.d, .int .i64 M.B.n, .int .i64 M.B.d, .int .i64 M.C.n, .int .i64 M.C.d, .int .i64 M.D.n, .int .i64 M.D.d] 46) := by show Blk _ _ _ _; rw [hX]; exact Blk.new hP
      have bX : Below wv.heap.size wv wx := by rw [hX]; exact below_one _ _
      rw [← hX, ← hP]
      clear hX hP
      replace HN : Hid (Bn w wx pl pa pb L A B) := HN.out.later bX
      replace BC : Hid (Blk wx pc #[.int .i64 0, .int .i64 a.n, .int .i64 a.d, .int .i64 b.n, .int .i64 b.d, .int .i64 f.n, .int .i64 f.d, .bool true] 36) := BC.out.old bX
      replace BT : Hid (Blk wx pt #[.int .i64 0, .slice (some ⟨gq, 0, none⟩) 4 cp] 41) := BT.out.old bX
      clear bX
      have t0 := BT.out.cell (j := 0) rfl
      have q0 := BM.out.cell (j := 0) (v := .int .i64 mc) rfl
      by_cases hz : mc = 0
      case neg =>
        have hzb : (mc == 0) = false := by simpa using hz
        go_wp2
        go_ret
        exact ⟨by simp [hz], HN.out.o⟩
      have hzb : (mc == 0) = true := by simpa using hz
      have HZ : Hid (mc = 0) := hz
      clear hz
      go_upto_region 19 with fail
      clear t0 q0 hzb BT
      have a0 := BM.out.cell (j := 1) rfl
      have a1 := BM.out.cell (j := 2) rfl
      have d0 := BM.out.cell (j := 7) rfl
      have d1 := BM.out.cell (j := 8) rfl
      go_wp2_with fail
      refine (saddq M.A M.D _).mono ?_
      rintro e wy ⟨rfl, b9⟩
      clear a0 a1 d0 d1 BM
      replace HN : Hid (Bn w wy pl pa pb L A B) := HN.out.later b9
      replace BC : Hid (Blk wy pc #[.int .i64 0, .int .i64 a.n, .int .i64 a.d, .int .i64 b.n, .int .i64 b.d, .int .i64 f.n, .int .i64 f.d, .bool true] 36) := BC.out.old b9
      clear b9
      go_upto_region 20 with fail
      obtain ⟨wz, hX⟩ : ∃ W, W = wy.alloc (.cells #[.int .i64 (addC M.A M.D), .int .i64 (addQ M.A M.D).n, .int .i64 (addQ M.A M.D).d] 49) := ⟨_, rfl⟩
      obtain ⟨p1, hP⟩ : ∃ P, P = wy.heap.size := ⟨_, rfl⟩
      have BS : Hid (Blk wz p1 #[.int .i64 (addC M.A M.D), .int .i64 (addQ M.A M.D).n, .int .i64 (addQ M.A M.D).d] 49) := by show Blk _ _ _ _; rw [hX]; exact Blk.new hP
      have bX : Below wy.heap.size wy wz := by rw [hX]; exact below_one _ _
      rw [← hX, ← hP]
      clear hX hP
      replace HN : Hid (Bn w wz pl pa pb L A B) := HN.out.later bX
      replace BC : Hid (Blk wz pc #[.int .i64 0, .int .i64 a.n, .int .i64 a.d, .int .i64 b.n, .int .i64 b.d, .int .i64 f.n, .int .i64 f.d, .bool true] 36) := BC.out.old bX
      clear bX
      have f0 := BC.out.cell (j := 5) rfl
      have f1 := BC.out.cell (j := 6) rfl
      go_wp2_with fail
      refine (saddq f f _).mono ?_
      rintro e wA ⟨rfl, b9⟩
      clear f0 f1
      replace HN : Hid (Bn w wA pl pa pb L A B) := HN.out.later b9
      replace BC : Hid (Blk wA pc #[.int .i64 0, .int .i64 a.n, .int .i64 a.d, .int .i64 b.n, .int .i64 b.d, .int .i64 f.n, .int .i64 f.d, .bool true] 36) := BC.out.old b9
      replace BS : Hid (Blk wA p1 #[.int .i64 (addC M.A M.D), .int .i64 (addQ M.A M.D).n, .int .i64 (addQ M.A M.D).d] 49) := BS.out.old b9
      clear b9
      go_upto_region 21 with fail
      obtain ⟨wB, hX⟩ : ∃ W, W = wA.alloc (.cells #[.int .i64 (addC f f), .int .i64 (addQ f f).n, .int .i64 (addQ f f).d] 49) := ⟨_, rfl⟩
      obtain ⟨p2, hP⟩ : ∃ P, P = wA.heap.size := ⟨_, rfl⟩
      have BW : Hid (Blk wB p2 #[.int .i64 (addC f f), .int .i64 (addQ f f).n, .int .i64 (addQ f f).d] 49) := by show Blk _ _ _ _; rw [hX]; exact Blk.new hP
      have bX : Below wA.heap.size wA wB := by rw [hX]; exact below_one _ _
      rw [← hX, ← hP]
      clear hX hP
      replace HN : Hid (Bn w wB pl pa pb L A B) := HN.out.later bX
      replace BC : Hid (Blk wB pc #[.int .i64 0, .int .i64 a.n, .int .i64 a.d, .int .i64 b.n, .int .i64 b.d, .int .i64 f.n, .int .i64 f.d, .bool true] 36) := BC.out.old bX
      replace BS : Hid (Blk wB p1 #[.int .i64 (addC M.A M.D), .int .i64 (addQ M.A M.D).n, .int .i64 (addQ M.A M.D).d] 49) := BS.out.old bX
      clear bX
      have s0 := BS.out.cell (j := 0) rfl
      have s1 := BS.out.cell (j := 1) rfl
      have s2 := BS.out.cell (j := 2) rfl
      have r0 := BW.out.cell (j := 0) rfl
      have r1 := BW.out.cell (j := 1) rfl
      have r2 := BW.out.cell (j := 2) rfl
      have heql := eql32_same
      cases h1 : addK M.A M.D
      · have h1b : (addC M.A M.D == 0) = false := h1
        have h1n : (addC M.A M.D != 0) = true := by simp [bne, h1b]
        go_wp2
        all_goals first | (exfalso; simp_all; done) | (go_ret; exact ⟨by simp_all, HN.out.o⟩)
      cases h2 : addK f f
      · have h1b : (addC M.A M.D == 0) = true := h1
        have h2b : (addC f f == 0) = false := h2
        have h2n : (addC f f != 0) = true := by simp [bne, h2b]
        go_wp2
        all_goals first | (exfalso; simp_all; done) | (go_ret; exact ⟨by simp_all, HN.out.o⟩)
      have h1b : (addC M.A M.D == 0) = true := h1
      have h2b : (addC f f == 0) = true := h2
      have hEQ : addQ M.A M.D = addQ f f := by
        obtain ⟨e1, e2⟩ := HM.out
        obtain ⟨x1, x2⟩ := HX.out
        rw [e2] at h1 ⊢
        rw [x2] at h2 ⊢
        exact trace_half x1 HPP.out.1 HPP.out.2 (e1.symm.trans HZ.out) h1 h2
      rw [hEQ] at s1 s2
      clear hEQ h1 h2 BS BW
      go_wp2
      all_goals (go_ret; exact ⟨by simp, HN.out.o⟩)
    · have TR : Hid (∀ W, Calls Try.prog 22 #[.agg #[.int .i64 L.n, .int .i64 L.d], .agg #[.int .i64 A.n, .int .i64 A.d], .agg #[.int .i64 B.n, .int .i64 B.d]] W fun e w' => ∃ v, e = .returned (.agg #[.int .i64 3, v]) ∧ OwL w' W.heap.size v 0 F ∧ Below W.heap.size W w') := TR0
      clear TR0
      have ul0 := HN.out.l.cell (j := 0) rfl
      have ul1 := HN.out.l.cell (j := 1) rfl
      have ua0 := HN.out.a.cell (j := 0) rfl
      have ua1 := HN.out.a.cell (j := 1) rfl
      have ub0 := HN.out.b.cell (j := 0) rfl
      have ub1 := HN.out.b.cell (j := 1) rfl
      go_wp2_with fail
      refine (TR.out _).mono ?_
      rintro e wt ⟨vv, rfl, ow, bt⟩
      clear ul0 ul1 ua0 ua1 ub0 ub1
      replace HN : Hid (Bn w wt pl pa pb L A B) := HN.out.later bt
      replace BC : Hid (Blk wt pc #[.int .i64 0, .int .i64 a.n, .int .i64 a.d, .int .i64 b.n, .int .i64 b.d, .int .i64 f.n, .int .i64 f.d, .bool true] 36) := BC.out.old bt
      clear bt
      clear TR
      rcases ow with ⟨rfl, _⟩ | ⟨gq, cp, rfl, hlo, sg⟩
      · go_upto_region 16 with fail
        obtain ⟨wu, hX⟩ : ∃ W, W = wt.alloc (.cells #[.int .i64 3, .slice none 0 0] 41) := ⟨_, rfl⟩
        obtain ⟨pt, hP⟩ : ∃ P, P = wt.heap.size := ⟨_, rfl⟩
        have BT : Hid (Blk wu pt #[.int .i64 3, .slice none 0 0] 41) := by show Blk _ _ _ _; rw [hX]; exact Blk.new hP
        have bX : Below wt.heap.size wt wu := by rw [hX]; exact below_one _ _
        rw [← hX, ← hP]
        clear hX hP
        replace HN : Hid (Bn w wu pl pa pb L A B) := HN.out.later bX
        replace BC : Hid (Blk wu pc #[.int .i64 0, .int .i64 a.n, .int .i64 a.d, .int .i64 b.n, .int .i64 b.d, .int .i64 f.n, .int .i64 f.d, .bool true] 36) := BC.out.old bX
        clear bX
        have t0 := BT.out.cell (j := 0) rfl
        have t1 := BT.out.cell (j := 1) rfl
        go_wp2_with fail
        refine (smatrix_nil _).mono ?_
        rintro e wv ⟨rfl, bv⟩
        clear t0 t1
        replace HN : Hid (Bn w wv pl pa pb L A B) := HN.out.later bv
        replace BC : Hid (Blk wv pc #[.int .i64 0, .int .i64 a.n, .int .i64 a.d, .int .i64 b.n, .int .i64 b.d, .int .i64 f.n, .int .i64 f.d, .bool true] 36) := BC.out.old bv
        replace BT : Hid (Blk wv pt #[.int .i64 3, .slice none 0 0] 41) := BT.out.old bv
        clear bv
        go_upto_region 17 with fail
        obtain ⟨wx, hX⟩ : ∃ W, W = wv.alloc (.cells #[.int .i64 0, .int .i64 1, .int .i64 1, .int .i64 0, .int .i64 1, .int .i64 0, .int .i64 1, .int .i64 1, .int .i64 1] 46) := ⟨_, rfl⟩
        obtain ⟨pm, hP⟩ : ∃ P, P = wv.heap.size := ⟨_, rfl⟩
        have BM : Hid (Blk wx pm #[.int .i64 0, .int .i64 1, .int .i64 1, .int .i64 0, .int .i64 1, .int .i64 0, .int .i64 1, .int .i64 1, .int .i64 1] 46) := by show Blk _ _ _ _; rw [hX]; exact Blk.new hP
        have bX : Below wv.heap.size wv wx := by rw [hX]; exact below_one _ _
        rw [← hX, ← hP]
        clear hX hP
        replace HN : Hid (Bn w wx pl pa pb L A B) := HN.out.later bX
        replace BC : Hid (Blk wx pc #[.int .i64 0, .int .i64 a.n, .int .i64 a.d, .int .i64 b.n, .int .i64 b.d, .int .i64 f.n, .int .i64 f.d, .bool true] 36) := BC.out.old bX
        replace BT : Hid (Blk wx pt #[.int .i64 3, .slice none 0 0] 41) := BT.out.old bX
        clear bX
        have t0 := BT.out.cell (j := 0) rfl
        go_wp2
        go_ret
        exact ⟨by simp, HN.out.o⟩
      · go_upto_region 16 with fail
        obtain ⟨wu, hX⟩ : ∃ W, W = wt.alloc (.cells #[.int .i64 3, .slice (some ⟨gq, 0, none⟩) 0 cp] 41) := ⟨_, rfl⟩
        obtain ⟨pt, hP⟩ : ∃ P, P = wt.heap.size := ⟨_, rfl⟩
        have BT : Hid (Blk wu pt #[.int .i64 3, .slice (some ⟨gq, 0, none⟩) 0 cp] 41) := by show Blk _ _ _ _; rw [hX]; exact Blk.new hP
        have bX : Below wt.heap.size wt wu := by rw [hX]; exact below_one _ _
        rw [← hX, ← hP]
        clear hX hP
        replace HN : Hid (Bn w wu pl pa pb L A B) := HN.out.later bX
        replace BC : Hid (Blk wu pc #[.int .i64 0, .int .i64 a.n, .int .i64 a.d, .int .i64 b.n, .int .i64 b.d, .int .i64 f.n, .int .i64 f.d, .bool true] 36) := BC.out.old bX
        clear bX
        have t0 := BT.out.cell (j := 0) rfl
        have t1 := BT.out.cell (j := 1) rfl
        go_wp2_with fail
        refine (smatrix gq 0 0 cp F _ (by omega) (fun i hi => by omega)).mono ?_
        rintro e wv ⟨rfl, bv⟩
        clear t0 t1
        replace HN : Hid (Bn w wv pl pa pb L A B) := HN.out.later bv
        replace BC : Hid (Blk wv pc #[.int .i64 0, .int .i64 a.n, .int .i64 a.d, .int .i64 b.n, .int .i64 b.d, .int .i64 f.n, .int .i64 f.d, .bool true] 36) := BC.out.old bv
        replace BT : Hid (Blk wv pt #[.int .i64 3, .slice (some ⟨gq, 0, none⟩) 0 cp] 41) := BT.out.old bv
        clear bv
        go_upto_region 17 with fail
        obtain ⟨wx, hX⟩ : ∃ W, W = wv.alloc (.cells #[.int .i64 (mC F 0), .int .i64 (mM F 0).A.n, .int .i64 (mM F 0).A.d, .int .i64 (mM F 0).B.n, .int .i64 (mM F 0).B.d, .int .i64 (mM F 0).C.n, .int .i64 (mM F 0).C.d, .int .i64 (mM F 0).D.n, .int .i64 (mM F 0).D.d] 46) := ⟨_, rfl⟩
        obtain ⟨pm, hP⟩ : ∃ P, P = wv.heap.size := ⟨_, rfl⟩
        have BM : Hid (Blk wx pm #[.int .i64 (mC F 0), .int .i64 (mM F 0).A.n, .int .i64 (mM F 0).A.d, .int .i64 (mM F 0).B.n, .int .i64 (mM F 0).B.d, .int .i64 (mM F 0).C.n, .int .i64 (mM F 0).C.d, .int .i64 (mM F 0).D.n, .int .i64 (mM F 0).D.d] 46) := by show Blk _ _ _ _; rw [hX]; exact Blk.new hP
        have bX : Below wv.heap.size wv wx := by rw [hX]; exact below_one _ _
        rw [← hX, ← hP]
        clear hX hP
        replace HN : Hid (Bn w wx pl pa pb L A B) := HN.out.later bX
        replace BC : Hid (Blk wx pc #[.int .i64 0, .int .i64 a.n, .int .i64 a.d, .int .i64 b.n, .int .i64 b.d, .int .i64 f.n, .int .i64 f.d, .bool true] 36) := BC.out.old bX
        replace BT : Hid (Blk wx pt #[.int .i64 3, .slice (some ⟨gq, 0, none⟩) 0 cp] 41) := BT.out.old bX
        clear bX
        have t0 := BT.out.cell (j := 0) rfl
        go_wp2
        go_ret
        exact ⟨by simp, HN.out.o⟩
end Go.Proofs.Ytkkajcdjkfbcgaa
