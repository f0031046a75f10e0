/- Chains one behind the other, in both packages: slices.Grow, slices.Concat; contracts. -/
import Derived.Test.YtelejihgechmgaaJl
namespace Go.Proofs.Ytelejihgechmgaa
open Go.RowKit
set_option linter.unusedVariables false
set_option linter.unusedSimpArgs false
def zsv : Value := .agg #[.int .i64 0, .int .i64 0, .int .i64 0, .int .i64 0]
/-- 'append(nil, make([]Span, n)...)': a new row of n spans that are nothing, with what capacity ever. -/
theorem run_zeros (w : World) (ty : TypeId) (n : Nat) (h0 : 0 < n) (hn : n ≤ 2097152) :
    (Builtin.append_ #[28, 3] ty #[.slice none 0 0, .int .i64 (n : Int)]).run Try.prog w = .ok (.slice (some ⟨w.heap.size, 0, none⟩) n (grownCap w n 0 75)) (w.drew.alloc (.cells (Builtin.zeroCells zsv.cells n ++ Builtin.zeroCells zsv.cells (grownCap w n 0 75 - n)) 75)) := by
  obtain ⟨i, h1, h2, h3, h4⟩ := infoV_parts info75
  have hne : n ≠ 0 := by omega
  have hw : IntKind.i64.wrap (n : Int) = (n : Int) := by
    simp [IntKind.wrap, IntKind.signed, IntKind.bits]
    omega
  have hneg : ¬ ((n : Int) < 0) := by omega
  have hbig : ¬ (281474976710656 < (n : Int) * 32) := by omega
  have h63' : ¬ (9223372036854775807 < (n : Int)) := by omega
  have h48' : ¬ (281474976710656 < Builtin.nextslicecap n 0 * i.bytes) := by rw [nextslicecap_zero h0, h4]; omega
  rw [h4] at h48'
  have hle : ¬ ((n : Int) ≤ 0) := by omega
  have hmx : max (n : Int) 0 = n := by omega
  have hn4 : n * 4 ≠ 0 := by omega
  simp [Builtin.append_, run_underlying Try.underlying28, run_underlying Try.underlying3, sizeOf, typeInfo, zeroValue, h1, h2, h3, h4, Builtin.lenOf, Builtin.firstCells, asInt, asIntOf, hle, hmx, hn4, hw, hneg, hbig, hne, h63', h48', Question.forced, newRow, grownCap, zsv]
theorem own_zeros (w : World) (n : Nat) (h0 : 0 < n) (hn : n ≤ 2097152) :
    (w.drew.alloc (.cells (Builtin.zeroCells zsv.cells n ++ Builtin.zeroCells zsv.cells (grownCap w n 0 75 - n)) 75)).ownsRow w.heap.size 75 4 (.slice (some ⟨w.heap.size, 0, none⟩) 0 (grownCap w n 0 75)) 0 [] := by
  have hge := grownCap_ge w n 0 75
  have hcm : grownCap w n 0 75 ≤ maxLen := grownCap_le_maxLen w n 0 75 (by unfold maxLen; omega)
  have hz : zsv.cells.size = 4 := rfl
  refine ⟨by simp, .inr ⟨w.heap.size, _, _, rfl, Nat.le_refl _, heap_alloc_new w.drew _, Nat.zero_le _, hcm, ?_, by simp⟩⟩
  simp only [Array.size_append, size_zeroCells, hz]
  omega
theorem pushZ {ops : Array Oper} {rest : List Oper} {o : Oper} {a : Act} {Q : Exit → Act → World → Prop} (hgd : o.guard = none) (s x : Operand)
    (ho : o.op = .call { callee := .builtin .append, args := #[s, x], argTypes := #[28, 3] }) (w : World) (n : Nat) (h0 : 0 < n) (hn : n ≤ 2097152) (hs : a.eval s = .slice none 0 0) (hx : a.eval x = .int .i64 (n : Int))
    (h : wpList Try.prog ops Q rest (a.put o.dst (.slice (some ⟨w.heap.size, 0, none⟩) n (grownCap w n 0 75))) (w.drew.alloc (.cells (Builtin.zeroCells zsv.cells n ++ Builtin.zeroCells zsv.cells (grownCap w n 0 75 - n)) 75))) : wpList Try.prog ops Q (o :: rest) a w := by
  refine wpList_plain hgd fun K hK => ?_
  unfold Oper.wp execOp
  simp only [ho, resolve, invoke, builtin, Sem.run_bind, Sem.run_pure, Result.andThen_ok, List.map_toArray, List.map_cons, List.map_nil, hs, hx, run_zeros w o.type n h0 hn]
  exact hK _ _ h
set_option maxRecDepth 20000 in
set_option maxHeartbeats 3200000 in
theorem iGrow_any (n : Nat) (hn : n ≤ 2097152) (w : World) : Calls Try.prog 97 #[.slice none 0 0, .int .i64 (n : Int)] w fun e w' => ∃ v, e = .returned v ∧ w'.ownsRow w.heap.size 75 4 v 0 [] ∧ Below w.heap.size w w' := by
  by_cases h0 : n = 0
  · subst h0
    go_enter Try.func97, Try.ntmps97
    go_wp2
    go_ret
    exact ⟨_, rfl, World.ownsRow_nil _ _ _ _, Below.refl _ _⟩
  · obtain ⟨cap, hcap⟩ : ∃ c, c = grownCap w n 0 75 := ⟨_, rfl⟩
    obtain ⟨W2, hW2⟩ : ∃ W, W = w.drew.alloc (.cells (Builtin.zeroCells zsv.cells n ++ Builtin.zeroCells zsv.cells (grownCap w n 0 75 - n)) 75) := ⟨_, rfl⟩
    have HO : Hid (W2.ownsRow w.heap.size 75 4 (.slice (some ⟨w.heap.size, 0, none⟩) 0 cap) 0 [] ∧ Below w.heap.size w W2) := by
      rw [hW2, hcap]
      exact ⟨own_zeros w n (by omega) hn, (Below.refl _ _).drew.alloc (by simp) _⟩
    have hcg : n ≤ cap := by rw [hcap]; exact grownCap_ge w n 0 75
    have hcm : cap ≤ 9223372036854775807 := by rw [hcap]; exact grownCap_le_maxLen w n 0 75 (by unfold maxLen; omega)
    have hn0 : 0 < n := by omega
    have HW : Hid (W2 = w.drew.alloc (.cells (Builtin.zeroCells zsv.cells n ++ Builtin.zeroCells zsv.cells (grownCap w n 0 75 - n)) 75) ∧ cap = grownCap w n 0 75) := ⟨hW2, hcap⟩
    have hnI : (n : Int) ≤ 2097152 := by omega
    have hnp : (0 : Int) < n := by omega
    clear hW2 hcap h0
    go_enter Try.func97, Try.ntmps97
    go_wp2_with (first | (at_builtin; refine pushZ rfl (.tmp 20) (.tmp 21) rfl w n hn0 hn (by simp [Act.eval]) (by simp [Act.eval]) ?_; rw [← HW.out.1, ← HW.out.2]))
    go_ret
    exact ⟨_, rfl, HO.out.1, HO.out.2⟩
set_option maxRecDepth 20000 in
set_option maxHeartbeats 6400000 in
theorem iConcat_any {w : World} {sb ga gb n m ca cb : Nat} {S T : Nat → Mt.Sp} (hs0 : w.cell? ⟨sb, 0, none⟩ = some (.slice (some ⟨ga, 0, none⟩) n ca)) (hs1 : w.cell? ⟨sb, 1, none⟩ = some (.slice (some ⟨gb, 0, none⟩) m cb)) (ha : SegV w ga 75 n 4 (fun i j => scell (S i) j)) (hb : SegV w gb 75 m 4 (fun i j => scell (T i) j)) (hn : n ≤ 1048576) (hm : m ≤ 1048576) :
    Calls Try.prog 64 #[.slice (some ⟨sb, 0, none⟩) 2 2] w fun e w' => ∃ v, e = .returned v ∧ w'.ownsRow w.heap.size 75 4 v (n + m) (flat (fun i => spl (jn n S T i)) (n + m)) ∧ Below w.heap.size w w' := by
  have HA : ∀ W, Below w.heap.size w W → Hid (W.cell? ⟨sb, 0, none⟩ = some (.slice (some ⟨ga, 0, none⟩) n ca) ∧ W.cell? ⟨sb, 1, none⟩ = some (.slice (some ⟨gb, 0, none⟩) m cb) ∧ SegV W ga 75 n 4 (fun i j => scell (S i) j) ∧ SegV W gb 75 m 4 (fun i j => scell (T i) j)) := fun W h => ⟨kold h hs0, kold h hs1, ha.below h, hb.below h⟩
  have hnI : (n : Int) ≤ 1048576 := by omega
  have hmI : (m : Int) ≤ 1048576 := by omega
  obtain ⟨N, hN⟩ : ∃ N, N = n + m := ⟨_, rfl⟩
  have hNI : (n : Int) + (m : Int) = (N : Int) := by omega
  have HN : Hid (N = n + m) := hN
  have HG := fun W => iGrow_any N (by omega) W
  clear ha hb hn hm hN
  go_enter Try.func64, Try.ntmps64
  go_wp2_with fail
  refine wp_loop_rounds 3 ?_
  rw [rounds_succ]
  go_wp2_with fail
  rw [rounds_succ]
  go_wp2_with fail
  rw [rounds_succ]
  clear hs0 hs1
  go_upto_region 10 with (first | (go_at_call 97; (try rw [hNI]); refine (HG _).mono ?_; rintro e w1 ⟨v1, rfl, ho1, hb1⟩))
  obtain ⟨s0, s1, hA1, -⟩ := (HA w1 hb1).out
  have hO1 : Hid (w1.ownsRow w.heap.size 75 4 v1 0 [] ∧ SegV w1 ga 75 n 4 (fun i j => scell (S i) j) ∧ Below w.heap.size w w1 ∧ n ≤ 2097152 ∧ m ≤ 2097152) := ⟨ho1, hA1, hb1, by omega, by omega⟩
  have hP1 : ∀ v2 w2, w2.ownsRow w.heap.size 75 4 v2 (0 + n) ([] ++ flat (fun i => spl (S i)) n) → Below w.heap.size w1 w2 → Hid (w2.ownsRow w.heap.size 75 4 v2 n (flat (fun i => spl (S i)) n) ∧ SegV w2 gb 75 m 4 (fun i j => scell (T i) j) ∧ Below w.heap.size w w2 ∧ w2.cell? ⟨sb, 1, none⟩ = some (.slice (some ⟨gb, 0, none⟩) m cb)) := fun v2 w2 ho2 hb2 => by
    have hb := hO1.out.2.2.1.trans hb2
    obtain ⟨-, t1, -, hB2⟩ := (HA w2 hb).out
    rw [Nat.zero_add, List.nil_append] at ho2
    exact ⟨ho2, hB2, hb, t1⟩
  have hsz := hb1.size
  clear ho1 hA1 hb1 HG HA
  go_wp2_with fail
  refine wp_loop_rounds 3 ?_
  rw [rounds_succ]
  go_wp2_with (first | (at_builtin; refine pushJ rfl (.tmp 31) (.tmp 32) rfl w1 w.heap.size v1 0 [] (by simp [Act.eval]) hO1.out.1 ga n ca S (by simp [Act.eval]) hO1.out.2.1 (by omega) hO1.out.2.2.2.1 hsz ?_; intro v2 w2 ho2 hb2 hk2; have hO2 := hP1 v2 w2 ho2 hb2; clear ho2 hb2 hk2 s0 s1 hP1))
  rw [rounds_succ]
  obtain ⟨-, -, hbw2, t1⟩ := hO2.out
  have hsz2 := hbw2.size
  clear hbw2
  go_wp2_with (first | (at_builtin; refine pushJ rfl (.tmp 31) (.tmp 32) rfl w2 w.heap.size v2 n (flat (fun i => spl (S i)) n) (by simp [Act.eval]) hO2.out.1 gb m cb T (by simp [Act.eval]) hO2.out.2.1 hO1.out.2.2.2.1 hO1.out.2.2.2.2 hsz2 ?_; intro v3 w3 ho3 hb3 hk3; have hO3 : Hid (w3.ownsRow w.heap.size 75 4 v3 (n + m) (flat (fun i => spl (jn n S T i)) (n + m)) ∧ Below w.heap.size w w3) := ⟨by rw [flat_jn]; exact ho3, hO2.out.2.2.1.trans hb3⟩; clear ho3 hb3 hk3 t1))
  rw [rounds_succ]
  go_wp2
  go_ret
  exact ⟨_, rfl, hO3.out.1, hO3.out.2⟩
end Go.Proofs.Ytelejihgechmgaa
