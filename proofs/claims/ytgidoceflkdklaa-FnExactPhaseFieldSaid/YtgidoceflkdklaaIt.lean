/- The program's turns: contract. -/
import Derived.Test.YtgidoceflkdklaaAe
namespace Go.Proofs.Ytgidoceflkdklaa
open Go.RowKit Fl
set_option linter.unusedVariables false
set_option linter.unusedSimpArgs false
theorem eq_float (d : Nat) (a b : Nat) (w : World) : (Op.equalIn (d + 1) 52 (.float .f64 a) (.float .f64 b)).run Try.prog w = .ok (oeq a b) w := by
  simp [Op.equalIn, run_underlying Try.underlying52, Op.floatEq, oeq]
theorem fields28 : Try.prog.underlying 75 = some (.struct (Try.prog.fieldsOf 75)) ∧ Try.prog.stoodInHeld 75 = false := ⟨by kernel_rfl, by kernel_rfl⟩
theorem eq_pair (d : Nat) (a b c e : Nat) (w : World) : (Op.equalIn (d + 2) 75 (Zv a b) (Zv c e)).run Try.prog w = .ok (oeq a c && oeq b e) w := by
  rw [run_equalIn_struct w (d + 1) 75 _ _ fields28.1 fields28.2]
  have hf : (Try.prog.fieldsOf 75).toList.map (fun f => (f.name, f.type, f.offset)) = [("Re", 52, 0), ("Im", 52, 1)] := by kernel_rfl
  generalize (Try.prog.fieldsOf 75).toList = fs at hf
  obtain ⟨f0, f1, rfl⟩ : ∃ f0 f1, fs = [f0, f1] := by
    have h := congrArg List.length hf
    rw [List.length_map] at h
    match fs, h with
    | [a, b], _ => exact ⟨a, b, rfl⟩
  · simp only [List.map_cons, List.map_nil, List.cons.injEq, Prod.mk.injEq, and_true] at hf
    obtain ⟨⟨n0, t0, o0⟩, n1, t1, o1⟩ := hf
    have p : ∀ (x y : Nat) (w : World), (part 52 #[.float .f64 x, .float .f64 y] 0).run Try.prog w = .ok (.float .f64 x) w ∧ (part 52 #[.float .f64 x, .float .f64 y] 1).run Try.prog w = .ok (.float .f64 y) w := fun x y w => by
      constructor <;> simp [part, isAgg, run_underlying Try.underlying52]
    simp only [Op.eqFields, n0, t0, o0, n1, t1, o1]
    simp only [Sem.run_bind, (p a b _).1, (p c e _).1, (p a b _).2, (p c e _).2, Result.andThen_ok, eq_float, Sem.run_ite, Sem.run_pure, if_pos (show ("Re" : String) ≠ "_" by decide), if_pos (show ("Im" : String) ≠ "_" by decide)]
    cases oeq a c <;> cases oeq b e <;> simp
theorem rts_zero : Rts (#[.float .f64 0, .float .f64 0, .float .f64 0, .float .f64 0, .float .f64 0, .float .f64 0, .float .f64 0, .float .f64 0, .float .f64 0, .float .f64 0, .float .f64 0, .float .f64 0, .float .f64 0, .float .f64 0, .float .f64 0, .float .f64 0, .float .f64 0, .float .f64 0, .float .f64 0, .float .f64 0, .float .f64 0, .float .f64 0, .float .f64 0, .float .f64 0, .float .f64 0, .float .f64 0, .float .f64 0, .float .f64 0, .float .f64 0, .float .f64 0, .float .f64 0, .float .f64 0, .float .f64 0, .float .f64 0, .float .f64 0, .float .f64 0, .float .f64 0, .float .f64 0, .float .f64 0, .float .f64 0] : Array Value) (fun _ => false) := by
  refine ⟨rfl, ?_⟩
  have h : (#[.float .f64 0, .float .f64 0, .float .f64 0, .float .f64 0, .float .f64 0, .float .f64 0, .float .f64 0, .float .f64 0, .float .f64 0, .float .f64 0, .float .f64 0, .float .f64 0, .float .f64 0, .float .f64 0, .float .f64 0, .float .f64 0, .float .f64 0, .float .f64 0, .float .f64 0, .float .f64 0, .float .f64 0, .float .f64 0, .float .f64 0, .float .f64 0, .float .f64 0, .float .f64 0, .float .f64 0, .float .f64 0, .float .f64 0, .float .f64 0, .float .f64 0, .float .f64 0, .float .f64 0, .float .f64 0, .float .f64 0, .float .f64 0, .float .f64 0, .float .f64 0, .float .f64 0, .float .f64 0] : Array Value) = (Array.range 40).map fun _ => .float .f64 0 := by kernel_rfl
  intro i hi j hj
  rw [h, Array.getElem?_map, Array.getElem?_range]
  simp [show i * 2 + j < 40 by omega, tabF]
def zeros (on : Nat → Bool) : Bool := (List.range 20).all fun i => oeq (tabF on i 0) 0 && oeq (tabF on i 1) 0
theorem eq_array {c : Array Value} {on : Nat → Bool} (h : Rts c on) (w : World) : (binOp .eql 103 (.agg c) (.agg #[.float .f64 0, .float .f64 0, .float .f64 0, .float .f64 0, .float .f64 0, .float .f64 0, .float .f64 0, .float .f64 0, .float .f64 0, .float .f64 0, .float .f64 0, .float .f64 0, .float .f64 0, .float .f64 0, .float .f64 0, .float .f64 0, .float .f64 0, .float .f64 0, .float .f64 0, .float .f64 0, .float .f64 0, .float .f64 0, .float .f64 0, .float .f64 0, .float .f64 0, .float .f64 0, .float .f64 0, .float .f64 0, .float .f64 0, .float .f64 0, .float .f64 0, .float .f64 0, .float .f64 0, .float .f64 0, .float .f64 0, .float .f64 0, .float .f64 0, .float .f64 0, .float .f64 0, .float .f64 0])).run Try.prog w = .ok (.bool (zeros on)) w := by
  rw [run_eql_struct]
  have := run_equalIn_array (P := Try.prog) 9999 103 75 20 2 Try.underlying103 size28 c #[.float .f64 0, .float .f64 0, .float .f64 0, .float .f64 0, .float .f64 0, .float .f64 0, .float .f64 0, .float .f64 0, .float .f64 0, .float .f64 0, .float .f64 0, .float .f64 0, .float .f64 0, .float .f64 0, .float .f64 0, .float .f64 0, .float .f64 0, .float .f64 0, .float .f64 0, .float .f64 0, .float .f64 0, .float .f64 0, .float .f64 0, .float .f64 0, .float .f64 0, .float .f64 0, .float .f64 0, .float .f64 0, .float .f64 0, .float .f64 0, .float .f64 0, .float .f64 0, .float .f64 0, .float .f64 0, .float .f64 0, .float .f64 0, .float .f64 0, .float .f64 0, .float .f64 0, .float .f64 0] (fun i => oeq (tabF on i 0) 0 && oeq (tabF on i 1) 0) (fun i hi => ⟨Zv (tabF on i 0) (tabF on i 1), Zv 0 0, part_pair h hi, fun w => by
    have := part_pair rts_zero hi w
    simpa [tabF] using this, fun w => eq_pair 9997 _ _ _ _ w⟩) w
  rw [this]
  rfl
theorem oeq_zero {x : Nat} (hx : W64 x) (n : Num x) : oeq x 0 = decide (rg x = 0) := eql_zero hx n
theorem on_zero {on : Nat → Bool} {i : Nat} (hi : i < 20) : (oeq (tabF on i 0) 0 && oeq (tabF on i 1) 0) = !on i := by
  unfold tabF
  cases h : on i
  · simp only [Bool.false_eq_true, if_false, Bool.not_false]
    decide
  · simp only [if_true, Bool.not_true]
    obtain ⟨b1, b2⟩ := uT_bd hi
    have hn := uT_ne hi
    rw [show (if (1 : Nat) = 0 then (uT i).1 else (uT i).2) = (uT i).2 from rfl, oeq_zero b1.1 (b1.num (by omega)), oeq_zero b2.1 (b2.num (by omega))]
    rcases hn with hn | hn
    · rw [decide_eq_false hn]; rfl
    · rw [decide_eq_false hn]; simp
theorem zeros_none {t : Int} (h : zeros (dig t) = true) : turnC t = (cl 4607182418800017408, cl 0) := by
  unfold zeros at h
  rw [List.all_eq_true] at h
  have := fold_rest (t := t) (i := 0) (n := 20) (fun j _ hj => by
    have := h j (by simp; omega)
    rw [on_zero (by omega)] at this
    simpa using this)
  rw [Nat.zero_add] at this
  exact this
theorem idx_pair {c : Array Value} {on : Nat → Bool} (h : Rts c on) {k : Nat} (hk : k < 20) (w : World) : (Instr.index 103 (.agg c) (.int .i64 (k : Int))).run Try.prog w = .ok (Zv (tabF on k 0) (tabF on k 1)) w := by
  have hp := part_pair h hk w
  have h1 : ¬ ((k : Int) < 0) := by omega
  have h2 : ¬ ((20 : Int) ≤ k) := by omega
  simp [Instr.index, run_underlying Try.underlying103, asInt, asIntOf, size28, hp, h1, h2, hk]
set_option maxRecDepth 100000 in
set_option maxHeartbeats 12800000 in
theorem iTurn_any (t : Int) (w : World) : ZV 69 #[.int .i64 t] w (turnC t) := by
  unfold ZV
  have hst := st64
  have h0 : Two w.heap.size w w.heap.size (w.heap.size + 1) 2 75 ((w.alloc (.cells #[.float .f64 0, .float .f64 0] 75)).alloc (.cells #[.float .f64 4607182418800017408, .float .f64 0] 75)) := by
    have h1 := own_made (X := w) (B := w.heap.size) (t := 75) #[.float .f64 0, .float .f64 0] (Nat.le_refl _)
    have h2 := own_made (X := w.alloc (.cells #[.float .f64 0, .float .f64 0] 75)) (B := w.heap.size) (t := 75) #[.float .f64 4607182418800017408, .float .f64 0] (by simp)
    refine ⟨h1.alloc _, ⟨h1.below.trans h2.below, by omega, ?_⟩, by omega⟩
    have := h2.block
    simpa using this
  go_enter Try.func69, Try.ntmps69
  go_wp2_with fail
  refine (taken_any t _).mono ?_
  rintro e w1 ⟨c, rfl, hc, hb1⟩
  have h1 := h0.call hb1
  have x0 : w1.cell? ⟨w.heap.size + 1, 0, none⟩ = some (.float .f64 4607182418800017408) := old_cell hb1 (by simp) (by simp)
  have x1 : w1.cell? ⟨w.heap.size + 1, 1, none⟩ = some (.float .f64 0) := old_cell hb1 (by simp) (by simp)
  clear h0 hb1
  have hA : Own w.heap.size w w1.heap.size 40 103 (w1.alloc (.cells #[.float .f64 0, .float .f64 0, .float .f64 0, .float .f64 0, .float .f64 0, .float .f64 0, .float .f64 0, .float .f64 0, .float .f64 0, .float .f64 0, .float .f64 0, .float .f64 0, .float .f64 0, .float .f64 0, .float .f64 0, .float .f64 0, .float .f64 0, .float .f64 0, .float .f64 0, .float .f64 0, .float .f64 0, .float .f64 0, .float .f64 0, .float .f64 0, .float .f64 0, .float .f64 0, .float .f64 0, .float .f64 0, .float .f64 0, .float .f64 0, .float .f64 0, .float .f64 0, .float .f64 0, .float .f64 0, .float .f64 0, .float .f64 0, .float .f64 0, .float .f64 0, .float .f64 0, .float .f64 0] 103)) := by
    have h2 := own_made (X := w1) (B := w.heap.size) (t := 103) #[.float .f64 0, .float .f64 0, .float .f64 0, .float .f64 0, .float .f64 0, .float .f64 0, .float .f64 0, .float .f64 0, .float .f64 0, .float .f64 0, .float .f64 0, .float .f64 0, .float .f64 0, .float .f64 0, .float .f64 0, .float .f64 0, .float .f64 0, .float .f64 0, .float .f64 0, .float .f64 0, .float .f64 0, .float .f64 0, .float .f64 0, .float .f64 0, .float .f64 0, .float .f64 0, .float .f64 0, .float .f64 0, .float .f64 0, .float .f64 0, .float .f64 0, .float .f64 0, .float .f64 0, .float .f64 0, .float .f64 0, .float .f64 0, .float .f64 0, .float .f64 0, .float .f64 0, .float .f64 0] (Nat.le_of_lt h1.a.lt)
    exact ⟨h1.a.below.trans h2.below, Nat.le_of_lt h1.a.lt, h2.block⟩
  have hth := own_there hA
  rw [← hc.size] at hth
  have hsz : (Try.prog.info? 103).map (·.size) = some c.size := by rw [hc.size]; exact info74
  have hsz' : (Try.prog.info? 103).map (·.size) = some c.toList.length := by rw [Array.length_toList]; exact hsz
  have hone := rts_one hc
  have hrg : ((w1.alloc (.cells #[.float .f64 0, .float .f64 0, .float .f64 0, .float .f64 0, .float .f64 0, .float .f64 0, .float .f64 0, .float .f64 0, .float .f64 0, .float .f64 0, .float .f64 0, .float .f64 0, .float .f64 0, .float .f64 0, .float .f64 0, .float .f64 0, .float .f64 0, .float .f64 0, .float .f64 0, .float .f64 0, .float .f64 0, .float .f64 0, .float .f64 0, .float .f64 0, .float .f64 0, .float .f64 0, .float .f64 0, .float .f64 0, .float .f64 0, .float .f64 0, .float .f64 0, .float .f64 0, .float .f64 0, .float .f64 0, .float .f64 0, .float .f64 0, .float .f64 0, .float .f64 0, .float .f64 0, .float .f64 0] 103)).setCells w1.heap.size 0 c.toList).rangeAt w1.heap.size 0 c.toList := World.rangeAt_setCells_same _ _ _ _ (by rw [Array.length_toList]; exact hth)
  have hlt := h1.b.lt
  have heq := eq_array hc
  obtain ⟨bb, hbb⟩ : ∃ bb, bb = zeros (dig t) := ⟨_, rfl⟩
  rw [← hbb] at heq
  have HB : Hid (bb = zeros (dig t)) := hbb
  clear hbb
  go_upto_region 3 with (first | (refine wpList_store_mid rfl 103 _ _ rfl w1.heap.size 0 c rfl rfl hth hsz hone ?_))
  have y0 : ((w1.alloc (.cells #[.float .f64 0, .float .f64 0, .float .f64 0, .float .f64 0, .float .f64 0, .float .f64 0, .float .f64 0, .float .f64 0, .float .f64 0, .float .f64 0, .float .f64 0, .float .f64 0, .float .f64 0, .float .f64 0, .float .f64 0, .float .f64 0, .float .f64 0, .float .f64 0, .float .f64 0, .float .f64 0, .float .f64 0, .float .f64 0, .float .f64 0, .float .f64 0, .float .f64 0, .float .f64 0, .float .f64 0, .float .f64 0, .float .f64 0, .float .f64 0, .float .f64 0, .float .f64 0, .float .f64 0, .float .f64 0, .float .f64 0, .float .f64 0, .float .f64 0, .float .f64 0, .float .f64 0, .float .f64 0] 103)).setCells w1.heap.size 0 c.toList).cell? ⟨w.heap.size + 1, 0, none⟩ = some (.float .f64 4607182418800017408) := by
    rw [World.cell?_setCells_out _ _ _ _ _ (fun h => absurd h (by simp; omega))]
    exact alloc_keeps x0
  have y1 : ((w1.alloc (.cells #[.float .f64 0, .float .f64 0, .float .f64 0, .float .f64 0, .float .f64 0, .float .f64 0, .float .f64 0, .float .f64 0, .float .f64 0, .float .f64 0, .float .f64 0, .float .f64 0, .float .f64 0, .float .f64 0, .float .f64 0, .float .f64 0, .float .f64 0, .float .f64 0, .float .f64 0, .float .f64 0, .float .f64 0, .float .f64 0, .float .f64 0, .float .f64 0, .float .f64 0, .float .f64 0, .float .f64 0, .float .f64 0, .float .f64 0, .float .f64 0, .float .f64 0, .float .f64 0, .float .f64 0, .float .f64 0, .float .f64 0, .float .f64 0, .float .f64 0, .float .f64 0, .float .f64 0, .float .f64 0] 103)).setCells w1.heap.size 0 c.toList).cell? ⟨w.heap.size + 1, 1, none⟩ = some (.float .f64 0) := by
    rw [World.cell?_setCells_out _ _ _ _ _ (fun h => absurd h (by simp; omega))]
    exact alloc_keeps x1
  have hV : Two w.heap.size w w.heap.size (w.heap.size + 1) 2 75 ((w1.alloc (.cells #[.float .f64 0, .float .f64 0, .float .f64 0, .float .f64 0, .float .f64 0, .float .f64 0, .float .f64 0, .float .f64 0, .float .f64 0, .float .f64 0, .float .f64 0, .float .f64 0, .float .f64 0, .float .f64 0, .float .f64 0, .float .f64 0, .float .f64 0, .float .f64 0, .float .f64 0, .float .f64 0, .float .f64 0, .float .f64 0, .float .f64 0, .float .f64 0, .float .f64 0, .float .f64 0, .float .f64 0, .float .f64 0, .float .f64 0, .float .f64 0, .float .f64 0, .float .f64 0, .float .f64 0, .float .f64 0, .float .f64 0, .float .f64 0, .float .f64 0, .float .f64 0, .float .f64 0, .float .f64 0] 103)).setCells w1.heap.size 0 c.toList) := by
    have ha := h1.alloc (.cells #[.float .f64 0, .float .f64 0, .float .f64 0, .float .f64 0, .float .f64 0, .float .f64 0, .float .f64 0, .float .f64 0, .float .f64 0, .float .f64 0, .float .f64 0, .float .f64 0, .float .f64 0, .float .f64 0, .float .f64 0, .float .f64 0, .float .f64 0, .float .f64 0, .float .f64 0, .float .f64 0, .float .f64 0, .float .f64 0, .float .f64 0, .float .f64 0, .float .f64 0, .float .f64 0, .float .f64 0, .float .f64 0, .float .f64 0, .float .f64 0, .float .f64 0, .float .f64 0, .float .f64 0, .float .f64 0, .float .f64 0, .float .f64 0, .float .f64 0, .float .f64 0, .float .f64 0, .float .f64 0] 103)
    have hl := h1.a.lt
    exact ⟨own_setCells_other (by omega) (by omega) _ _ _ ha.a, own_setCells_other (by omega) (by omega) _ _ _ ha.b, ha.ne⟩
  generalize ((w1.alloc (.cells #[.float .f64 0, .float .f64 0, .float .f64 0, .float .f64 0, .float .f64 0, .float .f64 0, .float .f64 0, .float .f64 0, .float .f64 0, .float .f64 0, .float .f64 0, .float .f64 0, .float .f64 0, .float .f64 0, .float .f64 0, .float .f64 0, .float .f64 0, .float .f64 0, .float .f64 0, .float .f64 0, .float .f64 0, .float .f64 0, .float .f64 0, .float .f64 0, .float .f64 0, .float .f64 0, .float .f64 0, .float .f64 0, .float .f64 0, .float .f64 0, .float .f64 0, .float .f64 0, .float .f64 0, .float .f64 0, .float .f64 0, .float .f64 0, .float .f64 0, .float .f64 0, .float .f64 0, .float .f64 0] 103)).setCells w1.heap.size 0 c.toList) = V at *
  clear hth hA x0 x1 h1 hsz hone
  have r0 := Own.cell hV.a (show 0 < 2 by omega)
  have r1 := Own.cell hV.a (show 1 < 2 by omega)
  have rf := fun j => Own.frozen hV.a j
  cases bb
  · go_wp2_with (first | (refine wpList_load_mid rfl 103 _ rfl w1.heap.size 0 rfl c.toList _ hrg Try.underlying103 rfl hsz' ?_))
    clear hrg hsz' heq HB r0 r1 rf hlt
    go_loopw [15] (fun i wr => ∃ k x y : Nat, k ≤ 20 ∧ i = .int .i64 k ∧ Two w.heap.size w w.heap.size (w.heap.size + 1) 2 75 wr ∧ wr.cell? ⟨w.heap.size + 1, 0, none⟩ = some (.float .f64 x) ∧ wr.cell? ⟨w.heap.size + 1, 1, none⟩ = some (.float .f64 y) ∧ Zc x y (foldT t k)) (fun i _ => 20 - (intOf i).toNat)
    case atStart => exact ⟨0, 4607182418800017408, 0, by omega, rfl, hV, y0, y1, ⟨by omega, by omega, rfl⟩⟩
    case round =>
      obtain ⟨k, x, y, hk, rfl, ht, c0, c1, hz⟩ := hrel
      clear hV y0 y1
      by_cases hkn : k < 20
      · obtain ⟨a, ha⟩ : ∃ a, a = tabF (dig t) k 0 := ⟨_, rfl⟩
        obtain ⟨b, hb⟩ : ∃ b, b = tabF (dig t) k 1 := ⟨_, rfl⟩
        have hidx := idx_pair hc hkn
        rw [← ha, ← hb] at hidx
        obtain ⟨dg, hdg⟩ : ∃ dg, dg = dig t k := ⟨_, rfl⟩
        have hneq : ∀ w, (binOp .neq 75 (Zv a b) (Zv 0 0)).run Try.prog w = .ok (.bool dg) w := fun w => by
          have e : (oeq a 0 && oeq b 0) = !dg := by rw [ha, hb, hdg]; exact on_zero hkn
          rw [run_neq_struct, eq_pair 9998, Result.andThen_ok, e]
          simp
        have q0 : ∀ o, (wr.alloc o).cell? ⟨w.heap.size + 1, 0, none⟩ = some (.float .f64 x) := fun o => alloc_keeps c0
        have q1 : ∀ o, (wr.alloc o).cell? ⟨w.heap.size + 1, 1, none⟩ = some (.float .f64 y) := fun o => alloc_keeps c1
        have hlt := ht.b.lt
        have hne : ¬ w.heap.size + 1 = wr.heap.size := by omega
        have HT0 : Hid (Two w.heap.size w w.heap.size (w.heap.size + 1) 2 75 wr) := ht
        have hfold : foldT t (k + 1) = if dig t k = true then mulC (foldT t k) (uC k) else foldT t k := rfl
        rw [← hdg] at hfold
        cases dg
        · have HF : Hid (foldT t (k + 1) = foldT t k) := hfold
          clear ht hfold hdg ha hb c0 c1
          go_wp2
          go_roundw
          case rel => exact ⟨k + 1, x, y, by omega, by simp, HT0.out.alloc _, q0 _, q1 _, by rw [HF.out]; exact hz⟩
          case measure => simp [intOf]; omega
        · have HF : Hid (foldT t (k + 1) = mulC (foldT t k) (uC k)) := hfold
          have hu : Zc a b (uC k) := by
            obtain ⟨b1, b2⟩ := uT_bd hkn
            have ea : a = (uT k).1 := by rw [ha]; unfold tabF; rw [← hdg]; rfl
            have eb : b = (uT k).2 := by rw [hb]; unfold tabF; rw [← hdg]; rfl
            exact ⟨by rw [ea]; exact b1.1, by rw [eb]; exact b2.1, by rw [uC_tab k hkn, ea, eb, cl_num (b1.num (by omega)), cl_num (b2.num (by omega))]⟩
          clear ht hfold hdg ha hb c0 c1
          go_wp2_with fail
          refine (iMul_any hz hu _).mono ?_
          rintro e w3 ⟨x2, y2, rfl, hz2, hb2⟩
          have t3 : Two w.heap.size w w.heap.size (w.heap.size + 1) 2 75 w3 := (HT0.out.alloc _).call hb2
          have e0 := Own.cell t3.b (show 0 < 2 by omega)
          have e1 := Own.cell t3.b (show 1 < 2 by omega)
          have ef := fun j => Own.frozen t3.b j
          have HT3 : Hid (Two w.heap.size w w.heap.size (w.heap.size + 1) 2 75 ((w3.setCell ⟨w.heap.size + 1, 0, none⟩ (.float .f64 x2)).setCell ⟨w.heap.size + 1, 1, none⟩ (.float .f64 y2))) := (t3.setB _ _).setB _ _
          clear q0 q1 hb2 t3 hidx hneq
          go_wp2
          go_roundw
          case rel => exact ⟨k + 1, x2, y2, by omega, by simp, HT3.out, by go_simp, by go_simp, by rw [HF.out]; exact hz2⟩
          case measure => simp [intOf]; omega
      · obtain rfl : k = 20 := by omega
        have r0 := Own.cell ht.a (show 0 < 2 by omega)
        have r1 := Own.cell ht.a (show 1 < 2 by omega)
        have rf := fun j => Own.frozen ht.a j
        go_wp2
        refine bodyPost_ret (v := Zv _ _) (by simp [results, Try.results69, go_sem, r0, r1] <;> first | exact ⟨rfl, rfl⟩ | rfl) rfl ⟨_, _, rfl, hz, ((ht.setA _ _).setA _ _).a.below⟩
  · have HE : Hid (turnC t = (cl 4607182418800017408, cl 0)) := zeros_none HB.out.symm
    go_wp2_with (first | (refine wpList_load_mid rfl 103 _ rfl w1.heap.size 0 rfl c.toList _ hrg Try.underlying103 rfl hsz' ?_))
    refine bodyPost_ret (v := Zv _ _) (by simp [results, Try.results69, go_sem, r0, r1] <;> first | exact ⟨rfl, rfl⟩ | rfl) rfl ⟨4607182418800017408, 0, rfl, ⟨by omega, by omega, HE.out.symm⟩, ((hV.setA _ _).setA _ _).a.below⟩
end Go.Proofs.Ytgidoceflkdklaa
