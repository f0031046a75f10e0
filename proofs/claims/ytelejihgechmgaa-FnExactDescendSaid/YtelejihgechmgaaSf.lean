/- What is wrong with a span, in the program; a region by predicates: contracts. -/
import Derived.Test.YtelejihgechmgaaBd
import Derived.Test.YtelejihgechmgaaRg
import Derived.Test.YtelejihgechmgaaSs
namespace Go.Proofs.Ytelejihgechmgaa
open Go.RowKit
set_option linter.unusedVariables false
set_option linter.unusedSimpArgs false
/-- v is a list of n numbers of its own block. -/
def Lst (W : World) (v : Value) (n : Nat) (f : Nat → Int) : Prop := ∃ b : Nat, v = .slice (some ⟨b, 0, none⟩) n n ∧ ∀ i, i < n → W.cell? ⟨b, i, none⟩ = some (.int .i64 (f i))
theorem Lst.later {W W' : World} {v : Value} {n : Nat} {f : Nat → Int} (h : Lst W v n f) (hb : Below W.heap.size W W') : Lst W' v n f := by
  obtain ⟨b, e, hc⟩ := h
  exact ⟨b, e, fun i hi => kold hb (hc i hi)⟩
theorem lst1 (W : World) (x : Int) : RdRow (W.alloc (.cells #[.int .i64 x] 2)) (.slice (some ⟨W.heap.size, 0, none⟩) 1 1) 1 (fun _ => x) :=
  Or.inr ⟨W.heap.size, 0, 1, rfl, fun i hi => by obtain rfl : i = 0 := by omega
                                                 go_simp⟩
theorem fault1_any {w : World} {v : Value} {lo hi c x r : Int} {b : Nat} (hr : r = if Mt.inR x lo hi then 0 else c) (hv : Bnd w v lo hi c) (h : RdRow w (.slice (some ⟨b, 0, none⟩) 1 1) 1 (fun _ => x)) :
    Calls Try.prog 63 #[v, .slice (some ⟨b, 0, none⟩) 1 1] w fun e w' => e = .returned (.int .i64 r) ∧ Below w.heap.size w w' := by
  rw [hr]
  exact fault_any hv h (by omega)
theorem Lst.rd {W : World} {v : Value} {n : Nat} {f : Nat → Int} (h : Lst W v n f) : RdRow W v n f := by
  obtain ⟨b, rfl, hc⟩ := h
  exact Or.inr ⟨b, 0, n, rfl, fun i hi => by simpa using hc i hi⟩
set_option maxRecDepth 20000 in
set_option maxHeartbeats 6400000 in
theorem iSpanF_any (s : Mt.Sp) (w : World) : Calls Try.prog 96 #[.agg #[.int .i64 s.km, .int .i64 s.loss, .int .i64 s.gain, .int .i64 s.tilt]] w fun e w' => e = .returned (.int .i64 (if Mt.okS s then 0 else 3)) ∧ Below w.heap.size w w' := by
  obtain ⟨C, hC⟩ : ∃ C : Int, C = if Mt.okS s then 0 else 3 := ⟨_, rfl⟩
  obtain ⟨X, hX⟩ : ∃ X, X = (w.alloc (.cells #[.int .i64 s.km, .int .i64 s.loss, .int .i64 s.gain, .int .i64 s.tilt] 75)) := ⟨_, rfl⟩
  have BX : Hid (Blk X w.heap.size #[.int .i64 s.km, .int .i64 s.loss, .int .i64 s.gain, .int .i64 s.tilt] 75 ∧ Below w.heap.size w X) := by rw [hX]; exact ⟨Blk.new rfl, (Below.refl _ _).alloc (Nat.le_refl _) _⟩
  have CX : ∀ W, Below X.heap.size X W → W.cell? ⟨w.heap.size, 0, none⟩ = some (.int .i64 s.km) ∧ W.cell? ⟨w.heap.size, 1, none⟩ = some (.int .i64 s.loss) ∧ W.cell? ⟨w.heap.size, 2, none⟩ = some (.int .i64 s.gain) ∧ W.cell? ⟨w.heap.size, 3, none⟩ = some (.int .i64 s.tilt) :=
    fun W h => ⟨(BX.out.1.old h).cell rfl, (BX.out.1.old h).cell rfl, (BX.out.1.old h).cell rfl, (BX.out.1.old h).cell rfl⟩
  have hXz : w.heap.size ≤ X.heap.size := Nat.le_of_lt BX.out.1.lt
  have HE : Hid (Mt.fst (Mt.at4 (if Mt.all (fun k => Mt.inR s.km (1) (1000)) 1 then 0 else 3) (if Mt.all (fun k => Mt.inR s.loss (0) (1000)) 1 then 0 else 3) (if Mt.all (fun k => Mt.inR s.gain (-100000) (100000)) 1 then 0 else 3) (if Mt.all (fun k => Mt.inR s.tilt (-10000) (10000)) 1 then 0 else 3)) 4 = if Mt.okS s then 0 else 3) := Mt.four _ _ _ _
  rw [← hC] at HE
  rw [← hC]
  clear hC
  go_enter Try.func96, Try.ntmps96
  go_upto_region 1 with fail
  rw [← hX]
  clear hX
  refine wp_region_pr (by kernel_rfl) [3, 4, 5, 6, 7, 8, 9, 10, 11, 12, 13, 14, 15, 16, 17, 18, 19, 20, 21, 22, 23, 24, 2] (fun i v W => match i with
    | 0 => Bnd W v (1) (1000) (3)
    | 1 => v = .pointer (some ⟨w.heap.size, 0, none⟩)
    | 2 => v = .int .i64 s.km
    | 3 => Lst W v 1 (fun _ => s.km)
    | 4 => v = .int .i64 ((if Mt.all (fun k => Mt.inR s.km (1) (1000)) 1 then 0 else 3))
    | 5 => Bnd W v (0) (1000) (3)
    | 6 => v = .pointer (some ⟨w.heap.size, 1, none⟩)
    | 7 => v = .int .i64 s.loss
    | 8 => Lst W v 1 (fun _ => s.loss)
    | 9 => v = .int .i64 ((if Mt.all (fun k => Mt.inR s.loss (0) (1000)) 1 then 0 else 3))
    | 10 => Bnd W v (-100000) (100000) 3
    | 11 => v = .pointer (some ⟨w.heap.size, 2, none⟩)
    | 12 => v = .int .i64 s.gain
    | 13 => Lst W v 1 (fun _ => s.gain)
    | 14 => v = .int .i64 ((if Mt.all (fun k => Mt.inR s.gain (-100000) (100000)) 1 then 0 else 3))
    | 15 => Bnd W v (-10000) (10000) 3
    | 16 => v = .pointer (some ⟨w.heap.size, 3, none⟩)
    | 17 => v = .int .i64 s.tilt
    | 18 => Lst W v 1 (fun _ => s.tilt)
    | 19 => v = .int .i64 ((if Mt.all (fun k => Mt.inR s.tilt (-10000) (10000)) 1 then 0 else 3))
    | 20 => Lst W v 4 (Mt.at4 (if Mt.all (fun k => Mt.inR s.km (1) (1000)) 1 then 0 else 3) (if Mt.all (fun k => Mt.inR s.loss (0) (1000)) 1 then 0 else 3) (if Mt.all (fun k => Mt.inR s.gain (-100000) (100000)) 1 then 0 else 3) (if Mt.all (fun k => Mt.inR s.tilt (-10000) (10000)) 1 then 0 else 3))
    | 21 => v = .int .i64 (Mt.fst (Mt.at4 (if Mt.all (fun k => Mt.inR s.km (1) (1000)) 1 then 0 else 3) (if Mt.all (fun k => Mt.inR s.loss (0) (1000)) 1 then 0 else 3) (if Mt.all (fun k => Mt.inR s.gain (-100000) (100000)) 1 then 0 else 3) (if Mt.all (fun k => Mt.inR s.tilt (-10000) (10000)) 1 then 0 else 3)) 4)
    | 22 => v = .int .i64 (Mt.fst (Mt.at4 (if Mt.all (fun k => Mt.inR s.km (1) (1000)) 1 then 0 else 3) (if Mt.all (fun k => Mt.inR s.loss (0) (1000)) 1 then 0 else 3) (if Mt.all (fun k => Mt.inR s.gain (-100000) (100000)) 1 then 0 else 3) (if Mt.all (fun k => Mt.inR s.tilt (-10000) (10000)) 1 then 0 else 3)) 4)
    | _ => True) (reg_ok (n := 25) (by decide +kernel)) ?_ ?_ ?_
  · intro i v W W2 h hb
    rcases (show i = 0 ∨ i = 1 ∨ i = 2 ∨ i = 3 ∨ i = 4 ∨ i = 5 ∨ i = 6 ∨ i = 7 ∨ i = 8 ∨ i = 9 ∨ i = 10 ∨ i = 11 ∨ i = 12 ∨ i = 13 ∨ i = 14 ∨ i = 15 ∨ i = 16 ∨ i = 17 ∨ i = 18 ∨ i = 19 ∨ i = 20 ∨ i = 21 ∨ i = 22 ∨ 23 ≤ i by omega) with rfl | rfl | rfl | rfl | rfl | rfl | rfl | rfl | rfl | rfl | rfl | rfl | rfl | rfl | rfl | rfl | rfl | rfl | rfl | rfl | rfl | rfl | rfl | hbig
    · exact Bnd.later h hb
    · exact h
    · exact h
    · exact Lst.later h hb
    · exact h
    · exact Bnd.later h hb
    · exact h
    · exact h
    · exact Lst.later h hb
    · exact h
    · exact Bnd.later h hb
    · exact h
    · exact h
    · exact Lst.later h hb
    · exact h
    · exact Bnd.later h hb
    · exact h
    · exact h
    · exact Lst.later h hb
    · exact h
    · exact Lst.later h hb
    · exact h
    · exact h
    · match i, hbig with | k + 23, _ => exact trivial
  · intro i o ho b W hB hbase hdep K hK
    replace hK : Hid _ := hK
    have hlt : i < 23 := by have := (List.getElem?_eq_some_iff.1 ho).1; simpa using this
    have n1 : b.tmps[1]?.getD undef = .pointer (some ⟨w.heap.size, 0, none⟩) := (hbase 1 (by decide)).trans rfl
    clear hbase
    rcases (show i = 0 ∨ i = 1 ∨ i = 2 ∨ i = 3 ∨ i = 4 ∨ i = 5 ∨ i = 6 ∨ i = 7 ∨ i = 8 ∨ i = 9 ∨ i = 10 ∨ i = 11 ∨ i = 12 ∨ i = 13 ∨ i = 14 ∨ i = 15 ∨ i = 16 ∨ i = 17 ∨ i = 18 ∨ i = 19 ∨ i = 20 ∨ i = 21 ∨ i = 22 by omega) with rfl | rfl | rfl | rfl | rfl | rfl | rfl | rfl | rfl | rfl | rfl | rfl | rfl | rfl | rfl | rfl | rfl | rfl | rfl | rfl | rfl | rfl | rfl
    · simp at ho
      subst ho
      clear hdep
      go_simp
      go_at_call 67
      refine (between_any (1) (1000) (3) _).mono ?_
      rintro e W2 ⟨b1, b2, rfl, -, -, q1, q2, hb⟩
      exact hK.out _ _ hb ⟨b1, b2, rfl, q1, q2⟩
    · simp at ho
      subst ho
      clear hdep
      go_simp
      exact hK.out _ _ (Below.refl _ _) rfl
    · simp at ho
      subst ho
      have d1 := hdep ⟨1, .data⟩ (by simp) (by decide)
      replace d1 : (fun (v : Value) (W : World) => v = .pointer (some ⟨w.heap.size, 0, none⟩)) (b.tmps[4]?.getD undef) W := d1
      dsimp only at d1
      clear hdep
      have hc : W.cell? ⟨w.heap.size, 0, none⟩ = some (.int .i64 s.km) := (CX W hB).1
      go_simp
      exact hK.out _ _ (Below.refl _ _) rfl
    · simp at ho
      subst ho
      have d2 := hdep ⟨2, .data⟩ (by simp) (by decide)
      replace d2 : (fun (v : Value) (W : World) => v = .int .i64 s.km) (b.tmps[5]?.getD undef) W := d2
      dsimp only at d2
      clear hdep
      go_simp
      refine hK.out _ _ ((Below.refl _ _).alloc (Nat.le_refl _) _) ⟨_, rfl, fun i hi => ?_⟩
      rcases (show i = 0 by omega) with rfl <;> (go_simp; try rfl)
    · simp at ho
      subst ho
      have d0 := hdep ⟨0, .data⟩ (by simp) (by decide)
      replace d0 : (fun (v : Value) (W : World) => Bnd W v (1) (1000) (3)) (b.tmps[3]?.getD undef) W := d0
      dsimp only at d0
      have d3 := hdep ⟨3, .data⟩ (by simp) (by decide)
      replace d3 : (fun (v : Value) (W : World) => Lst W v 1 (fun _ => s.km)) (b.tmps[6]?.getD undef) W := d3
      dsimp only at d3
      clear hdep
      obtain ⟨lb, el, hl⟩ := d3
      have hr : RdRow W (.slice (some ⟨lb, 0, none⟩) 1 1) 1 (fun _ => s.km) := Lst.rd ⟨lb, rfl, hl⟩
      clear hl
      obtain ⟨bv, hbv⟩ : ∃ v, v = b.tmps[3]?.getD undef := ⟨_, rfl⟩
      rw [← hbv] at d0
      replace hbv := hbv.symm
      go_simp
      go_at_call 63
      refine (fault_any d0 hr (by omega)).mono ?_
      rintro e W2 ⟨rfl, hb⟩
      exact hK.out _ _ hb rfl
    · simp at ho
      subst ho
      clear hdep
      go_simp
      go_at_call 67
      refine (between_any (0) (1000) (3) _).mono ?_
      rintro e W2 ⟨b1, b2, rfl, -, -, q1, q2, hb⟩
      exact hK.out _ _ hb ⟨b1, b2, rfl, q1, q2⟩
    · simp at ho
      subst ho
      clear hdep
      go_simp
      exact hK.out _ _ (Below.refl _ _) rfl
    · simp at ho
      subst ho
      have d6 := hdep ⟨6, .data⟩ (by simp) (by decide)
      replace d6 : (fun (v : Value) (W : World) => v = .pointer (some ⟨w.heap.size, 1, none⟩)) (b.tmps[9]?.getD undef) W := d6
      dsimp only at d6
      clear hdep
      have hc : W.cell? ⟨w.heap.size, 1, none⟩ = some (.int .i64 s.loss) := (CX W hB).2.1
      go_simp
      exact hK.out _ _ (Below.refl _ _) rfl
    · simp at ho
      subst ho
      have d7 := hdep ⟨7, .data⟩ (by simp) (by decide)
      replace d7 : (fun (v : Value) (W : World) => v = .int .i64 s.loss) (b.tmps[10]?.getD undef) W := d7
      dsimp only at d7
      clear hdep
      go_simp
      refine hK.out _ _ ((Below.refl _ _).alloc (Nat.le_refl _) _) ⟨_, rfl, fun i hi => ?_⟩
      rcases (show i = 0 by omega) with rfl <;> (go_simp; try rfl)
    · simp at ho
      subst ho
      have d5 := hdep ⟨5, .data⟩ (by simp) (by decide)
      replace d5 : (fun (v : Value) (W : World) => Bnd W v (0) (1000) (3)) (b.tmps[8]?.getD undef) W := d5
      dsimp only at d5
      have d8 := hdep ⟨8, .data⟩ (by simp) (by decide)
      replace d8 : (fun (v : Value) (W : World) => Lst W v 1 (fun _ => s.loss)) (b.tmps[11]?.getD undef) W := d8
      dsimp only at d8
      clear hdep
      obtain ⟨lb, el, hl⟩ := d8
      have hr : RdRow W (.slice (some ⟨lb, 0, none⟩) 1 1) 1 (fun _ => s.loss) := Lst.rd ⟨lb, rfl, hl⟩
      clear hl
      obtain ⟨bv, hbv⟩ : ∃ v, v = b.tmps[8]?.getD undef := ⟨_, rfl⟩
      rw [← hbv] at d5
      replace hbv := hbv.symm
      go_simp
      go_at_call 63
      refine (fault_any d5 hr (by omega)).mono ?_
      rintro e W2 ⟨rfl, hb⟩
      exact hK.out _ _ hb rfl
    · simp at ho
      subst ho
      clear hdep
      go_simp
      go_at_call 62
      refine (either_any (100000) (by omega) (by omega) _).mono ?_
      rintro e W2 ⟨v, rfl, hv, hb⟩
      exact hK.out _ _ hb hv
    · simp at ho
      subst ho
      clear hdep
      go_simp
      exact hK.out _ _ (Below.refl _ _) rfl
    · simp at ho
      subst ho
      have d11 := hdep ⟨11, .data⟩ (by simp) (by decide)
      replace d11 : (fun (v : Value) (W : World) => v = .pointer (some ⟨w.heap.size, 2, none⟩)) (b.tmps[14]?.getD undef) W := d11
      dsimp only at d11
      clear hdep
      have hc : W.cell? ⟨w.heap.size, 2, none⟩ = some (.int .i64 s.gain) := (CX W hB).2.2.1
      go_simp
      exact hK.out _ _ (Below.refl _ _) rfl
    · simp at ho
      subst ho
      have d12 := hdep ⟨12, .data⟩ (by simp) (by decide)
      replace d12 : (fun (v : Value) (W : World) => v = .int .i64 s.gain) (b.tmps[15]?.getD undef) W := d12
      dsimp only at d12
      clear hdep
      go_simp
      refine hK.out _ _ ((Below.refl _ _).alloc (Nat.le_refl _) _) ⟨_, rfl, fun i hi => ?_⟩
      rcases (show i = 0 by omega) with rfl <;> (go_simp; try rfl)
    · simp at ho
      subst ho
      have d10 := hdep ⟨10, .data⟩ (by simp) (by decide)
      replace d10 : (fun (v : Value) (W : World) => Bnd W v (-100000) (100000) 3) (b.tmps[13]?.getD undef) W := d10
      dsimp only at d10
      have d13 := hdep ⟨13, .data⟩ (by simp) (by decide)
      replace d13 : (fun (v : Value) (W : World) => Lst W v 1 (fun _ => s.gain)) (b.tmps[16]?.getD undef) W := d13
      dsimp only at d13
      clear hdep
      obtain ⟨lb, el, hl⟩ := d13
      have hr : RdRow W (.slice (some ⟨lb, 0, none⟩) 1 1) 1 (fun _ => s.gain) := Lst.rd ⟨lb, rfl, hl⟩
      clear hl
      obtain ⟨bv, hbv⟩ : ∃ v, v = b.tmps[13]?.getD undef := ⟨_, rfl⟩
      rw [← hbv] at d10
      replace hbv := hbv.symm
      go_simp
      go_at_call 63
      refine (fault_any d10 hr (by omega)).mono ?_
      rintro e W2 ⟨rfl, hb⟩
      exact hK.out _ _ hb rfl
    · simp at ho
      subst ho
      clear hdep
      go_simp
      go_at_call 62
      refine (either_any (10000) (by omega) (by omega) _).mono ?_
      rintro e W2 ⟨v, rfl, hv, hb⟩
      exact hK.out _ _ hb hv
    · simp at ho
      subst ho
      clear hdep
      go_simp
      exact hK.out _ _ (Below.refl _ _) rfl
    · simp at ho
      subst ho
      have d16 := hdep ⟨16, .data⟩ (by simp) (by decide)
      replace d16 : (fun (v : Value) (W : World) => v = .pointer (some ⟨w.heap.size, 3, none⟩)) (b.tmps[19]?.getD undef) W := d16
      dsimp only at d16
      clear hdep
      have hc : W.cell? ⟨w.heap.size, 3, none⟩ = some (.int .i64 s.tilt) := (CX W hB).2.2.2
      go_simp
      exact hK.out _ _ (Below.refl _ _) rfl
    · simp at ho
      subst ho
      have d17 := hdep ⟨17, .data⟩ (by simp) (by decide)
      replace d17 : (fun (v : Value) (W : World) => v = .int .i64 s.tilt) (b.tmps[20]?.getD undef) W := d17
      dsimp only at d17
      clear hdep
      go_simp
      refine hK.out _ _ ((Below.refl _ _).alloc (Nat.le_refl _) _) ⟨_, rfl, fun i hi => ?_⟩
      rcases (show i = 0 by omega) with rfl <;> (go_simp; try rfl)
    · simp at ho
      subst ho
      have d15 := hdep ⟨15, .data⟩ (by simp) (by decide)
      replace d15 : (fun (v : Value) (W : World) => Bnd W v (-10000) (10000) 3) (b.tmps[18]?.getD undef) W := d15
      dsimp only at d15
      have d18 := hdep ⟨18, .data⟩ (by simp) (by decide)
      replace d18 : (fun (v : Value) (W : World) => Lst W v 1 (fun _ => s.tilt)) (b.tmps[21]?.getD undef) W := d18
      dsimp only at d18
      clear hdep
      obtain ⟨lb, el, hl⟩ := d18
      have hr : RdRow W (.slice (some ⟨lb, 0, none⟩) 1 1) 1 (fun _ => s.tilt) := Lst.rd ⟨lb, rfl, hl⟩
      clear hl
      obtain ⟨bv, hbv⟩ : ∃ v, v = b.tmps[18]?.getD undef := ⟨_, rfl⟩
      rw [← hbv] at d15
      replace hbv := hbv.symm
      go_simp
      go_at_call 63
      refine (fault_any d15 hr (by omega)).mono ?_
      rintro e W2 ⟨rfl, hb⟩
      exact hK.out _ _ hb rfl
    · simp at ho
      subst ho
      have d4 := hdep ⟨4, .data⟩ (by simp) (by decide)
      replace d4 : (fun (v : Value) (W : World) => v = .int .i64 ((if Mt.all (fun k => Mt.inR s.km (1) (1000)) 1 then 0 else 3))) (b.tmps[7]?.getD undef) W := d4
      dsimp only at d4
      have d9 := hdep ⟨9, .data⟩ (by simp) (by decide)
      replace d9 : (fun (v : Value) (W : World) => v = .int .i64 ((if Mt.all (fun k => Mt.inR s.loss (0) (1000)) 1 then 0 else 3))) (b.tmps[12]?.getD undef) W := d9
      dsimp only at d9
      have d14 := hdep ⟨14, .data⟩ (by simp) (by decide)
      replace d14 : (fun (v : Value) (W : World) => v = .int .i64 ((if Mt.all (fun k => Mt.inR s.gain (-100000) (100000)) 1 then 0 else 3))) (b.tmps[17]?.getD undef) W := d14
      dsimp only at d14
      have d19 := hdep ⟨19, .data⟩ (by simp) (by decide)
      replace d19 : (fun (v : Value) (W : World) => v = .int .i64 ((if Mt.all (fun k => Mt.inR s.tilt (-10000) (10000)) 1 then 0 else 3))) (b.tmps[22]?.getD undef) W := d19
      dsimp only at d19
      clear hdep
      go_simp
      refine hK.out _ _ ((Below.refl _ _).alloc (Nat.le_refl _) _) ⟨_, rfl, fun i hi => ?_⟩
      rcases (show i = 0 ∨ i = 1 ∨ i = 2 ∨ i = 3 by omega) with rfl | rfl | rfl | rfl <;> (go_simp; try rfl)
    · simp at ho
      subst ho
      have d20 := hdep ⟨20, .data⟩ (by simp) (by decide)
      replace d20 : (fun (v : Value) (W : World) => Lst W v 4 (Mt.at4 (if Mt.all (fun k => Mt.inR s.km (1) (1000)) 1 then 0 else 3) (if Mt.all (fun k => Mt.inR s.loss (0) (1000)) 1 then 0 else 3) (if Mt.all (fun k => Mt.inR s.gain (-100000) (100000)) 1 then 0 else 3) (if Mt.all (fun k => Mt.inR s.tilt (-10000) (10000)) 1 then 0 else 3))) (b.tmps[23]?.getD undef) W := d20
      dsimp only at d20
      clear hdep
      obtain ⟨lb, el, hl⟩ := d20
      have hr : RdRow W (.slice (some ⟨lb, 0, none⟩) 4 4) 4 (Mt.at4 (if Mt.all (fun k => Mt.inR s.km (1) (1000)) 1 then 0 else 3) (if Mt.all (fun k => Mt.inR s.loss (0) (1000)) 1 then 0 else 3) (if Mt.all (fun k => Mt.inR s.gain (-100000) (100000)) 1 then 0 else 3) (if Mt.all (fun k => Mt.inR s.tilt (-10000) (10000)) 1 then 0 else 3)) := Lst.rd ⟨lb, rfl, hl⟩
      clear hl
      go_simp
      go_at_call 61
      refine (or_any hr (by omega)).mono ?_
      rintro e W2 ⟨rfl, hb⟩
      exact hK.out _ _ hb rfl
    · simp at ho
      subst ho
      have d21 := hdep ⟨21, .data⟩ (by simp) (by decide)
      replace d21 : (fun (v : Value) (W : World) => v = .int .i64 (Mt.fst (Mt.at4 (if Mt.all (fun k => Mt.inR s.km (1) (1000)) 1 then 0 else 3) (if Mt.all (fun k => Mt.inR s.loss (0) (1000)) 1 then 0 else 3) (if Mt.all (fun k => Mt.inR s.gain (-100000) (100000)) 1 then 0 else 3) (if Mt.all (fun k => Mt.inR s.tilt (-10000) (10000)) 1 then 0 else 3)) 4)) (b.tmps[24]?.getD undef) W := d21
      dsimp only at d21
      clear hdep
      go_simp
      exact hK.out _ _ (Below.refl _ _) rfl
  · intro vs W hB hP
    have v22 := hP 22 (by decide)
    replace v22 : (fun (v : Value) (W : World) => v = .int .i64 (Mt.fst (Mt.at4 (if Mt.all (fun k => Mt.inR s.km (1) (1000)) 1 then 0 else 3) (if Mt.all (fun k => Mt.inR s.loss (0) (1000)) 1 then 0 else 3) (if Mt.all (fun k => Mt.inR s.gain (-100000) (100000)) 1 then 0 else 3) (if Mt.all (fun k => Mt.inR s.tilt (-10000) (10000)) 1 then 0 else 3)) 4)) (vs 22) W := v22
    dsimp only at v22
    clear hP
    simp only [putD, Act.put, List.setIfInBounds_toArray, List.set_cons_succ, List.set_cons_zero, Nat.reduceAdd]
    rw [v22, HE.out]
    clear v22 HE CX
    go_wp2
    go_ret
    exact ⟨rfl, BX.out.2.trans (hB.mono hXz)⟩
set_option maxRecDepth 20000 in
set_option maxHeartbeats 6400000 in
theorem iChainF_any {w : World} {ao : Option Addr} {n cap : Nat} {S : Nat → Mt.Sp} (start : Int) (h : RdV w (.slice ao n cap) n 4 (fun i j => scell (S i) j)) (hn : n ≤ 1048576) :
    Calls Try.prog 58 #[.slice ao n cap, .int .i64 start] w fun e w' => e = .returned (.int .i64 (Mt.ccode S n start)) ∧ Below w.heap.size w w' := by
  have H : ∀ W, Below w.heap.size w W → Hid (RdV W (.slice ao n cap) n 4 (fun i j => scell (S i) j)) := fun W hb => h.later hb
  clear h
  have hnI : (n : Int) ≤ 1048576 := by omega
  obtain ⟨C, hC⟩ : ∃ C, C = Mt.ccode S n start := ⟨_, rfl⟩
  have HC : Hid (C = Mt.ccode S n start) := hC
  rw [← hC]
  clear hC
  by_cases hlong : 100 < n
  · have hs : Hid (C = 2) := by show C = 2; rw [HC.out]; unfold Mt.ccode; rw [if_pos hlong]
    have hlI : (100 : Int) < n := by omega
    clear H
    go_enter Try.func58, Try.ntmps58
    go_wp2
    go_ret
    exact ⟨by rw [hs.out]; rfl, by go_grown⟩
  have hsI : (n : Int) ≤ 100 := by omega
  go_enter Try.func58, Try.ntmps58
  go_wp2_with fail
  go_loopw [13] (fun i wr => ∃ k : Nat, k ≤ n ∧ i = .int .i64 k ∧ Hid (Below w.heap.size w wr) ∧ Hid (Mt.all (fun k => Mt.okS (S k)) k = true)) (fun i _ => n - (intOf i).toNat)
  case atStart => exact ⟨0, Nat.zero_le _, rfl, Below.refl _ _, rfl⟩
  case round =>
    obtain ⟨k, hk, rfl, HB, HF⟩ := hrel
    by_cases hkn : k < n
    · obtain ⟨b, off, rfl, hc⟩ := (H wr HB.out).out.at hkn
      obtain ⟨s, hs⟩ : ∃ s, s = S k := ⟨_, rfl⟩
      rw [← hs] at hc
      have g0 : wr.cell? ⟨b, off + k * 4, none⟩ = some (.int .i64 s.km) := hc 0 (by omega)
      have g1 : wr.cell? ⟨b, off + k * 4 + 1, none⟩ = some (.int .i64 s.loss) := hc 1 (by omega)
      have g2 : wr.cell? ⟨b, off + k * 4 + 2, none⟩ = some (.int .i64 s.gain) := hc 2 (by omega)
      have g3 : wr.cell? ⟨b, off + k * 4 + 3, none⟩ = some (.int .i64 s.tilt) := hc 3 (by omega)
      have HS : Hid (s = S k) := hs
      have hkI : (k : Int) < n := by omega
      clear hc hs H
      have HCl : ∀ W, Calls Try.prog 96 #[.agg #[.int .i64 s.km, .int .i64 s.loss, .int .i64 s.gain, .int .i64 s.tilt]] W fun e w' => e = .returned (.int .i64 (if Mt.okS s then 0 else 3)) ∧ Below W.heap.size W w' := iSpanF_any s
      cases hj : Mt.okS s with
      | true =>
        rw [hj] at HCl
        have HF2 : Hid (Mt.all (fun k => Mt.okS (S k)) (k + 1) = true) := Mt.all_next HF.out (by show Mt.okS (S k) = true; rw [← HS.out]; exact hj)
        clear hj
        go_wp2_with (first | (go_at_call 96; refine (HCl _).mono ?_; rintro e w1 ⟨rfl, hb1⟩))
        go_roundw
        case rel => exact ⟨k + 1, by omega, by simp, by refine box_step ?_ hb1 (by go_size); exact HB.out.alloc HB.out.size _, HF2⟩
        case measure => simp [intOf]; omega
      | false =>
        rw [hj] at HCl
        have hA : Mt.all (fun k => Mt.okS (S k)) n = false := Mt.all_hit hkn (by show Mt.okS (S k) = false; rw [← HS.out]; exact hj)
        have hs : Hid (C = 3) := by show C = 3; rw [HC.out]; unfold Mt.ccode; rw [if_neg hlong, hA]; rfl
        clear hj hA
        go_wp2_with (first | (go_at_call 96; refine (HCl _).mono ?_; rintro e w1 ⟨rfl, hb1⟩))
        go_ret
        exact ⟨by rw [hs.out]; rfl, by refine box_step ?_ hb1 (by go_size); exact HB.out.alloc HB.out.size _⟩
    · obtain rfl : n = k := by omega
      have hs : Hid (C = if Mt.inR start (-100000) 100000 then 0 else 3) := by show C = _; rw [HC.out]; unfold Mt.ccode; rw [if_neg hlong, if_pos HF.out]
      clear H
      go_wp2_with (first | (go_at_call 62; refine (either_any 100000 (by omega) (by omega) _).mono ?_; rintro e w1 ⟨bv, rfl, hbv, hb1⟩) | (go_at_call 63; refine (fault1_any hs.out (hbv.later ((Below.refl _ _).alloc (Nat.le_refl _) _)) (lst1 _ start)).mono ?_; rintro e w2 ⟨rfl, hb2⟩))
      go_ret
      refine ⟨rfl, ?_⟩
      refine box_step ?_ hb2 (by go_size)
      exact (box_step HB.out hb1 (Nat.le_refl _)).alloc (HB.out.trans (hb1.mono HB.out.size)).size _
end Go.Proofs.Ytelejihgechmgaa
