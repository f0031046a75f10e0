/- A film's plate, as the specification makes it. -/
import Derived.Test.YtnpcldgacdgplaaPz
import Derived.Test.YtnpcldgacdgplaaTt
import Derived.Test.YtnpcldgacdgplaaZpm
import Derived.Deep.DeepCutAuto
namespace Go.Proofs.Ytnpcldgacdgplaa
open Go.RowKit Fl
set_option linter.unusedVariables false
set_option linter.unusedSimpArgs false
theorem cl_some {x y : Nat} (h : cl x = some y) : x = y := by
  unfold cl at h
  split at h
  · exact Option.some.inj h
  · cases h
/-- Two floats in a block. -/
structure Pair (W : World) (k x y : Nat) : Prop where
  d0 : W.cell? ⟨k, 0, none⟩ = some (.float .f64 x)
  d1 : W.cell? ⟨k, 1, none⟩ = some (.float .f64 y)
theorem Pair.later {W W' : World} {k x y : Nat} (h : Pair W k x y) (hb : Below W.heap.size W W') : Pair W' k x y :=
  ⟨old_cell hb (World.block_lt_of_cell? _ _ h.d0) h.d0, old_cell hb (World.block_lt_of_cell? _ _ h.d1) h.d1⟩
theorem Pair.set {W : World} {k x y r j : Nat} (h : Pair W k x y) (hne : k ≠ r) (v : Value) : Pair (W.setCell ⟨r, j, none⟩ v) k x y := by
  have e : ∀ i, (W.setCell ⟨r, j, none⟩ v).cell? ⟨k, i, none⟩ = W.cell? ⟨k, i, none⟩ := fun i => by
    simp only [World.cell?]
    rw [Below.heap_setCell _ _ _ _ (by simpa using hne)]
  exact ⟨(e 0).trans h.d0, (e 1).trans h.d1⟩
/-- The call's own result, two pairs beside it, all that lay below as it was. -/
structure Fin2 (B : Nat) (X : World) (r kc xc yc kd xd yd : Nat) (W : World) : Prop where
  own : Own B X r 8 43 W
  pc : Pair W kc xc yc
  pd : Pair W kd xd yd
  nc : kc ≠ r
  nd : kd ≠ r
namespace Fin2
variable {B : Nat} {X W : World} {r kc xc yc kd xd yd : Nat}
theorem drew (h : Fin2 B X r kc xc yc kd xd yd W) : Fin2 B X r kc xc yc kd xd yd W.drew := ⟨h.own.drew, ⟨h.pc.d0, h.pc.d1⟩, ⟨h.pd.d0, h.pd.d1⟩, h.nc, h.nd⟩
theorem drewN (h : Fin2 B X r kc xc yc kd xd yd W) (q : Nat) : Fin2 B X r kc xc yc kd xd yd (W.drewN q) := ⟨h.own.drewN q, ⟨h.pc.d0, h.pc.d1⟩, ⟨h.pd.d0, h.pd.d1⟩, h.nc, h.nd⟩
theorem call (h : Fin2 B X r kc xc yc kd xd yd W) {W' : World} (b : Below W.heap.size W W') : Fin2 B X r kc xc yc kd xd yd W' := ⟨h.own.call b, h.pc.later b, h.pd.later b, h.nc, h.nd⟩
theorem set (h : Fin2 B X r kc xc yc kd xd yd W) (j : Nat) (v : Value) : Fin2 B X r kc xc yc kd xd yd (W.setCell ⟨r, j, none⟩ v) := ⟨h.own.set j v, h.pc.set h.nc v, h.pd.set h.nd v, h.nc, h.nd⟩
end Fin2
/-- A film's plate. -/
def plateC (N : Int) (kp y : Option Nat) : P4 :=
  let up := timesC (turnC N) kp
  let dn := overC ((turnC N).1, (turnC N).2.map (Op.negFloat .f64)) kp
  let c := overC (sumC .add up dn) (cl 4611686018427387904)
  let d := overC (sumC .sub up dn) (cl 4611686018427387904)
  ⟨c, overC d y, timesC d y, c⟩
theorem pc_plate {x0 x1 y0 y1 z0 z1 : Nat} {c d e : CP} (h0 : Zc x0 x1 c) (h1 : Zc y0 y1 d) (h2 : Zc z0 z1 e) : Pc x0 x1 y0 y1 z0 z1 x0 x1 ⟨c, d, e, c⟩ := ⟨h0, h1, h2, h0⟩
theorem down_fc {x P : Nat} {o : Option Nat} {n : Int} (h : Fc x o) (ho : o = some P) (hP : floatToIntVal .f64 P .i64 = some n) (w : World) : Calls Try.prog 72 #[.float .f64 x] w fun e w' => e = .returned (.int .i64 n) ∧ w = w' := by
  subst ho
  obtain rfl := cl_some h.c
  exact down_any hP w
theorem neg_fl (a : Nat) (w : World) : (Op.unary .neg (.float .f64 a)).run Try.prog w = .ok (.float .f64 (Op.negFloat .f64 a)) w := rfl
theorem zc_pair {x y : Nat} {p q : Option Nat} (h : Fc x p) (k : Fc y q) : Zc x y (p, q) := ⟨h.lx, k.lx, by rw [h.c, k.c]⟩
theorem zc_fst {x y : Nat} {p : CP} (h : Zc x y p) : Fc x p.1 := ⟨h.lx, by rw [← h.c]⟩
theorem zc_snd {x y : Nat} {p : CP} (h : Zc x y p) : Fc y p.2 := ⟨h.ly, by rw [← h.c]⟩
theorem fc_neg {x : Nat} {p : Option Nat} (h : Fc x p) : Fc (Op.negFloat .f64 x) (p.map (Op.negFloat .f64)) := ⟨neg_lt h.lx, by rw [cl_neg h.lx, h.c]⟩
set_option maxHeartbeats 6400000 in
theorem sPlate_any {i s : Nat} {g : Fi} {P : Nat} {N : Int} (hi : i < 18446744073709551616) (hs : s < 18446744073709551616) (hg : FiOk g) (o : Nat) (v : Value) (nm pol : Int)
    (hP : phaseC (fwdC (cl i) (cl s) (cl g.i)) (cl (fi g.t)) (cl (fi nm)) = some P) (hN : floatToIntVal .f64 P .i64 = some N) (w : World) :
    PV 40 #[Sv i o v, Fv g, Lv nm s pol] w (plateC N (cl g.k) (admC pol (cl g.i) (fwdC (cl i) (cl s) (cl g.i)))) := by
  unfold PV
  have hst := st64
  have hmul := mulD
  have hquo := quoD
  have hadd := addD
  have hcv := conv_run
  have hng := neg_fl
  obtain ⟨X, hX⟩ : ∃ X, X = ((w.alloc (.cells #[.float .f64 i, .float .f64 o, v] 30)).alloc (.cells #[.float .f64 g.i, .float .f64 g.k, .int .i64 g.t] 60)).alloc (.cells #[.int .i64 nm, .float .f64 s, .int .i64 pol] 37) := ⟨_, rfl⟩
  obtain ⟨Y, hY⟩ : ∃ Y, Y = X.alloc (.cells #[.float .f64 0, .float .f64 0, .float .f64 0, .float .f64 0, .float .f64 0, .float .f64 0, .float .f64 0, .float .f64 0] 43) := ⟨_, rfl⟩
  have hOY : Own (w.heap.size + 1 + 1 + 1) X (w.heap.size + 1 + 1 + 1) 8 43 Y := by
    have := own_made (X := X) (B := w.heap.size + 1 + 1 + 1) (t := 43) #[.float .f64 0, .float .f64 0, .float .f64 0, .float .f64 0, .float .f64 0, .float .f64 0, .float .f64 0, .float .f64 0] (by rw [hX]; simp)
    rw [hY]
    rw [show X.heap.size = w.heap.size + 1 + 1 + 1 by rw [hX]; simp] at this
    exact this
  have HX : Hid (Below w.heap.size w X) := by
    have h : Below w.heap.size w X := by rw [hX]; exact (((Below.refl _ _).alloc (Nat.le_refl _) _).alloc (by simp <;> omega) _).alloc (by simp <;> omega) _
    exact h
  have cs_0_Y : Y.cell? ⟨w.heap.size, 0, none⟩ = some (.float .f64 i) := by rw [hY, hX]; exact cell_alloc_old (cell_alloc_old (cell_alloc_old (cell_alloc_new (by simp) rfl)))
  have cs_1_Y : Y.cell? ⟨w.heap.size, 1, none⟩ = some (.float .f64 o) := by rw [hY, hX]; exact cell_alloc_old (cell_alloc_old (cell_alloc_old (cell_alloc_new (by simp) rfl)))
  have cs_2_Y : Y.cell? ⟨w.heap.size, 2, none⟩ = some (v) := by rw [hY, hX]; exact cell_alloc_old (cell_alloc_old (cell_alloc_old (cell_alloc_new (by simp) rfl)))
  have cf_0_Y : Y.cell? ⟨w.heap.size + 1, 0, none⟩ = some (.float .f64 g.i) := by rw [hY, hX]; exact cell_alloc_old (cell_alloc_old (cell_alloc_new (by simp) rfl))
  have cf_1_Y : Y.cell? ⟨w.heap.size + 1, 1, none⟩ = some (.float .f64 g.k) := by rw [hY, hX]; exact cell_alloc_old (cell_alloc_old (cell_alloc_new (by simp) rfl))
  have cf_2_Y : Y.cell? ⟨w.heap.size + 1, 2, none⟩ = some (.int .i64 g.t) := by rw [hY, hX]; exact cell_alloc_old (cell_alloc_old (cell_alloc_new (by simp) rfl))
  have cl_0_Y : Y.cell? ⟨w.heap.size + 1 + 1, 0, none⟩ = some (.int .i64 nm) := by rw [hY, hX]; exact cell_alloc_old (cell_alloc_new (by simp) rfl)
  have cl_1_Y : Y.cell? ⟨w.heap.size + 1 + 1, 1, none⟩ = some (.float .f64 s) := by rw [hY, hX]; exact cell_alloc_old (cell_alloc_new (by simp) rfl)
  have cl_2_Y : Y.cell? ⟨w.heap.size + 1 + 1, 2, none⟩ = some (.int .i64 pol) := by rw [hY, hX]; exact cell_alloc_old (cell_alloc_new (by simp) rfl)
  have HP : Hid (phaseC (fwdC (cl i) (cl s) (cl g.i)) (cl (fi g.t)) (cl (fi nm)) = some P ∧ floatToIntVal .f64 P .i64 = some N) := ⟨hP, hN⟩
  have H1 : Hid (∀ w, FV 70 #[Sv i o v, Lv nm s pol, .float .f64 g.i] w (fwdC (cl i) (cl s) (cl g.i))) := sFwd_any (fc_own hi) (fc_own hs) (fc_own hg.hi) o v nm pol
  have H2 : Hid (∀ w, FV 49 #[Sv i o v, Lv nm s pol, .float .f64 g.i] w (admC pol (cl g.i) (fwdC (cl i) (cl s) (cl g.i)))) := sAdm_any (fc_own hi) (fc_own hs) (fc_own hg.hi) o v nm pol
  have HK : Hid (Fc g.k (cl g.k)) := fc_own hg.hk
  clear hP hN hi hs hg
  generalize fwdC (cl i) (cl s) (cl g.i) = FW at *
  generalize admC pol (cl g.i) FW = AD at *
  go_enter Try.func40, Try.ntmps40
  go_upto_region 1 with fail
  rw [← hX, ← hY]
  clear hX hY
  go_wp2_with fail
  refine (H1.out _).mono ?_
  rintro e w1 ⟨q, rfl, hq, hb⟩
  have hB : Below Y.heap.size Y w1 := box_step (by repeat (first | exact Below.refl _ _ | refine below_drewN ?_ _ | refine Below.alloc ?_ (by simp <;> omega) _ | refine Below.setCell ?_ (by simp <;> omega) _)) hb (Nat.le_refl _)
  have cs_0_w1 : w1.cell? ⟨w.heap.size, 0, none⟩ = some (.float .f64 i) := old_cell hB (World.block_lt_of_cell? _ _ cs_0_Y) cs_0_Y
  have cs_1_w1 : w1.cell? ⟨w.heap.size, 1, none⟩ = some (.float .f64 o) := old_cell hB (World.block_lt_of_cell? _ _ cs_1_Y) cs_1_Y
  have cs_2_w1 : w1.cell? ⟨w.heap.size, 2, none⟩ = some (v) := old_cell hB (World.block_lt_of_cell? _ _ cs_2_Y) cs_2_Y
  have cf_0_w1 : w1.cell? ⟨w.heap.size + 1, 0, none⟩ = some (.float .f64 g.i) := old_cell hB (World.block_lt_of_cell? _ _ cf_0_Y) cf_0_Y
  have cf_1_w1 : w1.cell? ⟨w.heap.size + 1, 1, none⟩ = some (.float .f64 g.k) := old_cell hB (World.block_lt_of_cell? _ _ cf_1_Y) cf_1_Y
  have cf_2_w1 : w1.cell? ⟨w.heap.size + 1, 2, none⟩ = some (.int .i64 g.t) := old_cell hB (World.block_lt_of_cell? _ _ cf_2_Y) cf_2_Y
  have cl_0_w1 : w1.cell? ⟨w.heap.size + 1 + 1, 0, none⟩ = some (.int .i64 nm) := old_cell hB (World.block_lt_of_cell? _ _ cl_0_Y) cl_0_Y
  have cl_1_w1 : w1.cell? ⟨w.heap.size + 1 + 1, 1, none⟩ = some (.float .f64 s) := old_cell hB (World.block_lt_of_cell? _ _ cl_1_Y) cl_1_Y
  have cl_2_w1 : w1.cell? ⟨w.heap.size + 1 + 1, 2, none⟩ = some (.int .i64 pol) := old_cell hB (World.block_lt_of_cell? _ _ cl_2_Y) cl_2_Y
  have z0 : w.heap.size < w1.heap.size := World.block_lt_of_cell? _ _ cs_0_w1
  have y0 : ¬ w.heap.size = w1.heap.size := by omega
  have x0 : ¬ w.heap.size = w1.heap.size + 1 := by omega
  have z1 : w.heap.size + 1 < w1.heap.size := World.block_lt_of_cell? _ _ cf_0_w1
  have y1 : ¬ w.heap.size + 1 = w1.heap.size := by omega
  have x1 : ¬ w.heap.size + 1 = w1.heap.size + 1 := by omega
  have z2 : w.heap.size + 1 + 1 < w1.heap.size := World.block_lt_of_cell? _ _ cl_0_w1
  have y2 : ¬ w.heap.size + 1 + 1 = w1.heap.size := by omega
  have x2 : ¬ w.heap.size + 1 + 1 = w1.heap.size + 1 := by omega
  have hOw1 := hOY.call hB
  clear hb hB cs_0_Y cs_1_Y cs_2_Y cf_0_Y cf_1_Y cf_2_Y cl_0_Y cl_1_Y cl_2_Y hOY
  go_wp2_with fail
  refine (down_fc (fc_op .add (fc_op .mul (fc_op .quo (fc_op .mul hq (fc_own (fi_lt g.t)) _) (fc_own (fi_lt nm)) _) (fc_own (by omega)) _) (fc_own (by omega)) _) HP.out.1 HP.out.2 _).mono ?_
  rintro e wx ⟨rfl, rfl⟩
  go_wp2_with fail
  refine (sTurn_any N _).mono ?_
  rintro e w2 ⟨e0, e1, rfl, he, hb⟩
  have hB : Below w1.heap.size w1 w2 := box_step (by repeat (first | exact Below.refl _ _ | refine below_drewN ?_ _ | refine Below.alloc ?_ (by simp <;> omega) _ | refine Below.setCell ?_ (by simp <;> omega) _)) hb (Nat.le_refl _)
  have cs_0_w2 : w2.cell? ⟨w.heap.size, 0, none⟩ = some (.float .f64 i) := old_cell hB (World.block_lt_of_cell? _ _ cs_0_w1) cs_0_w1
  have cs_1_w2 : w2.cell? ⟨w.heap.size, 1, none⟩ = some (.float .f64 o) := old_cell hB (World.block_lt_of_cell? _ _ cs_1_w1) cs_1_w1
  have cs_2_w2 : w2.cell? ⟨w.heap.size, 2, none⟩ = some (v) := old_cell hB (World.block_lt_of_cell? _ _ cs_2_w1) cs_2_w1
  have cf_0_w2 : w2.cell? ⟨w.heap.size + 1, 0, none⟩ = some (.float .f64 g.i) := old_cell hB (World.block_lt_of_cell? _ _ cf_0_w1) cf_0_w1
  have cf_1_w2 : w2.cell? ⟨w.heap.size + 1, 1, none⟩ = some (.float .f64 g.k) := old_cell hB (World.block_lt_of_cell? _ _ cf_1_w1) cf_1_w1
  have cf_2_w2 : w2.cell? ⟨w.heap.size + 1, 2, none⟩ = some (.int .i64 g.t) := old_cell hB (World.block_lt_of_cell? _ _ cf_2_w1) cf_2_w1
  have cl_0_w2 : w2.cell? ⟨w.heap.size + 1 + 1, 0, none⟩ = some (.int .i64 nm) := old_cell hB (World.block_lt_of_cell? _ _ cl_0_w1) cl_0_w1
  have cl_1_w2 : w2.cell? ⟨w.heap.size + 1 + 1, 1, none⟩ = some (.float .f64 s) := old_cell hB (World.block_lt_of_cell? _ _ cl_1_w1) cl_1_w1
  have cl_2_w2 : w2.cell? ⟨w.heap.size + 1 + 1, 2, none⟩ = some (.int .i64 pol) := old_cell hB (World.block_lt_of_cell? _ _ cl_2_w1) cl_2_w1
  clear z0
  clear y0
  clear x0
  clear z1
  clear y1
  clear x1
  clear z2
  clear y2
  clear x2
  have z0 : w.heap.size < w2.heap.size := World.block_lt_of_cell? _ _ cs_0_w2
  have y0 : ¬ w.heap.size = w2.heap.size := by omega
  have x0 : ¬ w.heap.size = w2.heap.size + 1 := by omega
  have z1 : w.heap.size + 1 < w2.heap.size := World.block_lt_of_cell? _ _ cf_0_w2
  have y1 : ¬ w.heap.size + 1 = w2.heap.size := by omega
  have x1 : ¬ w.heap.size + 1 = w2.heap.size + 1 := by omega
  have z2 : w.heap.size + 1 + 1 < w2.heap.size := World.block_lt_of_cell? _ _ cl_0_w2
  have y2 : ¬ w.heap.size + 1 + 1 = w2.heap.size := by omega
  have x2 : ¬ w.heap.size + 1 + 1 = w2.heap.size + 1 := by omega
  have hOw2 := hOw1.call hB
  clear hb hB cs_0_w1 cs_1_w1 cs_2_w1 cf_0_w1 cf_1_w1 cf_2_w1 cl_0_w1 cl_1_w1 cl_2_w1 hOw1
  go_wp2_with fail
  refine (H2.out _).mono ?_
  rintro e w3 ⟨y, rfl, hy, hb⟩
  have hB : Below w2.heap.size w2 w3 := box_step (by repeat (first | exact Below.refl _ _ | refine below_drewN ?_ _ | refine Below.alloc ?_ (by simp <;> omega) _ | refine Below.setCell ?_ (by simp <;> omega) _)) hb (Nat.le_refl _)
  have cf_0_w3 : w3.cell? ⟨w.heap.size + 1, 0, none⟩ = some (.float .f64 g.i) := old_cell hB (World.block_lt_of_cell? _ _ cf_0_w2) cf_0_w2
  have cf_1_w3 : w3.cell? ⟨w.heap.size + 1, 1, none⟩ = some (.float .f64 g.k) := old_cell hB (World.block_lt_of_cell? _ _ cf_1_w2) cf_1_w2
  have cf_2_w3 : w3.cell? ⟨w.heap.size + 1, 2, none⟩ = some (.int .i64 g.t) := old_cell hB (World.block_lt_of_cell? _ _ cf_2_w2) cf_2_w2
  have ce_0_w3 : w3.cell? ⟨w2.heap.size, 0, none⟩ = some (.float .f64 e0) := (hb.cell (by simp <;> omega)).trans (by first | exact cell_alloc_new (by simp) rfl | simp)
  have ce_1_w3 : w3.cell? ⟨w2.heap.size, 1, none⟩ = some (.float .f64 e1) := (hb.cell (by simp <;> omega)).trans (by first | exact cell_alloc_new (by simp) rfl | simp)
  clear z0
  clear y0
  clear x0
  clear z1
  clear y1
  clear x1
  clear z2
  clear y2
  clear x2
  have z0 : w.heap.size + 1 < w3.heap.size := World.block_lt_of_cell? _ _ cf_0_w3
  have y0 : ¬ w.heap.size + 1 = w3.heap.size := by omega
  have x0 : ¬ w.heap.size + 1 = w3.heap.size + 1 := by omega
  have z1 : w2.heap.size < w3.heap.size := World.block_lt_of_cell? _ _ ce_0_w3
  have y1 : ¬ w2.heap.size = w3.heap.size := by omega
  have x1 : ¬ w2.heap.size = w3.heap.size + 1 := by omega
  have hOw3 := hOw2.call hB
  clear hb hB cs_0_w2 cs_1_w2 cs_2_w2 cf_0_w2 cf_1_w2 cf_2_w2 cl_0_w2 cl_1_w2 cl_2_w2 hOw2
  go_wp2_with fail
  refine (sTimes_any he HK.out _).mono ?_
  rintro e w4 ⟨u0, u1, rfl, hu, hb⟩
  have hB : Below w3.heap.size w3 w4 := box_step (by repeat (first | exact Below.refl _ _ | refine below_drewN ?_ _ | refine Below.alloc ?_ (by simp <;> omega) _ | refine Below.setCell ?_ (by simp <;> omega) _)) hb (Nat.le_refl _)
  have cf_0_w4 : w4.cell? ⟨w.heap.size + 1, 0, none⟩ = some (.float .f64 g.i) := old_cell hB (World.block_lt_of_cell? _ _ cf_0_w3) cf_0_w3
  have cf_1_w4 : w4.cell? ⟨w.heap.size + 1, 1, none⟩ = some (.float .f64 g.k) := old_cell hB (World.block_lt_of_cell? _ _ cf_1_w3) cf_1_w3
  have cf_2_w4 : w4.cell? ⟨w.heap.size + 1, 2, none⟩ = some (.int .i64 g.t) := old_cell hB (World.block_lt_of_cell? _ _ cf_2_w3) cf_2_w3
  have ce_0_w4 : w4.cell? ⟨w2.heap.size, 0, none⟩ = some (.float .f64 e0) := old_cell hB (World.block_lt_of_cell? _ _ ce_0_w3) ce_0_w3
  have ce_1_w4 : w4.cell? ⟨w2.heap.size, 1, none⟩ = some (.float .f64 e1) := old_cell hB (World.block_lt_of_cell? _ _ ce_1_w3) ce_1_w3
  clear z0
  clear y0
  clear x0
  clear z1
  clear y1
  clear x1
  have z0 : w.heap.size + 1 < w4.heap.size := World.block_lt_of_cell? _ _ cf_0_w4
  have y0 : ¬ w.heap.size + 1 = w4.heap.size := by omega
  have x0 : ¬ w.heap.size + 1 = w4.heap.size + 1 := by omega
  have z1 : w2.heap.size < w4.heap.size := World.block_lt_of_cell? _ _ ce_0_w4
  have y1 : ¬ w2.heap.size = w4.heap.size := by omega
  have x1 : ¬ w2.heap.size = w4.heap.size + 1 := by omega
  have hOw4 := hOw3.call hB
  clear hb hB cf_0_w3 cf_1_w3 cf_2_w3 ce_0_w3 ce_1_w3 hOw3
  go_wp2_with fail
  have F0 := fc_op .quo (zc_fst he) HK.out (w4.alloc (.cells #[.float .f64 u0, .float .f64 u1] 41))
  have F1 := fc_op .quo (fc_neg (zc_snd he)) HK.out ((w4.alloc (.cells #[.float .f64 u0, .float .f64 u1] 41)).drewN (opN .quo e0 g.k))
  generalize opV .quo e0 g.k (w4.alloc (.cells #[.float .f64 u0, .float .f64 u1] 41)) = n0 at F0 ⊢
  generalize opV .quo (Op.negFloat .f64 e1) g.k ((w4.alloc (.cells #[.float .f64 u0, .float .f64 u1] 41)).drewN (opN .quo e0 g.k)) = n1 at F1 ⊢
  refine (sAdd_any hu (zc_pair F0 F1) _).mono ?_
  rintro e w5 ⟨a0, a1, rfl, ha, hb⟩
  have hB : Below w4.heap.size w4 w5 := box_step (by repeat (first | exact Below.refl _ _ | refine below_drewN ?_ _ | refine Below.alloc ?_ (by simp <;> omega) _ | refine Below.setCell ?_ (by simp <;> omega) _)) hb (Nat.le_refl _)
  have cu_0_w5 : w5.cell? ⟨w4.heap.size, 0, none⟩ = some (.float .f64 u0) := (hb.cell (by simp <;> omega)).trans (by first | exact cell_alloc_old (cell_alloc_new (by simp) rfl) | simp)
  have cu_1_w5 : w5.cell? ⟨w4.heap.size, 1, none⟩ = some (.float .f64 u1) := (hb.cell (by simp <;> omega)).trans (by first | exact cell_alloc_old (cell_alloc_new (by simp) rfl) | simp)
  have cn_0_w5 : w5.cell? ⟨w4.heap.size + 1, 0, none⟩ = some (.float .f64 n0) := (hb.cell (by simp <;> omega)).trans (by first | exact cell_alloc_new (by simp) rfl | simp)
  have cn_1_w5 : w5.cell? ⟨w4.heap.size + 1, 1, none⟩ = some (.float .f64 n1) := (hb.cell (by simp <;> omega)).trans (by first | exact cell_alloc_new (by simp) rfl | simp)
  clear z0
  clear y0
  clear x0
  clear z1
  clear y1
  clear x1
  have z0 : w4.heap.size < w5.heap.size := World.block_lt_of_cell? _ _ cu_0_w5
  have y0 : ¬ w4.heap.size = w5.heap.size := by omega
  have x0 : ¬ w4.heap.size = w5.heap.size + 1 := by omega
  have z1 : w4.heap.size + 1 < w5.heap.size := World.block_lt_of_cell? _ _ cn_0_w5
  have y1 : ¬ w4.heap.size + 1 = w5.heap.size := by omega
  have x1 : ¬ w4.heap.size + 1 = w5.heap.size + 1 := by omega
  have hOw5 := hOw4.call hB
  clear hb hB cf_0_w4 cf_1_w4 cf_2_w4 ce_0_w4 ce_1_w4 hOw4
  go_wp2_with fail
  refine (sOver_any ha (fc_own (by omega)) _).mono ?_
  rintro e w6 ⟨c0, c1, rfl, hc, hb⟩
  have hB : Below w5.heap.size w5 w6 := box_step (by repeat (first | exact Below.refl _ _ | refine below_drewN ?_ _ | refine Below.alloc ?_ (by simp <;> omega) _ | refine Below.setCell ?_ (by simp <;> omega) _)) hb (Nat.le_refl _)
  have cu_0_w6 : w6.cell? ⟨w4.heap.size, 0, none⟩ = some (.float .f64 u0) := old_cell hB (World.block_lt_of_cell? _ _ cu_0_w5) cu_0_w5
  have cu_1_w6 : w6.cell? ⟨w4.heap.size, 1, none⟩ = some (.float .f64 u1) := old_cell hB (World.block_lt_of_cell? _ _ cu_1_w5) cu_1_w5
  have cn_0_w6 : w6.cell? ⟨w4.heap.size + 1, 0, none⟩ = some (.float .f64 n0) := old_cell hB (World.block_lt_of_cell? _ _ cn_0_w5) cn_0_w5
  have cn_1_w6 : w6.cell? ⟨w4.heap.size + 1, 1, none⟩ = some (.float .f64 n1) := old_cell hB (World.block_lt_of_cell? _ _ cn_1_w5) cn_1_w5
  clear z0
  clear y0
  clear x0
  clear z1
  clear y1
  clear x1
  have z0 : w4.heap.size < w6.heap.size := World.block_lt_of_cell? _ _ cu_0_w6
  have y0 : ¬ w4.heap.size = w6.heap.size := by omega
  have x0 : ¬ w4.heap.size = w6.heap.size + 1 := by omega
  have z1 : w4.heap.size + 1 < w6.heap.size := World.block_lt_of_cell? _ _ cn_0_w6
  have y1 : ¬ w4.heap.size + 1 = w6.heap.size := by omega
  have x1 : ¬ w4.heap.size + 1 = w6.heap.size + 1 := by omega
  have hOw6 := hOw5.call hB
  clear hb hB cu_0_w5 cu_1_w5 cn_0_w5 cn_1_w5 hOw5
  have hne6 : w6.heap.size ≠ w.heap.size + 1 + 1 + 1 := by have := hOw6.lt; omega
  go_wp2_with fail
  refine (sSub_any hu (zc_pair F0 F1) _).mono ?_
  rintro e w7 ⟨s0, s1, rfl, hsb, hb⟩
  have hB : Below w6.heap.size w6 w7 := box_step (by repeat (first | exact Below.refl _ _ | refine below_drewN ?_ _ | refine Below.alloc ?_ (by simp <;> omega) _ | refine Below.setCell ?_ (by simp <;> omega) _)) hb (Nat.le_refl _)
  have cu_0_w7 : w7.cell? ⟨w4.heap.size, 0, none⟩ = some (.float .f64 u0) := old_cell hB (World.block_lt_of_cell? _ _ cu_0_w6) cu_0_w6
  have cu_1_w7 : w7.cell? ⟨w4.heap.size, 1, none⟩ = some (.float .f64 u1) := old_cell hB (World.block_lt_of_cell? _ _ cu_1_w6) cu_1_w6
  have cn_0_w7 : w7.cell? ⟨w4.heap.size + 1, 0, none⟩ = some (.float .f64 n0) := old_cell hB (World.block_lt_of_cell? _ _ cn_0_w6) cn_0_w6
  have cn_1_w7 : w7.cell? ⟨w4.heap.size + 1, 1, none⟩ = some (.float .f64 n1) := old_cell hB (World.block_lt_of_cell? _ _ cn_1_w6) cn_1_w6
  have cc_0_w7 : w7.cell? ⟨w6.heap.size, 0, none⟩ = some (.float .f64 c0) := (hb.cell (by simp <;> omega)).trans (by first | exact cell_alloc_new (by simp) rfl | simp)
  have cc_1_w7 : w7.cell? ⟨w6.heap.size, 1, none⟩ = some (.float .f64 c1) := (hb.cell (by simp <;> omega)).trans (by first | exact cell_alloc_new (by simp) rfl | simp)
  clear z0
  clear y0
  clear x0
  clear z1
  clear y1
  clear x1
  have z0 : w4.heap.size < w7.heap.size := World.block_lt_of_cell? _ _ cu_0_w7
  have y0 : ¬ w4.heap.size = w7.heap.size := by omega
  have x0 : ¬ w4.heap.size = w7.heap.size + 1 := by omega
  have z1 : w4.heap.size + 1 < w7.heap.size := World.block_lt_of_cell? _ _ cn_0_w7
  have y1 : ¬ w4.heap.size + 1 = w7.heap.size := by omega
  have x1 : ¬ w4.heap.size + 1 = w7.heap.size + 1 := by omega
  have z2 : w6.heap.size < w7.heap.size := World.block_lt_of_cell? _ _ cc_0_w7
  have y2 : ¬ w6.heap.size = w7.heap.size := by omega
  have x2 : ¬ w6.heap.size = w7.heap.size + 1 := by omega
  have hOw7 := hOw6.call hB
  clear hb hB cu_0_w6 cu_1_w6 cn_0_w6 cn_1_w6 hOw6
  go_wp2_with fail
  refine (sOver_any hsb (fc_own (by omega)) _).mono ?_
  rintro e w8 ⟨d0, d1, rfl, hd, hb⟩
  have hB : Below w7.heap.size w7 w8 := box_step (by repeat (first | exact Below.refl _ _ | refine below_drewN ?_ _ | refine Below.alloc ?_ (by simp <;> omega) _ | refine Below.setCell ?_ (by simp <;> omega) _)) hb (Nat.le_refl _)
  have cc_0_w8 : w8.cell? ⟨w6.heap.size, 0, none⟩ = some (.float .f64 c0) := old_cell hB (World.block_lt_of_cell? _ _ cc_0_w7) cc_0_w7
  have cc_1_w8 : w8.cell? ⟨w6.heap.size, 1, none⟩ = some (.float .f64 c1) := old_cell hB (World.block_lt_of_cell? _ _ cc_1_w7) cc_1_w7
  clear z0
  clear y0
  clear x0
  clear z1
  clear y1
  clear x1
  clear z2
  clear y2
  clear x2
  have z0 : w6.heap.size < w8.heap.size := World.block_lt_of_cell? _ _ cc_0_w8
  have y0 : ¬ w6.heap.size = w8.heap.size := by omega
  have x0 : ¬ w6.heap.size = w8.heap.size + 1 := by omega
  have hOw8 := hOw7.call hB
  clear hb hB cu_0_w7 cu_1_w7 cn_0_w7 cn_1_w7 cc_0_w7 cc_1_w7 hOw7
  obtain ⟨Z, hZ⟩ : ∃ Z, Z = w8.alloc (.cells #[.float .f64 d0, .float .f64 d1] 41) := ⟨_, rfl⟩
  have hF : Fin2 (w.heap.size + 1 + 1 + 1) X (w.heap.size + 1 + 1 + 1) w6.heap.size c0 c1 w8.heap.size d0 d1 Z := by
    have n1 := hOw8.lt
    refine ⟨?_, ⟨?_, ?_⟩, ⟨?_, ?_⟩, ?_, ?_⟩
    · rw [hZ]; exact hOw8.alloc _
    · rw [hZ]; exact cell_alloc_old cc_0_w8
    · rw [hZ]; exact cell_alloc_old cc_1_w8
    · rw [hZ]; exact cell_alloc_new rfl rfl
    · rw [hZ]; exact cell_alloc_new rfl rfl
    · exact hne6
    · omega
  have k0 : ∀ W, Fin2 (w.heap.size + 1 + 1 + 1) X (w.heap.size + 1 + 1 + 1) w6.heap.size c0 c1 w8.heap.size d0 d1 W → W.cell? ⟨w6.heap.size, 0, none⟩ = some (.float .f64 c0) := fun _ h => h.pc.d0
  have k1 : ∀ W, Fin2 (w.heap.size + 1 + 1 + 1) X (w.heap.size + 1 + 1 + 1) w6.heap.size c0 c1 w8.heap.size d0 d1 W → W.cell? ⟨w6.heap.size, 1, none⟩ = some (.float .f64 c1) := fun _ h => h.pc.d1
  have k2 : ∀ W, Fin2 (w.heap.size + 1 + 1 + 1) X (w.heap.size + 1 + 1 + 1) w6.heap.size c0 c1 w8.heap.size d0 d1 W → W.cell? ⟨w8.heap.size, 0, none⟩ = some (.float .f64 d0) := fun _ h => h.pd.d0
  have k3 : ∀ W, Fin2 (w.heap.size + 1 + 1 + 1) X (w.heap.size + 1 + 1 + 1) w6.heap.size c0 c1 w8.heap.size d0 d1 W → W.cell? ⟨w8.heap.size, 1, none⟩ = some (.float .f64 d1) := fun _ h => h.pd.d1
  have g0 : ∀ W, Fin2 (w.heap.size + 1 + 1 + 1) X (w.heap.size + 1 + 1 + 1) w6.heap.size c0 c1 w8.heap.size d0 d1 W → W.cell? ⟨w.heap.size + 1 + 1 + 1, 0, none⟩ = some (got W (w.heap.size + 1 + 1 + 1) 0) := fun _ h => h.own.cell (by omega)
  have g1 : ∀ W, Fin2 (w.heap.size + 1 + 1 + 1) X (w.heap.size + 1 + 1 + 1) w6.heap.size c0 c1 w8.heap.size d0 d1 W → W.cell? ⟨w.heap.size + 1 + 1 + 1, 1, none⟩ = some (got W (w.heap.size + 1 + 1 + 1) 1) := fun _ h => h.own.cell (by omega)
  have g2 : ∀ W, Fin2 (w.heap.size + 1 + 1 + 1) X (w.heap.size + 1 + 1 + 1) w6.heap.size c0 c1 w8.heap.size d0 d1 W → W.cell? ⟨w.heap.size + 1 + 1 + 1, 2, none⟩ = some (got W (w.heap.size + 1 + 1 + 1) 2) := fun _ h => h.own.cell (by omega)
  have g3 : ∀ W, Fin2 (w.heap.size + 1 + 1 + 1) X (w.heap.size + 1 + 1 + 1) w6.heap.size c0 c1 w8.heap.size d0 d1 W → W.cell? ⟨w.heap.size + 1 + 1 + 1, 3, none⟩ = some (got W (w.heap.size + 1 + 1 + 1) 3) := fun _ h => h.own.cell (by omega)
  have g4 : ∀ W, Fin2 (w.heap.size + 1 + 1 + 1) X (w.heap.size + 1 + 1 + 1) w6.heap.size c0 c1 w8.heap.size d0 d1 W → W.cell? ⟨w.heap.size + 1 + 1 + 1, 4, none⟩ = some (got W (w.heap.size + 1 + 1 + 1) 4) := fun _ h => h.own.cell (by omega)
  have g5 : ∀ W, Fin2 (w.heap.size + 1 + 1 + 1) X (w.heap.size + 1 + 1 + 1) w6.heap.size c0 c1 w8.heap.size d0 d1 W → W.cell? ⟨w.heap.size + 1 + 1 + 1, 5, none⟩ = some (got W (w.heap.size + 1 + 1 + 1) 5) := fun _ h => h.own.cell (by omega)
  have g6 : ∀ W, Fin2 (w.heap.size + 1 + 1 + 1) X (w.heap.size + 1 + 1 + 1) w6.heap.size c0 c1 w8.heap.size d0 d1 W → W.cell? ⟨w.heap.size + 1 + 1 + 1, 6, none⟩ = some (got W (w.heap.size + 1 + 1 + 1) 6) := fun _ h => h.own.cell (by omega)
  have g7 : ∀ W, Fin2 (w.heap.size + 1 + 1 + 1) X (w.heap.size + 1 + 1 + 1) w6.heap.size c0 c1 w8.heap.size d0 d1 W → W.cell? ⟨w.heap.size + 1 + 1 + 1, 7, none⟩ = some (got W (w.heap.size + 1 + 1 + 1) 7) := fun _ h => h.own.cell (by omega)
  have gf : ∀ W j, Fin2 (w.heap.size + 1 + 1 + 1) X (w.heap.size + 1 + 1 + 1) w6.heap.size c0 c1 w8.heap.size d0 d1 W → W.frozen? ⟨w.heap.size + 1 + 1 + 1, j, none⟩ = false := fun _ j h => h.own.frozen j
  clear cc_0_w8 cc_1_w8 hOw8 z0 y0 x0
  go_wp2_with fail
  rw [← hZ]
  clear hZ
  go_region_held (fun W => Fin2 (w.heap.size + 1 + 1 + 1) X (w.heap.size + 1 + 1 + 1) w6.heap.size c0 c1 w8.heap.size d0 d1 W) (first | with_reducible assumption | with_reducible exact Fin2.drew ‹_› | with_reducible exact Fin2.drewN ‹_› _ | with_reducible exact Fin2.set (Fin2.set (Fin2.set (Fin2.set (Fin2.set (Fin2.set (Fin2.set (Fin2.set ‹_› _ _) _ _) _ _) _ _) _ _) _ _) _ _) _ _)
    (first | (go_at_call 73; refine (sOver_any hd hy _).mono ?_; rintro e w9 ⟨b0, b1, rfl, hbb, hb⟩; have hR9 := Fin2.call ‹_› hb) | (go_at_call 50; refine (sTimes_any hd hy _).mono ?_; rintro e wA ⟨t0, t1, rfl, htt, hb⟩; have hRA := Fin2.call ‹_› hb))
  have x0 := g0 _ hRA
  have x1 := g1 _ hRA
  have x2 := g2 _ hRA
  have x3 := g3 _ hRA
  have x4 := g4 _ hRA
  have x5 := g5 _ hRA
  have x6 := g6 _ hRA
  have x7 := g7 _ hRA
  clear k0 k1 k2 k3 gf g0 g1 g2 g3 g4 g5 g6 g7
  go_wp2
  refine bodyPost_ret (v := Pv _ _ _ _ _ _ _ _) (by simp [results, Try.results40, go_sem, x0, x1, x2, x3, x4, x5, x6, x7] <;> exact ⟨rfl, rfl, rfl, rfl, rfl, rfl, rfl, rfl⟩) rfl ⟨_, _, _, _, _, _, _, _, rfl, pc_plate hc hbb htt, ?_⟩
  exact HX.out.trans ((Own.below (Fin2.own ((Fin2.set (Fin2.set (Fin2.set (Fin2.set (Fin2.set (Fin2.set (Fin2.set (Fin2.set hRA _ _) _ _) _ _) _ _) _ _) _ _) _ _) _ _)))).mono (by omega))
end Go.Proofs.Ytnpcldgacdgplaa
