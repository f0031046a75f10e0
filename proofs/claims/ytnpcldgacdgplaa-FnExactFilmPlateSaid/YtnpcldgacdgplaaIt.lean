/- The program's unit roots in an array: contract. The unit roots that a turn takes: contract. Arrays of complex numbers compared: what the comparison with noughts tells. The program's turns: contract. -/
import Derived.Test.YtnpcldgacdgplaaTt
import Derived.Deep.MidRow
import Derived.Laws.StructEq
namespace Go.Proofs.Ytnpcldgacdgplaa
open Go.RowKit Fl
set_option linter.unusedVariables false
set_option linter.unusedSimpArgs false
/-- The first m unit roots. -/
def tabF (on : Nat → Bool) (i j : Nat) : Nat := if on i = true then (if j = 0 then (uT i).1 else (uT i).2) else 0
def upto (m : Nat) : Nat → Bool := fun i => decide (i < m)
/-- An array of twenty numbers: the unit roots that are on, noughts for the others. -/
structure Rts (c : Array Value) (on : Nat → Bool) : Prop where
  size : c.size = 40
  cell : ∀ i, i < 20 → ∀ j, j < 2 → c[i * 2 + j]? = some (.float .f64 (tabF on i j))
theorem info74 : (Try.prog.info? 101).map (·.size) = some 40 := by kernel_rfl
theorem rts_one {c : Array Value} {on : Nat → Bool} (h : Rts c on) : c.all (·.oneCell') = true := by
  rw [Array.all_eq_true]
  intro i hi
  have h2 := h.cell (i / 2) (by have := h.size; omega) (i % 2) (by omega)
  have e : i / 2 * 2 + i % 2 = i := by omega
  rw [e, Array.getElem?_eq_getElem hi] at h2
  rw [Option.some.inj h2]
  rfl
theorem seg_rts {W : World} {b : Nat} {on : Nat → Bool} {B : Nat} {X : World} (h : SegM W b 101 20 2 (tabF on)) (o : Own B X b 40 101 W) : ∃ c : Array Value, Rts c on ∧ W.rangeAt b 0 c.toList := by
  obtain ⟨c, hb, hc⟩ := h
  obtain ⟨c', hb', hs⟩ := o.block
  rw [hb] at hb'
  simp only [Option.some.injEq, Obj.cells.injEq] at hb'
  obtain ⟨rfl, _⟩ := hb'
  refine ⟨c, ⟨hs, hc⟩, fun j v hv => ?_⟩
  simp only [World.cell?, hb]
  simpa using hv
theorem own_there {B : Nat} {X W : World} {r n : Nat} {t : TypeId} (h : Own B X r n t W) : W.there r 0 n := fun j hj => by
  rw [Nat.zero_add]
  exact ⟨by rw [h.cell hj]; rfl, h.frozen j⟩
theorem heap_new {W : World} {c : Array Value} {t : TypeId} {r : Nat} (hr : r = W.heap.size) : (W.alloc (.cells c t)).heap[r]? = some (.cells c t (0, 0)) := by
  subst hr
  show (W.heap.push _)[W.heap.size]? = _
  simp
def ini40 : Array Value := (Array.range 40).map fun c => .float .f64 (tabF (upto 2) (c / 2) (c % 2))
theorem ini_lit : (#[.float .f64 13830554455654793216, .float .f64 0, .float .f64 0, .float .f64 4607182418800017408, .float .f64 0, .float .f64 0, .float .f64 0, .float .f64 0, .float .f64 0, .float .f64 0, .float .f64 0, .float .f64 0, .float .f64 0, .float .f64 0, .float .f64 0, .float .f64 0, .float .f64 0, .float .f64 0, .float .f64 0, .float .f64 0, .float .f64 0, .float .f64 0, .float .f64 0, .float .f64 0, .float .f64 0, .float .f64 0, .float .f64 0, .float .f64 0, .float .f64 0, .float .f64 0, .float .f64 0, .float .f64 0, .float .f64 0, .float .f64 0, .float .f64 0, .float .f64 0, .float .f64 0, .float .f64 0, .float .f64 0, .float .f64 0] : Array Value) = ini40 := by kernel_rfl
theorem ini_cell {i j : Nat} (hi : i < 20) (hj : j < 2) : ini40[i * 2 + j]? = some (.float .f64 (tabF (upto 2) i j)) := by
  unfold ini40
  rw [Array.getElem?_map, Array.getElem?_range]
  have e1 : (i * 2 + j) / 2 = i := by omega
  have e2 : (i * 2 + j) % 2 = j := by omega
  simp [show i * 2 + j < 40 by omega, e1, e2]
theorem rts_ini : Rts (#[.float .f64 13830554455654793216, .float .f64 0, .float .f64 0, .float .f64 4607182418800017408, .float .f64 0, .float .f64 0, .float .f64 0, .float .f64 0, .float .f64 0, .float .f64 0, .float .f64 0, .float .f64 0, .float .f64 0, .float .f64 0, .float .f64 0, .float .f64 0, .float .f64 0, .float .f64 0, .float .f64 0, .float .f64 0, .float .f64 0, .float .f64 0, .float .f64 0, .float .f64 0, .float .f64 0, .float .f64 0, .float .f64 0, .float .f64 0, .float .f64 0, .float .f64 0, .float .f64 0, .float .f64 0, .float .f64 0, .float .f64 0, .float .f64 0, .float .f64 0, .float .f64 0, .float .f64 0, .float .f64 0, .float .f64 0] : Array Value) (upto 2) := ⟨rfl, fun i hi j hj => by rw [ini_lit]; exact ini_cell hi hj⟩
theorem own_setCells {B : Nat} {X : World} {r n : Nat} {t : TypeId} : ∀ (vs : List Value) (o : Nat) (W : World), Own B X r n t W → Own B X r n t (W.setCells r o vs)
  | [], _, _, h => h
  | v :: vs, o, W, h => own_setCells vs (o + 1) _ (h.set o v)
theorem own_setCells_other {B : Nat} {X : World} {r s n : Nat} {t : TypeId} (hs : B ≤ s) (hne : r ≠ s) : ∀ (vs : List Value) (o : Nat) (W : World), Own B X r n t W → Own B X r n t (W.setCells s o vs)
  | [], _, _, h => h
  | v :: vs, o, W, h => own_setCells_other hs hne vs (o + 1) _ (h.setOther hs hne v)
theorem two_setCells {B : Nat} {X W : World} {r s n : Nat} {t : TypeId} (h : Two B X r s n t W) (o : Nat) (vs : List Value) : Two B X r s n t (W.setCells s o vs) :=
  ⟨own_setCells_other h.b.lower h.ne vs o W h.a, own_setCells vs o W h.b, h.ne⟩
theorem two_setCellsA {B : Nat} {X W : World} {r s n : Nat} {t : TypeId} (h : Two B X r s n t W) (o : Nat) (vs : List Value) : Two B X r s n t (W.setCells r o vs) :=
  ⟨own_setCells vs o W h.a, own_setCells_other h.a.lower h.ne.symm vs o W h.b, h.ne⟩
theorem seg_of_range {B : Nat} {X W : World} {b : Nat} {c : Array Value} {on : Nat → Bool} (o : Own B X b 40 101 W) (hr : W.rangeAt b 0 c.toList) (hc : Rts c on) : SegM W b 101 20 2 (tabF on) := by
  obtain ⟨c', hb, hs⟩ := o.block
  refine ⟨c', hb, fun i hi j hj => ?_⟩
  have h1 := hr (i * 2 + j) _ (by rw [Array.getElem?_toList]; exact hc.cell i hi j hj)
  simp only [World.cell?, hb, Nat.zero_add] at h1
  simpa using h1
set_option maxHeartbeats 25600000 in
theorem circ_any (w : World) : Calls Try.prog 110 #[] w fun e w' => ∃ c, e = .returned (.agg c) ∧ Rts c (upto 20) ∧ Below w.heap.size w w' := by
  have hst := st64
  have hadd := add_run
  have hquo := quo_run
  have hc1 := cell_opW
  have hc2 := frozen_opW
  have hc3 := size_opW
  have hone : Fc 4607182418800017408 (cl 4607182418800017408) := ⟨by omega, rfl⟩
  have htwo : Fc 4611686018427387904 (cl 4611686018427387904) := ⟨by omega, rfl⟩
  have h0 : Two w.heap.size w w.heap.size (w.heap.size + 1) 40 101 ((w.alloc (.cells #[.float .f64 0, .float .f64 0, .float .f64 0, .float .f64 0, .float .f64 0, .float .f64 0, .float .f64 0, .float .f64 0, .float .f64 0, .float .f64 0, .float .f64 0, .float .f64 0, .float .f64 0, .float .f64 0, .float .f64 0, .float .f64 0, .float .f64 0, .float .f64 0, .float .f64 0, .float .f64 0, .float .f64 0, .float .f64 0, .float .f64 0, .float .f64 0, .float .f64 0, .float .f64 0, .float .f64 0, .float .f64 0, .float .f64 0, .float .f64 0, .float .f64 0, .float .f64 0, .float .f64 0, .float .f64 0, .float .f64 0, .float .f64 0, .float .f64 0, .float .f64 0, .float .f64 0, .float .f64 0] 101)).alloc (.cells #[.float .f64 0, .float .f64 0, .float .f64 0, .float .f64 0, .float .f64 0, .float .f64 0, .float .f64 0, .float .f64 0, .float .f64 0, .float .f64 0, .float .f64 0, .float .f64 0, .float .f64 0, .float .f64 0, .float .f64 0, .float .f64 0, .float .f64 0, .float .f64 0, .float .f64 0, .float .f64 0, .float .f64 0, .float .f64 0, .float .f64 0, .float .f64 0, .float .f64 0, .float .f64 0, .float .f64 0, .float .f64 0, .float .f64 0, .float .f64 0, .float .f64 0, .float .f64 0, .float .f64 0, .float .f64 0, .float .f64 0, .float .f64 0, .float .f64 0, .float .f64 0, .float .f64 0, .float .f64 0] 101)) := by
    have h1 := own_made (X := w) (B := w.heap.size) (t := 101) #[.float .f64 0, .float .f64 0, .float .f64 0, .float .f64 0, .float .f64 0, .float .f64 0, .float .f64 0, .float .f64 0, .float .f64 0, .float .f64 0, .float .f64 0, .float .f64 0, .float .f64 0, .float .f64 0, .float .f64 0, .float .f64 0, .float .f64 0, .float .f64 0, .float .f64 0, .float .f64 0, .float .f64 0, .float .f64 0, .float .f64 0, .float .f64 0, .float .f64 0, .float .f64 0, .float .f64 0, .float .f64 0, .float .f64 0, .float .f64 0, .float .f64 0, .float .f64 0, .float .f64 0, .float .f64 0, .float .f64 0, .float .f64 0, .float .f64 0, .float .f64 0, .float .f64 0, .float .f64 0] (Nat.le_refl _)
    have h2 := own_made (X := w.alloc (.cells #[.float .f64 0, .float .f64 0, .float .f64 0, .float .f64 0, .float .f64 0, .float .f64 0, .float .f64 0, .float .f64 0, .float .f64 0, .float .f64 0, .float .f64 0, .float .f64 0, .float .f64 0, .float .f64 0, .float .f64 0, .float .f64 0, .float .f64 0, .float .f64 0, .float .f64 0, .float .f64 0, .float .f64 0, .float .f64 0, .float .f64 0, .float .f64 0, .float .f64 0, .float .f64 0, .float .f64 0, .float .f64 0, .float .f64 0, .float .f64 0, .float .f64 0, .float .f64 0, .float .f64 0, .float .f64 0, .float .f64 0, .float .f64 0, .float .f64 0, .float .f64 0, .float .f64 0, .float .f64 0] 101)) (B := w.heap.size) (t := 101) #[.float .f64 0, .float .f64 0, .float .f64 0, .float .f64 0, .float .f64 0, .float .f64 0, .float .f64 0, .float .f64 0, .float .f64 0, .float .f64 0, .float .f64 0, .float .f64 0, .float .f64 0, .float .f64 0, .float .f64 0, .float .f64 0, .float .f64 0, .float .f64 0, .float .f64 0, .float .f64 0, .float .f64 0, .float .f64 0, .float .f64 0, .float .f64 0, .float .f64 0, .float .f64 0, .float .f64 0, .float .f64 0, .float .f64 0, .float .f64 0, .float .f64 0, .float .f64 0, .float .f64 0, .float .f64 0, .float .f64 0, .float .f64 0, .float .f64 0, .float .f64 0, .float .f64 0, .float .f64 0] (by simp)
    refine ⟨h1.alloc _, ⟨h1.below.trans h2.below, by omega, ?_⟩, by omega⟩
    have := h2.block
    simpa using this
  have hth := own_there h0.b
  go_enter Try.func110, Try.ntmps110
  go_wp2_with (first | (refine wpList_store_mid rfl 101 _ _ rfl (w.heap.size + 1) 0 _ rfl rfl hth info74 (rts_one rts_ini) ?_))
  go_loopw [8] (fun i wr => ∃ k : Nat, k ≤ 18 ∧ i = .int .i64 k ∧ Two w.heap.size w w.heap.size (w.heap.size + 1) 40 101 wr ∧ SegM wr (w.heap.size + 1) 101 20 2 (tabF (upto (k + 2)))) (fun i _ => 18 - (intOf i).toNat)
  case atStart =>
    have h1 := two_setCells h0 0 (#[.float .f64 13830554455654793216, .float .f64 0, .float .f64 0, .float .f64 4607182418800017408, .float .f64 0, .float .f64 0, .float .f64 0, .float .f64 0, .float .f64 0, .float .f64 0, .float .f64 0, .float .f64 0, .float .f64 0, .float .f64 0, .float .f64 0, .float .f64 0, .float .f64 0, .float .f64 0, .float .f64 0, .float .f64 0, .float .f64 0, .float .f64 0, .float .f64 0, .float .f64 0, .float .f64 0, .float .f64 0, .float .f64 0, .float .f64 0, .float .f64 0, .float .f64 0, .float .f64 0, .float .f64 0, .float .f64 0, .float .f64 0, .float .f64 0, .float .f64 0, .float .f64 0, .float .f64 0, .float .f64 0, .float .f64 0] : Array Value).toList
    exact ⟨0, by omega, rfl, h1, seg_of_range h1.b (World.rangeAt_setCells_same _ _ _ _ hth) rts_ini⟩
  case round =>
    obtain ⟨k, hk, rfl, ht, sg⟩ := hrel
    clear h0 hth
    by_cases hkn : k < 18
    · have u1 := uC_tab (k + 1) (by omega)
      have u2 := uC_tab (k + 2) (by omega)
      obtain ⟨b1, b2⟩ := uT_bd (i := k + 1) (by omega)
      obtain ⟨b3, b4⟩ := uT_bd (i := k + 2) (by omega)
      have L0 : wr.cell? ⟨w.heap.size + 1, (k + 1) * 2, none⟩ = some (.float .f64 (uT (k + 1)).1) := by
        have := sg.cell (i := k + 1) (j := 0) (by omega) (by omega)
        simpa [tabF, upto] using this
      have L1 : wr.cell? ⟨w.heap.size + 1, (k + 1) * 2 + 1, none⟩ = some (.float .f64 (uT (k + 1)).2) := by
        have := sg.cell (i := k + 1) (j := 1) (by omega) (by omega)
        simpa [tabF, upto] using this
      have hA : Fc (uT (k + 1)).1 (uC (k + 1)).1 := ⟨b1.1, by rw [u1, cl_num (b1.num (by omega))]⟩
      have hB : Fc (uT (k + 1)).2 (uC (k + 1)).2 := ⟨b2.1, by rw [u1, cl_num (b2.num (by omega))]⟩
      have HU : Hid (uC (k + 2) = (some (uT (k + 2)).1, some (uT (k + 2)).2) ∧ Bd (uT (k + 2)).1 1 ∧ Bd (uT (k + 2)).2 1) := ⟨u2, b3, b4⟩
      generalize (uT (k + 1)).1 = a at L0 hA
      generalize (uT (k + 1)).2 = b at L1 hB
      have HS : Hid (Two w.heap.size w w.heap.size (w.heap.size + 1) 40 101 wr ∧ SegM wr (w.heap.size + 1) 101 20 2 (tabF (upto (k + 2)))) := ⟨ht, sg⟩
      clear u1 u2 b1 b2 b3 b4 ht sg
      go_wp2_with fail
      refine (iSqrt_fc (fc_op .quo (fc_op .add hone hA _) htwo _) _).mono ?_
      rintro e w3 ⟨xx, q, rfl, hX, hw3⟩
      have t2 : Two w.heap.size w w.heap.size (w.heap.size + 1) 40 101 (wr.alloc (.cells #[.float .f64 a, .float .f64 b] 41)) := HS.out.1.alloc _
      have b3 : Below wr.heap.size wr w3 := by
        rw [hw3]
        exact below_drewN (below_opW (below_opW ((Below.refl _ _).alloc (Nat.le_refl _) _))) _
      have t3 : Two w.heap.size w w.heap.size (w.heap.size + 1) 40 101 w3 := HS.out.1.call b3
      have sg3 := HS.out.2.below b3
      have o0 : w3.cell? ⟨wr.heap.size, 0, none⟩ = some (.float .f64 a) := by rw [hw3]; simp only [World.cell?_drewN, cell_opW]; simp
      have o1 : w3.cell? ⟨wr.heap.size, 1, none⟩ = some (.float .f64 b) := by rw [hw3]; simp only [World.cell?_drewN, cell_opW]; simp
      have p0 : w3.cell? ⟨w.heap.size + 1, (k + 2) * 2, none⟩ = some (.float .f64 0) := by
        have := sg3.cell (i := k + 2) (j := 0) (by omega) (by omega)
        simpa [tabF, upto] using this
      have p1 : w3.cell? ⟨w.heap.size + 1, (k + 2) * 2 + 1, none⟩ = some (.float .f64 0) := by
        have := sg3.cell (i := k + 2) (j := 1) (by omega) (by omega)
        simpa [tabF, upto] using this
      have pf := fun j => Own.frozen t3.b j
      obtain ⟨yy, hyy⟩ : ∃ yy, yy = opV .quo b (opV .add xx xx w3) (opW .add xx xx w3) := ⟨_, rfl⟩
      have hq := fc_op .quo hB (fc_op .add hX hX w3) (opW .add xx xx w3)
      rw [← hyy] at hq
      have HX : Hid (xx = (uT (k + 2)).1 ∧ yy = (uT (k + 2)).2) := by
        obtain ⟨hu, c1, c2⟩ := HU.out
        have e : stepC (uC (k + 1)) = (some (uT (k + 2)).1, some (uT (k + 2)).2) := hu
        have e1 : cl xx = some (uT (k + 2)).1 := by rw [hX.c]; exact (Prod.mk.inj e).1
        have e2 : cl yy = some (uT (k + 2)).2 := by rw [hq.c]; exact (Prod.mk.inj e).2
        refine ⟨(cl_same (c1.num (by omega)) ?_).symm, (cl_same (c2.num (by omega)) ?_).symm⟩
        · rw [e1, cl_num (c1.num (by omega))]
        · rw [e2, cl_num (c2.num (by omega))]
      have HY3 : Hid (yy = opV .quo b (opV .add xx xx w3) (opW .add xx xx w3)) := hyy
      have H3 : Hid (Two w.heap.size w w.heap.size (w.heap.size + 1) 40 101 w3 ∧ SegM w3 (w.heap.size + 1) 101 20 2 (tabF (upto (k + 2)))) := ⟨t3, sg3⟩
      clear hw3 t2 b3 t3 sg3 L0 L1 hyy hq
      go_wp2
      rw [← HY3.out]
      go_roundw
      case rel =>
        obtain ⟨t3, sg3⟩ := H3.out
        obtain ⟨x1, y1⟩ := HX.out
        have bw : Below w3.heap.size w3 (opW .quo b (opV .add xx xx w3) (opW .add xx xx w3)) := below_opW (below_opW (Below.refl _ _))
        have t4 := t3.call bw
        have sg4 := sg3.below bw
        refine ⟨k + 1, by omega, by simp, (t4.setB _ _).setB _ _, ?_⟩
        have g0 := sg4.set (k := k + 2) (l := 0) (by omega) (by omega) xx
        have g1 := g0.set (k := k + 2) (l := 1) (by omega) (by omega) yy
        refine SegM.congr g1 fun i hi j hj => ?_
        by_cases e : i = k + 2
        · subst e
          match j, hj with
          | 0, _ => simp [tabF, upto, x1]
          | 1, _ => simp [tabF, upto, y1]
        · by_cases e2 : i < k + 2
          · simp [tabF, upto, e, e2, show i < k + 1 + 2 by omega]
          · simp [tabF, upto, e, e2, show ¬ i < k + 1 + 2 by omega]
      case measure => simp [intOf]; omega
    · obtain rfl : k = 18 := by omega
      obtain ⟨c, hc, hr⟩ := seg_rts sg ht.b
      have hth : wr.there w.heap.size 0 c.size := by rw [hc.size]; exact own_there ht.a
      have h1 := rts_one hc
      have hsz : (Try.prog.info? 101).map (·.size) = some c.size := by rw [hc.size]; exact info74
      have hsz' : (Try.prog.info? 101).map (·.size) = some c.toList.length := by rw [Array.length_toList]; exact hsz
      clear hadd hquo hc1 hc2 hc3
      go_wp2_with (first | (refine wpList_load_mid rfl 101 _ rfl (w.heap.size + 1) 0 rfl c.toList _ hr Try.underlying101 rfl hsz' ?_) | (refine wpList_store_mid rfl 101 _ _ rfl w.heap.size 0 c rfl rfl hth hsz h1 ?_))
      have t5 := two_setCellsA ht 0 c.toList
      have g5 := seg_of_range t5.a (World.rangeAt_setCells_same _ _ _ _ (by rw [Array.length_toList]; exact hth)) hc
      obtain ⟨c', hb', hs'⟩ := t5.a.block
      have hR : Rts c' (upto 20) := by
        obtain ⟨c2, h2, h3⟩ := g5
        rw [hb'] at h2
        simp only [Option.some.injEq, Obj.cells.injEq] at h2
        obtain ⟨rfl, _⟩ := h2
        exact ⟨hs', h3⟩
      exact bodyPost_ret (v := .agg c') (results_cell_row Try.results110 _ _ w.heap.size 101 c' (0, 0) _ rfl hb' Try.underlying101 rfl (by rw [hs']; exact info74)) rfl ⟨c', rfl, hR, t5.a.below⟩
end Go.Proofs.Ytnpcldgacdgplaa
namespace Go.Proofs.Ytnpcldgacdgplaa
open Go.RowKit Fl
set_option linter.unusedVariables false
set_option linter.unusedSimpArgs false
theorem and_one (x : Int) : bits .and .i64 x 1 = x % 2 := by
  have e : (BitVec.ofInt 64 x &&& BitVec.ofInt 64 1).toNat = (x % 2).toNat := by
    rw [BitVec.toNat_and, BitVec.toNat_ofInt, BitVec.toNat_ofInt]
    rw [show ((1 : Int) % ((2 ^ 64 : Nat) : Int)).toNat = 1 by decide, Nat.and_one_is_mod]
    have : ((2 ^ 64 : Nat) : Int) = 18446744073709551616 := by decide
    rw [this]
    omega
  show IntKind.i64.wrap (((BitVec.ofInt 64 x &&& BitVec.ofInt 64 1).toNat : Nat) : Int) = x % 2
  rw [e, IntKind.wrap_i64]
  omega
def onT (t : Int) (k : Nat) : Nat → Bool := fun i => if i < k then dig t i else true
theorem rts_on {c : Array Value} {f g : Nat → Bool} (h : Rts c f) (e : ∀ i, i < 20 → f i = g i) : Rts c g :=
  ⟨h.size, fun i hi j hj => by rw [h.cell i hi j hj]; unfold tabF; rw [e i hi]⟩
theorem rts_block {B : Nat} {X W : World} {b : Nat} {c : Array Value} {on : Nat → Bool} (o : Own B X b 40 101 W) (hr : W.rangeAt b 0 c.toList) (hc : Rts c on) : ∃ c', W.heap[b]? = some (.cells c' 101 (0, 0)) ∧ Rts c' on := by
  obtain ⟨c', hb', hs'⟩ := o.block
  obtain ⟨c2, h2, h3⟩ := seg_of_range o hr hc
  rw [hb'] at h2
  simp only [Option.some.injEq, Obj.cells.injEq] at h2
  obtain ⟨rfl, _⟩ := h2
  exact ⟨c', hb', hs', h3⟩
set_option maxHeartbeats 6400000 in
theorem taken_any (t : Int) (w : World) : Calls Try.prog 97 #[.int .i64 t] w fun e w' => ∃ c, e = .returned (.agg c) ∧ Rts c (dig t) ∧ Below w.heap.size w w' := by
  have hst := st64
  have h0 : Own w.heap.size w w.heap.size 40 101 (w.alloc (.cells #[.float .f64 0, .float .f64 0, .float .f64 0, .float .f64 0, .float .f64 0, .float .f64 0, .float .f64 0, .float .f64 0, .float .f64 0, .float .f64 0, .float .f64 0, .float .f64 0, .float .f64 0, .float .f64 0, .float .f64 0, .float .f64 0, .float .f64 0, .float .f64 0, .float .f64 0, .float .f64 0, .float .f64 0, .float .f64 0, .float .f64 0, .float .f64 0, .float .f64 0, .float .f64 0, .float .f64 0, .float .f64 0, .float .f64 0, .float .f64 0, .float .f64 0, .float .f64 0, .float .f64 0, .float .f64 0, .float .f64 0, .float .f64 0, .float .f64 0, .float .f64 0, .float .f64 0, .float .f64 0] 101)) := by
    have := own_made (X := w) (B := w.heap.size) (t := 101) #[.float .f64 0, .float .f64 0, .float .f64 0, .float .f64 0, .float .f64 0, .float .f64 0, .float .f64 0, .float .f64 0, .float .f64 0, .float .f64 0, .float .f64 0, .float .f64 0, .float .f64 0, .float .f64 0, .float .f64 0, .float .f64 0, .float .f64 0, .float .f64 0, .float .f64 0, .float .f64 0, .float .f64 0, .float .f64 0, .float .f64 0, .float .f64 0, .float .f64 0, .float .f64 0, .float .f64 0, .float .f64 0, .float .f64 0, .float .f64 0, .float .f64 0, .float .f64 0, .float .f64 0, .float .f64 0, .float .f64 0, .float .f64 0, .float .f64 0, .float .f64 0, .float .f64 0, .float .f64 0] (Nat.le_refl _)
    exact this
  go_enter Try.func97, Try.ntmps97
  go_wp2_with fail
  refine (circ_any _).mono ?_
  rintro e w1 ⟨c, rfl, hc, hb1⟩
  have h1 := h0.call hb1
  clear h0 hb1
  obtain ⟨K, hK⟩ : ∃ K, K = w1.heap.size := ⟨_, rfl⟩
  have hKr : w.heap.size < K := by rw [hK]; exact h1.lt
  have hT0 : Two w.heap.size w w.heap.size K 40 101 (w1.alloc (.cells #[.float .f64 0, .float .f64 0, .float .f64 0, .float .f64 0, .float .f64 0, .float .f64 0, .float .f64 0, .float .f64 0, .float .f64 0, .float .f64 0, .float .f64 0, .float .f64 0, .float .f64 0, .float .f64 0, .float .f64 0, .float .f64 0, .float .f64 0, .float .f64 0, .float .f64 0, .float .f64 0, .float .f64 0, .float .f64 0, .float .f64 0, .float .f64 0, .float .f64 0, .float .f64 0, .float .f64 0, .float .f64 0, .float .f64 0, .float .f64 0, .float .f64 0, .float .f64 0, .float .f64 0, .float .f64 0, .float .f64 0, .float .f64 0, .float .f64 0, .float .f64 0, .float .f64 0, .float .f64 0] 101)) := by
    have h2 := own_made (X := w1) (B := w.heap.size) (t := 101) #[.float .f64 0, .float .f64 0, .float .f64 0, .float .f64 0, .float .f64 0, .float .f64 0, .float .f64 0, .float .f64 0, .float .f64 0, .float .f64 0, .float .f64 0, .float .f64 0, .float .f64 0, .float .f64 0, .float .f64 0, .float .f64 0, .float .f64 0, .float .f64 0, .float .f64 0, .float .f64 0, .float .f64 0, .float .f64 0, .float .f64 0, .float .f64 0, .float .f64 0, .float .f64 0, .float .f64 0, .float .f64 0, .float .f64 0, .float .f64 0, .float .f64 0, .float .f64 0, .float .f64 0, .float .f64 0, .float .f64 0, .float .f64 0, .float .f64 0, .float .f64 0, .float .f64 0, .float .f64 0] (Nat.le_of_lt h1.lt)
    refine ⟨h1.alloc _, ⟨h1.below.trans h2.below, by omega, ?_⟩, by omega⟩
    rw [hK]
    exact h2.block
  have hth := own_there hT0.b
  rw [← hc.size] at hth
  have hsz : (Try.prog.info? 101).map (·.size) = some c.size := by rw [hc.size]; exact info74
  have hone := rts_one hc
  have HK : Hid (K = w1.heap.size) := hK
  clear h1
  subst hK
  clear HK
  go_wp2_with (first | (refine wpList_store_mid rfl 101 _ _ rfl w1.heap.size 0 c rfl rfl hth hsz hone ?_))
  go_loopw [6] (fun i wr => ∃ k : Nat, k ≤ 20 ∧ i = .int .i64 k ∧ Two w.heap.size w w.heap.size w1.heap.size 40 101 wr ∧ SegM wr w1.heap.size 101 20 2 (tabF (onT t k))) (fun i _ => 20 - (intOf i).toNat)
  case atStart =>
    have h1 := two_setCells hT0 0 c.toList
    exact ⟨0, by omega, rfl, h1, seg_of_range h1.b (World.rangeAt_setCells_same _ _ _ _ (by rw [Array.length_toList]; exact hth)) (rts_on hc (fun i hi => by simp [onT, upto, hi]))⟩
  case round =>
    obtain ⟨k, hk, rfl, ht, sg⟩ := hrel
    clear hT0 hth hsz hone hc
    by_cases hkn : k < 20
    · have hB := and_one (t / 2 ^ (19 - k))
      have hs0 : 0 ≤ 19 - (k : Int) := by omega
      have hs1 : 19 - (k : Int) ≤ 64 := by omega
      have hs2 : (19 - (k : Int)).toNat = 19 - k := by omega
      by_cases hd : t / 2 ^ (19 - k) % 2 = 1
      · rw [hd] at hB
        have hdg : dig t k = true := decide_eq_true hd
        have HS : Hid (Two w.heap.size w w.heap.size w1.heap.size 40 101 wr ∧ SegM wr w1.heap.size 101 20 2 (tabF (onT t k))) := ⟨ht, sg⟩
        clear ht sg hd
        go_wp2
        go_roundw
        case rel =>
          obtain ⟨ht, sg⟩ := HS.out
          refine ⟨k + 1, by omega, by simp, ht, sg.congr fun i hi j hj => ?_⟩
          unfold tabF onT
          by_cases e : i = k
          · subst e; simp [hdg]
          · by_cases e2 : i < k
            · simp [e2, show i < k + 1 by omega]
            · simp [e2, show ¬ i < k + 1 by omega]
        case measure => simp [intOf]; omega
      · have hd0 : t / 2 ^ (19 - k) % 2 = 0 := by omega
        rw [hd0] at hB
        have hdg : dig t k = false := decide_eq_false hd
        have p0 : wr.cell? ⟨w1.heap.size, k * 2, none⟩ = some (.float .f64 (tabF (onT t k) k 0)) := sg.cell hkn (show 0 < 2 by omega)
        have p1 : wr.cell? ⟨w1.heap.size, k * 2 + 1, none⟩ = some (.float .f64 (tabF (onT t k) k 1)) := sg.cell hkn (show 1 < 2 by omega)
        have pf := fun j => Own.frozen ht.b j
        have HS : Hid (Two w.heap.size w w.heap.size w1.heap.size 40 101 wr ∧ SegM wr w1.heap.size 101 20 2 (tabF (onT t k))) := ⟨ht, sg⟩
        clear ht sg hd hd0
        go_wp2
        go_roundw
        case rel =>
          obtain ⟨ht, sg⟩ := HS.out
          refine ⟨k + 1, by omega, by simp, (ht.setB _ _).setB _ _, ?_⟩
          have g0 := sg.set (k := k) (l := 0) hkn (by omega) 0
          have g1 := g0.set (k := k) (l := 1) hkn (by omega) 0
          refine SegM.congr g1 fun i hi j hj => ?_
          unfold tabF onT
          by_cases e : i = k
          · subst e
            match j, hj with
            | 0, _ => simp [hdg]
            | 1, _ => simp [hdg]
          · by_cases e2 : i < k
            · simp [e, e2, show i < k + 1 by omega]
            · simp [e, e2, show ¬ i < k + 1 by omega]
        case measure => simp [intOf]; omega
    · obtain rfl : k = 20 := by omega
      obtain ⟨c2, hc2, hr⟩ := seg_rts sg ht.b
      have hc3 : Rts c2 (dig t) := rts_on hc2 (fun i hi => by simp [onT, hi])
      have hth : wr.there w.heap.size 0 c2.size := by rw [hc2.size]; exact own_there ht.a
      have h1 := rts_one hc2
      have hsz : (Try.prog.info? 101).map (·.size) = some c2.size := by rw [hc2.size]; exact info74
      have hsz' : (Try.prog.info? 101).map (·.size) = some c2.toList.length := by rw [Array.length_toList]; exact hsz
      go_wp2_with (first | (refine wpList_load_mid rfl 101 _ rfl w1.heap.size 0 rfl c2.toList _ hr Try.underlying101 rfl hsz' ?_) | (refine wpList_store_mid rfl 101 _ _ rfl w.heap.size 0 c2 rfl rfl hth hsz h1 ?_))
      have t5 := two_setCellsA ht 0 c2.toList
      obtain ⟨c', hb', hR⟩ := rts_block t5.a (World.rangeAt_setCells_same _ _ _ _ (by rw [Array.length_toList]; exact hth)) hc3
      exact bodyPost_ret (v := .agg c') (results_cell_row Try.results97 _ _ w.heap.size 101 c' (0, 0) _ rfl hb' Try.underlying101 rfl (by rw [hR.size]; exact info74)) rfl ⟨c', rfl, hR, t5.a.below⟩
end Go.Proofs.Ytnpcldgacdgplaa
namespace Go.Proofs.Ytnpcldgacdgplaa
open Go.RowKit Fl
set_option linter.unusedVariables false
set_option linter.unusedSimpArgs false
/-- The elements one by one, till one differs. -/
theorem run_equalIn_array {P : Program} (d : Nat) (t e : TypeId) (n sz : Nat) (ht : P.underlying t = some (.array n e)) (hsz : ∀ w, (sizeOf e).run P w = .ok sz w) (xs ys : Array Value) (q : Nat → Bool)
    (hel : ∀ i, i < n → ∃ a b, (∀ w, (part e xs (i * sz)).run P w = .ok a w) ∧ (∀ w, (part e ys (i * sz)).run P w = .ok b w) ∧ ∀ w, (Op.equalIn d e a b).run P w = .ok (q i) w) (w : World) :
    (Op.equalIn (d + 1) t (.agg xs) (.agg ys)).run P w = .ok ((List.range n).all q) w := by
  rw [List.range_eq_range', Op.equalIn]
  simp only [Sem.run_bind, run_underlying ht, Result.andThen_ok, hsz, Std.Legacy.Range.forIn_eq_forIn_range', Std.Legacy.Range.size, Nat.sub_zero, Nat.add_sub_cancel, Nat.div_one]
  have hl : ∀ i ∈ List.range' 0 n 1, i < n := fun i hi => by simpa using (List.mem_range'_1.1 hi).2
  generalize List.range' 0 n 1 = l at hl ⊢
  induction l with
  | nil => simp
  | cons i l ih =>
    obtain ⟨a, b, pa, pb, pe⟩ := hel i (hl i (by simp))
    simp only [List.forIn_cons, Sem.run_bind, pa, pb, pe, Result.andThen_ok, List.all_cons]
    cases hq : q i
    · simp
    · simp only [Bool.not_true, Bool.false_eq_true, if_false, Sem.run_pure, Result.andThen_ok, Bool.true_and]
      exact ih fun j hj => hl j (by simp [hj])
theorem size28 (w : World) : (sizeOf 41).run Try.prog w = .ok 2 w := by
  have h : (Try.prog.info? 41).map (·.size) = some 2 := by kernel_rfl
  obtain ⟨i, hi, hs⟩ := Option.map_eq_some_iff.1 h
  simp [sizeOf, typeInfo, hi, hs]
theorem part_pair {c : Array Value} {on : Nat → Bool} (h : Rts c on) {i : Nat} (hi : i < 20) (w : World) : (part 41 c (i * 2)).run Try.prog w = .ok (Zv (tabF on i 0) (tabF on i 1)) w := by
  have h0 := h.cell i hi 0 (by omega)
  have h1 := h.cell i hi 1 (by omega)
  have e : c.extract (i * 2) (i * 2 + 2) = #[.float .f64 (tabF on i 0), .float .f64 (tabF on i 1)] := by
    apply Array.ext
    · simp; have := h.size; omega
    · intro j hj1 hj2
      simp at hj2
      rw [Array.getElem_extract]
      match j, hj2 with
      | 0, _ =>
        rw [Nat.add_zero] at h0
        have := (Array.getElem?_eq_some_iff.1 h0).2
        simpa using this
      | 1, _ =>
        have := (Array.getElem?_eq_some_iff.1 h1).2
        simpa using this
  simp [part, isAgg, run_underlying Try.underlying41, size28, e]
end Go.Proofs.Ytnpcldgacdgplaa
namespace Go.Proofs.Ytnpcldgacdgplaa
open Go.RowKit Fl
set_option linter.unusedVariables false
set_option linter.unusedSimpArgs false
theorem eq_float (d : Nat) (a b : Nat) (w : World) : (Op.equalIn (d + 1) 22 (.float .f64 a) (.float .f64 b)).run Try.prog w = .ok (oeq a b) w := by
  simp [Op.equalIn, run_underlying Try.underlying22, Op.floatEq, oeq]
theorem fields28 : Try.prog.underlying 41 = some (.struct (Try.prog.fieldsOf 41)) ∧ Try.prog.stoodInHeld 41 = false := ⟨by kernel_rfl, by kernel_rfl⟩
theorem eq_pair (d : Nat) (a b c e : Nat) (w : World) : (Op.equalIn (d + 2) 41 (Zv a b) (Zv c e)).run Try.prog w = .ok (oeq a c && oeq b e) w := by
  rw [run_equalIn_struct w (d + 1) 41 _ _ fields28.1 fields28.2]
  have hf : (Try.prog.fieldsOf 41).toList.map (fun f => (f.name, f.type, f.offset)) = [("Re", 22, 0), ("Im", 22, 1)] := by kernel_rfl
  generalize (Try.prog.fieldsOf 41).toList = fs at hf
  obtain ⟨f0, f1, rfl⟩ : ∃ f0 f1, fs = [f0, f1] := by
    have h := congrArg List.length hf
    rw [List.length_map] at h
    match fs, h with
    | [a, b], _ => exact ⟨a, b, rfl⟩
  · simp only [List.map_cons, List.map_nil, List.cons.injEq, Prod.mk.injEq, and_true] at hf
    obtain ⟨⟨n0, t0, o0⟩, n1, t1, o1⟩ := hf
    have p : ∀ (x y : Nat) (w : World), (part 22 #[.float .f64 x, .float .f64 y] 0).run Try.prog w = .ok (.float .f64 x) w ∧ (part 22 #[.float .f64 x, .float .f64 y] 1).run Try.prog w = .ok (.float .f64 y) w := fun x y w => by
      constructor <;> simp [part, isAgg, run_underlying Try.underlying22]
    simp only [Op.eqFields, n0, t0, o0, n1, t1, o1]
    simp only [Sem.run_bind, (p a b _).1, (p c e _).1, (p a b _).2, (p c e _).2, Result.andThen_ok, eq_float, Sem.run_ite, Sem.run_pure, if_pos (show ("Re" : String) ≠ "_" by decide), if_pos (show ("Im" : String) ≠ "_" by decide)]
    cases oeq a c <;> cases oeq b e <;> simp
theorem rts_zero : Rts (#[.float .f64 0, .float .f64 0, .float .f64 0, .float .f64 0, .float .f64 0, .float .f64 0, .float .f64 0, .float .f64 0, .float .f64 0, .float .f64 0, .float .f64 0, .float .f64 0, .float .f64 0, .float .f64 0, .float .f64 0, .float .f64 0, .float .f64 0, .float .f64 0, .float .f64 0, .float .f64 0, .float .f64 0, .float .f64 0, .float .f64 0, .float .f64 0, .float .f64 0, .float .f64 0, .float .f64 0, .float .f64 0, .float .f64 0, .float .f64 0, .float .f64 0, .float .f64 0, .float .f64 0, .float .f64 0, .float .f64 0, .float .f64 0, .float .f64 0, .float .f64 0, .float .f64 0, .float .f64 0] : Array Value) (fun _ => false) := by
  refine ⟨rfl, ?_⟩
  have h : (#[.float .f64 0, .float .f64 0, .float .f64 0, .float .f64 0, .float .f64 0, .float .f64 0, .float .f64 0, .float .f64 0, .float .f64 0, .float .f64 0, .float .f64 0, .float .f64 0, .float .f64 0, .float .f64 0, .float .f64 0, .float .f64 0, .float .f64 0, .float .f64 0, .float .f64 0, .float .f64 0, .float .f64 0, .float .f64 0, .float .f64 0, .float .f64 0, .float .f64 0, .float .f64 0, .float .f64 0, .float .f64 0, .float .f64 0, .float .f64 0, .float .f64 0, .float .f64 0, .float .f64 0, .float .f64 0, .float .f64 0, .float .f64 0, .float .f64 0, .float .f64 0, .float .f64 0, .float .f64 0] : Array Value) = (Array.range 40).map fun _ => .float .f64 0 := by kernel_rfl
  intro i hi j hj
  rw [h, Array.getElem?_map, Array.getElem?_range]
  simp [show i * 2 + j < 40 by omega, tabF]
def zeros (on : Nat → Bool) : Bool := (List.range 20).all fun i => oeq (tabF on i 0) 0 && oeq (tabF on i 1) 0
theorem eq_array {c : Array Value} {on : Nat → Bool} (h : Rts c on) (w : World) : (binOp .eql 101 (.agg c) (.agg #[.float .f64 0, .float .f64 0, .float .f64 0, .float .f64 0, .float .f64 0, .float .f64 0, .float .f64 0, .float .f64 0, .float .f64 0, .float .f64 0, .float .f64 0, .float .f64 0, .float .f64 0, .float .f64 0, .float .f64 0, .float .f64 0, .float .f64 0, .float .f64 0, .float .f64 0, .float .f64 0, .float .f64 0, .float .f64 0, .float .f64 0, .float .f64 0, .float .f64 0, .float .f64 0, .float .f64 0, .float .f64 0, .float .f64 0, .float .f64 0, .float .f64 0, .float .f64 0, .float .f64 0, .float .f64 0, .float .f64 0, .float .f64 0, .float .f64 0, .float .f64 0, .float .f64 0, .float .f64 0])).run Try.prog w = .ok (.bool (zeros on)) w := by
  rw [run_eql_struct]
  have := run_equalIn_array (P := Try.prog) 9999 101 41 20 2 Try.underlying101 size28 c #[.float .f64 0, .float .f64 0, .float .f64 0, .float .f64 0, .float .f64 0, .float .f64 0, .float .f64 0, .float .f64 0, .float .f64 0, .float .f64 0, .float .f64 0, .float .f64 0, .float .f64 0, .float .f64 0, .float .f64 0, .float .f64 0, .float .f64 0, .float .f64 0, .float .f64 0, .float .f64 0, .float .f64 0, .float .f64 0, .float .f64 0, .float .f64 0, .float .f64 0, .float .f64 0, .float .f64 0, .float .f64 0, .float .f64 0, .float .f64 0, .float .f64 0, .float .f64 0, .float .f64 0, .float .f64 0, .float .f64 0, .float .f64 0, .float .f64 0, .float .f64 0, .float .f64 0, .float .f64 0] (fun i => oeq (tabF on i 0) 0 && oeq (tabF on i 1) 0) (fun i hi => ⟨Zv (tabF on i 0) (tabF on i 1), Zv 0 0, part_pair h hi, fun w => by
    have := part_pair rts_zero hi w
    simpa [tabF] using this, fun w => eq_pair 9997 _ _ _ _ w⟩) w
  rw [this]
  rfl
theorem oeq_zero {x : Nat} (hx : W64 x) (n : Num x) : oeq x 0 = decide (rg x = 0) := eql_zero hx n
theorem on_zero {on : Nat → Bool} {i : Nat} (hi : i < 20) : (oeq (tabF on i 0) 0 && oeq (tabF on i 1) 0) = !on i := by
  unfold tabF
  cases h : on i
  · simp only [Bool.false_eq_true, if_false, Bool.not_false]
    decide
  · simp only [if_true, Bool.not_true]
    obtain ⟨b1, b2⟩ := uT_bd hi
    have hn := uT_ne hi
    rw [show (if (1 : Nat) = 0 then (uT i).1 else (uT i).2) = (uT i).2 from rfl, oeq_zero b1.1 (b1.num (by omega)), oeq_zero b2.1 (b2.num (by omega))]
    rcases hn with hn | hn
    · rw [decide_eq_false hn]; rfl
    · rw [decide_eq_false hn]; simp
theorem zeros_none {t : Int} (h : zeros (dig t) = true) : turnC t = (cl 4607182418800017408, cl 0) := by
  unfold zeros at h
  rw [List.all_eq_true] at h
  have := fold_rest (t := t) (i := 0) (n := 20) (fun j _ hj => by
    have := h j (by simp; omega)
    rw [on_zero (by omega)] at this
    simpa using this)
  rw [Nat.zero_add] at this
  exact this
theorem idx_pair {c : Array Value} {on : Nat → Bool} (h : Rts c on) {k : Nat} (hk : k < 20) (w : World) : (Instr.index 101 (.agg c) (.int .i64 (k : Int))).run Try.prog w = .ok (Zv (tabF on k 0) (tabF on k 1)) w := by
  have hp := part_pair h hk w
  have h1 : ¬ ((k : Int) < 0) := by omega
  have h2 : ¬ ((20 : Int) ≤ k) := by omega
  simp [Instr.index, run_underlying Try.underlying101, asInt, asIntOf, size28, hp, h1, h2, hk]
set_option maxRecDepth 100000 in
set_option maxHeartbeats 12800000 in
theorem iTurn_any (t : Int) (w : World) : ZV 75 #[.int .i64 t] w (turnC t) := by
  unfold ZV
  have hst := st64
  have h0 : Two w.heap.size w w.heap.size (w.heap.size + 1) 2 41 ((w.alloc (.cells #[.float .f64 0, .float .f64 0] 41)).alloc (.cells #[.float .f64 4607182418800017408, .float .f64 0] 41)) := by
    have h1 := own_made (X := w) (B := w.heap.size) (t := 41) #[.float .f64 0, .float .f64 0] (Nat.le_refl _)
    have h2 := own_made (X := w.alloc (.cells #[.float .f64 0, .float .f64 0] 41)) (B := w.heap.size) (t := 41) #[.float .f64 4607182418800017408, .float .f64 0] (by simp)
    refine ⟨h1.alloc _, ⟨h1.below.trans h2.below, by omega, ?_⟩, by omega⟩
    have := h2.block
    simpa using this
  go_enter Try.func75, Try.ntmps75
  go_wp2_with fail
  refine (taken_any t _).mono ?_
  rintro e w1 ⟨c, rfl, hc, hb1⟩
  have h1 := h0.call hb1
  have x0 : w1.cell? ⟨w.heap.size + 1, 0, none⟩ = some (.float .f64 4607182418800017408) := old_cell hb1 (by simp) (by simp)
  have x1 : w1.cell? ⟨w.heap.size + 1, 1, none⟩ = some (.float .f64 0) := old_cell hb1 (by simp) (by simp)
  clear h0 hb1
  have hA : Own w.heap.size w w1.heap.size 40 101 (w1.alloc (.cells #[.float .f64 0, .float .f64 0, .float .f64 0, .float .f64 0, .float .f64 0, .float .f64 0, .float .f64 0, .float .f64 0, .float .f64 0, .float .f64 0, .float .f64 0, .float .f64 0, .float .f64 0, .float .f64 0, .float .f64 0, .float .f64 0, .float .f64 0, .float .f64 0, .float .f64 0, .float .f64 0, .float .f64 0, .float .f64 0, .float .f64 0, .float .f64 0, .float .f64 0, .float .f64 0, .float .f64 0, .float .f64 0, .float .f64 0, .float .f64 0, .float .f64 0, .float .f64 0, .float .f64 0, .float .f64 0, .float .f64 0, .float .f64 0, .float .f64 0, .float .f64 0, .float .f64 0, .float .f64 0] 101)) := by
    have h2 := own_made (X := w1) (B := w.heap.size) (t := 101) #[.float .f64 0, .float .f64 0, .float .f64 0, .float .f64 0, .float .f64 0, .float .f64 0, .float .f64 0, .float .f64 0, .float .f64 0, .float .f64 0, .float .f64 0, .float .f64 0, .float .f64 0, .float .f64 0, .float .f64 0, .float .f64 0, .float .f64 0, .float .f64 0, .float .f64 0, .float .f64 0, .float .f64 0, .float .f64 0, .float .f64 0, .float .f64 0, .float .f64 0, .float .f64 0, .float .f64 0, .float .f64 0, .float .f64 0, .float .f64 0, .float .f64 0, .float .f64 0, .float .f64 0, .float .f64 0, .float .f64 0, .float .f64 0, .float .f64 0, .float .f64 0, .float .f64 0, .float .f64 0] (Nat.le_of_lt h1.a.lt)
    exact ⟨h1.a.below.trans h2.below, Nat.le_of_lt h1.a.lt, h2.block⟩
  have hth := own_there hA
  rw [← hc.size] at hth
  have hsz : (Try.prog.info? 101).map (·.size) = some c.size := by rw [hc.size]; exact info74
  have hsz' : (Try.prog.info? 101).map (·.size) = some c.toList.length := by rw [Array.length_toList]; exact hsz
  have hone := rts_one hc
  have hrg : ((w1.alloc (.cells #[.float .f64 0, .float .f64 0, .float .f64 0, .float .f64 0, .float .f64 0, .float .f64 0, .float .f64 0, .float .f64 0, .float .f64 0, .float .f64 0, .float .f64 0, .float .f64 0, .float .f64 0, .float .f64 0, .float .f64 0, .float .f64 0, .float .f64 0, .float .f64 0, .float .f64 0, .float .f64 0, .float .f64 0, .float .f64 0, .float .f64 0, .float .f64 0, .float .f64 0, .float .f64 0, .float .f64 0, .float .f64 0, .float .f64 0, .float .f64 0, .float .f64 0, .float .f64 0, .float .f64 0, .float .f64 0, .float .f64 0, .float .f64 0, .float .f64 0, .float .f64 0, .float .f64 0, .float .f64 0] 101)).setCells w1.heap.size 0 c.toList).rangeAt w1.heap.size 0 c.toList := World.rangeAt_setCells_same _ _ _ _ (by rw [Array.length_toList]; exact hth)
  have hlt := h1.b.lt
  have heq := eq_array hc
  obtain ⟨bb, hbb⟩ : ∃ bb, bb = zeros (dig t) := ⟨_, rfl⟩
  rw [← hbb] at heq
  have HB : Hid (bb = zeros (dig t)) := hbb
  clear hbb
  go_upto_region 3 with (first | (refine wpList_store_mid rfl 101 _ _ rfl w1.heap.size 0 c rfl rfl hth hsz hone ?_))
  have y0 : ((w1.alloc (.cells #[.float .f64 0, .float .f64 0, .float .f64 0, .float .f64 0, .float .f64 0, .float .f64 0, .float .f64 0, .float .f64 0, .float .f64 0, .float .f64 0, .float .f64 0, .float .f64 0, .float .f64 0, .float .f64 0, .float .f64 0, .float .f64 0, .float .f64 0, .float .f64 0, .float .f64 0, .float .f64 0, .float .f64 0, .float .f64 0, .float .f64 0, .float .f64 0, .float .f64 0, .float .f64 0, .float .f64 0, .float .f64 0, .float .f64 0, .float .f64 0, .float .f64 0, .float .f64 0, .float .f64 0, .float .f64 0, .float .f64 0, .float .f64 0, .float .f64 0, .float .f64 0, .float .f64 0, .float .f64 0] 101)).setCells w1.heap.size 0 c.toList).cell? ⟨w.heap.size + 1, 0, none⟩ = some (.float .f64 4607182418800017408) := by
    rw [World.cell?_setCells_out _ _ _ _ _ (fun h => absurd h (by simp; omega))]
    exact alloc_keeps x0
  have y1 : ((w1.alloc (.cells #[.float .f64 0, .float .f64 0, .float .f64 0, .float .f64 0, .float .f64 0, .float .f64 0, .float .f64 0, .float .f64 0, .float .f64 0, .float .f64 0, .float .f64 0, .float .f64 0, .float .f64 0, .float .f64 0, .float .f64 0, .float .f64 0, .float .f64 0, .float .f64 0, .float .f64 0, .float .f64 0, .float .f64 0, .float .f64 0, .float .f64 0, .float .f64 0, .float .f64 0, .float .f64 0, .float .f64 0, .float .f64 0, .float .f64 0, .float .f64 0, .float .f64 0, .float .f64 0, .float .f64 0, .float .f64 0, .float .f64 0, .float .f64 0, .float .f64 0, .float .f64 0, .float .f64 0, .float .f64 0] 101)).setCells w1.heap.size 0 c.toList).cell? ⟨w.heap.size + 1, 1, none⟩ = some (.float .f64 0) := by
    rw [World.cell?_setCells_out _ _ _ _ _ (fun h => absurd h (by simp; omega))]
    exact alloc_keeps x1
  have hV : Two w.heap.size w w.heap.size (w.heap.size + 1) 2 41 ((w1.alloc (.cells #[.float .f64 0, .float .f64 0, .float .f64 0, .float .f64 0, .float .f64 0, .float .f64 0, .float .f64 0, .float .f64 0, .float .f64 0, .float .f64 0, .float .f64 0, .float .f64 0, .float .f64 0, .float .f64 0, .float .f64 0, .float .f64 0, .float .f64 0, .float .f64 0, .float .f64 0, .float .f64 0, .float .f64 0, .float .f64 0, .float .f64 0, .float .f64 0, .float .f64 0, .float .f64 0, .float .f64 0, .float .f64 0, .float .f64 0, .float .f64 0, .float .f64 0, .float .f64 0, .float .f64 0, .float .f64 0, .float .f64 0, .float .f64 0, .float .f64 0, .float .f64 0, .float .f64 0, .float .f64 0] 101)).setCells w1.heap.size 0 c.toList) := by
    have ha := h1.alloc (.cells #[.float .f64 0, .float .f64 0, .float .f64 0, .float .f64 0, .float .f64 0, .float .f64 0, .float .f64 0, .float .f64 0, .float .f64 0, .float .f64 0, .float .f64 0, .float .f64 0, .float .f64 0, .float .f64 0, .float .f64 0, .float .f64 0, .float .f64 0, .float .f64 0, .float .f64 0, .float .f64 0, .float .f64 0, .float .f64 0, .float .f64 0, .float .f64 0, .float .f64 0, .float .f64 0, .float .f64 0, .float .f64 0, .float .f64 0, .float .f64 0, .float .f64 0, .float .f64 0, .float .f64 0, .float .f64 0, .float .f64 0, .float .f64 0, .float .f64 0, .float .f64 0, .float .f64 0, .float .f64 0] 101)
    have hl := h1.a.lt
    exact ⟨own_setCells_other (by omega) (by omega) _ _ _ ha.a, own_setCells_other (by omega) (by omega) _ _ _ ha.b, ha.ne⟩
  generalize ((w1.alloc (.cells #[.float .f64 0, .float .f64 0, .float .f64 0, .float .f64 0, .float .f64 0, .float .f64 0, .float .f64 0, .float .f64 0, .float .f64 0, .float .f64 0, .float .f64 0, .float .f64 0, .float .f64 0, .float .f64 0, .float .f64 0, .float .f64 0, .float .f64 0, .float .f64 0, .float .f64 0, .float .f64 0, .float .f64 0, .float .f64 0, .float .f64 0, .float .f64 0, .float .f64 0, .float .f64 0, .float .f64 0, .float .f64 0, .float .f64 0, .float .f64 0, .float .f64 0, .float .f64 0, .float .f64 0, .float .f64 0, .float .f64 0, .float .f64 0, .float .f64 0, .float .f64 0, .float .f64 0, .float .f64 0] 101)).setCells w1.heap.size 0 c.toList) = V at *
  clear hth hA x0 x1 h1 hsz hone
  have r0 := Own.cell hV.a (show 0 < 2 by omega)
  have r1 := Own.cell hV.a (show 1 < 2 by omega)
  have rf := fun j => Own.frozen hV.a j
  cases bb
  · go_wp2_with (first | (refine wpList_load_mid rfl 101 _ rfl w1.heap.size 0 rfl c.toList _ hrg Try.underlying101 rfl hsz' ?_))
    clear hrg hsz' heq HB r0 r1 rf hlt
    go_loopw [15] (fun i wr => ∃ k x y : Nat, k ≤ 20 ∧ i = .int .i64 k ∧ Two w.heap.size w w.heap.size (w.heap.size + 1) 2 41 wr ∧ wr.cell? ⟨w.heap.size + 1, 0, none⟩ = some (.float .f64 x) ∧ wr.cell? ⟨w.heap.size + 1, 1, none⟩ = some (.float .f64 y) ∧ Zc x y (foldT t k)) (fun i _ => 20 - (intOf i).toNat)
    case atStart => exact ⟨0, 4607182418800017408, 0, by omega, rfl, hV, y0, y1, ⟨by omega, by omega, rfl⟩⟩
    case round =>
      obtain ⟨k, x, y, hk, rfl, ht, c0, c1, hz⟩ := hrel
      clear hV y0 y1
      by_cases hkn : k < 20
      · obtain ⟨a, ha⟩ : ∃ a, a = tabF (dig t) k 0 := ⟨_, rfl⟩
        obtain ⟨b, hb⟩ : ∃ b, b = tabF (dig t) k 1 := ⟨_, rfl⟩
        have hidx := idx_pair hc hkn
        rw [← ha, ← hb] at hidx
        obtain ⟨dg, hdg⟩ : ∃ dg, dg = dig t k := ⟨_, rfl⟩
        have hneq : ∀ w, (binOp .neq 41 (Zv a b) (Zv 0 0)).run Try.prog w = .ok (.bool dg) w := fun w => by
          have e : (oeq a 0 && oeq b 0) = !dg := by rw [ha, hb, hdg]; exact on_zero hkn
          rw [run_neq_struct, eq_pair 9998, Result.andThen_ok, e]
          simp
        have q0 : ∀ o, (wr.alloc o).cell? ⟨w.heap.size + 1, 0, none⟩ = some (.float .f64 x) := fun o => alloc_keeps c0
        have q1 : ∀ o, (wr.alloc o).cell? ⟨w.heap.size + 1, 1, none⟩ = some (.float .f64 y) := fun o => alloc_keeps c1
        have hlt := ht.b.lt
        have hne : ¬ w.heap.size + 1 = wr.heap.size := by omega
        have HT0 : Hid (Two w.heap.size w w.heap.size (w.heap.size + 1) 2 41 wr) := ht
        have hfold : foldT t (k + 1) = if dig t k = true then mulC (foldT t k) (uC k) else foldT t k := rfl
        rw [← hdg] at hfold
        cases dg
        · have HF : Hid (foldT t (k + 1) = foldT t k) := hfold
          clear ht hfold hdg ha hb c0 c1
          go_wp2
          go_roundw
          case rel => exact ⟨k + 1, x, y, by omega, by simp, HT0.out.alloc _, q0 _, q1 _, by rw [HF.out]; exact hz⟩
          case measure => simp [intOf]; omega
        · have HF : Hid (foldT t (k + 1) = mulC (foldT t k) (uC k)) := hfold
          have hu : Zc a b (uC k) := by
            obtain ⟨b1, b2⟩ := uT_bd hkn
            have ea : a = (uT k).1 := by rw [ha]; unfold tabF; rw [← hdg]; rfl
            have eb : b = (uT k).2 := by rw [hb]; unfold tabF; rw [← hdg]; rfl
            exact ⟨by rw [ea]; exact b1.1, by rw [eb]; exact b2.1, by rw [uC_tab k hkn, ea, eb, cl_num (b1.num (by omega)), cl_num (b2.num (by omega))]⟩
          clear ht hfold hdg ha hb c0 c1
          go_wp2_with fail
          refine (iMul_any hz hu _).mono ?_
          rintro e w3 ⟨x2, y2, rfl, hz2, hb2⟩
          have t3 : Two w.heap.size w w.heap.size (w.heap.size + 1) 2 41 w3 := (HT0.out.alloc _).call hb2
          have e0 := Own.cell t3.b (show 0 < 2 by omega)
          have e1 := Own.cell t3.b (show 1 < 2 by omega)
          have ef := fun j => Own.frozen t3.b j
          have HT3 : Hid (Two w.heap.size w w.heap.size (w.heap.size + 1) 2 41 ((w3.setCell ⟨w.heap.size + 1, 0, none⟩ (.float .f64 x2)).setCell ⟨w.heap.size + 1, 1, none⟩ (.float .f64 y2))) := (t3.setB _ _).setB _ _
          clear q0 q1 hb2 t3 hidx hneq
          go_wp2
          go_roundw
          case rel => exact ⟨k + 1, x2, y2, by omega, by simp, HT3.out, by go_simp, by go_simp, by rw [HF.out]; exact hz2⟩
          case measure => simp [intOf]; omega
      · obtain rfl : k = 20 := by omega
        have r0 := Own.cell ht.a (show 0 < 2 by omega)
        have r1 := Own.cell ht.a (show 1 < 2 by omega)
        have rf := fun j => Own.frozen ht.a j
        go_wp2
        refine bodyPost_ret (v := Zv _ _) (by simp [results, Try.results75, go_sem, r0, r1] <;> first | exact ⟨rfl, rfl⟩ | rfl) rfl ⟨_, _, rfl, hz, ((ht.setA _ _).setA _ _).a.below⟩
  · have HE : Hid (turnC t = (cl 4607182418800017408, cl 0)) := zeros_none HB.out.symm
    go_wp2_with (first | (refine wpList_load_mid rfl 101 _ rfl w1.heap.size 0 rfl c.toList _ hrg Try.underlying101 rfl hsz' ?_))
    refine bodyPost_ret (v := Zv _ _) (by simp [results, Try.results75, go_sem, r0, r1] <;> first | exact ⟨rfl, rfl⟩ | rfl) rfl ⟨4607182418800017408, 0, rfl, ⟨by omega, by omega, HE.out.symm⟩, ((hV.setA _ _).setA _ _).a.below⟩
end Go.Proofs.Ytnpcldgacdgplaa
