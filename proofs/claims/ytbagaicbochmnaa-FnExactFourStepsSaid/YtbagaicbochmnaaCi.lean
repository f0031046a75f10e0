/- The program's unit roots in an array: contract. -/
import Derived.Test.YtbagaicbochmnaaTt
import Derived.Deep.MidRow
namespace Go.Proofs.Ytbagaicbochmnaa
open Go.RowKit Fl
set_option linter.unusedVariables false
set_option linter.unusedSimpArgs false
/-- The first m unit roots. -/
def tabF (on : Nat → Bool) (i j : Nat) : Nat := if on i = true then (if j = 0 then (uT i).1 else (uT i).2) else 0
def upto (m : Nat) : Nat → Bool := fun i => decide (i < m)
/-- An array of twenty numbers: the unit roots that are on, noughts for the others. -/
structure Rts (c : Array Value) (on : Nat → Bool) : Prop where
  size : c.size = 40
  cell : ∀ i, i < 20 → ∀ j, j < 2 → c[i * 2 + j]? = some (.float .f64 (tabF on i j))
theorem info74 : (Try.prog.info? 84).map (·.size) = some 40 := by kernel_rfl
theorem rts_one {c : Array Value} {on : Nat → Bool} (h : Rts c on) : c.all (·.oneCell') = true := by
  rw [Array.all_eq_true]
  intro i hi
  have h2 := h.cell (i / 2) (by have := h.size; omega) (i % 2) (by omega)
  have e : i / 2 * 2 + i % 2 = i := by omega
  rw [e, Array.getElem?_eq_getElem hi] at h2
  rw [Option.some.inj h2]
  rfl
theorem seg_rts {W : World} {b : Nat} {on : Nat → Bool} {B : Nat} {X : World} (h : SegM W b 84 20 2 (tabF on)) (o : Own B X b 40 84 W) : ∃ c : Array Value, Rts c on ∧ W.rangeAt b 0 c.toList := by
  obtain ⟨c, hb, hc⟩ := h
  obtain ⟨c', hb', hs⟩ := o.block
  rw [hb] at hb'
  simp only [Option.some.injEq, Obj.cells.injEq] at hb'
  obtain ⟨rfl, _⟩ := hb'
  refine ⟨c, ⟨hs, hc⟩, fun j v hv => ?_⟩
  simp only [World.cell?, hb]
  simpa using hv
theorem own_there {B : Nat} {X W : World} {r n : Nat} {t : TypeId} (h : Own B X r n t W) : W.there r 0 n := fun j hj => by
  rw [Nat.zero_add]
  exact ⟨by rw [h.cell hj]; rfl, h.frozen j⟩
theorem heap_new {W : World} {c : Array Value} {t : TypeId} {r : Nat} (hr : r = W.heap.size) : (W.alloc (.cells c t)).heap[r]? = some (.cells c t (0, 0)) := by
  subst hr
  show (W.heap.push _)[W.heap.size]? = _
  simp
def ini40 : Array Value := (Array.range 40).map fun c => .float .f64 (tabF (upto 2) (c / 2) (c % 2))
theorem ini_lit : (#[.float .f64 13830554455654793216, .float .f64 0, .float .f64 0, .float .f64 4607182418800017408, .float .f64 0, .float .f64 0, .float .f64 0, .float .f64 0, .float .f64 0, .float .f64 0, .float .f64 0, .float .f64 0, .float .f64 0, .float .f64 0, .float .f64 0, .float .f64 0, .float .f64 0, .float .f64 0, .float .f64 0, .float .f64 0, .float .f64 0, .float .f64 0, .float .f64 0, .float .f64 0, .float .f64 0, .float .f64 0, .float .f64 0, .float .f64 0, .float .f64 0, .float .f64 0, .float .f64 0, .float .f64 0, .float .f64 0, .float .f64 0, .float .f64 0, .float .f64 0, .float .f64 0, .float .f64 0, .float .f64 0, .float .f64 0] : Array Value) = ini40 := by kernel_rfl
theorem ini_cell {i j : Nat} (hi : i < 20) (hj : j < 2) : ini40[i * 2 + j]? = some (.float .f64 (tabF (upto 2) i j)) := by
  unfold ini40
  rw [Array.getElem?_map, Array.getElem?_range]
  have e1 : (i * 2 + j) / 2 = i := by omega
  have e2 : (i * 2 + j) % 2 = j := by omega
  simp [show i * 2 + j < 40 by omega, e1, e2]
theorem rts_ini : Rts (#[.float .f64 13830554455654793216, .float .f64 0, .float .f64 0, .float .f64 4607182418800017408, .float .f64 0, .float .f64 0, .float .f64 0, .float .f64 0, .float .f64 0, .float .f64 0, .float .f64 0, .float .f64 0, .float .f64 0, .float .f64 0, .float .f64 0, .float .f64 0, .float .f64 0, .float .f64 0, .float .f64 0, .float .f64 0, .float .f64 0, .float .f64 0, .float .f64 0, .float .f64 0, .float .f64 0, .float .f64 0, .float .f64 0, .float .f64 0, .float .f64 0, .float .f64 0, .float .f64 0, .float .f64 0, .float .f64 0, .float .f64 0, .float .f64 0, .float .f64 0, .float .f64 0, .float .f64 0, .float .f64 0, .float .f64 0] : Array Value) (upto 2) := ⟨rfl, fun i hi j hj => by rw [ini_lit]; exact ini_cell hi hj⟩
theorem own_setCells {B : Nat} {X : World} {r n : Nat} {t : TypeId} : ∀ (vs : List Value) (o : Nat) (W : World), Own B X r n t W → Own B X r n t (W.setCells r o vs)
  | [], _, _, h => h
  | v :: vs, o, W, h => own_setCells vs (o + 1) _ (h.set o v)
theorem own_setCells_other {B : Nat} {X : World} {r s n : Nat} {t : TypeId} (hs : B ≤ s) (hne : r ≠ s) : ∀ (vs : List Value) (o : Nat) (W : World), Own B X r n t W → Own B X r n t (W.setCells s o vs)
  | [], _, _, h => h
  | v :: vs, o, W, h => own_setCells_other hs hne vs (o + 1) _ (h.setOther hs hne v)
theorem two_setCells {B : Nat} {X W : World} {r s n : Nat} {t : TypeId} (h : Two B X r s n t W) (o : Nat) (vs : List Value) : Two B X r s n t (W.setCells s o vs) :=
  ⟨own_setCells_other h.b.lower h.ne vs o W h.a, own_setCells vs o W h.b, h.ne⟩
theorem two_setCellsA {B : Nat} {X W : World} {r s n : Nat} {t : TypeId} (h : Two B X r s n t W) (o : Nat) (vs : List Value) : Two B X r s n t (W.setCells r o vs) :=
  ⟨own_setCells vs o W h.a, own_setCells_other h.a.lower h.ne.symm vs o W h.b, h.ne⟩
theorem seg_of_range {B : Nat} {X W : World} {b : Nat} {c : Array Value} {on : Nat → Bool} (o : Own B X b 40 84 W) (hr : W.rangeAt b 0 c.toList) (hc : Rts c on) : SegM W b 84 20 2 (tabF on) := by
  obtain ⟨c', hb, hs⟩ := o.block
  refine ⟨c', hb, fun i hi j hj => ?_⟩
  have h1 := hr (i * 2 + j) _ (by rw [Array.getElem?_toList]; exact hc.cell i hi j hj)
  simp only [World.cell?, hb, Nat.zero_add] at h1
  simpa using h1
set_option maxHeartbeats 25600000 in
theorem circ_any (w : World) : Calls Try.prog 87 #[] w fun e w' => ∃ c, e = .returned (.agg c) ∧ Rts c (upto 20) ∧ Below w.heap.size w w' := by
  have hst := st64
  have hadd := add_run
  have hquo := quo_run
  have hc1 := cell_opW
  have hc2 := frozen_opW
  have hc3 := size_opW
  have hone : Fc 4607182418800017408 (cl 4607182418800017408) := ⟨by omega, rfl⟩
  have htwo : Fc 4611686018427387904 (cl 4611686018427387904) := ⟨by omega, rfl⟩
  have h0 : Two w.heap.size w w.heap.size (w.heap.size + 1) 40 84 ((w.alloc (.cells #[.float .f64 0, .float .f64 0, .float .f64 0, .float .f64 0, .float .f64 0, .float .f64 0, .float .f64 0, .float .f64 0, .float .f64 0, .float .f64 0, .float .f64 0, .float .f64 0, .float .f64 0, .float .f64 0, .float .f64 0, .float .f64 0, .float .f64 0, .float .f64 0, .float .f64 0, .float .f64 0, .float .f64 0, .float .f64 0, .float .f64 0, .float .f64 0, .float .f64 0, .float .f64 0, .float .f64 0, .float .f64 0, .float .f64 0, .float .f64 0, .float .f64 0, .float .f64 0, .float .f64 0, .float .f64 0, .float .f64 0, .float .f64 0, .float .f64 0, .float .f64 0, .float .f64 0, .float .f64 0] 84)).alloc (.cells #[.float .f64 0, .float .f64 0, .float .f64 0, .float .f64 0, .float .f64 0, .float .f64 0, .float .f64 0, .float .f64 0, .float .f64 0, .float .f64 0, .float .f64 0, .float .f64 0, .float .f64 0, .float .f64 0, .float .f64 0, .float .f64 0, .float .f64 0, .float .f64 0, .float .f64 0, .float .f64 0, .float .f64 0, .float .f64 0, .float .f64 0, .float .f64 0, .float .f64 0, .float .f64 0, .float .f64 0, .float .f64 0, .float .f64 0, .float .f64 0, .float .f64 0, .float .f64 0, .float .f64 0, .float .f64 0, .float .f64 0, .float .f64 0, .float .f64 0, .float .f64 0, .float .f64 0, .float .f64 0] 84)) := by
    have h1 := own_made (X := w) (B := w.heap.size) (t := 84) #[.float .f64 0, .float .f64 0, .float .f64 0, .float .f64 0, .float .f64 0, .float .f64 0, .float .f64 0, .float .f64 0, .float .f64 0, .float .f64 0, .float .f64 0, .float .f64 0, .float .f64 0, .float .f64 0, .float .f64 0, .float .f64 0, .float .f64 0, .float .f64 0, .float .f64 0, .float .f64 0, .float .f64 0, .float .f64 0, .float .f64 0, .float .f64 0, .float .f64 0, .float .f64 0, .float .f64 0, .float .f64 0, .float .f64 0, .float .f64 0, .float .f64 0, .float .f64 0, .float .f64 0, .float .f64 0, .float .f64 0, .float .f64 0, .float .f64 0, .float .f64 0, .float .f64 0, .float .f64 0] (Nat.le_refl _)
    have h2 := own_made (X := w.alloc (.cells #[.float .f64 0, .float .f64 0, .float .f64 0, .float .f64 0, .float .f64 0, .float .f64 0, .float .f64 0, .float .f64 0, .float .f64 0, .float .f64 0, .float .f64 0, .float .f64 0, .float .f64 0, .float .f64 0, .float .f64 0, .float .f64 0, .float .f64 0, .float .f64 0, .float .f64 0, .float .f64 0, .float .f64 0, .float .f64 0, .float .f64 0, .float .f64 0, .float .f64 0, .float .f64 0, .float .f64 0, .float .f64 0, .float .f64 0, .float .f64 0, .float .f64 0, .float .f64 0, .float .f64 0, .float .f64 0, .float .f64 0, .float .f64 0, .float .f64 0, .float .f64 0, .float .f64 0, .float .f64 0] 84)) (B := w.heap.size) (t := 84) #[.float .f64 0, .float .f64 0, .float .f64 0, .float .f64 0, .float .f64 0, .float .f64 0, .float .f64 0, .float .f64 0, .float .f64 0, .float .f64 0, .float .f64 0, .float .f64 0, .float .f64 0, .float .f64 0, .float .f64 0, .float .f64 0, .float .f64 0, .float .f64 0, .float .f64 0, .float .f64 0, .float .f64 0, .float .f64 0, .float .f64 0, .float .f64 0, .float .f64 0, .float .f64 0, .float .f64 0, .float .f64 0, .float .f64 0, .float .f64 0, .float .f64 0, .float .f64 0, .float .f64 0, .float .f64 0, .float .f64 0, .float .f64 0, .float .f64 0, .float .f64 0, .float .f64 0, .float .f64 0] (by simp)
    refine ⟨h1.alloc _, ⟨h1.below.trans h2.below, by omega, ?_⟩, by omega⟩
    have := h2.block
    simpa using this
  have hth := own_there h0.b
  go_enter Try.func87, Try.ntmps87
  go_wp2_with (first | (refine wpList_store_mid rfl 84 _ _ rfl (w.heap.size + 1) 0 _ rfl rfl hth info74 (rts_one rts_ini) ?_))
  go_loopw [8] (fun i wr => ∃ k : Nat, k ≤ 18 ∧ i = .int .i64 k ∧ Two w.heap.size w w.heap.size (w.heap.size + 1) 40 84 wr ∧ SegM wr (w.heap.size + 1) 84 20 2 (tabF (upto (k + 2)))) (fun i _ => 18 - (intOf i).toNat)
  case atStart =>
    have h1 := two_setCells h0 0 (#[.float .f64 13830554455654793216, .float .f64 0, .float .f64 0, .float .f64 4607182418800017408, .float .f64 0, .float .f64 0, .float .f64 0, .float .f64 0, .float .f64 0, .float .f64 0, .float .f64 0, .float .f64 0, .float .f64 0, .float .f64 0, .float .f64 0, .float .f64 0, .float .f64 0, .float .f64 0, .float .f64 0, .float .f64 0, .float .f64 0, .float .f64 0, .float .f64 0, .float .f64 0, .float .f64 0, .float .f64 0, .float .f64 0, .float .f64 0, .float .f64 0, .float .f64 0, .float .f64 0, .float .f64 0, .float .f64 0, .float .f64 0, .float .f64 0, .float .f64 0, .float .f64 0, .float .f64 0, .float .f64 0, .float .f64 0] : Array Value).toList
    exact ⟨0, by omega, rfl, h1, seg_of_range h1.b (World.rangeAt_setCells_same _ _ _ _ hth) rts_ini⟩
  case round =>
    obtain ⟨k, hk, rfl, ht, sg⟩ := hrel
    clear h0 hth
    by_cases hkn : k < 18
    · have u1 := uC_tab (k + 1) (by omega)
      have u2 := uC_tab (k + 2) (by omega)
      obtain ⟨b1, b2⟩ := uT_bd (i := k + 1) (by omega)
      obtain ⟨b3, b4⟩ := uT_bd (i := k + 2) (by omega)
      have L0 : wr.cell? ⟨w.heap.size + 1, (k + 1) * 2, none⟩ = some (.float .f64 (uT (k + 1)).1) := by
        have := sg.cell (i := k + 1) (j := 0) (by omega) (by omega)
        simpa [tabF, upto] using this
      have L1 : wr.cell? ⟨w.heap.size + 1, (k + 1) * 2 + 1, none⟩ = some (.float .f64 (uT (k + 1)).2) := by
        have := sg.cell (i := k + 1) (j := 1) (by omega) (by omega)
        simpa [tabF, upto] using this
      have hA : Fc (uT (k + 1)).1 (uC (k + 1)).1 := ⟨b1.1, by rw [u1, cl_num (b1.num (by omega))]⟩
      have hB : Fc (uT (k + 1)).2 (uC (k + 1)).2 := ⟨b2.1, by rw [u1, cl_num (b2.num (by omega))]⟩
      have HU : Hid (uC (k + 2) = (some (uT (k + 2)).1, some (uT (k + 2)).2) ∧ Bd (uT (k + 2)).1 1 ∧ Bd (uT (k + 2)).2 1) := ⟨u2, b3, b4⟩
      generalize (uT (k + 1)).1 = a at L0 hA
      generalize (uT (k + 1)).2 = b at L1 hB
      have HS : Hid (Two w.heap.size w w.heap.size (w.heap.size + 1) 40 84 wr ∧ SegM wr (w.heap.size + 1) 84 20 2 (tabF (upto (k + 2)))) := ⟨ht, sg⟩
      clear u1 u2 b1 b2 b3 b4 ht sg
      go_wp2_with fail
      refine (iSqrt_fz (fz_op .quo (fz_op .add hone hA _) htwo _) _).mono ?_
      rintro e w3 ⟨xx, q, rfl, hX, hw3⟩
      have t2 : Two w.heap.size w w.heap.size (w.heap.size + 1) 40 84 (wr.alloc (.cells #[.float .f64 a, .float .f64 b] 55)) := HS.out.1.alloc _
      have b3 : Below wr.heap.size wr w3 := by
        rw [hw3]
        exact below_drewN (below_opW (below_opW ((Below.refl _ _).alloc (Nat.le_refl _) _))) _
      have t3 : Two w.heap.size w w.heap.size (w.heap.size + 1) 40 84 w3 := HS.out.1.call b3
      have sg3 := HS.out.2.below b3
      have o0 : w3.cell? ⟨wr.heap.size, 0, none⟩ = some (.float .f64 a) := by rw [hw3]; simp only [World.cell?_drewN, cell_opW]; simp
      have o1 : w3.cell? ⟨wr.heap.size, 1, none⟩ = some (.float .f64 b) := by rw [hw3]; simp only [World.cell?_drewN, cell_opW]; simp
      have p0 : w3.cell? ⟨w.heap.size + 1, (k + 2) * 2, none⟩ = some (.float .f64 0) := by
        have := sg3.cell (i := k + 2) (j := 0) (by omega) (by omega)
        simpa [tabF, upto] using this
      have p1 : w3.cell? ⟨w.heap.size + 1, (k + 2) * 2 + 1, none⟩ = some (.float .f64 0) := by
        have := sg3.cell (i := k + 2) (j := 1) (by omega) (by omega)
        simpa [tabF, upto] using this
      have pf := fun j => Own.frozen t3.b j
      obtain ⟨yy, hyy⟩ : ∃ yy, yy = opV .quo b (opV .add xx xx w3) (opW .add xx xx w3) := ⟨_, rfl⟩
      have hq := fz_op .quo hB (fz_op .add hX hX w3) (opW .add xx xx w3)
      rw [← hyy] at hq
      have HX : Hid (xx = (uT (k + 2)).1 ∧ yy = (uT (k + 2)).2) := by
        obtain ⟨hu, c1, c2⟩ := HU.out
        have e : stepC (uC (k + 1)) = (some (uT (k + 2)).1, some (uT (k + 2)).2) := hu
        have e1 : cl xx = some (uT (k + 2)).1 := by rw [hX.c]; exact (Prod.mk.inj e).1
        have e2 : cl yy = some (uT (k + 2)).2 := by rw [hq.c]; exact (Prod.mk.inj e).2
        refine ⟨(cl_same (c1.num (by omega)) ?_).symm, (cl_same (c2.num (by omega)) ?_).symm⟩
        · rw [e1, cl_num (c1.num (by omega))]
        · rw [e2, cl_num (c2.num (by omega))]
      have HY3 : Hid (yy = opV .quo b (opV .add xx xx w3) (opW .add xx xx w3)) := hyy
      have H3 : Hid (Two w.heap.size w w.heap.size (w.heap.size + 1) 40 84 w3 ∧ SegM w3 (w.heap.size + 1) 84 20 2 (tabF (upto (k + 2)))) := ⟨t3, sg3⟩
      clear hw3 t2 b3 t3 sg3 L0 L1 hyy hq
      go_wp2
      rw [← HY3.out]
      go_roundw
      case rel =>
        obtain ⟨t3, sg3⟩ := H3.out
        obtain ⟨x1, y1⟩ := HX.out
        have bw : Below w3.heap.size w3 (opW .quo b (opV .add xx xx w3) (opW .add xx xx w3)) := below_opW (below_opW (Below.refl _ _))
        have t4 := t3.call bw
        have sg4 := sg3.below bw
        refine ⟨k + 1, by omega, by simp, (t4.setB _ _).setB _ _, ?_⟩
        have g0 := sg4.set (k := k + 2) (l := 0) (by omega) (by omega) xx
        have g1 := g0.set (k := k + 2) (l := 1) (by omega) (by omega) yy
        refine SegM.congr g1 fun i hi j hj => ?_
        by_cases e : i = k + 2
        · subst e
          match j, hj with
          | 0, _ => simp [tabF, upto, x1]
          | 1, _ => simp [tabF, upto, y1]
        · by_cases e2 : i < k + 2
          · simp [tabF, upto, e, e2, show i < k + 1 + 2 by omega]
          · simp [tabF, upto, e, e2, show ¬ i < k + 1 + 2 by omega]
      case measure => simp [intOf]; omega
    · obtain rfl : k = 18 := by omega
      obtain ⟨c, hc, hr⟩ := seg_rts sg ht.b
      have hth : wr.there w.heap.size 0 c.size := by rw [hc.size]; exact own_there ht.a
      have h1 := rts_one hc
      have hsz : (Try.prog.info? 84).map (·.size) = some c.size := by rw [hc.size]; exact info74
      have hsz' : (Try.prog.info? 84).map (·.size) = some c.toList.length := by rw [Array.length_toList]; exact hsz
      clear hadd hquo hc1 hc2 hc3
      go_wp2_with (first | (refine wpList_load_mid rfl 84 _ rfl (w.heap.size + 1) 0 rfl c.toList _ hr Try.underlying84 rfl hsz' ?_) | (refine wpList_store_mid rfl 84 _ _ rfl w.heap.size 0 c rfl rfl hth hsz h1 ?_))
      have t5 := two_setCellsA ht 0 c.toList
      have g5 := seg_of_range t5.a (World.rangeAt_setCells_same _ _ _ _ (by rw [Array.length_toList]; exact hth)) hc
      obtain ⟨c', hb', hs'⟩ := t5.a.block
      have hR : Rts c' (upto 20) := by
        obtain ⟨c2, h2, h3⟩ := g5
        rw [hb'] at h2
        simp only [Option.some.injEq, Obj.cells.injEq] at h2
        obtain ⟨rfl, _⟩ := h2
        exact ⟨hs', h3⟩
      exact bodyPost_ret (v := .agg c') (results_cell_row Try.results87 _ _ w.heap.size 84 c' (0, 0) _ rfl hb' Try.underlying84 rfl (by rw [hs']; exact info74)) rfl ⟨c', rfl, hR, t5.a.below⟩
end Go.Proofs.Ytbagaicbochmnaa
