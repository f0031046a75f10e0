/- Turns: contract of the specification's. -/
import Derived.Test.YtgidoceflkdklaaTu
import Derived.Test.YtgidoceflkdklaaOwn2
import Derived.Test.YtgidoceflkdklaaKeeps
import Derived.Deep.DeepCutAuto
namespace Go.Proofs.Ytgidoceflkdklaa
open Go.RowKit Fl
set_option linter.unusedVariables false
set_option linter.unusedSimpArgs false
/-- Three blocks of a call's own. -/
structure Thr (B : Nat) (X : World) (r s u n : Nat) (t : TypeId) (W : World) : Prop where
  two : Two B X r s n t W
  c : Own B X u n t W
  n1 : r ≠ u
  n2 : s ≠ u
namespace Thr
variable {B : Nat} {X W : World} {r s u n : Nat} {t : TypeId}
theorem drewN (h : Thr B X r s u n t W) (q : Nat) : Thr B X r s u n t (W.drewN q) := ⟨h.two.drewN q, h.c.drewN q, h.n1, h.n2⟩
theorem opW (h : Thr B X r s u n t W) (op : BinOp) (x y : Nat) : Thr B X r s u n t (Fl.opW op x y W) := by
  obtain ⟨q, hq⟩ := opW_drewN op x y W
  rw [hq]; exact h.drewN q
theorem call (h : Thr B X r s u n t W) {W' : World} (k : Below W.heap.size W W') : Thr B X r s u n t W' := ⟨h.two.call k, h.c.call k, h.n1, h.n2⟩
theorem setA (h : Thr B X r s u n t W) (j : Nat) (v : Value) : Thr B X r s u n t (W.setCell ⟨r, j, none⟩ v) := ⟨h.two.setA j v, h.c.setOther h.two.a.lower h.n1.symm v, h.n1, h.n2⟩
theorem setB (h : Thr B X r s u n t W) (j : Nat) (v : Value) : Thr B X r s u n t (W.setCell ⟨s, j, none⟩ v) := ⟨h.two.setB j v, h.c.setOther h.two.b.lower h.n2.symm v, h.n1, h.n2⟩
theorem setC (h : Thr B X r s u n t W) (j : Nat) (v : Value) : Thr B X r s u n t (W.setCell ⟨u, j, none⟩ v) := ⟨h.two.setOther h.c.lower h.n1 h.n2 v, h.c.set j v, h.n1, h.n2⟩
end Thr
theorem bit_int {T : Int} (h0 : 0 ≤ T) (h1 : T < 1048576) (k : Nat) : bits .and .i64 (T / 2 ^ k) 1 = T / 2 ^ k % 2 := by
  have hp : (0 : Int) < 2 ^ k := Int.pow_pos (by omega)
  have a0 : 0 ≤ T / 2 ^ k := Int.ediv_nonneg h0 (by omega)
  have a1 : T / 2 ^ k ≤ T := Int.ediv_le_self _ h0
  have hw : ∀ x : Int, 0 ≤ x → x < 2 ^ 63 → IntKind.i64.wrap x = x := fun x a b => by rw [IntKind.wrap_i64]; omega
  have := bits_mask .i64 63 (by decide) hw 1 (by omega) (T / 2 ^ k) a0 (by omega)
  rw [show (2 : Int) ^ 1 - 1 = 1 by decide, show (2 : Int) ^ 1 = 2 by decide] at this
  exact this
set_option maxHeartbeats 12800000 in
theorem sTurn_any (t : Int) (w : World) : ZV 67 #[.int .i64 t] w (turnC t) := by
  obtain ⟨T, hT⟩ : ∃ T, T = t % 1048576 := ⟨_, rfl⟩
  have hT0 : 0 ≤ T := by omega
  have hT1 : T < 1048576 := by omega
  have HT : Hid (turnC T = turnC t) := by rw [hT]; exact turn_mod t
  rw [← HT.out]
  obtain ⟨R, hR⟩ : ∃ R, R = t.tmod 1048576 := ⟨_, rfl⟩
  have HR : Hid ((0 ≤ R ∧ R = T) ∨ (R < 0 ∧ R + 1048576 = T)) := by
    have h1 := Int.mul_tdiv_add_tmod t 1048576
    rw [← hR] at h1
    have h2 : -1048576 < R := by rw [hR]; exact Int.lt_tmod_of_pos t (by omega)
    have h3 : R < 1048576 := by rw [hR]; exact Int.tmod_lt_of_pos t (by omega)
    by_cases h : 0 ≤ R
    · left; exact ⟨h, by omega⟩
    · right; exact ⟨by omega, by omega⟩
  clear HT hT
  unfold ZV
  have hst := st64
  have hadd := add_run
  have hquo := quo_run
  have hc1 := cell_opW
  have hc2 := frozen_opW
  obtain ⟨Y, hY⟩ : ∃ Y, Y = (((w.alloc (.cells #[.float .f64 0, .float .f64 0] 75)).alloc (.cells #[.float .f64 4607182418800017408, .float .f64 0] 75)).alloc (.cells #[.float .f64 13830554455654793216, .float .f64 0] 75)) := ⟨_, rfl⟩
  have h0 : Thr w.heap.size w w.heap.size (w.heap.size + 1) (w.heap.size + 1 + 1) 2 75 Y := by
    have h1 := own_made (X := w) (B := w.heap.size) (t := 75) #[.float .f64 0, .float .f64 0] (Nat.le_refl _)
    have h2 := own_made (X := w.alloc (.cells #[.float .f64 0, .float .f64 0] 75)) (B := w.heap.size) (t := 75) #[.float .f64 4607182418800017408, .float .f64 0] (by simp)
    have h3 := own_made (X := (w.alloc (.cells #[.float .f64 0, .float .f64 0] 75)).alloc (.cells #[.float .f64 4607182418800017408, .float .f64 0] 75)) (B := w.heap.size) (t := 75) #[.float .f64 13830554455654793216, .float .f64 0] (by simp; omega)
    rw [hY]
    refine ⟨⟨(h1.alloc _).alloc _, ?_, by omega⟩, ⟨h1.below.trans (h2.below.trans h3.below), by omega, ?_⟩, by omega, by omega⟩
    · have h4 : Own w.heap.size w (w.heap.size + 1) 2 75 ((w.alloc (.cells #[.float .f64 0, .float .f64 0] 75)).alloc (.cells #[.float .f64 4607182418800017408, .float .f64 0] 75)) := ⟨h1.below.trans h2.below, by omega, by have := h2.block; simpa using this⟩
      exact h4.alloc _
    · have := h3.block
      simpa using this
  have i0 : Y.cell? ⟨w.heap.size + 1, 0, none⟩ = some (.float .f64 4607182418800017408) := by rw [hY]; exact alloc_keeps (by simp)
  have i1 : Y.cell? ⟨w.heap.size + 1, 1, none⟩ = some (.float .f64 0) := by rw [hY]; exact alloc_keeps (by simp)
  have j0 : Y.cell? ⟨w.heap.size + 1 + 1, 0, none⟩ = some (.float .f64 13830554455654793216) := by rw [hY]; go_simp
  have j1 : Y.cell? ⟨w.heap.size + 1 + 1, 1, none⟩ = some (.float .f64 0) := by rw [hY]; go_simp
  go_enter Try.func67, Try.ntmps67
  go_upto_if 10 with fail
  rw [← hR]
  clear hR
  go_cut [0] from 11 to 12 (fun v wx => v = .int .i64 T ∧ wx = w.alloc (.cells #[.float .f64 0, .float .f64 0] 75))
  case first =>
    rcases HR.out with ⟨h1, h2⟩ | ⟨h1, h2⟩
    · obtain rfl := h2
      clear HR h0 i0 i1 j0 j1 hY
      go_wp2
      go_meet
      case rel => exact ⟨rfl, rfl⟩
    · clear HR h0 i0 i1 j0 j1 hY
      go_wp2
      go_meet
      case rel => exact ⟨by rw [← h2], rfl⟩
  case rest =>
  obtain ⟨rfl, rfl⟩ := hcut
  clear HR
  go_wp2_with fail
  rw [← hY]
  clear hY
  go_loopw [5] (fun i wr => ∃ (j x y a b : Nat) (K : Int), j ≤ 19 ∧ K = 19 - j ∧ i = .int .i64 K ∧ Thr w.heap.size w w.heap.size (w.heap.size + 1) (w.heap.size + 1 + 1) 2 75 wr ∧ wr.cell? ⟨w.heap.size + 1, 0, none⟩ = some (.float .f64 x) ∧ wr.cell? ⟨w.heap.size + 1, 1, none⟩ = some (.float .f64 y) ∧ wr.cell? ⟨w.heap.size + 1 + 1, 0, none⟩ = some (.float .f64 a) ∧ wr.cell? ⟨w.heap.size + 1 + 1, 1, none⟩ = some (.float .f64 b) ∧ Zc x y (foldT T j) ∧ Zc a b (uC j)) (fun i _ => (intOf i + 1).toNat)
  case atStart =>
    exact ⟨0, 4607182418800017408, 0, 13830554455654793216, 0, 19, by omega, by omega, rfl, h0, i0, i1, j0, j1, ⟨by omega, by omega, rfl⟩, ⟨by omega, by omega, rfl⟩⟩
  case round =>
    obtain ⟨j, x, y, a, b, K, hj, hK, rfl, ht, c0, c1, d0, d1, hz, hu⟩ := hrel
    clear h0 i0 i1 j0 j1
    obtain ⟨k, hk⟩ : ∃ k : Nat, K = k := ⟨K.toNat, by omega⟩
    subst hk
    have hjk : 19 - j = k := by omega
    have hk19 : k ≤ 19 := by omega
    have hB := bit_int hT0 hT1 k
    have HJ : Hid (19 - j = k ∧ j ≤ 19 ∧ (k : Int) = 19 - j) := ⟨hjk, hj, hK⟩
    have hk64 : (k : Int) ≤ 64 := by omega
    obtain ⟨P, hP⟩ : ∃ P : Int, P = 2 ^ k := ⟨_, rfl⟩
    have hP1 : 1 ≤ P := by rw [hP]; exact Int.pow_pos (by omega)
    have hP2 : P ≤ 524288 := by
      have h : (2 : Nat) ^ k ≤ 2 ^ 19 := Nat.pow_le_pow_right (by omega) (by omega)
      have h2 : ((2 ^ k : Nat) : Int) ≤ ((2 ^ 19 : Nat) : Int) := by omega
      rw [hP]
      simpa using h2
    have hw : wrap64 (2 ^ k) = P := by
      rw [← hP]
      unfold wrap64
      omega
    have HP : Hid (P = 2 ^ k) := hP
    have hone : Fc 4607182418800017408 (cl 4607182418800017408) := ⟨by omega, rfl⟩
    have htwo : Fc 4611686018427387904 (cl 4611686018427387904) := ⟨by omega, rfl⟩
    have hA : Fc a (uC j).1 := ⟨hu.lx, by rw [← hu.c]⟩
    have hBb : Fc b (uC j).2 := ⟨hu.ly, by rw [← hu.c]⟩
    have hfold : foldT T (j + 1) = if dig T j = true then mulC (foldT T j) (uC j) else foldT T j := rfl
    have hdig : dig T j = decide (T / 2 ^ k % 2 = 1) := by unfold dig; rw [hjk]
    clear hjk hK hP
    by_cases hd : T / 2 ^ k % 2 = 1
    · have HF : Hid (foldT T (j + 1) = mulC (foldT T j) (uC j)) := by
        rw [hdig, decide_eq_true hd, if_pos rfl] at hfold; exact hfold
      rw [hd] at hB
      clear hfold hdig hd
      go_wp2_with fail
      refine (sMul_any hz hu _).mono ?_
      rintro e w1 ⟨x1, y1, rfl, hz1, hb1⟩
      rw [← HF.out] at hz1
      have t1 : Thr w.heap.size w w.heap.size (w.heap.size + 1) (w.heap.size + 1 + 1) 2 75 w1 := Thr.call ht hb1
      have f0 := Own.cell t1.two.b (show 0 < 2 by omega)
      have f1 := Own.cell t1.two.b (show 1 < 2 by omega)
      have ff := fun j => Own.frozen t1.two.b j
      have v0 := old_cell hb1 ht.c.lt d0
      have v1 := old_cell hb1 ht.c.lt d1
      obtain ⟨U, hU⟩ : ∃ U, U = (w1.setCell ⟨w.heap.size + 1, 0, none⟩ (.float .f64 x1)).setCell ⟨w.heap.size + 1, 1, none⟩ (.float .f64 y1) := ⟨_, rfl⟩
      have hTU : Thr w.heap.size w w.heap.size (w.heap.size + 1) (w.heap.size + 1 + 1) 2 75 U := by rw [hU]; exact (t1.setB _ _).setB _ _
      have m0 : U.cell? ⟨w.heap.size + 1, 0, none⟩ = some (.float .f64 x1) := by rw [hU]; go_simp
      have m1 : U.cell? ⟨w.heap.size + 1, 1, none⟩ = some (.float .f64 y1) := by rw [hU]; go_simp
      have n0 : U.cell? ⟨w.heap.size + 1 + 1, 0, none⟩ = some (.float .f64 a) := by rw [hU]; go_simp
      have n1 : U.cell? ⟨w.heap.size + 1 + 1, 1, none⟩ = some (.float .f64 b) := by rw [hU]; go_simp
      clear ht c0 c1 d0 d1 hb1 t1
      go_upto_region 11 with fail
      rw [← hU]
      clear hU f0 f1 ff v0 v1
      have r0 := Own.cell hTU.two.a (show 0 < 2 by omega)
      have r1 := Own.cell hTU.two.a (show 1 < 2 by omega)
      have rf := fun j => Own.frozen hTU.two.a j
      have q0 := Own.frozen hTU.c
      by_cases hm : T % P = 0
      · have HE : Hid (turnC T = foldT T (j + 1)) := by
          obtain ⟨h1, h2, _⟩ := HJ.out
          have := fold_rest (t := T) (i := j + 1) (n := 19 - j) (fun i a b => dig_none (i := j) (by rw [h1, ← HP.out]; exact hm) (by omega) (by omega))
          unfold turnC
          rw [show j + 1 + (19 - j) = 20 by omega] at this
          exact this
        clear HF hB
        go_wp2
        refine bodyPost_ret (v := Zv _ _) (by simp [results, Try.results67, go_sem, r0, r1] <;> first | exact ⟨rfl, rfl⟩ | rfl) rfl ⟨_, _, rfl, by rw [HE.out]; exact hz1, ((hTU.setA _ _).setA _ _).two.a.below⟩
      · have hk0 : k ≠ 0 := by
          intro e
          have h := HP.out
          rw [e] at h
          apply hm
          rw [h]
          omega
        by_cases h19 : k = 19
        · have hb19 : ((k : Int) == 19) = true := by rw [h19]; rfl
          have hj0 : j = 0 := by have := HJ.out; omega
          have HT2 : Hid (Thr w.heap.size w w.heap.size (w.heap.size + 1) (w.heap.size + 1 + 1) 2 75 ((U.setCell ⟨w.heap.size + 1 + 1, 0, none⟩ (.float .f64 0)).setCell ⟨w.heap.size + 1 + 1, 1, none⟩ (.float .f64 4607182418800017408))) := (hTU.setC _ _).setC _ _
          have HK : Hid (k = 19) := h19
          clear HF hB hTU r0 r1 rf hk0 h19
          go_wp2
          go_roundw
          case rel => exact ⟨1, x1, y1, 0, 4607182418800017408, (k : Int) - 1, by omega, by have := HK.out; omega, by simp, HT2.out, by go_simp, by go_simp, by go_simp, by go_simp, by rw [hj0] at hz1; exact hz1, ⟨by omega, by omega, rfl⟩⟩
          case measure => simp [intOf]
        · have h19' : ¬ (k : Int) = 19 := by omega
          have hb19 : ((k : Int) == 19) = false := by simpa using h19'
          clear HF hB r0 r1 rf
          go_wp2_with fail
          refine (sSqrt_fz (fz_op .quo (fz_op .add hone hA _) htwo _) _).mono ?_
          rintro e w3 ⟨xx, q, rfl, hX, hw3⟩
          have t3 : Thr w.heap.size w w.heap.size (w.heap.size + 1) (w.heap.size + 1 + 1) 2 75 w3 := by rw [hw3]; exact ((hTU.opW _ _ _).opW _ _ _).drewN _
          have g0 : w3.cell? ⟨w.heap.size + 1, 0, none⟩ = some (.float .f64 x1) := by rw [hw3]; simp only [World.cell?_drewN, cell_opW]; exact m0
          have g1 : w3.cell? ⟨w.heap.size + 1, 1, none⟩ = some (.float .f64 y1) := by rw [hw3]; simp only [World.cell?_drewN, cell_opW]; exact m1
          have l0 : w3.cell? ⟨w.heap.size + 1 + 1, 0, none⟩ = some (.float .f64 a) := by rw [hw3]; simp only [World.cell?_drewN, cell_opW]; exact n0
          have l1 : w3.cell? ⟨w.heap.size + 1 + 1, 1, none⟩ = some (.float .f64 b) := by rw [hw3]; simp only [World.cell?_drewN, cell_opW]; exact n1
          have lf := fun j => Own.frozen t3.c j
          have HT3 : Hid (Thr w.heap.size w w.heap.size (w.heap.size + 1) (w.heap.size + 1 + 1) 2 75 w3) := t3
          clear hw3 m0 m1 n0 n1 q0 hTU t3
          go_wp2
          go_roundw
          case rel =>
            obtain ⟨i, hi⟩ : ∃ i, j = i + 1 := ⟨j - 1, by have := HJ.out; omega⟩
            refine ⟨j + 1, x1, y1, xx, opV .quo b (opV .add xx xx w3) (opW .add xx xx w3), (k : Int) - 1, by have := HJ.out; omega, by have := HJ.out; omega, by simp, ?_, by go_simp, by go_simp, by go_simp, by go_simp, hz1, ?_⟩
            · exact (((HT3.out.opW _ _ _).opW _ _ _).setC _ _).setC _ _
            · have hq := fz_op .quo hBb (fz_op .add hX hX w3) (opW .add xx xx w3)
              refine ⟨hX.lx, hq.lx, ?_⟩
              rw [hX.c, hq.c, hi]
              rfl
          case measure => simp [intOf]
    · have HF : Hid (foldT T (j + 1) = foldT T j) := by
        rw [hdig, decide_eq_false hd, if_neg (by decide)] at hfold; exact hfold
      have hd0 : T / 2 ^ k % 2 = 0 := by omega
      rw [hd0] at hB
      have hz1 : Zc x y (foldT T (j + 1)) := by rw [HF.out]; exact hz
      have hTU := ht
      have m0 := c0
      have m1 := c1
      have n0 := d0
      have n1 := d1
      clear hfold hdig hd hd0 ht c0 c1 d0 d1
      go_upto_region 11 with fail
      have r0 := Own.cell hTU.two.a (show 0 < 2 by omega)
      have r1 := Own.cell hTU.two.a (show 1 < 2 by omega)
      have rf := fun j => Own.frozen hTU.two.a j
      have q0 := Own.frozen hTU.c
      by_cases hm : T % P = 0
      · have HE : Hid (turnC T = foldT T (j + 1)) := by
          obtain ⟨h1, h2, _⟩ := HJ.out
          have := fold_rest (t := T) (i := j + 1) (n := 19 - j) (fun i a b => dig_none (i := j) (by rw [h1, ← HP.out]; exact hm) (by omega) (by omega))
          unfold turnC
          rw [show j + 1 + (19 - j) = 20 by omega] at this
          exact this
        clear HF hB
        go_wp2
        refine bodyPost_ret (v := Zv _ _) (by simp [results, Try.results67, go_sem, r0, r1] <;> first | exact ⟨rfl, rfl⟩ | rfl) rfl ⟨_, _, rfl, by rw [HE.out]; exact hz1, ((hTU.setA _ _).setA _ _).two.a.below⟩
      · have hk0 : k ≠ 0 := by
          intro e
          have h := HP.out
          rw [e] at h
          apply hm
          rw [h]
          omega
        by_cases h19 : k = 19
        · have hb19 : ((k : Int) == 19) = true := by rw [h19]; rfl
          have hj0 : j = 0 := by have := HJ.out; omega
          have HT2 : Hid (Thr w.heap.size w w.heap.size (w.heap.size + 1) (w.heap.size + 1 + 1) 2 75 ((wr.setCell ⟨w.heap.size + 1 + 1, 0, none⟩ (.float .f64 0)).setCell ⟨w.heap.size + 1 + 1, 1, none⟩ (.float .f64 4607182418800017408))) := (hTU.setC _ _).setC _ _
          have HK : Hid (k = 19) := h19
          clear HF hB hTU r0 r1 rf hk0 h19
          go_wp2
          go_roundw
          case rel => exact ⟨1, x, y, 0, 4607182418800017408, (k : Int) - 1, by omega, by have := HK.out; omega, by simp, HT2.out, by go_simp, by go_simp, by go_simp, by go_simp, by rw [hj0] at hz1; exact hz1, ⟨by omega, by omega, rfl⟩⟩
          case measure => simp [intOf]
        · have h19' : ¬ (k : Int) = 19 := by omega
          have hb19 : ((k : Int) == 19) = false := by simpa using h19'
          clear HF hB r0 r1 rf
          go_wp2_with fail
          refine (sSqrt_fz (fz_op .quo (fz_op .add hone hA _) htwo _) _).mono ?_
          rintro e w3 ⟨xx, q, rfl, hX, hw3⟩
          have t3 : Thr w.heap.size w w.heap.size (w.heap.size + 1) (w.heap.size + 1 + 1) 2 75 w3 := by rw [hw3]; exact ((hTU.opW _ _ _).opW _ _ _).drewN _
          have g0 : w3.cell? ⟨w.heap.size + 1, 0, none⟩ = some (.float .f64 x) := by rw [hw3]; simp only [World.cell?_drewN, cell_opW]; exact m0
          have g1 : w3.cell? ⟨w.heap.size + 1, 1, none⟩ = some (.float .f64 y) := by rw [hw3]; simp only [World.cell?_drewN, cell_opW]; exact m1
          have l0 : w3.cell? ⟨w.heap.size + 1 + 1, 0, none⟩ = some (.float .f64 a) := by rw [hw3]; simp only [World.cell?_drewN, cell_opW]; exact n0
          have l1 : w3.cell? ⟨w.heap.size + 1 + 1, 1, none⟩ = some (.float .f64 b) := by rw [hw3]; simp only [World.cell?_drewN, cell_opW]; exact n1
          have lf := fun j => Own.frozen t3.c j
          have HT3 : Hid (Thr w.heap.size w w.heap.size (w.heap.size + 1) (w.heap.size + 1 + 1) 2 75 w3) := t3
          clear hw3 m0 m1 n0 n1 q0 hTU t3
          go_wp2
          go_roundw
          case rel =>
            obtain ⟨i, hi⟩ : ∃ i, j = i + 1 := ⟨j - 1, by have := HJ.out; omega⟩
            refine ⟨j + 1, x, y, xx, opV .quo b (opV .add xx xx w3) (opW .add xx xx w3), (k : Int) - 1, by have := HJ.out; omega, by have := HJ.out; omega, by simp, ?_, by go_simp, by go_simp, by go_simp, by go_simp, hz1, ?_⟩
            · exact (((HT3.out.opW _ _ _).opW _ _ _).setC _ _).setC _ _
            · have hq := fz_op .quo hBb (fz_op .add hX hX w3) (opW .add xx xx w3)
              refine ⟨hX.lx, hq.lx, ?_⟩
              rw [hX.c, hq.c, hi]
              rfl
          case measure => simp [intOf]
end Go.Proofs.Ytgidoceflkdklaa
