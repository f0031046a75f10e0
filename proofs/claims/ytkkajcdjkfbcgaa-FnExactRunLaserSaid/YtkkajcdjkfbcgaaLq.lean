/- Lasers: the specification's run. -/
import Derived.Test.YtkkajcdjkfbcgaaLr
import Derived.Handy
import Derived.Deep.RegionHeld3
namespace Go.Proofs.Ytkkajcdjkfbcgaa
open Go.RowKit
set_option linter.unusedVariables false
set_option linter.unusedSimpArgs false
theorem owns_form {w : World} {base n m : Nat} {t : TypeId} {v : Value} {xs : List Value} (h : w.ownsRow base t m v (n + 1) xs) : ∃ g cp, v = .slice (some ⟨g, 0, none⟩) (n + 1) cp := by
  obtain ⟨h0, h | ⟨g, cap, cur, hv, r⟩⟩ := h
  · exact absurd h.2 (by omega)
  · exact ⟨g, cap, hv⟩
/-- The specification's books behind k steps (t: as they stand within a step). -/
structure Sx (a : La) (w w1 : World) (k : Nat) (v : Value) (t : L4) (W : World) : Prop where
  box : Blk W w1.heap.size #[.int .i64 0, .int .i64 t.u, .int .i64 t.i, .int .i64 t.o, .int .i64 t.s, v] 79
  own : W.ownsRow (w1.heap.size + 1) 2 1 v k (il (fun i => (lrun a (i + 1)).i) k)
  par : Blk W w.heap.size #[.int .i64 a.g, .int .i64 a.l, .int .i64 a.s, .int .i64 a.p] 75
  res : Blk W (w.heap.size + 1) #[.int .i64 0, .int .i64 0, .int .i64 0, .int .i64 0, .int .i64 0, .slice none 0 0] 79
  below : Below w.heap.size w W
  lt : w.heap.size + 2 ≤ w1.heap.size ∧ w1.heap.size + 1 ≤ W.heap.size
namespace Sx
variable {a : La} {w w1 W : World} {k : Nat} {v : Value} {t : L4}
theorem u (h : Sx a w w1 k v t W) (x : Int) : Sx a w w1 k v ⟨x, t.i, t.o, t.s⟩ (W.setCell ⟨w1.heap.size, 1, none⟩ (.int .i64 x)) := by
  have := h.lt
  exact ⟨h.box.set 1 _ rfl, owns_set h.own (by omega), h.par.setOther (by simp; omega) _, h.res.setOther (by simp; omega) _, h.below.setCell (by simp; omega) _, by simpa using h.lt⟩
theorem i (h : Sx a w w1 k v t W) (x : Int) : Sx a w w1 k v ⟨t.u, x, t.o, t.s⟩ (W.setCell ⟨w1.heap.size, 2, none⟩ (.int .i64 x)) := by
  have := h.lt
  exact ⟨h.box.set 2 _ rfl, owns_set h.own (by omega), h.par.setOther (by simp; omega) _, h.res.setOther (by simp; omega) _, h.below.setCell (by simp; omega) _, by simpa using h.lt⟩
theorem o (h : Sx a w w1 k v t W) (x : Int) : Sx a w w1 k v ⟨t.u, t.i, x, t.s⟩ (W.setCell ⟨w1.heap.size, 3, none⟩ (.int .i64 x)) := by
  have := h.lt
  exact ⟨h.box.set 3 _ rfl, owns_set h.own (by omega), h.par.setOther (by simp; omega) _, h.res.setOther (by simp; omega) _, h.below.setCell (by simp; omega) _, by simpa using h.lt⟩
theorem s (h : Sx a w w1 k v t W) (x : Int) : Sx a w w1 k v ⟨t.u, t.i, t.o, x⟩ (W.setCell ⟨w1.heap.size, 4, none⟩ (.int .i64 x)) := by
  have := h.lt
  exact ⟨h.box.set 4 _ rfl, owns_set h.own (by omega), h.par.setOther (by simp; omega) _, h.res.setOther (by simp; omega) _, h.below.setCell (by simp; omega) _, by simpa using h.lt⟩
theorem drewN (h : Sx a w w1 k v t W) (q : Nat) : Sx a w w1 k v t (W.drewN q) := ⟨h.box.drewN q, owns_later h.own (below_drewN (Below.refl _ _) q), h.par.drewN q, h.res.drewN q, below_drewN h.below q, by have := h.lt; have := (below_drewN (Below.refl W.heap.size W) q).size; omega⟩
end Sx
set_option maxRecDepth 20000 in
set_option maxHeartbeats 6400000 in
theorem laser_s0 (a : La) (n : Nat) (h : lcode a = 0) (hn : n ≤ 1000) (w : World) : FL 45 #[.agg #[.int .i64 a.g, .int .i64 a.l, .int .i64 a.s, .int .i64 a.p], .int .i64 (n : Int)] w 0 (lrun a n) n (fun i => (lrun a (i + 1)).i) := by
  unfold FL
  have LF : Hid (∀ W, Calls Try.prog 42 #[.agg #[.int .i64 a.g, .int .i64 a.l, .int .i64 a.s, .int .i64 a.p]] W fun e w' => e = .returned (.int .i64 0) ∧ Below W.heap.size W w') := fun W => by have := lfault_s a W; rwa [h] at this
  have HG : Hid (Lgo a) := lgo_of h
  clear h
  obtain ⟨T, hT⟩ : ∃ T, T = lrun a n := ⟨_, rfl⟩
  rw [← hT]
  have HT : Hid (T = lrun a n) := hT
  clear hT
  obtain ⟨w0, hw0⟩ : ∃ W, W = (w.alloc (.cells #[.int .i64 a.g, .int .i64 a.l, .int .i64 a.s, .int .i64 a.p] 75)).alloc (.cells #[.int .i64 0, .int .i64 0, .int .i64 0, .int .i64 0, .int .i64 0, .slice none 0 0] 79) := ⟨_, rfl⟩
  have HP : Hid (Blk w0 w.heap.size #[.int .i64 a.g, .int .i64 a.l, .int .i64 a.s, .int .i64 a.p] 75) := by show Blk _ _ _ _; rw [hw0]; exact (Blk.new rfl).alloc _
  have HR : Hid (Blk w0 (w.heap.size + 1) #[.int .i64 0, .int .i64 0, .int .i64 0, .int .i64 0, .int .i64 0, .slice none 0 0] 79) := by show Blk _ _ _ _; rw [hw0]; exact Blk.new (by simp)
  have HO : Hid (Below w.heap.size w w0) := by show Below _ _ _; rw [hw0]; exact ((Below.refl _ _).alloc (Nat.le_refl _) _).alloc (by simp) _
  have Z0 : Hid (w.heap.size + 2 ≤ w0.heap.size) := by show _ ≤ _; rw [hw0]; simp
  go_enter Try.func45, Try.ntmps45
  go_upto_region 1 with fail
  rw [← hw0]
  clear hw0
  have c0 := HP.out.cell (j := 0) (v := .int .i64 a.g) rfl
  have c1 := HP.out.cell (j := 1) (v := .int .i64 a.l) rfl
  have c2 := HP.out.cell (j := 2) (v := .int .i64 a.s) rfl
  have c3 := HP.out.cell (j := 3) (v := .int .i64 a.p) rfl
  go_wp2_with fail
  refine (LF.out _).mono ?_
  rintro e w1 ⟨rfl, b⟩
  replace HP : Hid (Blk w1 w.heap.size #[.int .i64 a.g, .int .i64 a.l, .int .i64 a.s, .int .i64 a.p] 75) := HP.out.later b
  replace HR : Hid (Blk w1 (w.heap.size + 1) #[.int .i64 0, .int .i64 0, .int .i64 0, .int .i64 0, .int .i64 0, .slice none 0 0] 79) := HR.out.later b
  replace HO : Hid (Below w.heap.size w w1) := HO.out.trans (b.mono HO.out.size)
  replace Z0 : Hid (w.heap.size + 2 ≤ w1.heap.size) := Nat.le_trans Z0.out b.size
  clear b c0 c1 c2 c3
  clear LF
  go_wp2_with fail
  go_loopw [7] (fun i wr => ∃ (k : Nat) (v : Value), k ≤ n ∧ i = .int .i64 k ∧ Hid (Sx a w w1 k v (lrun a k) wr)) (fun i _ => n - (intOf i).toNat)
  case atStart =>
    exact ⟨0, .slice none 0 0, Nat.zero_le _, rfl, ⟨Blk.new rfl, owns_nil _ _ _ _, HP.out.alloc _, HR.out.alloc _, below_new HO.out _, Z0.out, by simp⟩⟩
  case round =>
    obtain ⟨k, v, hk, rfl, HB⟩ := hrel
    clear HP HR HO Z0
    by_cases hkn : k < n
    · have ha := HG.out
      have hok := lrun_ok ha k (by omega)
      obtain ⟨p1, p2, p3, p4, p5, p6, p7, p8⟩ := hok.parts ha (by omega)
      obtain ⟨q0, q1⟩ := hok.prod ha (by omega)
      have r1 := tdiv_bd q0 ha.g0
      obtain ⟨h1, h2, h3, h4, h5⟩ := hok
      have hB := HB.out
      clear HB HG
      have hN : lrun a (k + 1) = lst a (lrun a k) := rfl
      obtain ⟨t, ht⟩ : ∃ t, t = lrun a k := ⟨_, rfl⟩
      rw [← ht] at p1 p2 p3 p4 p5 p6 p7 p8 q0 q1 r1 h1 h2 h3 h4 h5 hN hB
      have zz : w.heap.size + 2 ≤ w1.heap.size := hB.lt.1
      have zn : ¬ w.heap.size = w1.heap.size := by omega
      have H0 : Hid (Sx a w w1 k v t wr) := hB
      clear hB HT
      obtain ⟨g0, g1, ll0, ll1, ss0, ss1, e0, e1⟩ := ha
      obtain ⟨X, hX⟩ : ∃ X, X = lX a t := ⟨_, rfl⟩
      obtain ⟨Y, hY⟩ : ∃ X, X = lY a t := ⟨_, rfl⟩
      obtain ⟨Z, hZ⟩ : ∃ X, X = lZ a t := ⟨_, rfl⟩
      obtain ⟨V, hV⟩ : ∃ X, X = lW a t := ⟨_, rfl⟩
      rw [← hX] at p1 p2 p4 p8
      rw [← hY] at p3 p4 p6
      rw [← hZ] at p5 p6 p8
      rw [← hV] at p7 p8
      obtain ⟨g, l, s, p⟩ := a
      obtain ⟨u, i, o, si⟩ := t
      simp only at *
      obtain ⟨U1, hU1⟩ : ∃ U, U = u + p := ⟨_, rfl⟩
      obtain ⟨P, hP⟩ : ∃ P, P = U1 * i := ⟨_, rfl⟩
      obtain ⟨D, hD⟩ : ∃ D, D = P.tdiv g := ⟨_, rfl⟩
      obtain ⟨U2, hU2⟩ : ∃ U, U = U1 - X := ⟨_, rfl⟩
      obtain ⟨I1, hI1⟩ : ∃ U, U = i + X := ⟨_, rfl⟩
      obtain ⟨I2, hI2⟩ : ∃ U, U = I1 + Z := ⟨_, rfl⟩
      have HRn : Hid (lrun ⟨g, l, s, p⟩ (k + 1) = ⟨U2 - Y, I2 - V, o + V, si + (Y - Z)⟩) := by show _ = _; rw [hN, hU2, hI2, hI1, hU1, hX, hY, hZ, hV]; rfl
      have M1 : Hid (∀ W, Calls Try.prog 95 #[.int .i64 U1, .int .i64 D] W fun e w' => e = .returned (.int .i64 X) ∧ W = w') := fun W => by
        have := min_s U1 D W
        rwa [show lsr U1 D = X by rw [hX, hD, hP, hU1]; rfl] at this
      have e2 : P.tdiv g = D := hD.symm
      have e3 : U2.tdiv s = Y := by rw [hU2, hU1, hX, hY]; rfl
      have e4 : Y.tdiv 16 = Z := by rw [hY, hZ]; rfl
      have e5 : I2.tdiv l = V := by rw [hI2, hI1, hX, hZ, hV]; rfl
      rw [← hU1] at p2 p4 q0 q1 r1
      rw [← hP] at q0 q1 r1
      rw [← hD] at r1
      rw [← hU2] at p4
      rw [← hI1, ← hI2] at p8
      have f1 : u + p = U1 := hU1.symm
      have f2 : U1 * i = P := hP.symm
      have f3 : U1 - X = U2 := hU2.symm
      have f4 : i + X = I1 := hI1.symm
      have f5 : I1 + Z = I2 := hI2.symm
      have b1 : 0 ≤ U1 ∧ U1 ≤ 1001000 := by omega
      have b2 : 0 ≤ U2 ∧ U2 ≤ 1001000 := by omega
      have b3 : 0 ≤ I1 ∧ I1 ≤ 3000000 := by omega
      have b4 : 0 ≤ I2 ∧ I2 ≤ 6000000 := by omega
      clear hX hY hZ hV hU1 hP hD hU2 hI1 hI2 hN ht
      have n1 : ¬ g = 0 := by omega
      have n2 : ¬ l = 0 := by omega
      have n3 : ¬ s = 0 := by omega
      have hwP : IntKind.i64.wrap P = P := by rw [IntKind.wrap_i64]; omega
      have c1 := H0.out.box.cell (j := 1) (v := .int .i64 u) rfl
      have p3c := H0.out.par.cell (j := 3) (v := .int .i64 p) rfl
      have k1 := H0.out.box.frozen 1
      go_upto_region 11 with fail
      clear c1 p3c k1
      obtain ⟨x1, hx1⟩ : ∃ W, W = wr.setCell ⟨w1.heap.size, 1, none⟩ (.int .i64 U1) := ⟨_, rfl⟩
      have H1 : Hid (Sx ⟨g, l, s, p⟩ w w1 k v ⟨U1, i, o, si⟩ x1) := by show Sx _ _ _ _ _ _ _; rw [hx1]; exact H0.out.u U1
      rw [← hx1]
      clear hx1
      clear H0
      have c1 := H1.out.box.cell (j := 1) (v := .int .i64 U1) rfl
      have c2 := H1.out.box.cell (j := 2) (v := .int .i64 i) rfl
      have p0c := H1.out.par.cell (j := 0) (v := .int .i64 g) rfl
      go_quiet (first | (go_at_call 95; exact quiet_eq (M1.out _)))
      clear c1 c2 p0c
      obtain ⟨x2, hx2⟩ : ∃ W, W = x1.drewN nq := ⟨_, rfl⟩
      have H2 : Hid (Sx ⟨g, l, s, p⟩ w w1 k v ⟨U1, i, o, si⟩ x2) := by show Sx _ _ _ _ _ _ _; rw [hx2]; exact H1.out.drewN nq
      rw [← hx2]
      clear hx2
      clear H1
      have c1 := H2.out.box.cell (j := 1) (v := .int .i64 U1) rfl
      have c2 := H2.out.box.cell (j := 2) (v := .int .i64 i) rfl
      have p2c := H2.out.par.cell (j := 2) (v := .int .i64 s) rfl
      have k1 := H2.out.box.frozen 1
      have k2 := H2.out.box.frozen 2
      go_upto_region 15 with fail
      clear c1 c2 p2c k1 k2
      obtain ⟨x3, hx3⟩ : ∃ W, W = (x2.setCell ⟨w1.heap.size, 1, none⟩ (.int .i64 U2)).setCell ⟨w1.heap.size, 2, none⟩ (.int .i64 I1) := ⟨_, rfl⟩
      have H3 : Hid (Sx ⟨g, l, s, p⟩ w w1 k v ⟨U2, I1, o, si⟩ x3) := by show Sx _ _ _ _ _ _ _; rw [hx3]; exact (H2.out.u U2).i I1
      rw [← hx3]
      clear hx3
      clear H2
      have c1 := H3.out.box.cell (j := 1) (v := .int .i64 U2) rfl
      have c2 := H3.out.box.cell (j := 2) (v := .int .i64 I1) rfl
      have c4 := H3.out.box.cell (j := 4) (v := .int .i64 si) rfl
      have k1 := H3.out.box.frozen 1
      have k2 := H3.out.box.frozen 2
      have k4 := H3.out.box.frozen 4
      go_upto_region 19 with fail
      clear c1 c2 c4 k1 k2 k4
      obtain ⟨x4, hx4⟩ : ∃ W, W = ((x3.setCell ⟨w1.heap.size, 1, none⟩ (.int .i64 (U2 - Y))).setCell ⟨w1.heap.size, 2, none⟩ (.int .i64 I2)).setCell ⟨w1.heap.size, 4, none⟩ (.int .i64 (si + (Y - Z))) := ⟨_, rfl⟩
      have H4 : Hid (Sx ⟨g, l, s, p⟩ w w1 k v ⟨U2 - Y, I2, o, si + (Y - Z)⟩ x4) := by show Sx _ _ _ _ _ _ _; rw [hx4]; exact ((H3.out.u (U2 - Y)).i I2).s (si + (Y - Z))
      rw [← hx4]
      clear hx4
      clear H3
      have c2 := H4.out.box.cell (j := 2) (v := .int .i64 I2) rfl
      have c3 := H4.out.box.cell (j := 3) (v := .int .i64 o) rfl
      have p1c := H4.out.par.cell (j := 1) (v := .int .i64 l) rfl
      have k2 := H4.out.box.frozen 2
      have k3 := H4.out.box.frozen 3
      go_upto_region 22 with fail
      clear c2 c3 p1c k2 k3
      obtain ⟨x5, hx5⟩ : ∃ W, W = (x4.setCell ⟨w1.heap.size, 2, none⟩ (.int .i64 (I2 - V))).setCell ⟨w1.heap.size, 3, none⟩ (.int .i64 (o + V)) := ⟨_, rfl⟩
      have H5 : Hid (Sx ⟨g, l, s, p⟩ w w1 k v ⟨U2 - Y, I2 - V, o + V, si + (Y - Z)⟩ x5) := by show Sx _ _ _ _ _ _ _; rw [hx5]; exact (H4.out.i (I2 - V)).o (o + V)
      rw [← hx5]
      clear hx5
      clear H4
      have d1 := H5.out.box.cell (j := 5) (v := v) rfl
      have d2 := H5.out.box.cell (j := 2) (v := .int .i64 (I2 - V)) rfl
      have HO1 : Hid (x5.ownsRow (w1.heap.size + 1) 2 1 v k (il (fun i => (lrun ⟨g, l, s, p⟩ (i + 1)).i) k)) := H5.out.own
      have z1 : w1.heap.size + 1 ≤ x5.heap.size := H5.out.lt.2
      go_wp2_with (first | (at_builtin; refine push_law rfl (.tmp 98) (.tmp 101) 24 rfl 2 (.int .i64 0) 1 8 Try.underlying24 info2 rfl (by decide) (by decide) x5 [.int .i64 (I2 - V)] rfl (by intro u hu; simp at hu; subst hu; rfl) (w1.heap.size + 1) v k _ (by simp [Act.eval]) HO1.out 1 (by simp [Act.eval]) (by omega) z1 ?_; intro v1 x6 own6 grow6 nn6; obtain ⟨g', cp, rfl⟩ := owns_form own6; have b3 : Below (w1.heap.size + 1) x5 x6 := push_below HO1.out grow6 (Below.refl _ _) z1; have B6 : Hid (Blk x6 w1.heap.size #[.int .i64 0, .int .i64 (U2 - Y), .int .i64 (I2 - V), .int .i64 (o + V), .int .i64 (si + (Y - Z)), v] 79) := (b3.block _ (by omega)).trans H5.out.box; have c5' := B6.out.cell (j := 5) (v := v) rfl; have k5 := B6.out.frozen 5))
      have HN : Hid (Sx ⟨g, l, s, p⟩ w w1 (k + 1) (.slice (some ⟨g', 0, none⟩) (k + 1) cp) (lrun ⟨g, l, s, p⟩ (k + 1)) (x6.setCell ⟨w1.heap.size, 5, none⟩ (.slice (some ⟨g', 0, none⟩) (k + 1) cp))) := by
        have hh : Sx ⟨g, l, s, p⟩ w w1 (k + 1) (.slice (some ⟨g', 0, none⟩) (k + 1) cp) (lrun ⟨g, l, s, p⟩ (k + 1)) (x6.setCell ⟨w1.heap.size, 5, none⟩ (.slice (some ⟨g', 0, none⟩) (k + 1) cp)) := by
          have hl := H5.out.lt
          refine ⟨?_, owns_set ?_ (by omega), ?_, ?_, ?_, ?_⟩
          · rw [HRn.out]
            exact B6.out.set 5 _ rfl
          · rw [← il_push]
            show x6.ownsRow (w1.heap.size + 1) 2 1 _ (k + 1) (il _ k ++ [.int .i64 (lrun ⟨g, l, s, p⟩ (k + 1)).i])
            rw [HRn.out]
            exact own6
          · exact Blk.setOther ((b3.block _ (by omega)).trans H5.out.par) (by simp; omega) _
          · exact Blk.setOther ((b3.block _ (by omega)).trans H5.out.res) (by simp; omega) _
          · exact (H5.out.below.trans (b3.mono (by omega))).setCell (by simp; omega) _
          · have := b3.size
            simp
            omega
        exact hh
      clear own6 grow6 nn6 b3 B6 c5' k5 H5 HO1 z1 d1 d2
      go_wp2
      exact ⟨⟨k + 1, _, by omega, by simp, HN⟩, by simp [intOf]; omega⟩
    · obtain rfl : k = n := by omega
      have h := HB.out
      have hO := owned_il h.own
      obtain ⟨ao, cap, rfl⟩ := hO.form
      have hbox := h.box
      rw [← HT.out] at hbox
      have HW : Hid (OwS 2 (w1.heap.size + 1) wr.heap.size wr (.slice ao k cap) k (fun i => .int .i64 (lrun a (i + 1)).i)) := hO
      have HR : Hid (Blk wr (w.heap.size + 1) #[.int .i64 0, .int .i64 0, .int .i64 0, .int .i64 0, .int .i64 0, .slice none 0 0] 79) := h.res
      have HO : Hid (Below w.heap.size w wr) := h.below
      have HZ : Hid (w.heap.size + 2 ≤ w1.heap.size) := h.lt.1
      have b0 := hbox.cell (j := 0) (v := .int .i64 0) rfl
      have b1 := hbox.cell (j := 1) (v := .int .i64 T.u) rfl
      have b2 := hbox.cell (j := 2) (v := .int .i64 T.i) rfl
      have b3 := hbox.cell (j := 3) (v := .int .i64 T.o) rfl
      have b4 := hbox.cell (j := 4) (v := .int .i64 T.s) rfl
      have b5 := hbox.cell (j := 5) (v := .slice ao k cap) rfl
      have d0 := HR.out.cell (j := 0) (v := .int .i64 0) rfl
      have f0 := HR.out.frozen 0
      have d1 := HR.out.cell (j := 1) (v := .int .i64 0) rfl
      have f1 := HR.out.frozen 1
      have d2 := HR.out.cell (j := 2) (v := .int .i64 0) rfl
      have f2 := HR.out.frozen 2
      have d3 := HR.out.cell (j := 3) (v := .int .i64 0) rfl
      have f3 := HR.out.frozen 3
      have d4 := HR.out.cell (j := 4) (v := .int .i64 0) rfl
      have f4 := HR.out.frozen 4
      have d5 := HR.out.cell (j := 5) (v := .slice none 0 0) rfl
      have f5 := HR.out.frozen 5
      clear h hbox hO HR HB HG HT
      go_wp2
      refine bodyPost_ret (v := Lv 0 T (.slice ao k cap)) (by simp [results, Try.results45, go_sem, d0, d1, d2, d3, d4, d5]) rfl ⟨_, rfl, ?_, ?_⟩
      · have z := HZ.out
        rcases HW.out with ⟨e1, e2⟩ | ⟨g, cp, e1, h1, h2, h3⟩
        · exact Or.inl ⟨e1, e2⟩
        · exact Or.inr ⟨g, cp, e1, by omega, by simpa using h2, (((((h3.setOther (by simp; omega) _).setOther (by simp; omega) _).setOther (by simp; omega) _).setOther (by simp; omega) _).setOther (by simp; omega) _).setOther (by simp; omega) _⟩
      · exact (((((HO.out.setCell (by simp) _).setCell (by simp) _).setCell (by simp) _).setCell (by simp) _).setCell (by simp) _).setCell (by simp) _
end Go.Proofs.Ytkkajcdjkfbcgaa
