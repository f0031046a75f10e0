/- A laser's step, plainly; the program's. -/
import Derived.Test.YtkkajcdjkfbcgaaMx
import Derived.Handy
import Derived.Deep.RegionHeld3
namespace Go.Proofs.Ytkkajcdjkfbcgaa
open Go.RowKit
set_option linter.unusedVariables false
set_option linter.unusedSimpArgs false
structure L4 where
  u : Int
  i : Int
  o : Int
  s : Int
def lX (a : La) (t : L4) : Int := lsr (t.u + a.p) (((t.u + a.p) * t.i).tdiv a.g)
def lY (a : La) (t : L4) : Int := (t.u + a.p - lX a t).tdiv a.s
def lZ (a : La) (t : L4) : Int := (lY a t).tdiv 16
def lW (a : La) (t : L4) : Int := (t.i + lX a t + lZ a t).tdiv a.l
def lst (a : La) (t : L4) : L4 := ⟨t.u + a.p - lX a t - lY a t, t.i + lX a t + lZ a t - lW a t, t.o + lW a t, t.s + (lY a t - lZ a t)⟩
structure Lok (k : Nat) (t : L4) : Prop where
  u0 : 0 ≤ t.u
  i0 : 0 ≤ t.i
  o0 : 0 ≤ t.o
  s0 : 0 ≤ t.s
  sum : t.u + t.i + t.o + t.s ≤ 1000 * k
structure Lgo (a : La) : Prop where
  g0 : 1 ≤ a.g
  g1 : a.g ≤ 1000000
  l0 : 1 ≤ a.l
  l1 : a.l ≤ 1000000
  s0 : 1 ≤ a.s
  s1 : a.s ≤ 1000000
  p0 : 0 ≤ a.p
  p1 : a.p ≤ 1000
theorem lgo_of {a : La} (h : lcode a = 0) : Lgo a := by
  unfold lcode at h
  split at h
  · rename_i hh
    obtain ⟨h1, h2, h3, h4, h5⟩ := hh
    have := rate_t h1
    have := rate_t h2
    have := rate_t h3
    constructor <;> omega
  · cases h
theorem Lok.prod {k : Nat} {t : L4} (h : Lok k t) {a : La} (ha : Lgo a) (hk : k ≤ 1000) : 0 ≤ (t.u + a.p) * t.i ∧ (t.u + a.p) * t.i ≤ 2000000000000 := by
  obtain ⟨h1, h2, h3, h4, h5⟩ := h
  have := ha.p0
  have := ha.p1
  refine ⟨Int.mul_nonneg (by omega) h2, ?_⟩
  have := Int.mul_le_mul (show t.u + a.p ≤ 1001000 by omega) (show t.i ≤ 1000000 by omega) h2 (by omega)
  omega
theorem Lok.parts {k : Nat} {t : L4} (h : Lok k t) {a : La} (ha : Lgo a) (hk : k ≤ 1000) : 0 ≤ lX a t ∧ lX a t ≤ t.u + a.p ∧ 0 ≤ lY a t ∧ lY a t ≤ t.u + a.p - lX a t ∧ 0 ≤ lZ a t ∧ lZ a t ≤ lY a t ∧ 0 ≤ lW a t ∧ lW a t ≤ t.i + lX a t + lZ a t := by
  have hp := tdiv_bd (h.prod ha hk).1 ha.g0
  have h1 := h.u0
  have h2 := h.i0
  have h3 := ha.p0
  have x : 0 ≤ lX a t ∧ lX a t ≤ t.u + a.p := by unfold lX lsr; split <;> omega
  have y := tdiv_bd (show 0 ≤ t.u + a.p - lX a t by omega) ha.s0
  have z := tdiv_bd y.1 (show (1 : Int) ≤ 16 by decide)
  have w := tdiv_bd (show 0 ≤ t.i + lX a t + lZ a t by have := z.1; unfold lZ lY; omega) ha.l0
  exact ⟨x.1, x.2, y.1, y.2, z.1, z.2, w.1, w.2⟩
theorem Lok.step {k : Nat} {t : L4} (h : Lok k t) {a : La} (ha : Lgo a) (hk : k ≤ 1000) : Lok (k + 1) (lst a t) := by
  obtain ⟨p1, p2, p3, p4, p5, p6, p7, p8⟩ := h.parts ha hk
  obtain ⟨h1, h2, h3, h4, h5⟩ := h
  have := ha.p1
  constructor <;> (simp only [lst]; omega)
def lrun (a : La) : Nat → L4
  | 0 => ⟨0, 0, 0, 0⟩
  | k + 1 => lst a (lrun a k)
theorem lrun_ok {a : La} (ha : Lgo a) : ∀ k, k ≤ 1000 → Lok k (lrun a k)
  | 0, _ => by constructor <;> simp [lrun]
  | k + 1, h => (lrun_ok ha k (by omega)).step ha (by omega)
theorem min2_run (a b : Int) (ts : Array TypeId) (t : TypeId) (W : World) : (Builtin.min_ ts t #[.int .i64 a, .int .i64 b]).run Try.prog W = .ok (.int .i64 (lsr a b)) W := by
  have e : (if b < a then b else a) = lsr a b := by
    unfold lsr
    split <;> split <;> omega
  rw [← e]
  simp [Builtin.min_, Builtin.min2]
abbrev Lc (a : La) (t : L4) (v : Value) : Array Value := #[.int .i64 a.g, .int .i64 a.l, .int .i64 a.s, .int .i64 a.p, .int .i64 0, .int .i64 t.u, .int .i64 t.i, .int .i64 t.o, .int .i64 t.s, v]
/-- The run's block and its trail behind k steps. -/
structure Lb (a : La) (k r : Nat) (w0 W : World) (B : Nat) (v : Value) : Prop where
  box : Blk W r (Lc a (lrun a k) v) 127
  own : W.ownsRow B 2 1 v k (il (fun i => (lrun a (i + 1)).i) k)
  below : Below r w0 W
  lt : r < B ∧ B ≤ W.heap.size
set_option maxRecDepth 20000 in
set_option maxHeartbeats 6400000 in
theorem lstep_i {a : La} (ha : Lgo a) {k : Nat} (hk : k < 1000) {r B : Nat} {w0 w : World} {v : Value} (h : Lb a k r w0 w B v) :
    Calls Try.prog 98 #[.pointer (some ⟨r, 0, none⟩)] w fun e w' => e = .returned (.tuple #[]) ∧ ∃ v', Lb a (k + 1) r w0 w' B v' := by
  have hok := lrun_ok ha k (by omega)
  obtain ⟨p1, p2, p3, p4, p5, p6, p7, p8⟩ := hok.parts ha (by omega)
  obtain ⟨q0, q1⟩ := hok.prod ha (by omega)
  have r1 := tdiv_bd q0 ha.g0
  obtain ⟨h1, h2, h3, h4, h5⟩ := hok
  have HL : Hid (Lb a k r w0 w B v) := h
  obtain ⟨hbox, hown, hbel, hlt⟩ := h
  have hN : lrun a (k + 1) = lst a (lrun a k) := rfl
  obtain ⟨t, ht⟩ : ∃ t, t = lrun a k := ⟨_, rfl⟩
  rw [← ht] at p1 p2 p3 p4 p5 p6 p7 p8 q0 q1 r1 h1 h2 h3 h4 h5 hN hbox
  have HT : Hid (t = lrun a k) := ht
  obtain ⟨g0, g1, l0, l1, s0, s1, e0, e1⟩ := ha
  obtain ⟨X, hX⟩ : ∃ X, X = lX a t := ⟨_, rfl⟩
  obtain ⟨Y, hY⟩ : ∃ X, X = lY a t := ⟨_, rfl⟩
  obtain ⟨Z, hZ⟩ : ∃ X, X = lZ a t := ⟨_, rfl⟩
  obtain ⟨V, hV⟩ : ∃ X, X = lW a t := ⟨_, rfl⟩
  rw [← hX] at p1 p2 p4 p8
  rw [← hY] at p3 p4 p6
  rw [← hZ] at p5 p6 p8
  rw [← hV] at p7 p8
  obtain ⟨g, l, s, p⟩ := a
  obtain ⟨u, i, o, si⟩ := t
  simp only at *
  obtain ⟨U1, hU1⟩ : ∃ U, U = u + p := ⟨_, rfl⟩
  obtain ⟨P, hP⟩ : ∃ P, P = U1 * i := ⟨_, rfl⟩
  obtain ⟨D, hD⟩ : ∃ D, D = P.tdiv g := ⟨_, rfl⟩
  obtain ⟨U2, hU2⟩ : ∃ U, U = U1 - X := ⟨_, rfl⟩
  obtain ⟨I1, hI1⟩ : ∃ U, U = i + X := ⟨_, rfl⟩
  obtain ⟨I2, hI2⟩ : ∃ U, U = I1 + Z := ⟨_, rfl⟩
  have HR : Hid (lrun ⟨g, l, s, p⟩ (k + 1) = ⟨U2 - Y, I2 - V, o + V, si + (Y - Z)⟩) := by show _ = _; rw [hN, hU2, hI2, hI1, hU1, hX, hY, hZ, hV]; rfl
  have hm : ∀ (ts : Array TypeId) (t : TypeId) (W : World), (Builtin.min_ ts t #[.int .i64 U1, .int .i64 D]).run Try.prog W = .ok (.int .i64 X) W := fun ts t W => by
    rw [min2_run, hX, hD, hP, hU1]
    rfl
  have e2 : P.tdiv g = D := hD.symm
  have e3 : U2.tdiv s = Y := by rw [hU2, hU1, hX, hY]; rfl
  have e4 : Y.tdiv 16 = Z := by rw [hY, hZ]; rfl
  have e5 : I2.tdiv l = V := by rw [hI2, hI1, hX, hZ, hV]; rfl
  rw [← hU1] at p2 p4 q0 q1 r1
  rw [← hP] at q0 q1 r1
  rw [← hD] at r1
  rw [← hU2] at p4
  rw [← hI1, ← hI2] at p8
  have f1 : u + p = U1 := hU1.symm
  have f2 : U1 * i = P := hP.symm
  have f3 : U1 - X = U2 := hU2.symm
  have f4 : i + X = I1 := hI1.symm
  have f5 : I1 + Z = I2 := hI2.symm
  have b1 : 0 ≤ U1 ∧ U1 ≤ 1001000 := by omega
  have b2 : 0 ≤ U2 ∧ U2 ≤ 1001000 := by omega
  have b3 : 0 ≤ I1 ∧ I1 ≤ 3000000 := by omega
  have b4 : 0 ≤ I2 ∧ I2 ≤ 6000000 := by omega
  clear hX hY hZ hV hU1 hP hD hU2 hI1 hI2 hN ht
  have c0 := hbox.cell (j := 0) (v := .int .i64 g) rfl
  have c1 := hbox.cell (j := 1) (v := .int .i64 l) rfl
  have c2 := hbox.cell (j := 2) (v := .int .i64 s) rfl
  have c3 := hbox.cell (j := 3) (v := .int .i64 p) rfl
  have c5 := hbox.cell (j := 5) (v := .int .i64 u) rfl
  have c6 := hbox.cell (j := 6) (v := .int .i64 i) rfl
  have c7 := hbox.cell (j := 7) (v := .int .i64 o) rfl
  have c8 := hbox.cell (j := 8) (v := .int .i64 si) rfl
  have k5 := hbox.frozen 5
  have k6 := hbox.frozen 6
  have k7 := hbox.frozen 7
  have k8 := hbox.frozen 8
  have n1 : ¬ g = 0 := by omega
  have n2 : ¬ l = 0 := by omega
  have n3 : ¬ s = 0 := by omega
  have HB : Hid (Blk w r (Lc ⟨g, l, s, p⟩ ⟨u, i, o, si⟩ v) 127) := hbox
  clear hbox hown hbel hlt
  go_enter Try.func98, Try.ntmps98
  go_upto_region 0 with fail
  go_region
  go_upto_region 1 with fail
  go_region
  go_upto_region 4 with fail
  clear c0 c1 c2 c3 c5 c6 c7 c8 k5 k6 k7 k8
  obtain ⟨w1, hw1⟩ : ∃ W, W = (((w.setCell ⟨r, 5, none⟩ (.int .i64 U1)).setCell ⟨r, 5, none⟩ (.int .i64 U2)).setCell ⟨r, 6, none⟩ (.int .i64 I1)).drew.drew := ⟨_, rfl⟩
  have hb1 : Blk w1 r (Lc ⟨g, l, s, p⟩ ⟨U2, I1, o, si⟩ v) 127 := by rw [hw1]; exact (((HB.out.set 5 (.int .i64 U1) rfl).set 5 (.int .i64 U2) rfl).set 6 (.int .i64 I1) rfl).drew.drew
  have ho1 : w1.ownsRow B 2 1 v k (il (fun i => (lrun ⟨g, l, s, p⟩ (i + 1)).i) k) := by rw [hw1]; exact owns_set (owns_set (owns_set HL.out.own HL.out.lt.1) HL.out.lt.1) HL.out.lt.1
  have hz1 : Below r w0 w1 := by rw [hw1]; exact (((HL.out.below.setCell (by simp) _).setCell (by simp) _).setCell (by simp) _).drew.drew
  have hs1 : r < B ∧ B ≤ w1.heap.size := by rw [hw1]; simpa using HL.out.lt
  rw [← hw1]
  clear hw1
  have c0 := hb1.cell (j := 0) (v := .int .i64 g) rfl
  have c1 := hb1.cell (j := 1) (v := .int .i64 l) rfl
  have c2 := hb1.cell (j := 2) (v := .int .i64 s) rfl
  have c5 := hb1.cell (j := 5) (v := .int .i64 U2) rfl
  have c6 := hb1.cell (j := 6) (v := .int .i64 I1) rfl
  have c7 := hb1.cell (j := 7) (v := .int .i64 o) rfl
  have c8 := hb1.cell (j := 8) (v := .int .i64 si) rfl
  have k5 := hb1.frozen 5
  have k6 := hb1.frozen 6
  have k7 := hb1.frozen 7
  have k8 := hb1.frozen 8
  have HB1 : Hid (Blk w1 r _ 127 ∧ w1.ownsRow B 2 1 v k (il (fun i => (lrun ⟨g, l, s, p⟩ (i + 1)).i) k) ∧ Below r w0 w1 ∧ r < B ∧ B ≤ w1.heap.size) := ⟨hb1, ho1, hz1, hs1⟩
  clear hb1 ho1 hz1 hs1
  clear HB HL
  go_region
  go_upto_region 9 with fail
  clear c0 c1 c2 c5 c6 c7 c8 k5 k6 k7 k8
  obtain ⟨w2, hw2⟩ : ∃ W, W = (((w1.setCell ⟨r, 5, none⟩ (.int .i64 (U2 - Y))).setCell ⟨r, 6, none⟩ (.int .i64 I2)).setCell ⟨r, 8, none⟩ (.int .i64 (si + (Y - Z)))).drew := ⟨_, rfl⟩
  have hb2 : Blk w2 r (Lc ⟨g, l, s, p⟩ ⟨U2 - Y, I2, o, si + (Y - Z)⟩ v) 127 := by rw [hw2]; exact (((HB1.out.1.set 5 (.int .i64 (U2 - Y)) rfl).set 6 (.int .i64 I2) rfl).set 8 (.int .i64 (si + (Y - Z))) rfl).drew
  have ho2 : w2.ownsRow B 2 1 v k (il (fun i => (lrun ⟨g, l, s, p⟩ (i + 1)).i) k) := by rw [hw2]; exact owns_set (owns_set (owns_set HB1.out.2.1 HB1.out.2.2.2.1) HB1.out.2.2.2.1) HB1.out.2.2.2.1
  have hz2 : Below r w0 w2 := by rw [hw2]; exact (((HB1.out.2.2.1.setCell (by simp) _).setCell (by simp) _).setCell (by simp) _).drew
  have hs2 : r < B ∧ B ≤ w2.heap.size := by rw [hw2]; simpa using HB1.out.2.2.2
  rw [← hw2]
  clear hw2
  have c1 := hb2.cell (j := 1) (v := .int .i64 l) rfl
  have c6 := hb2.cell (j := 6) (v := .int .i64 I2) rfl
  have c7 := hb2.cell (j := 7) (v := .int .i64 o) rfl
  have k5 := hb2.frozen 5
  have k6 := hb2.frozen 6
  have k7 := hb2.frozen 7
  have k8 := hb2.frozen 8
  have HB2 : Hid (Blk w2 r _ 127 ∧ w2.ownsRow B 2 1 v k (il (fun i => (lrun ⟨g, l, s, p⟩ (i + 1)).i) k) ∧ Below r w0 w2 ∧ r < B ∧ B ≤ w2.heap.size) := ⟨hb2, ho2, hz2, hs2⟩
  clear hb2 ho2 hz2 hs2
  clear HB1
  go_region
  go_upto_region 12 with fail
  clear c1 c6 c7 k5 k6 k7 k8
  obtain ⟨w3, hw3⟩ : ∃ W, W = ((w2.setCell ⟨r, 6, none⟩ (.int .i64 (I2 - V))).setCell ⟨r, 7, none⟩ (.int .i64 (o + V))).drew := ⟨_, rfl⟩
  have hb3 : Blk w3 r (Lc ⟨g, l, s, p⟩ ⟨U2 - Y, I2 - V, o + V, si + (Y - Z)⟩ v) 127 := by rw [hw3]; exact ((HB2.out.1.set 6 (.int .i64 (I2 - V)) rfl).set 7 (.int .i64 (o + V)) rfl).drew
  have ho3 : w3.ownsRow B 2 1 v k (il (fun i => (lrun ⟨g, l, s, p⟩ (i + 1)).i) k) := by rw [hw3]; exact owns_set (owns_set HB2.out.2.1 HB2.out.2.2.2.1) HB2.out.2.2.2.1
  have hz3 : Below r w0 w3 := by rw [hw3]; exact ((HB2.out.2.2.1.setCell (by simp) _).setCell (by simp) _).drew
  have hs3 : r < B ∧ B ≤ w3.heap.size := by rw [hw3]; simpa using HB2.out.2.2.2
  rw [← hw3]
  clear hw3
  clear HB2
  have BU : Hid (Blk w3.drew r (Lc ⟨g, l, s, p⟩ ⟨U2 - Y, I2 - V, o + V, si + (Y - Z)⟩ v) 127) := hb3
  have O1 : Hid (w3.drew.ownsRow B 2 1 v k (il (fun i => (lrun ⟨g, l, s, p⟩ (i + 1)).i) k)) := ho3
  have LU : Hid (Below r w0 w3.drew) := hz3.drew
  have Z1 : Hid (B ≤ w3.drew.heap.size) := hs3.2
  have rB : r < B := hs3.1
  have z1 : B ≤ w3.heap.size := hs3.2
  have d1 := hb3.cell (j := 9) (v := v) rfl
  have d2 := hb3.cell (j := 6) (v := .int .i64 (I2 - V)) rfl
  have q1 : ∀ ob, (w3.alloc ob).cell? ⟨r, 9, none⟩ = some v := fun ob => caold d1
  have q2 : ∀ ob, (w3.alloc ob).cell? ⟨r, 6, none⟩ = some (.int .i64 (I2 - V)) := fun ob => caold d2
  have hk9 : k ≤ 1000000000 := by omega
  clear hb3 ho3 hz3 hs3
  go_region_law (first | (refine step_push rfl (.tmp 144) (.tmp 150) 24 rfl 2 (.int .i64 0) 1 8 Try.underlying24 info2 rfl (by decide) (by decide) w3.drew [.int .i64 (I2 - V)] rfl (by intro u hu; simp at hu; subst hu; rfl) B v k _ (by simp [Act.eval]) O1.out 1 (by simp [Act.eval]) hk9 Z1.out ?_; rintro v1 w4 own4 grow4 ⟨g', cp, rfl⟩; have b3 : Below B w3.drew w4 := push_below O1.out grow4 (Below.refl _ _) Z1.out; have B3 : Hid (Blk w4 r (Lc ⟨g, l, s, p⟩ ⟨U2 - Y, I2 - V, o + V, si + (Y - Z)⟩ v) 127) := (b3.block _ (by omega)).trans BU.out; have f1 := B3.out.frozen 9; have c1' := B3.out.cell (j := 9) (v := v) rfl))
  all_goals
    have HN : Hid (Lb ⟨g, l, s, p⟩ (k + 1) r w0 (w4.setCell ⟨r, 9, none⟩ (.slice (some ⟨g', 0, none⟩) (k + 1) cp)) B (.slice (some ⟨g', 0, none⟩) (k + 1) cp)) := by
      have hh : Lb ⟨g, l, s, p⟩ (k + 1) r w0 (w4.setCell ⟨r, 9, none⟩ (.slice (some ⟨g', 0, none⟩) (k + 1) cp)) B (.slice (some ⟨g', 0, none⟩) (k + 1) cp) := by
        refine ⟨?_, owns_set ?_ rB, ?_, rB, ?_⟩
        · rw [HR.out]
          exact B3.out.set 9 _ rfl
        · rw [← il_push]
          show w4.ownsRow B 2 1 _ (k + 1) (il _ k ++ [.int .i64 (lrun ⟨g, l, s, p⟩ (k + 1)).i])
          rw [HR.out]
          exact own4
        · exact (LU.out.trans (b3.mono (by omega))).setCell (by simp) _
        · have := b3.size
          have := Z1.out
          simp
          omega
      exact hh
    clear own4 grow4 b3 B3 f1 c1' LU BU O1 Z1 z1 q1 q2 d1 d2
    go_wp2
    exact bodyPost_end (v := .tuple #[]) (by simp [results, Try.results98, go_sem]) rfl ⟨rfl, _, HN.out⟩
end Go.Proofs.Ytkkajcdjkfbcgaa
