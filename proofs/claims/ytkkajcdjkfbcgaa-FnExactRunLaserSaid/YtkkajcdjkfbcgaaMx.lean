/- Mixing: three colours of photons, a step, both packages. -/
import Derived.Test.YtkkajcdjkfbcgaaLz
import Derived.Handy
namespace Go.Proofs.Ytkkajcdjkfbcgaa
open Go.RowKit
set_option linter.unusedVariables false
set_option linter.unusedSimpArgs false
structure M3 where
  a : Int
  b : Int
  c : Int
def mj (u : Int) (s : M3) : Int := lsr (lsr s.a s.b) ((s.a * s.b).tdiv u)
def mp (d : Int) (s : M3) : Int := s.c.tdiv d
def mst (u d : Int) (s : M3) : M3 := ⟨s.a + (mp d s - mj u s), s.b + (mp d s - mj u s), s.c + (mj u s - mp d s)⟩
structure Mok (s : M3) : Prop where
  a0 : 0 ≤ s.a
  b0 : 0 ≤ s.b
  c0 : 0 ≤ s.c
  ac : s.a + s.c ≤ 2000000
  bc : s.b + s.c ≤ 2000000
theorem tdiv_bd {x d : Int} (h : 0 ≤ x) (hd : 1 ≤ d) : 0 ≤ x.tdiv d ∧ x.tdiv d ≤ x := by
  rw [Int.tdiv_eq_ediv_of_nonneg h]
  exact ⟨Int.ediv_nonneg h (by omega), Int.ediv_le_self _ h⟩
theorem Mok.prod {s : M3} (h : Mok s) : 0 ≤ s.a * s.b ∧ s.a * s.b ≤ 4000000000000 := by
  obtain ⟨h1, h2, h3, h4, h5⟩ := h
  refine ⟨Int.mul_nonneg h1 h2, ?_⟩
  have := Int.mul_le_mul (show s.a ≤ 2000000 by omega) (show s.b ≤ 2000000 by omega) h2 (by omega)
  omega
theorem Mok.parts {s : M3} (h : Mok s) {u d : Int} (hu : 1 ≤ u) (hd : 1 ≤ d) : 0 ≤ mj u s ∧ mj u s ≤ s.a ∧ mj u s ≤ s.b ∧ 0 ≤ mp d s ∧ mp d s ≤ s.c := by
  have hp := tdiv_bd h.prod.1 hu
  have hc := tdiv_bd h.c0 hd
  have h1 := h.a0
  have h2 := h.b0
  unfold mj mp lsr
  refine ⟨?_, ?_, ?_, hc.1, hc.2⟩ <;> (split <;> split <;> omega)
theorem Mok.step {s : M3} (h : Mok s) {u d : Int} (hu : 1 ≤ u) (hd : 1 ≤ d) : Mok (mst u d s) := by
  obtain ⟨p1, p2, p3, p4, p5⟩ := h.parts hu hd
  obtain ⟨h1, h2, h3, h4, h5⟩ := h
  constructor <;> (simp only [mst]; omega)
def mrun (u d : Int) (s : M3) : Nat → M3
  | 0 => s
  | k + 1 => mst u d (mrun u d s k)
theorem mrun_ok {u d : Int} (hu : 1 ≤ u) (hd : 1 ≤ d) {s : M3} (h : Mok s) : ∀ k, Mok (mrun u d s k)
  | 0 => h
  | k + 1 => (mrun_ok hu hd h k).step hu hd
theorem min3_run (a b x : Int) (ts : Array TypeId) (t : TypeId) (W : World) : (Builtin.min_ ts t #[.int .i64 a, .int .i64 b, .int .i64 x]).run Try.prog W = .ok (.int .i64 (lsr (lsr a b) x)) W := by
  have e : (if x < (if b < a then b else a) then x else (if b < a then b else a)) = lsr (lsr a b) x := by
    unfold lsr
    split <;> split <;> split <;> (try split) <;> omega
  rw [← e]
  simp [Builtin.min_, Builtin.min2]
abbrev Mc (s : M3) (u d : Int) : Array Value := #[.int .i64 0, .int .i64 s.a, .int .i64 s.b, .int .i64 s.c, .int .i64 u, .int .i64 d]
set_option maxRecDepth 20000 in
set_option maxHeartbeats 3200000 in
theorem mstep_i {u d : Int} {s : M3} (hu : 1 ≤ u) (hd : 1 ≤ d) (hu1 : u ≤ 1000000) (hd1 : d ≤ 1000000) (hs : Mok s) (r : Nat) (w : World) (h : Blk w r (Mc s u d) 130) :
    Calls Try.prog 100 #[.pointer (some ⟨r, 0, none⟩)] w fun e w' => e = .returned (.tuple #[]) ∧ Blk w' r (Mc (mst u d s) u d) 130 ∧ Within r (r + 1) w w' ∧ w'.heap.size = w.heap.size := by
  obtain ⟨p1, p2, p3, p4, p5⟩ := hs.parts hu hd
  obtain ⟨q0, q1⟩ := hs.prod
  have r1 := tdiv_bd q0 hu
  obtain ⟨a0, b0, c0, ac, bc⟩ := hs
  obtain ⟨a, b, c⟩ := s
  simp only at *
  obtain ⟨P, hP⟩ : ∃ P, P = a * b := ⟨_, rfl⟩
  obtain ⟨D, hD⟩ : ∃ D, D = P.tdiv u := ⟨_, rfl⟩
  obtain ⟨X, hX⟩ : ∃ X, X = mj u ⟨a, b, c⟩ := ⟨_, rfl⟩
  obtain ⟨Y, hY⟩ : ∃ Y, Y = mp d ⟨a, b, c⟩ := ⟨_, rfl⟩
  have e1 : a * b = P := hP.symm
  have e2 : P.tdiv u = D := hD.symm
  have e3 : c.tdiv d = Y := hY.symm
  have hm : ∀ (ts : Array TypeId) (t : TypeId) (W : World), (Builtin.min_ ts t #[.int .i64 a, .int .i64 b, .int .i64 D]).run Try.prog W = .ok (.int .i64 X) W := fun ts t W => by
    rw [min3_run, hX, hD, hP]
    rfl
  have HR : Hid (mst u d ⟨a, b, c⟩ = ⟨a + (Y - X), b + (Y - X), c + (X - Y)⟩) := by show _ = _; rw [hX, hY]; rfl
  rw [← hX] at p1 p2 p3
  rw [← hY] at p4 p5
  rw [← hP] at q0 q1 r1
  rw [← hD] at r1
  obtain ⟨r1, r2⟩ := r1
  have HB : Hid (Blk w r (Mc ⟨a, b, c⟩ u d) 130) := h
  have c0' := h.cell (j := 0) (v := .int .i64 0) rfl
  have c1 := h.cell (j := 1) (v := .int .i64 a) rfl
  have c2 := h.cell (j := 2) (v := .int .i64 b) rfl
  have c3 := h.cell (j := 3) (v := .int .i64 c) rfl
  have c4 := h.cell (j := 4) (v := .int .i64 u) rfl
  have c5 := h.cell (j := 5) (v := .int .i64 d) rfl
  have f1 := h.frozen 1
  have f2 := h.frozen 2
  have f3 := h.frozen 3
  have hu0 : ¬ u = 0 := by omega
  have hd0 : ¬ d = 0 := by omega
  clear h hX hY hP hD
  go_enter Try.func100, Try.ntmps100
  go_upto_region 0 with fail
  go_region
  go_upto_region 1 with fail
  go_region
  go_wp2
  refine bodyPost_end (v := .tuple #[]) (by simp [results, Try.results100, go_sem]) rfl ⟨rfl, ?_, ?_, by simp⟩
  · rw [HR.out]
    exact (((HB.out.set 1 (.int .i64 (a + (Y - X))) rfl).set 2 (.int .i64 (b + (Y - X))) rfl).set 3 (.int .i64 (c + (X - Y))) rfl).drew.drew
  · exact ((((Within.refl r (r + 1) w).setCell (by simp) (by simp) _).setCell (by simp) (by simp) _).setCell (by simp) (by simp) _).drew.drew
set_option maxRecDepth 20000 in
set_option maxHeartbeats 1600000 in
theorem repeat_100 {I : Nat → World → Prop} (v : Value) (n : Nat) (hn : n ≤ 1000) (w : World) (hstep : ∀ k W, k < n → I k W → Calls Try.prog 100 #[v] W fun e W' => e = .returned (.tuple #[]) ∧ I (k + 1) W') (h0 : I 0 w) :
    Calls Try.prog 97 #[.int .i64 (n : Int), .func (.func 100) #[v] #[]] w fun e w' => e = .returned (.tuple #[]) ∧ I n w' := by
  have HS : Hid (∀ k W, k < n → I k W → Calls Try.prog 100 #[v] W fun e W' => e = .returned (.tuple #[]) ∧ I (k + 1) W') := hstep
  have H0 : Hid (I 0 w) := h0
  clear hstep h0
  go_enter Try.func97, Try.ntmps97
  go_wp2_with fail
  go_loopw [5] (fun i wx => ∃ k : Nat, k ≤ n ∧ i = .int .i64 (k : Int) ∧ Hid (I k wx)) (fun i _ => n - (intOf i).toNat)
  case atStart => exact ⟨0, Nat.zero_le _, rfl, H0⟩
  case round =>
    obtain ⟨k, hk, rfl, HK⟩ := hrel
    by_cases hkn : k < n
    · have hkI : (k : Int) < n := by omega
      go_wp2_with fail
      refine (HS.out k wr hkn HK.out).mono ?_
      rintro e w1 ⟨rfl, HN⟩
      replace HN : Hid (I (k + 1) w1) := HN
      go_wp2
      exact ⟨⟨k + 1, by omega, by simp, HN⟩, by simp [intOf]; omega⟩
    · obtain rfl : k = n := by omega
      have hkI : ¬ (k : Int) < k := by omega
      clear HS
      go_wp2
      exact bodyPost_end (v := .tuple #[]) (by simp [results, Try.results97, go_sem]) rfl ⟨rfl, HK.out⟩
set_option maxRecDepth 20000 in
set_option maxHeartbeats 1600000 in
theorem repeat_98 {I : Nat → World → Prop} (v : Value) (n : Nat) (hn : n ≤ 1000) (w : World) (hstep : ∀ k W, k < n → I k W → Calls Try.prog 98 #[v] W fun e W' => e = .returned (.tuple #[]) ∧ I (k + 1) W') (h0 : I 0 w) :
    Calls Try.prog 97 #[.int .i64 (n : Int), .func (.func 98) #[v] #[]] w fun e w' => e = .returned (.tuple #[]) ∧ I n w' := by
  have HS : Hid (∀ k W, k < n → I k W → Calls Try.prog 98 #[v] W fun e W' => e = .returned (.tuple #[]) ∧ I (k + 1) W') := hstep
  have H0 : Hid (I 0 w) := h0
  clear hstep h0
  go_enter Try.func97, Try.ntmps97
  go_wp2_with fail
  go_loopw [5] (fun i wx => ∃ k : Nat, k ≤ n ∧ i = .int .i64 (k : Int) ∧ Hid (I k wx)) (fun i _ => n - (intOf i).toNat)
  case atStart => exact ⟨0, Nat.zero_le _, rfl, H0⟩
  case round =>
    obtain ⟨k, hk, rfl, HK⟩ := hrel
    by_cases hkn : k < n
    · have hkI : (k : Int) < n := by omega
      go_wp2_with fail
      refine (HS.out k wr hkn HK.out).mono ?_
      rintro e w1 ⟨rfl, HN⟩
      replace HN : Hid (I (k + 1) w1) := HN
      go_wp2
      exact ⟨⟨k + 1, by omega, by simp, HN⟩, by simp [intOf]; omega⟩
    · obtain rfl : k = n := by omega
      have hkI : ¬ (k : Int) < k := by omega
      clear HS
      go_wp2
      exact bodyPost_end (v := .tuple #[]) (by simp [results, Try.results97, go_sem]) rfl ⟨rfl, HK.out⟩
end Go.Proofs.Ytkkajcdjkfbcgaa
