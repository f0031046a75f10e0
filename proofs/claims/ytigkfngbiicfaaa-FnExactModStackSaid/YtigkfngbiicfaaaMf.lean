/- Films over residues: ModFilm of both packages: contracts. -/
import Derived.Test.YtigkfngbiicfaaaIm
namespace Go.Proofs.Ytigkfngbiicfaaa
open Go.RowKit
set_option linter.unusedVariables false
namespace Wv
theorem inv_lo (a : Int) : 0 ≤ Rm.invM a := Rm.powI_lo _ _
theorem inv_hi (a : Int) : Rm.invM a < 998244353 := Rm.powI_hi _ _
/-- A film's e, c and s. -/
def fe (ph : Int) : Int := Rm.powI 3 (ph % 998244352)
def fc (ph : Int) : Int := Rm.mulM (Rm.addM (fe ph) (Rm.invM (fe ph))) (Rm.invM 2)
def fs (ph : Int) : Int := Rm.mulM (Rm.addM (fe ph) (-(Rm.invM (fe ph)))) (Rm.invM 2)
/-- A film's plate. -/
def film (x ph : Int) : Array Value :=
  if Rm.md x = 0 then #[.int .i64 0, .int .i64 0, .int .i64 0, .int .i64 0]
  else #[.int .i64 (fc ph), .int .i64 (Rm.mulM (fs ph) (Rm.invM x)), .int .i64 (Rm.mulM (fs ph) x), .int .i64 (fc ph)]
end Wv
set_option maxHeartbeats 2000000 in
theorem sFilm_zero (x ph : Int) (h : Rm.md x = 0) (w : World) : Calls Try.prog 24 #[.int .i64 x, .int .i64 ph] w fun e w' => e = .returned (.agg #[.int .i64 0, .int .i64 0, .int .i64 0, .int .i64 0]) ∧ Below w.heap.size w w' := by
  go_enter Try.func24, Try.ntmps24
  go_wp2_with fail
  refine (l2Mod_any _ _).mono ?_
  rintro e w1 ⟨rfl, rfl⟩
  rw [h]
  go_wp2
  refine bodyPost_ret (v := .agg #[.int .i64 0, .int .i64 0, .int .i64 0, .int .i64 0]) (by simp [results, Try.results24, go_sem]) rfl ⟨rfl, ?_⟩
  go_grown
set_option maxHeartbeats 2000000 in
theorem sFilm_some (x ph : Int) (h : Rm.md x ≠ 0) (w : World) : Calls Try.prog 24 #[.int .i64 x, .int .i64 ph] w fun e w' => e = .returned (.agg #[.int .i64 (Wv.fc ph), .int .i64 (Rm.mulM (Wv.fs ph) (Rm.invM x)), .int .i64 (Rm.mulM (Wv.fs ph) x), .int .i64 (Wv.fc ph)]) ∧ Below w.heap.size w w' := by
  have hz : (Rm.md x == 0) = false := by simp [h]
  have q1 := Wv.inv_lo (Wv.fe ph)
  have q2 := Wv.inv_hi (Wv.fe ph)
  obtain ⟨E, hE⟩ : ∃ E, E = Wv.fe ph := ⟨_, rfl⟩
  obtain ⟨I, hI⟩ : ∃ I, I = Rm.invM E := ⟨_, rfl⟩
  have ef : Wv.fc ph = Rm.mulM (Rm.addM E I) (Rm.invM 2) := by rw [hI, hE]; rfl
  have es : Wv.fs ph = Rm.mulM (Rm.addM E (-I)) (Rm.invM 2) := by rw [hI, hE]; rfl
  rw [ef, es]
  rw [← hE, ← hI] at q1 q2
  have HE : Hid (Rm.powI 3 (ph % 998244352) = E) := hE.symm
  have HI : Hid (Rm.invM E = I) := hI.symm
  clear hE hI ef es h
  have p1 := tmod_lo ph (show 0 < (998244352 : Int) by omega)
  have p2 := tmod_hi ph (show 0 < (998244352 : Int) by omega)
  have p3 := tmod_mod ph (show 0 < (998244352 : Int) by omega)
  have p4 := Int.emod_lt_of_pos ph (show 0 < (998244352 : Int) by omega)
  have HQ : ∀ t, Rm.powI 3 t = Rm.powI 3 (ph % 998244352) → Rm.powI 3 t = E := fun t ht => ht.trans HE.out
  by_cases hn : ph.tmod 998244352 < 0
  · rw [if_pos hn] at p3
    have HT : Hid (Rm.powI 3 (ph.tmod 998244352 + 998244352) = E) := HQ _ (by rw [p3])
    have hv : ph.tmod 998244352 + 998244352 ≤ 998244352 := by omega
    clear p3 p4 HQ
    go_enter Try.func24, Try.ntmps24
    go_wp2_with fail
    refine (l2Mod_any _ _).mono ?_
    rintro e w1 ⟨rfl, rfl⟩
    go_wp2_with fail
    try rw [show ph.tmod 998244352 + 998244353 - 1 = ph.tmod 998244352 + 998244352 by omega]
    refine (sPow_any _ _ (by omega) _).mono ?_
    rintro e w1 ⟨rfl, rfl⟩
    rw [HT.out]
    go_wp2_with fail
    refine (sInv_any _ _).mono ?_
    rintro e w1 ⟨rfl, rfl⟩
    go_wp2_with fail
    refine (sInv_any _ _).mono ?_
    rintro e w1 ⟨rfl, rfl⟩
    rw [HI.out]
    go_wp2_with fail
    refine (sAdd_any _ _ _).mono ?_
    rintro e w1 ⟨rfl, rfl⟩
    go_wp2_with fail
    refine (sMul_any _ _ _).mono ?_
    rintro e w1 ⟨rfl, rfl⟩
    go_wp2_with fail
    refine (sInv_any _ _).mono ?_
    rintro e w1 ⟨rfl, rfl⟩
    rw [HI.out]
    go_wp2_with fail
    refine (sAdd_any _ _ _).mono ?_
    rintro e w1 ⟨rfl, rfl⟩
    go_wp2_with fail
    refine (sMul_any _ _ _).mono ?_
    rintro e w1 ⟨rfl, rfl⟩
    go_wp2_with fail
    refine (sInv_any _ _).mono ?_
    rintro e w1 ⟨rfl, rfl⟩
    go_wp2_with fail
    refine (sMul_any _ _ _).mono ?_
    rintro e w1 ⟨rfl, rfl⟩
    go_wp2_with fail
    refine (sMul_any _ _ _).mono ?_
    rintro e w1 ⟨rfl, rfl⟩
    go_wp2
    refine bodyPost_ret (v := .agg #[.int .i64 (Rm.mulM (Rm.addM E I) (Rm.invM 2)), .int .i64 (Rm.mulM (Rm.mulM (Rm.addM E (-I)) (Rm.invM 2)) (Rm.invM x)), .int .i64 (Rm.mulM (Rm.mulM (Rm.addM E (-I)) (Rm.invM 2)) x), .int .i64 (Rm.mulM (Rm.addM E I) (Rm.invM 2))]) (by simp [results, Try.results24, go_sem]) rfl ⟨rfl, ?_⟩
    go_grown
  · rw [if_neg hn] at p3
    have HT : Hid (Rm.powI 3 (ph.tmod 998244352) = E) := HQ _ (by rw [p3])
    have hv : ph.tmod 998244352 ≤ 998244352 := by omega
    clear p3 p4 HQ
    go_enter Try.func24, Try.ntmps24
    go_wp2_with fail
    refine (l2Mod_any _ _).mono ?_
    rintro e w1 ⟨rfl, rfl⟩
    go_wp2_with fail
    try rw [show ph.tmod 998244352 + 998244353 - 1 = ph.tmod 998244352 + 998244352 by omega]
    refine (sPow_any _ _ (by omega) _).mono ?_
    rintro e w1 ⟨rfl, rfl⟩
    rw [HT.out]
    go_wp2_with fail
    refine (sInv_any _ _).mono ?_
    rintro e w1 ⟨rfl, rfl⟩
    go_wp2_with fail
    refine (sInv_any _ _).mono ?_
    rintro e w1 ⟨rfl, rfl⟩
    rw [HI.out]
    go_wp2_with fail
    refine (sAdd_any _ _ _).mono ?_
    rintro e w1 ⟨rfl, rfl⟩
    go_wp2_with fail
    refine (sMul_any _ _ _).mono ?_
    rintro e w1 ⟨rfl, rfl⟩
    go_wp2_with fail
    refine (sInv_any _ _).mono ?_
    rintro e w1 ⟨rfl, rfl⟩
    rw [HI.out]
    go_wp2_with fail
    refine (sAdd_any _ _ _).mono ?_
    rintro e w1 ⟨rfl, rfl⟩
    go_wp2_with fail
    refine (sMul_any _ _ _).mono ?_
    rintro e w1 ⟨rfl, rfl⟩
    go_wp2_with fail
    refine (sInv_any _ _).mono ?_
    rintro e w1 ⟨rfl, rfl⟩
    go_wp2_with fail
    refine (sMul_any _ _ _).mono ?_
    rintro e w1 ⟨rfl, rfl⟩
    go_wp2_with fail
    refine (sMul_any _ _ _).mono ?_
    rintro e w1 ⟨rfl, rfl⟩
    go_wp2
    refine bodyPost_ret (v := .agg #[.int .i64 (Rm.mulM (Rm.addM E I) (Rm.invM 2)), .int .i64 (Rm.mulM (Rm.mulM (Rm.addM E (-I)) (Rm.invM 2)) (Rm.invM x)), .int .i64 (Rm.mulM (Rm.mulM (Rm.addM E (-I)) (Rm.invM 2)) x), .int .i64 (Rm.mulM (Rm.addM E I) (Rm.invM 2))]) (by simp [results, Try.results24, go_sem]) rfl ⟨rfl, ?_⟩
    go_grown
theorem sFilm_any (x ph : Int) (w : World) : Calls Try.prog 24 #[.int .i64 x, .int .i64 ph] w fun e w' => e = .returned (.agg (Wv.film x ph)) ∧ Below w.heap.size w w' := by
  unfold Wv.film
  by_cases h : Rm.md x = 0
  · rw [if_pos h]; exact sFilm_zero x ph h w
  · rw [if_neg h]; exact sFilm_some x ph h w
set_option maxHeartbeats 2000000 in
theorem iFilm_zero (x ph : Int) (h : Rm.md x = 0) (w : World) : Calls Try.prog 25 #[.int .i64 x, .int .i64 ph] w fun e w' => e = .returned (.agg #[.int .i64 0, .int .i64 0, .int .i64 0, .int .i64 0]) ∧ Below w.heap.size w w' := by
  go_enter Try.func25, Try.ntmps25
  go_wp2_with fail
  refine (residue_any _ _).mono ?_
  rintro e w1 ⟨rfl, rfl⟩
  rw [h]
  go_wp2
  refine bodyPost_ret (v := .agg #[.int .i64 0, .int .i64 0, .int .i64 0, .int .i64 0]) (by simp [results, Try.results25, go_sem]) rfl ⟨rfl, ?_⟩
  go_grown
set_option maxHeartbeats 2000000 in
theorem iFilm_some (x ph : Int) (h : Rm.md x ≠ 0) (w : World) : Calls Try.prog 25 #[.int .i64 x, .int .i64 ph] w fun e w' => e = .returned (.agg #[.int .i64 (Wv.fc ph), .int .i64 (Rm.mulM (Wv.fs ph) (Rm.invM x)), .int .i64 (Rm.mulM (Wv.fs ph) x), .int .i64 (Wv.fc ph)]) ∧ Below w.heap.size w w' := by
  have hz : (Rm.md x == 0) = false := by simp [h]
  have q1 := Wv.inv_lo (Wv.fe ph)
  have q2 := Wv.inv_hi (Wv.fe ph)
  obtain ⟨E, hE⟩ : ∃ E, E = Wv.fe ph := ⟨_, rfl⟩
  obtain ⟨I, hI⟩ : ∃ I, I = Rm.invM E := ⟨_, rfl⟩
  have ef : Wv.fc ph = Rm.mulM (Rm.addM E I) (Rm.invM 2) := by rw [hI, hE]; rfl
  have es : Wv.fs ph = Rm.mulM (Rm.addM E (-I)) (Rm.invM 2) := by rw [hI, hE]; rfl
  rw [ef, es]
  rw [← hE, ← hI] at q1 q2
  have HE : Hid (Rm.powI 3 (ph % 998244352) = E) := hE.symm
  have HI : Hid (Rm.invM E = I) := hI.symm
  clear hE hI ef es h
  have p4 := Int.emod_lt_of_pos ph (show 0 < (998244352 : Int) by omega)
  go_enter Try.func25, Try.ntmps25
  go_wp2_with fail
  refine (residue_any _ _).mono ?_
  rintro e w1 ⟨rfl, rfl⟩
  go_wp2_with fail
  refine (modulo_any _ _ (by omega) (by omega) _).mono ?_
  rintro e w1 ⟨rfl, rfl⟩
  go_wp2_with fail
  refine (iPow_any _ _ (by omega) _).mono ?_
  rintro e w1 ⟨rfl, rfl⟩
  rw [HE.out]
  go_wp2_with fail
  refine (iInv_any _ _).mono ?_
  rintro e w1 ⟨rfl, rfl⟩
  rw [HI.out]
  go_wp2_with fail
  refine (iAdd_any _ _ _).mono ?_
  rintro e w1 ⟨rfl, rfl⟩
  go_wp2_with fail
  refine (iInv_any _ _).mono ?_
  rintro e w1 ⟨rfl, rfl⟩
  go_wp2_with fail
  refine (iMul_any _ _ _).mono ?_
  rintro e w1 ⟨rfl, rfl⟩
  go_wp2_with fail
  refine (iAdd_any _ _ _).mono ?_
  rintro e w1 ⟨rfl, rfl⟩
  go_wp2_with fail
  refine (iInv_any _ _).mono ?_
  rintro e w1 ⟨rfl, rfl⟩
  go_wp2_with fail
  refine (iMul_any _ _ _).mono ?_
  rintro e w1 ⟨rfl, rfl⟩
  go_wp2_with fail
  refine (iInv_any _ _).mono ?_
  rintro e w1 ⟨rfl, rfl⟩
  go_wp2_with fail
  refine (iMul_any _ _ _).mono ?_
  rintro e w1 ⟨rfl, rfl⟩
  go_wp2_with fail
  refine (iMul_any _ _ _).mono ?_
  rintro e w1 ⟨rfl, rfl⟩
  go_wp2
  refine bodyPost_ret (v := .agg #[.int .i64 (Rm.mulM (Rm.addM E I) (Rm.invM 2)), .int .i64 (Rm.mulM (Rm.mulM (Rm.addM E (-I)) (Rm.invM 2)) (Rm.invM x)), .int .i64 (Rm.mulM (Rm.mulM (Rm.addM E (-I)) (Rm.invM 2)) x), .int .i64 (Rm.mulM (Rm.addM E I) (Rm.invM 2))]) (by simp [results, Try.results25, go_sem]) rfl ⟨rfl, ?_⟩
  go_grown
theorem iFilm_any (x ph : Int) (w : World) : Calls Try.prog 25 #[.int .i64 x, .int .i64 ph] w fun e w' => e = .returned (.agg (Wv.film x ph)) ∧ Below w.heap.size w w' := by
  unfold Wv.film
  by_cases h : Rm.md x = 0
  · rw [if_pos h]; exact iFilm_zero x ph h w
  · rw [if_neg h]; exact iFilm_some x ph h w
end Go.Proofs.Ytigkfngbiicfaaa
