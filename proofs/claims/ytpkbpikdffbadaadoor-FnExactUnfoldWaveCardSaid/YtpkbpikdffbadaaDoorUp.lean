/- The program's roots, their powers, and every second number of a wave: contracts. -/
import Derived.Test.YtpkbpikdffbadaaDoorPv
import Derived.Test.YtpkbpikdffbadaaDoorWc
import Derived.Test.YtpkbpikdffbadaaDoorRoots
import Derived.Shelf.Spec.TrailingZeros
import Derived.Handy
namespace Go.Proofs.YtpkbpikdffbadaaDoor
open Go.RowKit
set_option linter.unusedVariables false
/-- The library's table of trailing zeros. -/
def Tab (w : World) : Prop := TabAt 1 Lib.deBruijn64tab w
theorem Tab.later {w w' : World} (h : Tab w) (hb : Below w.heap.size w w') : Tab w' := fun j hj => (hb.cell (World.block_lt_of_cell? _ _ (h j hj))).trans (h j hj)
theorem ctz_pow : ∀ k : Fin 11, Lib.ctz 64 (2 ^ k.val) = k.val := by decide +kernel
set_option maxHeartbeats 1000000 in
theorem tz64_core (x k idx : Nat) (w : World) (hx0 : ((x : Int) == 0) = false)
    (key : IntKind.u64.wrap (bits BinOp.and IntKind.u64 (x : Int) (IntKind.u64.wrap (-(x : Int))) * 285870213051353865) / 288230376151711744 = (idx : Int))
    (hi : idx < 64) (hk : k < 64) (hcell : w.cell? ⟨1, idx, none⟩ = some (.int .u8 k)) :
    Calls Tryd.prog 55 #[.int .u64 x] w fun e w' => e = .returned (.int .i64 k) ∧ w = w' := by
  go_enter Tryd.func55, Tryd.ntmps55
  go_wp2_with (simp only [key])
  go_ret
  exact ⟨rfl, rfl⟩
theorem tz_any (k : Nat) (hk : k ≤ 10) (w : World) (T : Tab w) : Calls Tryd.prog 47 #[.int .u64 ((2 ^ k : Nat) : Int)] w fun e w' => e = .returned (.int .i64 k) ∧ w = w' := by
  have hp := Wv.pow10 hk
  have C : Hid (∀ w, Tab w → Calls Tryd.prog 55 #[.int .u64 ((2 ^ k : Nat) : Int)] w fun e w' => e = .returned (.int .i64 k) ∧ w = w') := fun w T => by
    have h64 : (1024 : Nat) < 2 ^ 64 := by decide
    obtain ⟨hlow, hkk⟩ := Lib.lowest_bit 64 (2 ^ k) (by omega) (Nat.lt_of_le_of_lt hp.2 h64)
    rw [ctz_pow ⟨k, by omega⟩] at hlow hkk
    obtain ⟨hi, htab⟩ := Lib.deBruijn64_at _ hkk
    have hcell := T _ hi
    rw [htab] at hcell
    exact tz64_core (2 ^ k) k _ w (by rw [beq_eq_false_iff_ne]; omega) (tz64_key (2 ^ k) _ (by omega) (by omega) hlow) hi hkk hcell
  have HT : Hid (Tab w) := T
  clear T
  generalize ((2 ^ k : Nat) : Int) = x at *
  clear hp
  go_enter Tryd.func47, Tryd.ntmps47
  go_wp2_with fail
  refine (C.out _ HT.out).mono ?_
  rintro e w1 ⟨rfl, rfl⟩
  go_wp2
  go_ret
  exact ⟨rfl, rfl⟩
theorem waveRoot_any (k : Nat) (hk : k ≤ 10) (w : World) (T : Tab w) : Calls Tryd.prog 34 #[.int .i64 ((2 ^ k : Nat) : Int)] w fun e w' => e = .returned (.int .i64 (Rm.rootI k)) ∧ Below w.heap.size w w' := by
  have hp := Wv.pow10 hk
  have C : Hid (∀ w, Tab w → Calls Tryd.prog 47 #[.int .u64 ((2 ^ k : Nat) : Int)] w fun e w' => e = .returned (.int .i64 k) ∧ w = w') := fun w T => tz_any k hk w T
  have HT : Hid (Tab w) := T
  clear T
  have h1 : (0 : Int) ≤ ((2 ^ k : Nat) : Int) := by omega
  have h2 : ((2 ^ k : Nat) : Int) ≤ 1024 := by omega
  generalize ((2 ^ k : Nat) : Int) = x at *
  clear hp
  go_enter Tryd.func34, Tryd.ntmps34
  go_wp2_with fail
  refine (C.out _ HT.out).mono ?_
  rintro e w1 ⟨rfl, rfl⟩
  go_wp2_with fail
  refine (iRoot_any _ _).mono ?_
  rintro e w1 ⟨rfl, b1⟩
  have HB : Hid (Below w.heap.size w w1) := b1
  clear b1
  go_wp2
  go_ret
  exact ⟨rfl, HB.out⟩
set_option maxHeartbeats 1000000 in
theorem powers_any (r : Int) (n : Nat) (hn : n ≤ 1000000) (w : World) :
    Calls Tryd.prog 33 #[.int .i64 r, .int .i64 n] w fun e w' => e = .returned (.slice (some ⟨w.heap.size, 0, none⟩) n n) ∧ Seg w' w.heap.size 40 0 n (fun i => .int .i64 (Rm.powM r i)) ∧ Below w.heap.size w w' ∧ w'.heap.size = w.heap.size + 1 := by
  have hmk := run_make_row' (P := Tryd.prog) 36 40 (.int .i64 0) 8 Tryd.underlying36 info56 rfl .i64 .i64 n (by omega) (by omega)
  go_enter Tryd.func33, Tryd.ntmps33
  go_wp2_with fail
  clear hmk
  go_loopw [11, 6] (fun i q wr => ∃ k : Nat, k ≤ n ∧ i = .int .i64 k ∧ q = .int .i64 (Rm.powM r k) ∧ Seg wr w.heap.size 40 0 n (fun j => if j < k then .int .i64 (Rm.powM r j) else .int .i64 0) ∧ Below w.heap.size w wr ∧ wr.heap.size = w.heap.size + 1) (fun i _ _ => n - (intOf i).toNat)
  case atStart => exact ⟨0, Nat.zero_le _, rfl, by rw [Wv.powM_zero], (seg_made w _ n 40).congr (fun j _ => by simp), (Below.refl _ _).alloc (Nat.le_refl _) _, by simp⟩
  case round =>
    obtain ⟨k, hk, rfl, rfl, hs, hb, hz⟩ := hrel
    by_cases hkn : k < n
    · have g2 : wr.cell? ⟨w.heap.size, k, none⟩ = some (.int .i64 0) := by simpa using hs.cell hkn
      have g3 : wr.frozen? ⟨w.heap.size, k, none⟩ = false := hs.frozen k
      have HS : Hid (Seg wr w.heap.size 40 0 n (fun j => if j < k then .int .i64 (Rm.powM r j) else .int .i64 0) ∧ Below w.heap.size w wr ∧ wr.heap.size = w.heap.size + 1) := ⟨hs, hb, hz⟩
      clear hs hb hz
      go_wp2_with fail
      refine (times_any _ _ _).mono ?_
      rintro e w1 ⟨rfl, rfl⟩
      rw [← Wv.powM_succ]
      go_wp2
      go_roundw
      case rel =>
        obtain ⟨hs, hb, hz⟩ := HS.out
        refine ⟨k + 1, by omega, by simp, rfl, ?_, hb.setCell (Nat.le_refl _) _, by simpa using hz⟩
        have := hs.set k hkn (.int .i64 (Rm.powM r k))
        rw [Nat.zero_add] at this
        refine this.congr fun j hj => ?_
        by_cases e : j = k
        · subst e; simp
        · by_cases e2 : j < k
          · simp [e, e2, Nat.lt_succ_of_lt e2]
          · simp [e, e2]; intro h; omega
      case measure => simp [intOf]; omega
    · obtain rfl : k = n := by omega
      go_wp2
      go_ret
      exact ⟨rfl, hs.congr fun j hj => by simp [hj], hb, hz⟩
set_option maxHeartbeats 1000000 in
theorem second_any {w : World} {vf : Value} {h : Nat} {f : Nat → Int} (hf : RdRow w vf (2 * h) f) (c : Nat) (hc : c ≤ 1) (h0 : 0 < h) (hn : h ≤ 1000000) :
    Calls Tryd.prog 44 #[vf, .int .i64 c] w fun e w' => e = .returned (.slice (some ⟨w.heap.size, 0, none⟩) h h) ∧ Seg w' w.heap.size 40 0 h (fun i => .int .i64 (f (2 * i + c))) ∧ Below w.heap.size w w' ∧ w'.heap.size = w.heap.size + 1 := by
  obtain ⟨bf, of, capf, rfl, cf⟩ := hf.get (by omega)
  have hmk := run_make_row' (P := Tryd.prog) 35 40 (.int .i64 0) 8 Tryd.underlying35 info56 rfl .i64 .i64 h (by omega) (by omega)
  obtain ⟨N, hN⟩ : ∃ N, N = 2 * h := ⟨_, rfl⟩
  have hNd : ((N : Int)) / 2 = (h : Int) := by omega
  rw [← hN] at cf hf ⊢
  go_enter Tryd.func44, Tryd.ntmps44
  go_wp2_with (simp only [hNd])
  clear hmk hNd
  go_loopw [13] (fun i wr => ∃ k : Nat, k ≤ h ∧ i = .int .i64 k ∧ Seg wr w.heap.size 40 0 h (fun j => if j < k then .int .i64 (f (2 * j + c)) else .int .i64 0) ∧ Below w.heap.size w wr ∧ wr.heap.size = w.heap.size + 1) (fun i _ => h - (intOf i).toNat)
  case atStart => exact ⟨0, Nat.zero_le _, rfl, (seg_made w _ h 40).congr (fun j _ => by simp), (Below.refl _ _).alloc (Nat.le_refl _) _, by simp⟩
  case round =>
    obtain ⟨k, hk, rfl, hs, hb, hz⟩ := hrel
    by_cases hkn : k < h
    · obtain ⟨p, hpp⟩ : ∃ p, p = 2 * k + c := ⟨_, rfl⟩
      have hpI : 2 * (k : Int) + (c : Int) = (p : Int) := by omega
      have hpN : p < N := by omega
      have gf : wr.cell? ⟨bf, of + p, none⟩ = some (.int .i64 (f p)) := (hb.cell (World.block_lt_of_cell? _ _ (cf p (by omega)))).trans (cf p (by omega))
      have g2 : wr.cell? ⟨w.heap.size, k, none⟩ = some (.int .i64 0) := by simpa using hs.cell hkn
      have g3 : wr.frozen? ⟨w.heap.size, k, none⟩ = false := hs.frozen k
      have HS : Hid (Seg wr w.heap.size 40 0 h (fun j => if j < k then .int .i64 (f (2 * j + c)) else .int .i64 0) ∧ Below w.heap.size w wr ∧ wr.heap.size = w.heap.size + 1) := ⟨hs, hb, hz⟩
      have HP : Hid (p = 2 * k + c) := hpp
      clear hs hb hz cf hf hpp
      go_wp2
      go_roundw
      case rel =>
        obtain ⟨hs, hb, hz⟩ := HS.out
        refine ⟨k + 1, by omega, by simp, ?_, hb.setCell (Nat.le_refl _) _, by simpa using hz⟩
        have := hs.set k hkn (.int .i64 (f p))
        rw [Nat.zero_add] at this
        refine this.congr fun j hj => ?_
        by_cases e : j = k
        · subst e; simp [HP.out]
        · by_cases e2 : j < k
          · simp [e, e2, Nat.lt_succ_of_lt e2]
          · simp [e, e2]; intro h; omega
      case measure => simp [intOf]; omega
    · obtain rfl : k = h := by omega
      clear cf hf
      go_wp2
      go_ret
      exact ⟨rfl, hs.congr fun j hj => by simp [hj], hb, hz⟩
end Go.Proofs.YtpkbpikdffbadaaDoor
