/- The program's elimination: the parts of a round. Contracts. -/
import Derived.Test.YtboppklcmdfphaaImul
namespace Go.Proofs.Ytboppklcmdfphaa
open Go.RowKit
set_option linter.unusedVariables false
set_option maxHeartbeats 800000 in
/-- pivotAt. -/
theorem pivot_any {lo hi : Nat} {m : Lie} {n wd c : Nat} {F : Rm.Mx} {w : World} (hM : Mat lo hi w m n (fun _ => wd) F) (hn : n ≤ 1000000) (hc : c < n) (hcw : c < wd) (hwd : wd ≤ 1000000) :
    Calls Try.prog 93 #[.slice (some ⟨m.b, 0, none⟩) n m.cap, .int .i64 c] w fun e w' => e = .returned (.int .i64 (Rm.pv F c (n - c))) ∧ w = w' := by
  have HM : Hid (Mat lo hi w m n (fun _ => wd) F) := hM
  clear hM
  go_enter Try.func93, Try.ntmps93
  go_wp2_with fail
  go_loopw [5] (fun i wr => wr = w ∧ ∃ k : Nat, c + k ≤ n ∧ i = .int .i64 ((c : Int) + k) ∧ Hid (Rm.pv F c k < 0)) (fun i _ => n - (intOf i).toNat)
  case atStart => exact ⟨rfl, 0, by omega, by simp, show Rm.pv F c 0 < 0 by simp [Rm.pv]⟩
  case round =>
    obtain ⟨rfl, k, hk, rfl, hp⟩ := hrel
    by_cases hkn : c + k < n
    · obtain ⟨i, hi⟩ : ∃ i : Nat, i = c + k := ⟨_, rfl⟩
      have e1 : (c : Int) + (k : Int) = (i : Int) := by omega
      have hin : i < n := by omega
      have g1 : wr.cell? ⟨m.b, i, none⟩ = some (.slice (some ⟨m.bs i, m.os i, none⟩) wd (m.cs i)) := HM.out.cellRow hin
      have g2 : wr.cell? ⟨m.bs i, m.os i + c, none⟩ = some (.int .i64 (F i c)) := HM.out.cellAt hin hcw
      have HI : Hid (i = c + k) := hi
      clear hi
      by_cases hz : F i c = 0
      · have hz1 : (F i c != 0) = false := by rw [hz]; rfl
        have HZ : Hid (F i c = 0) := hz
        clear hz
        go_wp2
        exact ⟨⟨by trivial, k + 1, by have := HI.out; omega, by have := HI.out; simp; omega, show Rm.pv F c (k + 1) < 0 by
          have h1 := HI.out
          rw [Rm.pv, if_neg (by have := hp.out; omega), ← h1, if_pos HZ.out]
          omega⟩, by have := HI.out; simp [intOf]; omega⟩
      · have hz1 : (F i c != 0) = true := by rw [bne_iff_ne]; exact hz
        have HZ : Hid (F i c ≠ 0) := hz
        clear hz
        go_wp2
        go_ret
        refine ⟨ret_int ?_, rfl⟩
        have h1 := HI.out
        have h2 : Rm.pv F c (k + 1) = (c : Int) + k := by
          rw [Rm.pv, if_neg (by have := hp.out; omega), ← h1, if_neg HZ.out]
        rw [Rm.pv_stay' F c (k + 1) (n - c) (by omega) (by omega), h2]
    · have HN : Hid (n - c = k) := show n - c = k by omega
      have e1 : (c : Int) + (k : Int) = (n : Int) := by omega
      go_wp2
      go_ret
      refine ⟨ret_int ?_, rfl⟩
      have := hp.out
      have h2 := Rm.pv_lo F c k
      rw [HN.out]
      omega
set_option maxHeartbeats 800000 in
/-- scaleRow. -/
theorem scale_any (b off n cap : Nat) (f : Nat → Int) (x : Int) (w : World) (hn : n ≤ 1000000) (hs0 : Seg w b 2 off n (fun i => .int .i64 (f i))) :
    Calls Try.prog 94 #[.slice (some ⟨b, off, none⟩) n cap, .int .i64 x] w fun e w' => e = .returned (.tuple #[]) ∧
      Seg w' b 2 off n (fun i => .int .i64 (Rm.mulM (f i) x)) ∧ Within b (b + 1) w w' ∧ w'.heap.size = w.heap.size := by
  go_enter Try.func94, Try.ntmps94
  go_wp2_with fail
  go_loopw [7] (fun i wr => ∃ k : Nat, k ≤ n ∧ i = .int .i64 k ∧ Seg wr b 2 off n (fun j => if j < k then .int .i64 (Rm.mulM (f j) x) else .int .i64 (f j)) ∧ Within b (b + 1) w wr ∧ wr.heap.size = w.heap.size) (fun i _ => n - (intOf i).toNat)
  case atStart => exact ⟨0, Nat.zero_le _, rfl, hs0.congr (fun j _ => by simp), Within.refl _ _ _, rfl⟩
  case round =>
    obtain ⟨k, hk, rfl, hs, hb, hz⟩ := hrel
    clear hs0
    by_cases hkn : k < n
    · have g2 : wr.cell? ⟨b, off + k, none⟩ = some (.int .i64 (f k)) := by simpa using hs.cell hkn
      have g3 : wr.frozen? ⟨b, off + k, none⟩ = false := hs.frozen (off + k)
      have HS : Hid (Seg wr b 2 off n (fun j => if j < k then .int .i64 (Rm.mulM (f j) x) else .int .i64 (f j)) ∧ Within b (b + 1) w wr ∧ wr.heap.size = w.heap.size) := ⟨hs, hb, hz⟩
      clear hs hb hz
      go_wp2_with fail
      refine (iMul_any _ _ _).mono ?_
      rintro e w1 ⟨rfl, rfl⟩
      go_wp2
      go_roundw
      case rel =>
        obtain ⟨hs, hb, hz⟩ := HS.out
        refine ⟨k + 1, by omega, by simp, ?_, hb.setCell (Nat.le_refl _) (Nat.lt_succ_self _) _, by simpa using hz⟩
        refine (hs.set k hkn (.int .i64 (Rm.mulM (f k) x))).congr fun j hj => ?_
        by_cases e : j = k
        · subst e; simp
        · by_cases e2 : j < k
          · simp [e, e2, Nat.lt_succ_of_lt e2]
          · simp [e, e2]; intro h; omega
      case measure => simp [intOf]; omega
    · obtain rfl : k = n := by omega
      go_wp2
      go_end0
      exact ⟨rfl, hs.congr fun j hj => by simp [hj], hb, hz⟩
set_option maxHeartbeats 1600000 in
/-- clearColumn. -/
theorem clear_any (b off n cap b' off' cap' c : Nat) (f p : Nat → Int) (w : World) (hn : n ≤ 1000000) (hc : c < n) (hf0 : 0 ≤ f c) (hf1 : f c < 998244353) (hne : b ≠ b')
    (hs0 : Seg w b 2 off n (fun i => .int .i64 (f i))) (hp0 : Seg w b' 2 off' n (fun i => .int .i64 (p i))) :
    Calls Try.prog 96 #[.slice (some ⟨b, off, none⟩) n cap, .slice (some ⟨b', off', none⟩) n cap', .int .i64 c] w fun e w' => e = .returned (.tuple #[]) ∧
      Seg w' b 2 off n (fun i => .int .i64 (Rm.addM (f i) (Rm.mulM (-(f c)) (p i)))) ∧ Within b (b + 1) w w' ∧ w'.heap.size = w.heap.size := by
  have g0 : w.cell? ⟨b, off + c, none⟩ = some (.int .i64 (f c)) := hs0.cell hc
  have HP0 : Hid (Seg w b 2 off n (fun i => .int .i64 (f i)) ∧ Seg w b' 2 off' n (fun i => .int .i64 (p i)) ∧ b ≠ b') := ⟨hs0, hp0, hne⟩
  clear hs0 hp0 hne
  obtain ⟨x, hx⟩ : ∃ x : Int, x = f c := ⟨_, rfl⟩
  rw [← hx] at g0 hf0 hf1
  have HX : Hid (x = f c) := hx
  clear hx
  rw [← HX.out]
  go_enter Try.func96, Try.ntmps96
  go_wp2_with fail
  clear g0
  go_loopw [15] (fun i wr => ∃ k : Nat, k ≤ n ∧ i = .int .i64 k ∧ Seg wr b 2 off n (fun j => if j < k then .int .i64 (Rm.addM (f j) (Rm.mulM (-x) (p j))) else .int .i64 (f j)) ∧ Seg wr b' 2 off' n (fun i => .int .i64 (p i)) ∧ Within b (b + 1) w wr ∧ wr.heap.size = w.heap.size) (fun i _ => n - (intOf i).toNat)
  case atStart => exact ⟨0, Nat.zero_le _, rfl, HP0.out.1.congr (fun j _ => by simp), HP0.out.2.1, Within.refl _ _ _, rfl⟩
  case round =>
    obtain ⟨k, hk, rfl, hs, hp, hb, hz⟩ := hrel
    by_cases hkn : k < n
    · have g2 : wr.cell? ⟨b, off + k, none⟩ = some (.int .i64 (f k)) := by simpa using hs.cell hkn
      have g3 : wr.frozen? ⟨b, off + k, none⟩ = false := hs.frozen (off + k)
      have g4 : wr.cell? ⟨b', off' + k, none⟩ = some (.int .i64 (p k)) := hp.cell hkn
      have HS : Hid (∀ q, Seg ((wr.drewN q).setCell ⟨b, off + k, none⟩ (.int .i64 (Rm.addM (f k) (Rm.mulM (-x) (p k))))) b 2 off n (fun j => if j < k + 1 then .int .i64 (Rm.addM (f j) (Rm.mulM (-x) (p j))) else .int .i64 (f j)) ∧ Seg ((wr.drewN q).setCell ⟨b, off + k, none⟩ (.int .i64 (Rm.addM (f k) (Rm.mulM (-x) (p k))))) b' 2 off' n (fun i => .int .i64 (p i)) ∧ Within b (b + 1) w ((wr.drewN q).setCell ⟨b, off + k, none⟩ (.int .i64 (Rm.addM (f k) (Rm.mulM (-x) (p k))))) ∧ ((wr.drewN q).setCell ⟨b, off + k, none⟩ (.int .i64 (Rm.addM (f k) (Rm.mulM (-x) (p k))))).heap.size = w.heap.size) := fun q => by
        have hsq : Seg (wr.drewN q) b 2 off n (fun j => if j < k then .int .i64 (Rm.addM (f j) (Rm.mulM (-x) (p j))) else .int .i64 (f j)) := hs
        have hpq : Seg (wr.drewN q) b' 2 off' n (fun i => .int .i64 (p i)) := hp
        have hbq : Within b (b + 1) w (wr.drewN q) := hb.trans ⟨below_drewN (Below.refl _ _) q, fun _ _ _ => rfl⟩
        have hzq : (wr.drewN q).heap.size = w.heap.size := hz
        refine ⟨(hsq.set k hkn _).congr fun j hj => ?_, hpq.setOther (Ne.symm HP0.out.2.2) _, hbq.setCell (Nat.le_refl _) (Nat.lt_succ_self _) _, by rw [World.size_setCell]; exact hzq⟩
        by_cases e : j = k
        · subst e; simp
        · by_cases e2 : j < k
          · simp [e, e2, Nat.lt_succ_of_lt e2]
          · simp [e, e2]; intro h; omega
      clear hs hp hb hz
      go_wp2_with fail
      go_region_with (first | (go_at_call 99; refine (iMul_any _ _ _).mono ?_; rintro e w1 ⟨rfl, rfl⟩) | (go_at_call 117; refine (iAdd_any _ _ _).mono ?_; rintro e w1 ⟨rfl, rfl⟩))
      all_goals
        go_wp2
        exact ⟨⟨k + 1, by omega, by simp, HS.out 1⟩, by simp [intOf]; omega⟩
    · obtain rfl : k = n := by omega
      go_wp2
      go_end0
      exact ⟨rfl, hs.congr fun j hj => by simp [hj], hb, hz⟩
end Go.Proofs.Ytboppklcmdfphaa
