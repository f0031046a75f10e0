/- The lock-in: the specification, at a number out of bounds. -/
import Derived.Test.YtkkajcdjkfbcgaaLn
import Derived.Handy
import Derived.Deep.RegionHeld3
namespace Go.Proofs.Ytkkajcdjkfbcgaa
open Go.RowKit
set_option linter.unusedVariables false
set_option linter.unusedSimpArgs false
set_option maxRecDepth 20000 in
set_option maxHeartbeats 3200000 in
theorem lock_s3 {w : World} {v : Value} {n : Nat} {f : Nat → Int} {P : Int} (h : RdRow w v n f) (hn : n ≤ 2000000) (hf : Lform n P) (h4 : n ≤ 4000) (hb : ¬ InB f n) : Calls Try.prog 15 #[v, .int .i64 P] w fun e w' => e = .returned (Qv 3 0 0) ∧ Below w.heap.size w w' := by
  obtain ⟨ao, cap, rfl, hc⟩ := h.at
  have HC : Hid (∀ i, i < n → ∃ b off, ao = some ⟨b, off, none⟩ ∧ w.cell? ⟨b, off + i, none⟩ = some (.int .i64 (f i))) := hc
  have HB : Hid (¬ InB f n) := hb
  clear h hc hb
  obtain ⟨p0, p1, p4, n0, np⟩ := hf
  have e1 : P.tmod 4 = 0 := by rw [tmod_pos (by omega)]; exact p4
  have e2 : (n : Int).tmod P = 0 := by rw [tmod_pos (by omega)]; exact np
  have P0 : ¬ P = 0 := by omega
  have n1 : ((n : Int) == 0) = false := by simp; omega
  clear p4 np
  have e3 : P.tdiv 2 = P / 2 := Int.tdiv_eq_ediv_of_nonneg (by omega)
  have e4 : P.tdiv 4 = P / 4 := Int.tdiv_eq_ediv_of_nonneg (by omega)
  go_enter Try.func15, Try.ntmps15
  go_wp2_with fail
  go_loopw [7] (fun i wr => ∃ k : Nat, k ≤ n ∧ i = .int .i64 (k : Int) ∧ Hid (Blk wr w.heap.size #[.int .i64 0, .int .i64 0, .int .i64 0] 28 ∧ Blk wr (w.heap.size + 1) #[.int .i64 0, .int .i64 (lsum f P 0 k), .int .i64 (lsum f P (P / 4) k)] 28 ∧ Below w.heap.size w wr ∧ InB f k)) (fun i _ => n - (intOf i).toNat)
  case atStart => exact ⟨0, Nat.zero_le _, rfl, (Blk.new rfl).alloc _, Blk.new (by simp), ((Below.refl _ _).alloc (Nat.le_refl _) _).alloc (by simp) _, fun i hi => by omega⟩
  case round =>
    obtain ⟨k, hk, rfl, HK⟩ := hrel
    by_cases hkn : k < n
    · obtain ⟨b, off, rfl, c⟩ := HC.out k hkn
      have c' : wr.cell? ⟨b, off + k, none⟩ = some (.int .i64 (f k)) := old_cell HK.out.2.2.1 (World.block_lt_of_cell? _ _ c) c
      by_cases hx0 : f k < -1000000000
      · have HR : Hid (Blk wr w.heap.size #[.int .i64 0, .int .i64 0, .int .i64 0] 28) := HK.out.1
        have HO : Hid (Below w.heap.size w wr) := HK.out.2.2.1
        have d0 := HR.out.cell (j := 0) (v := .int .i64 0) rfl
        have k0 := HR.out.frozen 0
        have d1 := HR.out.cell (j := 1) (v := .int .i64 0) rfl
        have k1 := HR.out.frozen 1
        have d2 := HR.out.cell (j := 2) (v := .int .i64 0) rfl
        have k2 := HR.out.frozen 2
        clear HC HB HK c
        go_wp2
        refine bodyPost_ret (v := Qv 3 0 0) (by simp [results, Try.results15, go_sem, d0, d1, d2]) rfl ⟨rfl, ?_⟩
        exact ((HO.out.setCell (by simp) _).setCell (by simp) _).setCell (by simp) _
      by_cases hx1 : 1000000000 < f k
      · have HR : Hid (Blk wr w.heap.size #[.int .i64 0, .int .i64 0, .int .i64 0] 28) := HK.out.1
        have HO : Hid (Below w.heap.size w wr) := HK.out.2.2.1
        have d0 := HR.out.cell (j := 0) (v := .int .i64 0) rfl
        have k0 := HR.out.frozen 0
        have d1 := HR.out.cell (j := 1) (v := .int .i64 0) rfl
        have k1 := HR.out.frozen 1
        have d2 := HR.out.cell (j := 2) (v := .int .i64 0) rfl
        have k2 := HR.out.frozen 2
        clear HC HB HK c
        go_wp2
        refine bodyPost_ret (v := Qv 3 0 0) (by simp [results, Try.results15, go_sem, d0, d1, d2]) rfl ⟨rfl, ?_⟩
        exact ((HO.out.setCell (by simp) _).setCell (by simp) _).setCell (by simp) _
      have hx : -1000000000 ≤ f k ∧ f k ≤ 1000000000 := by omega
      have hl0 := lsum_bd (P := P) (a := 0) HK.out.2.2.2 k (Nat.le_refl _)
      have hl4 := lsum_bd (P := P) (a := P / 4) HK.out.2.2.2 k (Nat.le_refl _)
      have hN0 : lsum f P 0 (k + 1) = lsum f P 0 k + (if ((k : Int) + 0) % P < P / 2 then f k else -(f k)) := rfl
      have hN4 : lsum f P (P / 4) (k + 1) = lsum f P (P / 4) k + (if ((k : Int) + P / 4) % P < P / 2 then f k else -(f k)) := rfl
      rw [Int.add_zero] at hN0
      have HI : Hid (InB f (k + 1)) := fun i hi => by
        by_cases e : i = k
        · subst e; exact hx
        · exact HK.out.2.2.2 i (by omega)
      have hbox := HK.out.2.1
      obtain ⟨R, hR⟩ : ∃ R, R = (k : Int) % P := ⟨_, rfl⟩
      obtain ⟨Q, hQ⟩ : ∃ R, R = ((k : Int) + P / 4) % P := ⟨_, rfl⟩
      obtain ⟨A, hA⟩ : ∃ A, A = lsum f P 0 k := ⟨_, rfl⟩
      obtain ⟨B, hB⟩ : ∃ A, A = lsum f P (P / 4) k := ⟨_, rfl⟩
      have m1 : (k : Int).tmod P = R := by rw [tmod_pos (by omega), hR]
      have m2 : ((k : Int) + P / 4).tmod P = Q := by rw [tmod_pos (by omega), hQ]
      rw [← hR, ← hA] at hN0
      rw [← hQ, ← hB] at hN4
      rw [← hA] at hl0
      rw [← hB] at hl4
      rw [← hA, ← hB] at hbox
      have HBX : Hid (Blk wr (w.heap.size + 1) #[.int .i64 0, .int .i64 A, .int .i64 B] 28 ∧ Blk wr w.heap.size #[.int .i64 0, .int .i64 0, .int .i64 0] 28 ∧ Below w.heap.size w wr) := ⟨hbox, HK.out.1, HK.out.2.2.1⟩
      have c1 := hbox.cell (j := 1) (v := .int .i64 A) rfl
      have c2 := hbox.cell (j := 2) (v := .int .i64 B) rfl
      have f1 := hbox.frozen 1
      have f2 := hbox.frozen 2
      have b0 : 0 ≤ P / 4 ∧ P / 4 ≤ 1000 := by omega
      have b1 : (k : Int) ≤ 4000 := by omega
      clear HC HB HK c hR hQ hA hB hbox
      by_cases q1 : R < P / 2
      · by_cases q2 : Q < P / 2
        · rw [if_pos q1] at hN0
          rw [if_pos q2] at hN4
          have HN0 : Hid (lsum f P 0 (k + 1) = A + f k) := by show _ = _; rw [hN0]
          have HN4 : Hid (lsum f P (P / 4) (k + 1) = B + f k) := by show _ = _; rw [hN4]
          clear hN0 hN4
          go_wp2
          go_roundw
          case rel =>
            refine ⟨k + 1, by omega, by simp, (HBX.out.2.1.setOther (by simp) _).setOther (by simp) _, ?_, (HBX.out.2.2.setCell (by simp) _).setCell (by simp) _, HI.out⟩
            rw [HN0.out, HN4.out]
            exact (HBX.out.1.set 1 _ rfl).set 2 _ rfl
          case measure => simp [intOf]; omega
        · rw [if_pos q1] at hN0
          rw [if_neg q2] at hN4
          have HN0 : Hid (lsum f P 0 (k + 1) = A + f k) := by show _ = _; rw [hN0]
          have HN4 : Hid (lsum f P (P / 4) (k + 1) = B - f k) := by show _ = _; rw [hN4]; omega
          clear hN0 hN4
          go_wp2
          go_roundw
          case rel =>
            refine ⟨k + 1, by omega, by simp, (HBX.out.2.1.setOther (by simp) _).setOther (by simp) _, ?_, (HBX.out.2.2.setCell (by simp) _).setCell (by simp) _, HI.out⟩
            rw [HN0.out, HN4.out]
            exact (HBX.out.1.set 1 _ rfl).set 2 _ rfl
          case measure => simp [intOf]; omega
      · by_cases q2 : Q < P / 2
        · rw [if_neg q1] at hN0
          rw [if_pos q2] at hN4
          have HN0 : Hid (lsum f P 0 (k + 1) = A - f k) := by show _ = _; rw [hN0]; omega
          have HN4 : Hid (lsum f P (P / 4) (k + 1) = B + f k) := by show _ = _; rw [hN4]
          clear hN0 hN4
          go_wp2
          go_roundw
          case rel =>
            refine ⟨k + 1, by omega, by simp, (HBX.out.2.1.setOther (by simp) _).setOther (by simp) _, ?_, (HBX.out.2.2.setCell (by simp) _).setCell (by simp) _, HI.out⟩
            rw [HN0.out, HN4.out]
            exact (HBX.out.1.set 1 _ rfl).set 2 _ rfl
          case measure => simp [intOf]; omega
        · rw [if_neg q1] at hN0
          rw [if_neg q2] at hN4
          have HN0 : Hid (lsum f P 0 (k + 1) = A - f k) := by show _ = _; rw [hN0]; omega
          have HN4 : Hid (lsum f P (P / 4) (k + 1) = B - f k) := by show _ = _; rw [hN4]; omega
          clear hN0 hN4
          go_wp2
          go_roundw
          case rel =>
            refine ⟨k + 1, by omega, by simp, (HBX.out.2.1.setOther (by simp) _).setOther (by simp) _, ?_, (HBX.out.2.2.setCell (by simp) _).setCell (by simp) _, HI.out⟩
            rw [HN0.out, HN4.out]
            exact (HBX.out.1.set 1 _ rfl).set 2 _ rfl
          case measure => simp [intOf]; omega
    · obtain rfl : k = n := by omega
      exact absurd HK.out.2.2.2 HB.out
end Go.Proofs.Ytkkajcdjkfbcgaa
