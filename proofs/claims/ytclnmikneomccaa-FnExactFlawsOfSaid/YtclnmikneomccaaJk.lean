/- Rectangles that are joined, by the program: contracts. -/
import Derived.Test.YtclnmikneomccaaJi
namespace Go.Proofs.Ytclnmikneomccaa
open Go.RowKit
set_option linter.unusedVariables false
set_option linter.unusedSimpArgs false
set_option maxRecDepth 20000 in
set_option maxHeartbeats 6400000 in
theorem iJoined_any {a b : R.G} (ha : Rok a) (hb : Rok b) (t : Bool) (ht : t = true ↔ jn a b) (w : World) :
    Calls Try.prog 84 #[.agg #[.int .i64 a.ly, .int .i64 a.xa, .int .i64 a.ya, .int .i64 a.xb, .int .i64 a.yb], .agg #[.int .i64 b.ly, .int .i64 b.xa, .int .i64 b.ya, .int .i64 b.xb, .int .i64 b.yb]] w fun e w' => e = .returned (.bool t) ∧ Below w.heap.size w w' := by
  obtain ⟨X, hx⟩ : ∃ X, X = cmn a.xa a.xb b.xa b.xb := ⟨_, rfl⟩
  obtain ⟨Y, hy⟩ : ∃ Y, Y = cmn a.ya a.yb b.ya b.yb := ⟨_, rfl⟩
  have hbd := cmn_b ha hb
  have HT : Hid (t = true ↔ jnN a.ly b.ly X Y) := by rw [hx, hy]; exact ht
  have hX : Hid (X = cmn a.xa a.xb b.xa b.xb ∧ (-100000 ≤ min a.xb b.xb - max a.xa b.xa ∧ min a.xb b.xb - max a.xa b.xa ≤ 100000) ∧ Y = cmn a.ya a.yb b.ya b.yb ∧ (-100000 ≤ min a.yb b.yb - max a.ya b.ya ∧ min a.yb b.yb - max a.ya b.ya ≤ 100000)) := ⟨hx, by unfold cmn at hbd; omega, hy, by unfold cmn at hbd; omega⟩
  rw [← hx, ← hy] at hbd
  obtain ⟨hb1, hb2, hb3, hb4⟩ := hbd
  have HAB : Hid (Rok a ∧ Rok b) := ⟨ha, hb⟩
  have hl0 := ha.l0
  have hl1 := hb.l0
  clear hx hy ht
  go_enter Try.func84, Try.ntmps84
  go_wp2_with fail
  refine (iCommon_any HAB.out.1 HAB.out.2 _).mono ?_
  rintro e w1 ⟨rfl, hb5⟩
  rw [← hX.out.1, ← hX.out.2.2.1]
  obtain ⟨wa, hwa⟩ : ∃ W, W = (w.alloc (.cells #[.int .i64 a.ly, .int .i64 a.xa, .int .i64 a.ya, .int .i64 a.xb, .int .i64 a.yb] 68)).alloc (.cells #[.int .i64 b.ly, .int .i64 b.xa, .int .i64 b.ya, .int .i64 b.xb, .int .i64 b.yb] 68) := ⟨_, rfl⟩
  rw [← hwa] at hb5
  have A : Blk wa w.heap.size #[.int .i64 a.ly, .int .i64 a.xa, .int .i64 a.ya, .int .i64 a.xb, .int .i64 a.yb] 68 := by rw [hwa]; exact (Blk.new rfl).alloc _
  have B : Blk wa (w.heap.size + 1) #[.int .i64 b.ly, .int .i64 b.xa, .int .i64 b.ya, .int .i64 b.xb, .int .i64 b.yb] 68 := by rw [hwa]; exact Blk.new (by simp)
  have HB : Hid (Below w.heap.size w w1) := by
    have : Below w.heap.size w wa := by rw [hwa]; exact box_stay (box_stay (Below.refl _ _) _) _
    exact box_step this hb5 (Nat.le_refl _)
  have k0 := (A.old hb5).cell (j := 0) rfl
  have m0 := (B.old hb5).cell (j := 0) rfl
  clear A B hwa hb5
  by_cases e : a.ly = b.ly
  · have e1 : (a.ly == b.ly) = true := by simpa using e
    by_cases g0 : 0 ≤ X
    · by_cases g1 : 0 ≤ Y
      · by_cases g2 : 0 < X + Y
        · have hs : Hid (t = true) := HT.out.2 (by unfold jnN; omega)
          go_wp2
          go_ret
          refine ⟨?_, HB.out⟩
          rw [hs.out]
          first | rfl | (rw [show true = decide (0 < X + Y) from (by simp; omega)]; rfl) | (rw [show true = decide (0 < Y) from (by simp; omega)]; rfl)
        · have hs : Hid (t = false) := by
            show t = false
            cases t with
            | false => rfl
            | true => exact absurd (HT.out.1 rfl) (by unfold jnN; omega)
          go_wp2
          go_ret
          refine ⟨?_, HB.out⟩
          rw [hs.out]
          first | rfl | (rw [show false = decide (0 < X + Y) from (by simp; omega)]; rfl) | (rw [show false = decide (0 < Y) from (by simp; omega)]; rfl)
      · have hs : Hid (t = false) := by
          show t = false
          cases t with
          | false => rfl
          | true => exact absurd (HT.out.1 rfl) (by unfold jnN; omega)
        go_wp2
        go_ret
        refine ⟨?_, HB.out⟩
        rw [hs.out]
        first | rfl | (rw [show false = decide (0 < X + Y) from (by simp; omega)]; rfl) | (rw [show false = decide (0 < Y) from (by simp; omega)]; rfl)
    · have hs : Hid (t = false) := by
        show t = false
        cases t with
        | false => rfl
        | true => exact absurd (HT.out.1 rfl) (by unfold jnN; omega)
      go_wp2
      go_ret
      refine ⟨?_, HB.out⟩
      rw [hs.out]
      first | rfl | (rw [show false = decide (0 < X + Y) from (by simp; omega)]; rfl) | (rw [show false = decide (0 < Y) from (by simp; omega)]; rfl)
  · have e1 : (a.ly == b.ly) = false := by simpa using e
    have HE : Hid (a.ly ≠ b.ly) := e
    by_cases v : viaN a.ly b.ly
    · have HZ : Hid (true = true ↔ viaN a.ly b.ly) := (by simpa using v : true = true ↔ _)
      have HV : Hid (viaN a.ly b.ly) := v
      clear v e
      go_wp2_with fail
      refine (iVia_any a.ly b.ly hl0 hl1 HE.out true (by simpa using HV.out) _).mono ?_
      rintro e w2 ⟨rfl, hww⟩
      obtain rfl := hww.symm
      by_cases g0 : 0 < X
      · by_cases g1 : 0 < Y
        · have hs : Hid (t = true) := HT.out.2 (by have := HV.out; have := HE.out; unfold viaN at *; unfold jnN; omega)
          go_wp2
          go_ret
          refine ⟨?_, HB.out⟩
          rw [hs.out]
          first | rfl | (rw [show true = decide (0 < X + Y) from (by simp; omega)]; rfl) | (rw [show true = decide (0 < Y) from (by simp; omega)]; rfl)
        · have hs : Hid (t = false) := by
            show t = false
            cases t with
            | false => rfl
            | true => exact absurd (HT.out.1 rfl) (by have := HV.out; have := HE.out; unfold viaN at *; unfold jnN; omega)
          go_wp2
          go_ret
          refine ⟨?_, HB.out⟩
          rw [hs.out]
          first | rfl | (rw [show false = decide (0 < X + Y) from (by simp; omega)]; rfl) | (rw [show false = decide (0 < Y) from (by simp; omega)]; rfl)
      · have hs : Hid (t = false) := by
          show t = false
          cases t with
          | false => rfl
          | true => exact absurd (HT.out.1 rfl) (by have := HV.out; have := HE.out; unfold viaN at *; unfold jnN; omega)
        go_wp2
        go_ret
        refine ⟨?_, HB.out⟩
        rw [hs.out]
        first | rfl | (rw [show false = decide (0 < X + Y) from (by simp; omega)]; rfl) | (rw [show false = decide (0 < Y) from (by simp; omega)]; rfl)
    · have HZ : Hid (false = true ↔ viaN a.ly b.ly) := (by simpa using v : false = true ↔ _)
      have HV : Hid (¬ viaN a.ly b.ly) := v
      clear v e
      go_wp2_with fail
      refine (iVia_any a.ly b.ly hl0 hl1 HE.out false (by simpa using HV.out) _).mono ?_
      rintro e w2 ⟨rfl, hww⟩
      obtain rfl := hww.symm
      have hs : Hid (t = false) := by
        show t = false
        cases t with
        | false => rfl
        | true => exact absurd (HT.out.1 rfl) (by have := HV.out; have := HE.out; unfold viaN at *; unfold jnN; omega)
      go_wp2
      go_ret
      refine ⟨?_, HB.out⟩
      rw [hs.out]
      first | rfl | (rw [show false = decide (0 < X + Y) from (by simp; omega)]; rfl) | (rw [show false = decide (0 < Y) from (by simp; omega)]; rfl)
end Go.Proofs.Ytclnmikneomccaa
