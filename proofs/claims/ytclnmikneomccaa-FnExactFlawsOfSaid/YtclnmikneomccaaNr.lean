/- Near rectangles, by the program: a contract. -/
import Derived.Test.YtclnmikneomccaaFp
import Derived.Test.YtclnmikneomccaaJi
namespace Go.Proofs.Ytclnmikneomccaa
open Go.RowKit Go.Maps
set_option linter.unusedVariables false
set_option linter.unusedSimpArgs false
set_option maxRecDepth 20000 in
set_option maxHeartbeats 6400000 in
theorem iNear_any {a b : R.G} (ha : Rok a) (hb : Rok b) (s : Int) (w : World) : Calls Try.prog 95 #[.agg #[.int .i64 a.ly, .int .i64 a.xa, .int .i64 a.ya, .int .i64 a.xb, .int .i64 a.yb], .agg #[.int .i64 b.ly, .int .i64 b.xa, .int .i64 b.ya, .int .i64 b.xb, .int .i64 b.yb], .int .i64 s] w fun e w' => e = .returned (.bool (nearB a b s)) ∧ Below w.heap.size w w' := by
  obtain ⟨X, hx⟩ : ∃ X, X = cmn a.xa a.xb b.xa b.xb := ⟨_, rfl⟩
  obtain ⟨Y, hy⟩ : ∃ Y, Y = cmn a.ya a.yb b.ya b.yb := ⟨_, rfl⟩
  have hbd := cmn_b ha hb
  rw [← hx, ← hy] at hbd
  obtain ⟨hb1, hb2, hb3, hb4⟩ := hbd
  obtain ⟨t, ht⟩ : ∃ t, t = nearB a b s := ⟨_, rfl⟩
  have HT : Hid (t = true ↔ max 0 (-X) < s ∧ max 0 (-Y) < s) := by
    show _ ↔ _
    rw [ht]
    unfold nearB gapX gapY
    rw [← hx, ← hy]
    simp only [Bool.and_eq_true, decide_eq_true_eq]
  have HXY : Hid (X = cmn a.xa a.xb b.xa b.xb ∧ Y = cmn a.ya a.yb b.ya b.yb) := ⟨hx, hy⟩
  have HAB : Hid (Rok a ∧ Rok b) := ⟨ha, hb⟩
  rw [← ht]
  clear hx hy ht ha hb
  go_enter Try.func95, Try.ntmps95
  go_wp2_with fail
  refine (iCommon_any HAB.out.1 HAB.out.2 _).mono ?_
  rintro e w1 ⟨rfl, hb5⟩
  rw [← HXY.out.1, ← HXY.out.2]
  have HB : Hid (Below w.heap.size w w1) := box_step (box_stay (box_stay (Below.refl _ _) _) _) hb5 (by first | (simp; done) | (simp; omega))
  clear hb5
  obtain ⟨mx, hmx⟩ : ∃ m, m = max 0 (-X) := ⟨_, rfl⟩
  obtain ⟨my, hmy⟩ : ∃ m, m = max 0 (-Y) := ⟨_, rfl⟩
  rw [← hmx, ← hmy] at HT
  by_cases qx : 0 < -X
  · obtain rfl : mx = -X := by omega
    clear hmx
    by_cases qy : 0 < -Y
    · obtain rfl : my = -Y := by omega
      clear hmy
      by_cases g0 : -X < s
      · by_cases g1 : -Y < s
        · have hs : Hid (t = true) := HT.out.2 (by omega)
          go_wp2
          go_ret
          refine ⟨?_, HB.out⟩
          rw [hs.out]
          first | rfl | (rw [show true = decide ((-Y) < s) from (by simp; omega)]; rfl)
        · have hs : Hid (t = false) := by
            show t = false
            cases t with
            | false => rfl
            | true =>
              have h := HT.out.1 rfl
              omega
          go_wp2
          go_ret
          refine ⟨?_, HB.out⟩
          rw [hs.out]
          first | rfl | (rw [show false = decide ((-Y) < s) from (by simp; omega)]; rfl)
      · have hs : Hid (t = false) := by
          show t = false
          cases t with
          | false => rfl
          | true =>
            have h := HT.out.1 rfl
            omega
        go_wp2
        go_ret
        refine ⟨?_, HB.out⟩
        rw [hs.out]
        first | rfl | (rw [show false = decide ((-Y) < s) from (by simp; omega)]; rfl)
    · obtain rfl : my = 0 := by omega
      clear hmy
      by_cases g0 : -X < s
      · by_cases g1 : 0 < s
        · have hs : Hid (t = true) := HT.out.2 (by omega)
          go_wp2
          go_ret
          refine ⟨?_, HB.out⟩
          rw [hs.out]
          first | rfl | (rw [show true = decide (0 < s) from (by simp; omega)]; rfl)
        · have hs : Hid (t = false) := by
            show t = false
            cases t with
            | false => rfl
            | true =>
              have h := HT.out.1 rfl
              omega
          go_wp2
          go_ret
          refine ⟨?_, HB.out⟩
          rw [hs.out]
          first | rfl | (rw [show false = decide (0 < s) from (by simp; omega)]; rfl)
      · have hs : Hid (t = false) := by
          show t = false
          cases t with
          | false => rfl
          | true =>
            have h := HT.out.1 rfl
            omega
        go_wp2
        go_ret
        refine ⟨?_, HB.out⟩
        rw [hs.out]
        first | rfl | (rw [show false = decide (0 < s) from (by simp; omega)]; rfl)
  · obtain rfl : mx = 0 := by omega
    clear hmx
    by_cases qy : 0 < -Y
    · obtain rfl : my = -Y := by omega
      clear hmy
      by_cases g0 : 0 < s
      · by_cases g1 : -Y < s
        · have hs : Hid (t = true) := HT.out.2 (by omega)
          go_wp2
          go_ret
          refine ⟨?_, HB.out⟩
          rw [hs.out]
          first | rfl | (rw [show true = decide ((-Y) < s) from (by simp; omega)]; rfl)
        · have hs : Hid (t = false) := by
            show t = false
            cases t with
            | false => rfl
            | true =>
              have h := HT.out.1 rfl
              omega
          go_wp2
          go_ret
          refine ⟨?_, HB.out⟩
          rw [hs.out]
          first | rfl | (rw [show false = decide ((-Y) < s) from (by simp; omega)]; rfl)
      · have hs : Hid (t = false) := by
          show t = false
          cases t with
          | false => rfl
          | true =>
            have h := HT.out.1 rfl
            omega
        go_wp2
        go_ret
        refine ⟨?_, HB.out⟩
        rw [hs.out]
        first | rfl | (rw [show false = decide ((-Y) < s) from (by simp; omega)]; rfl)
    · obtain rfl : my = 0 := by omega
      clear hmy
      by_cases g0 : 0 < s
      · have hs : Hid (t = true) := HT.out.2 (by omega)
        go_wp2
        go_ret
        refine ⟨?_, HB.out⟩
        rw [hs.out]
        first | rfl | (rw [show true = decide (0 < s) from (by simp; omega)]; rfl)
      · have hs : Hid (t = false) := by
          show t = false
          cases t with
          | false => rfl
          | true =>
            have h := HT.out.1 rfl
            omega
        go_wp2
        go_ret
        refine ⟨?_, HB.out⟩
        rw [hs.out]
        first | rfl | (rw [show false = decide (0 < s) from (by simp; omega)]; rfl)
end Go.Proofs.Ytclnmikneomccaa
