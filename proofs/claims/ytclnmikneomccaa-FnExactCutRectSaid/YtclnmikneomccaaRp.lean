/- Rectangles, plainly: what is wrong with them; in both packages: contracts. -/
import Derived.Test.YtclnmikneomccaaLr
import Derived.Test.YtclnmikneomccaaRw
namespace Go.Proofs.Ytclnmikneomccaa
open Go.RowKit
set_option linter.unusedVariables false
set_option linter.unusedSimpArgs false
/-- What is wrong with one rectangle. -/
def rone (r : R.G) : Int := if r.ly < 0 ∨ 9 < r.ly ∨ r.xb ≤ r.xa ∨ r.yb ≤ r.ya then 1 else if r.xa < -10000 ∨ r.ya < -10000 ∨ 10000 < r.xb ∨ 10000 < r.yb then 3 else 0
/-- The first that is not 0. -/
def fstN (f : Nat → Int) : Nat → Int
  | 0 => 0
  | n + 1 => if fstN f n ≠ 0 then fstN f n else f n
theorem fstN_hit {f : Nat → Int} {k : Nat} : ∀ {n : Nat}, fstN f k = 0 → f k ≠ 0 → k < n → fstN f n = f k
  | 0, _, _, h => absurd h (Nat.not_lt_zero _)
  | n + 1, h1, h2, h => by
    by_cases e : k = n
    · subst e; simp [fstN, h1]
    · have := fstN_hit (n := n) h1 h2 (by omega)
      simp [fstN, this, h2]
theorem fstN_next {f : Nat → Int} {k : Nat} (h1 : fstN f k = 0) (h2 : f k = 0) : fstN f (k + 1) = 0 := by simp [fstN, h1, h2]
/-- What is wrong with rectangles. -/
def rcode (S : Nat → R.G) (n : Nat) : Int := if 60 < n then 2 else fstN (fun k => rone (S k)) n
/-- Nothing is: each one is within its bounds. -/
structure Rok (r : R.G) : Prop where
  l0 : 0 ≤ r.ly
  l9 : r.ly ≤ 9
  x : r.xa < r.xb
  y : r.ya < r.yb
  x0 : -10000 ≤ r.xa
  y0 : -10000 ≤ r.ya
  x1 : r.xb ≤ 10000
  y1 : r.yb ≤ 10000
theorem rone_ok {r : R.G} (h : rone r = 0) : Rok r := by
  unfold rone at h
  split at h
  · omega
  · rename_i h1
    split at h
    · omega
    · rename_i h2
      simp only [not_or, Int.not_lt, Int.not_le] at h1 h2
      exact ⟨h1.1, h1.2.1, h1.2.2.1, h1.2.2.2, h2.1, h2.2.1, h2.2.2.1, h2.2.2.2⟩
theorem fstN_zero {f : Nat → Int} : ∀ {n : Nat}, fstN f n = 0 → ∀ k, k < n → f k = 0
  | 0, _, k, hk => absurd hk (Nat.not_lt_zero _)
  | n + 1, h, k, hk => by
    have h0 : fstN f n = 0 := by
      by_cases e : fstN f n = 0
      · exact e
      · simp [fstN, e] at h
    by_cases e : k = n
    · subst e; simpa [fstN, h0] using h
    · exact fstN_zero h0 k (by omega)
theorem rcode_ok {S : Nat → R.G} {n : Nat} (h : rcode S n = 0) : n ≤ 60 ∧ ∀ k, k < n → Rok (S k) := by
  unfold rcode at h
  split at h
  · omega
  · exact ⟨by omega, fun k hk => rone_ok (fstN_zero h k hk)⟩
theorem box_stay {w v : World} (h : Below w.heap.size w v) (o : Obj) : Below w.heap.size w (v.alloc o) := h.alloc h.size o
set_option maxRecDepth 20000 in
set_option maxHeartbeats 6400000 in
theorem iFault_any (r : R.G) (w : World) : Calls Try.prog 53 #[.agg #[.int .i64 r.ly, .int .i64 r.xa, .int .i64 r.ya, .int .i64 r.xb, .int .i64 r.yb]] w fun e w' => e = .returned (.int .i64 (rone r)) ∧ Below w.heap.size w w' := by
  obtain ⟨C, hC⟩ : ∃ C, C = rone r := ⟨_, rfl⟩
  have HC : Hid (C = rone r) := hC
  rw [← hC]
  clear hC
  by_cases g0 : r.ly < 0
  · have hs : Hid (C = 1) := by show C = 1; rw [HC.out]; unfold rone; simp [g0]
    go_enter Try.func53, Try.ntmps53
    go_wp2
    go_ret
    exact ⟨by rw [hs.out]; rfl, box_stay (Below.refl _ _) _⟩
  · by_cases g1 : 9 < r.ly
    · have hs : Hid (C = 1) := by show C = 1; rw [HC.out]; unfold rone; simp [g0, g1]
      go_enter Try.func53, Try.ntmps53
      go_wp2
      go_ret
      exact ⟨by rw [hs.out]; rfl, box_stay (Below.refl _ _) _⟩
    · by_cases g2 : r.xb ≤ r.xa
      · have hs : Hid (C = 1) := by show C = 1; rw [HC.out]; unfold rone; simp [g0, g1, g2]
        go_enter Try.func53, Try.ntmps53
        go_wp2
        go_ret
        exact ⟨by rw [hs.out]; rfl, box_stay (Below.refl _ _) _⟩
      · by_cases g3 : r.yb ≤ r.ya
        · have hs : Hid (C = 1) := by show C = 1; rw [HC.out]; unfold rone; simp [g0, g1, g2, g3]
          go_enter Try.func53, Try.ntmps53
          go_wp2
          go_ret
          exact ⟨by rw [hs.out]; rfl, box_stay (Below.refl _ _) _⟩
        · by_cases g4 : r.xa < -10000
          · have hs : Hid (C = 3) := by show C = 3; rw [HC.out]; unfold rone; simp [g0, g1, g2, g3, g4]
            go_enter Try.func53, Try.ntmps53
            go_wp2
            go_ret
            exact ⟨by rw [hs.out]; rfl, box_stay (Below.refl _ _) _⟩
          · by_cases g5 : r.ya < -10000
            · have hs : Hid (C = 3) := by show C = 3; rw [HC.out]; unfold rone; simp [g0, g1, g2, g3, g4, g5]
              go_enter Try.func53, Try.ntmps53
              go_wp2
              go_ret
              exact ⟨by rw [hs.out]; rfl, box_stay (Below.refl _ _) _⟩
            · by_cases g6 : 10000 < r.xb
              · have hs : Hid (C = 3) := by show C = 3; rw [HC.out]; unfold rone; simp [g0, g1, g2, g3, g4, g5, g6]
                go_enter Try.func53, Try.ntmps53
                go_wp2
                go_ret
                exact ⟨by rw [hs.out]; rfl, box_stay (Below.refl _ _) _⟩
              · by_cases g7 : 10000 < r.yb
                · have hs : Hid (C = 3) := by show C = 3; rw [HC.out]; unfold rone; simp [g0, g1, g2, g3, g4, g5, g6, g7]
                  go_enter Try.func53, Try.ntmps53
                  go_wp2
                  go_ret
                  exact ⟨by rw [hs.out]; rfl, box_stay (Below.refl _ _) _⟩
                · have hs : Hid (C = 0) := by show C = 0; rw [HC.out]; unfold rone; simp [g0, g1, g2, g3, g4, g5, g6, g7]
                  go_enter Try.func53, Try.ntmps53
                  go_wp2
                  go_ret
                  exact ⟨by rw [hs.out]; rfl, box_stay (Below.refl _ _) _⟩
set_option maxRecDepth 20000 in
set_option maxHeartbeats 6400000 in
theorem sRects_any {w : World} {ao : Option Addr} {n cap : Nat} {S : Nat → R.G} (h : R.Rsp w (.slice ao n cap) n S) (hn : n ≤ 1048576) :
    Calls Try.prog 13 #[.slice ao n cap] w fun e w' => e = .returned (.int .i64 (rcode S n)) ∧ Below w.heap.size w w' := by
  have H : Hid (R.Rsp w (.slice ao n cap) n S) := h
  clear h
  have hnI : (n : Int) ≤ 1048576 := by omega
  obtain ⟨C, hC⟩ : ∃ C, C = rcode S n := ⟨_, rfl⟩
  have HC : Hid (C = rcode S n) := hC
  rw [← hC]
  clear hC
  by_cases hlong : 60 < n
  · have hs : Hid (C = 2) := by show C = 2; rw [HC.out]; unfold rcode; rw [if_pos hlong]
    have hlI : (60 : Int) < n := by omega
    clear H
    go_enter Try.func13, Try.ntmps13
    go_wp2
    go_ret
    exact ⟨by rw [hs.out]; rfl, Below.refl _ _⟩
  have HA : Hid (rcode S n = fstN (fun k => rone (S k)) n) := by show _ = _; unfold rcode; rw [if_neg hlong]
  have hsI : (n : Int) ≤ 60 := by omega
  go_enter Try.func13, Try.ntmps13
  go_wp2_with fail
  go_loopw [3] (fun i wr => ∃ k : Nat, k ≤ n ∧ i = .int .i64 k ∧ Hid (fstN (fun k => rone (S k)) k = 0 ∧ Below w.heap.size w wr)) (fun i _ => n - (intOf i).toNat)
  case atStart => exact ⟨0, Nat.zero_le _, rfl, rfl, Below.refl _ _⟩
  case round =>
    obtain ⟨k, hk, rfl, HF⟩ := hrel
    by_cases hkn : k < n
    · obtain ⟨b, off, hao, hc⟩ := (H.out.later (HF.out.2.mono (by exact Nat.le_refl _))).at hkn
      subst hao
      obtain ⟨r, hr⟩ : ∃ r, r = S k := ⟨_, rfl⟩
      rw [← hr] at hc
      have c0 : wr.cell? ⟨b, off + k * 5, none⟩ = some (.int .i64 r.ly) := hc 0 (by omega)
      have c1 : wr.cell? ⟨b, off + k * 5 + 1, none⟩ = some (.int .i64 r.xa) := hc 1 (by omega)
      have c2 : wr.cell? ⟨b, off + k * 5 + 2, none⟩ = some (.int .i64 r.ya) := hc 2 (by omega)
      have c3 : wr.cell? ⟨b, off + k * 5 + 3, none⟩ = some (.int .i64 r.xb) := hc 3 (by omega)
      have c4 : wr.cell? ⟨b, off + k * 5 + 4, none⟩ = some (.int .i64 r.yb) := hc 4 (by omega)
      have hkI : (k : Int) < n := by omega
      have hit : Hid (∀ q : Int, q ≠ 0 → rone r = q → C = q) := fun q hq e => by
        have e' : rone (S k) = q := by rw [← hr]; exact e
        rw [HC.out, HA.out]
        exact (fstN_hit HF.out.1 (by show rone (S k) ≠ 0; rw [e']; exact hq) hkn).trans e'
      have pass : Hid (rone r = 0 → fstN (fun k => rone (S k)) (k + 1) = 0) := fun e => fstN_next HF.out.1 (by show rone (S k) = 0; rw [← hr]; exact e)
      clear hc hr
      by_cases g0 : r.ly < 0
      · have hs : Hid (C = 1) := hit.out 1 (by decide) (by unfold rone; simp [g0])
        go_wp2
        go_ret
        exact ⟨by rw [hs.out]; rfl, box_stay HF.out.2 _⟩
      · by_cases g1 : 9 < r.ly
        · have hs : Hid (C = 1) := hit.out 1 (by decide) (by unfold rone; simp [g0, g1])
          go_wp2
          go_ret
          exact ⟨by rw [hs.out]; rfl, box_stay HF.out.2 _⟩
        · by_cases g2 : r.xb ≤ r.xa
          · have hs : Hid (C = 1) := hit.out 1 (by decide) (by unfold rone; simp [g0, g1, g2])
            go_wp2
            go_ret
            exact ⟨by rw [hs.out]; rfl, box_stay HF.out.2 _⟩
          · by_cases g3 : r.yb ≤ r.ya
            · have hs : Hid (C = 1) := hit.out 1 (by decide) (by unfold rone; simp [g0, g1, g2, g3])
              go_wp2
              go_ret
              exact ⟨by rw [hs.out]; rfl, box_stay HF.out.2 _⟩
            · by_cases g4 : r.xa < -10000
              · have hs : Hid (C = 3) := hit.out 3 (by decide) (by unfold rone; simp [g0, g1, g2, g3, g4])
                go_wp2
                go_ret
                exact ⟨by rw [hs.out]; rfl, box_stay HF.out.2 _⟩
              · by_cases g5 : r.ya < -10000
                · have hs : Hid (C = 3) := hit.out 3 (by decide) (by unfold rone; simp [g0, g1, g2, g3, g4, g5])
                  go_wp2
                  go_ret
                  exact ⟨by rw [hs.out]; rfl, box_stay HF.out.2 _⟩
                · by_cases g6 : 10000 < r.xb
                  · have hs : Hid (C = 3) := hit.out 3 (by decide) (by unfold rone; simp [g0, g1, g2, g3, g4, g5, g6])
                    go_wp2
                    go_ret
                    exact ⟨by rw [hs.out]; rfl, box_stay HF.out.2 _⟩
                  · by_cases g7 : 10000 < r.yb
                    · have hs : Hid (C = 3) := hit.out 3 (by decide) (by unfold rone; simp [g0, g1, g2, g3, g4, g5, g6, g7])
                      go_wp2
                      go_ret
                      exact ⟨by rw [hs.out]; rfl, box_stay HF.out.2 _⟩
                    · have hs := pass.out (by unfold rone; simp [g0, g1, g2, g3, g4, g5, g6, g7])
                      replace hs : Hid _ := hs
                      go_wp2
                      go_roundw
                      case rel => exact ⟨k + 1, by omega, by simp, hs.out, box_stay HF.out.2 _⟩
                      case measure => simp [intOf]; omega
    · obtain rfl : k = n := by omega
      have hs : Hid (C = 0) := by show C = 0; rw [HC.out, HA.out, HF.out.1]
      clear H
      go_wp2
      go_ret
      exact ⟨by rw [hs.out]; rfl, HF.out.2⟩
set_option maxRecDepth 20000 in
set_option maxHeartbeats 6400000 in
theorem iRects_any {w : World} {ao : Option Addr} {n cap : Nat} {S : Nat → R.G} (h : R.Rsp w (.slice ao n cap) n S) (hn : n ≤ 1048576) :
    Calls Try.prog 15 #[.slice ao n cap] w fun e w' => e = .returned (.int .i64 (rcode S n)) ∧ Below w.heap.size w w' := by
  have H : Hid (R.Rsp w (.slice ao n cap) n S) := h
  clear h
  have hnI : (n : Int) ≤ 1048576 := by omega
  obtain ⟨C, hC⟩ : ∃ C, C = rcode S n := ⟨_, rfl⟩
  have HC : Hid (C = rcode S n) := hC
  rw [← hC]
  clear hC
  by_cases hlong : 60 < n
  · have hs : Hid (C = 2) := by show C = 2; rw [HC.out]; unfold rcode; rw [if_pos hlong]
    have hlI : (60 : Int) < n := by omega
    clear H
    go_enter Try.func15, Try.ntmps15
    go_wp2
    go_ret
    exact ⟨by rw [hs.out]; rfl, Below.refl _ _⟩
  have HA : Hid (rcode S n = fstN (fun k => rone (S k)) n) := by show _ = _; unfold rcode; rw [if_neg hlong]
  have hsI : (n : Int) ≤ 60 := by omega
  go_enter Try.func15, Try.ntmps15
  go_wp2_with fail
  go_loopw [11] (fun i wr => ∃ k : Nat, k ≤ n ∧ i = .int .i64 k ∧ Hid (fstN (fun k => rone (S k)) k = 0 ∧ Below w.heap.size w wr)) (fun i _ => n - (intOf i).toNat)
  case atStart => exact ⟨0, Nat.zero_le _, rfl, rfl, Below.refl _ _⟩
  case round =>
    obtain ⟨k, hk, rfl, HF⟩ := hrel
    by_cases hkn : k < n
    · obtain ⟨b, off, hao, hc⟩ := (H.out.later (HF.out.2.mono (by exact Nat.le_refl _))).at hkn
      subst hao
      obtain ⟨r, hr⟩ : ∃ r, r = S k := ⟨_, rfl⟩
      rw [← hr] at hc
      have c0 : wr.cell? ⟨b, off + k * 5, none⟩ = some (.int .i64 r.ly) := hc 0 (by omega)
      have c1 : wr.cell? ⟨b, off + k * 5 + 1, none⟩ = some (.int .i64 r.xa) := hc 1 (by omega)
      have c2 : wr.cell? ⟨b, off + k * 5 + 2, none⟩ = some (.int .i64 r.ya) := hc 2 (by omega)
      have c3 : wr.cell? ⟨b, off + k * 5 + 3, none⟩ = some (.int .i64 r.xb) := hc 3 (by omega)
      have c4 : wr.cell? ⟨b, off + k * 5 + 4, none⟩ = some (.int .i64 r.yb) := hc 4 (by omega)
      have hkI : (k : Int) < n := by omega
      have hit : Hid (∀ q : Int, q ≠ 0 → rone r = q → C = q) := fun q hq e => by
        have e' : rone (S k) = q := by rw [← hr]; exact e
        rw [HC.out, HA.out]
        exact (fstN_hit HF.out.1 (by show rone (S k) ≠ 0; rw [e']; exact hq) hkn).trans e'
      have pass : Hid (rone r = 0 → fstN (fun k => rone (S k)) (k + 1) = 0) := fun e => fstN_next HF.out.1 (by show rone (S k) = 0; rw [← hr]; exact e)
      clear hc hr
      go_wp2_with fail
      refine (iFault_any r _).mono ?_
      rintro e w1 ⟨rfl, hb1⟩
      have HB : Hid (Below w.heap.size w w1) := box_step (box_stay HF.out.2 _) hb1 (by have := HF.out.2.size; first | (simp; done) | (simp; omega))
      clear hb1
      obtain ⟨q, hq⟩ : ∃ q, q = rone r := ⟨_, rfl⟩
      rw [← hq]
      by_cases e0 : q = 0
      · have hs := pass.out (by rw [← hq]; exact e0)
        replace hs : Hid _ := hs
        subst e0
        clear hq
        go_wp2
        go_roundw
        case rel => exact ⟨k + 1, by omega, by simp, hs.out, HB.out⟩
        case measure => simp [intOf]; omega
      · have hs : Hid (C = q) := hit.out q e0 hq.symm
        have e0b : (q != 0) = true := by simpa using e0
        clear hq
        go_wp2
        go_ret
        exact ⟨by rw [hs.out]; rfl, HB.out⟩
    · obtain rfl : k = n := by omega
      have hs : Hid (C = 0) := by show C = 0; rw [HC.out, HA.out, HF.out.1]
      clear H
      go_wp2
      go_ret
      exact ⟨by rw [hs.out]; rfl, HF.out.2⟩
end Go.Proofs.Ytclnmikneomccaa
