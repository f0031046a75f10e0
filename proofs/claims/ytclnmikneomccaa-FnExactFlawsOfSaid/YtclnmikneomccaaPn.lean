/- Pins: the first rectangle in which one lies; contracts of the program. -/
import Derived.Test.YtclnmikneomccaaNo
import Derived.Test.YtclnmikneomccaaLp
namespace Go.Proofs.Ytclnmikneomccaa
open Go.RowKit Go.Maps
set_option linter.unusedVariables false
set_option linter.unusedSimpArgs false
def inR (p : P.G) (r : R.G) : Prop := p.ly = r.ly ∧ r.xa ≤ p.x ∧ p.x ≤ r.xb ∧ r.ya ≤ p.y ∧ p.y ≤ r.yb
def inB (p : P.G) (r : R.G) : Bool := (p.ly == r.ly) && (decide (r.xa ≤ p.x) && (decide (p.x ≤ r.xb) && (decide (r.ya ≤ p.y) && decide (p.y ≤ r.yb))))
theorem inB_iff {p : P.G} {r : R.G} : inB p r = true ↔ inR p r := by
  unfold inB inR
  simp
/-- The first place at which B holds, or -1. -/
def fpl (B : Nat → Bool) : Nat → Int
  | 0 => -1
  | n + 1 => if 0 ≤ fpl B n then fpl B n else if B n then (n : Int) else -1
theorem fpl_spec (B : Nat → Bool) : ∀ n, (fpl B n = -1 ∧ ∀ k, k < n → B k = false) ∨ ∃ k, k < n ∧ fpl B n = (k : Int) ∧ B k = true ∧ ∀ j, j < k → B j = false
  | 0 => Or.inl ⟨rfl, fun k h => absurd h (Nat.not_lt_zero _)⟩
  | n + 1 => by
    rcases fpl_spec B n with ⟨h1, h2⟩ | ⟨k, hk, h1, h2, h3⟩
    · cases hb : B n with
      | true => exact Or.inr ⟨n, by omega, by simp [fpl, h1, hb], hb, h2⟩
      | false =>
        refine Or.inl ⟨by simp [fpl, h1, hb], fun k hk => ?_⟩
        by_cases e : k = n
        · rw [e]; exact hb
        · exact h2 k (by omega)
    · exact Or.inr ⟨k, by omega, by simp [fpl, h1], h2, h3⟩
theorem fpl_none {B : Nat → Bool} {n : Nat} (h : ∀ k, k < n → B k = false) : fpl B n = -1 := by
  rcases fpl_spec B n with h1 | ⟨k, hk, h1, h2, h3⟩
  · exact h1.1
  · rw [h k hk] at h2; cases h2
theorem fpl_hit {B : Nat → Bool} {n k : Nat} (hk : k < n) (hb : B k = true) (h : ∀ j, j < k → B j = false) : fpl B n = (k : Int) := by
  rcases fpl_spec B n with ⟨_, h1⟩ | ⟨m, hm, h1, h2, h3⟩
  · rw [h1 k hk] at hb; cases hb
  · rcases Nat.lt_trichotomy m k with e | e | e
    · rw [h m e] at h2; cases h2
    · rw [h1, e]
    · rw [h3 k e] at hb; cases hb
/-- The net of a pin. -/
def pz (B : Nat → Bool) (X : Nat → Int) (n : Nat) : Int := if fpl B n < 0 then -1 else X (fpl B n).toNat
theorem pz_none {B : Nat → Bool} {X : Nat → Int} {n : Nat} (h : fpl B n = -1) : pz B X n = -1 := by unfold pz; rw [h]; rfl
theorem pz_hit {B : Nat → Bool} {X : Nat → Int} {n k : Nat} (h : fpl B n = (k : Int)) : pz B X n = X k := by
  unfold pz
  rw [h, if_neg (by omega)]
  rfl
set_option maxRecDepth 20000 in
set_option maxHeartbeats 6400000 in
theorem isIn_any (p : P.G) (r : R.G) (w : World) : Calls Try.prog 79 #[.agg #[.int .i64 p.ly, .int .i64 p.x, .int .i64 p.y], .agg #[.int .i64 r.ly, .int .i64 r.xa, .int .i64 r.ya, .int .i64 r.xb, .int .i64 r.yb]] w fun e w' => e = .returned (.bool (inB p r)) ∧ Below w.heap.size w w' := by
  obtain ⟨t, ht⟩ : ∃ t, t = inB p r := ⟨_, rfl⟩
  have HT : Hid (t = true ↔ inR p r) := by rw [ht]; exact inB_iff
  rw [← ht]
  clear ht
  go_enter Try.func79, Try.ntmps79
  go_upto_region 1 with fail
  obtain ⟨wb, hwb⟩ : ∃ W, W = (w.alloc (.cells #[.int .i64 p.ly, .int .i64 p.x, .int .i64 p.y] 93)).alloc (.cells #[.int .i64 r.ly, .int .i64 r.xa, .int .i64 r.ya, .int .i64 r.xb, .int .i64 r.yb] 68) := ⟨_, rfl⟩
  obtain ⟨q2, h2⟩ : ∃ q, q = w.heap.size := ⟨_, rfl⟩
  obtain ⟨q3, h3⟩ : ∃ q, q = w.heap.size + 1 := ⟨_, rfl⟩
  have A : Blk wb q2 #[.int .i64 p.ly, .int .i64 p.x, .int .i64 p.y] 93 := by rw [hwb]; exact (Blk.new h2).alloc _
  have B : Blk wb q3 #[.int .i64 r.ly, .int .i64 r.xa, .int .i64 r.ya, .int .i64 r.xb, .int .i64 r.yb] 68 := by rw [hwb]; exact Blk.new (by rw [h3]; simp)
  have HB : Hid (Below w.heap.size w wb) := by rw [hwb]; exact box_stay (box_stay (Below.refl _ _) _) _
  rw [← hwb, ← h3, ← h2]
  clear hwb h2 h3
  have k0 := A.cell (j := 0) rfl
  have k1 := A.cell (j := 1) rfl
  have k2 := A.cell (j := 2) rfl
  have m0 := B.cell (j := 0) rfl
  have m1 := B.cell (j := 1) rfl
  have m2 := B.cell (j := 2) rfl
  have m3 := B.cell (j := 3) rfl
  have m4 := B.cell (j := 4) rfl
  clear A B
  by_cases g0 : p.ly = r.ly
  · have b0 : (p.ly == r.ly) = true := by simpa using g0
    have G0 : Hid (p.ly = r.ly) := g0
    clear g0
    by_cases g1 : r.xa ≤ p.x
    · by_cases g2 : p.x ≤ r.xb
      · by_cases g3 : r.ya ≤ p.y
        · by_cases g4 : p.y ≤ r.yb
          · have hs : Hid (t = true) := HT.out.2 ⟨G0.out, by omega, by omega, by omega, by omega⟩
            go_wp2
            go_ret
            refine ⟨?_, HB.out⟩
            rw [hs.out]
            first | rfl | (rw [show true = decide (p.y ≤ r.yb) from (by simp; omega)]; rfl)
          · have hs : Hid (t = false) := by
              show t = false
              cases t with
              | false => rfl
              | true => exact absurd (HT.out.1 rfl) (fun h => by obtain ⟨h1, h2, h3, h4, h5⟩ := h; first | exact G0.out h1 | omega)
            go_wp2
            go_ret
            refine ⟨?_, HB.out⟩
            rw [hs.out]
            first | rfl | (rw [show false = decide (p.y ≤ r.yb) from (by simp; omega)]; rfl)
        · have hs : Hid (t = false) := by
            show t = false
            cases t with
            | false => rfl
            | true => exact absurd (HT.out.1 rfl) (fun h => by obtain ⟨h1, h2, h3, h4, h5⟩ := h; first | exact G0.out h1 | omega)
          go_wp2
          go_ret
          refine ⟨?_, HB.out⟩
          rw [hs.out]
          first | rfl | (rw [show false = decide (p.y ≤ r.yb) from (by simp; omega)]; rfl)
      · have hs : Hid (t = false) := by
          show t = false
          cases t with
          | false => rfl
          | true => exact absurd (HT.out.1 rfl) (fun h => by obtain ⟨h1, h2, h3, h4, h5⟩ := h; first | exact G0.out h1 | omega)
        go_wp2
        go_ret
        refine ⟨?_, HB.out⟩
        rw [hs.out]
        first | rfl | (rw [show false = decide (p.y ≤ r.yb) from (by simp; omega)]; rfl)
    · have hs : Hid (t = false) := by
        show t = false
        cases t with
        | false => rfl
        | true => exact absurd (HT.out.1 rfl) (fun h => by obtain ⟨h1, h2, h3, h4, h5⟩ := h; first | exact G0.out h1 | omega)
      go_wp2
      go_ret
      refine ⟨?_, HB.out⟩
      rw [hs.out]
      first | rfl | (rw [show false = decide (p.y ≤ r.yb) from (by simp; omega)]; rfl)
  · have b0 : (p.ly == r.ly) = false := by simpa using g0
    have G0 : Hid (¬ p.ly = r.ly) := g0
    clear g0
    have hs : Hid (t = false) := by
      show t = false
      cases t with
      | false => rfl
      | true => exact absurd (HT.out.1 rfl) (fun h => by obtain ⟨h1, h2, h3, h4, h5⟩ := h; first | exact G0.out h1 | omega)
    go_wp2
    go_ret
    refine ⟨?_, HB.out⟩
    rw [hs.out]
    first | rfl | (rw [show false = decide (p.y ≤ r.yb) from (by simp; omega)]; rfl)
set_option maxRecDepth 20000 in
set_option maxHeartbeats 6400000 in
theorem indexF_any {w : World} {ao : Option Addr} {n cap : Nat} {S : Nat → R.G} (p : P.G) (h : R.Rsp w (.slice ao n cap) n S) (hn : n ≤ 1048576) :
    Calls Try.prog 78 #[.slice ao n cap, .func (.func 79) #[.agg #[.int .i64 p.ly, .int .i64 p.x, .int .i64 p.y]] #[]] w fun e w' => e = .returned (.int .i64 (fpl (fun k => inB p (S k)) n)) ∧ Below w.heap.size w w' := by
  have HA : ∀ W, Below w.heap.size w W → Hid (R.Rsp W (.slice ao n cap) n S) := fun W hb => h.later hb
  have hnI : (n : Int) ≤ 1048576 := by omega
  obtain ⟨C, hC⟩ : ∃ C, C = fpl (fun k => inB p (S k)) n := ⟨_, rfl⟩
  have HC : Hid (C = fpl (fun k => inB p (S k)) n) := hC
  rw [← hC]
  clear h hC
  go_enter Try.func78, Try.ntmps78
  go_wp2_with fail
  go_loopw [8] (fun i wr => ∃ k : Nat, k ≤ n ∧ i = .int .i64 k ∧ Hid (Below w.heap.size w wr ∧ ∀ j, j < k → inB p (S j) = false)) (fun i _ => n - (intOf i).toNat)
  case atStart => exact ⟨0, Nat.zero_le _, rfl, Below.refl _ _, fun j hj => absurd hj (Nat.not_lt_zero _)⟩
  case round =>
    obtain ⟨k, hk, rfl, HH⟩ := hrel
    by_cases hkn : k < n
    · have hkI : (k : Int) < n := by omega
      obtain ⟨b, off, hao, hc⟩ := (HA wr HH.out.1).out.at hkn
      subst hao
      obtain ⟨x, hx⟩ : ∃ x, x = S k := ⟨_, rfl⟩
      rw [← hx] at hc
      have c0 : wr.cell? ⟨b, off + k * 5, none⟩ = some (.int .i64 x.ly) := hc 0 (by omega)
      have c1 : wr.cell? ⟨b, off + k * 5 + 1, none⟩ = some (.int .i64 x.xa) := hc 1 (by omega)
      have c2 : wr.cell? ⟨b, off + k * 5 + 2, none⟩ = some (.int .i64 x.ya) := hc 2 (by omega)
      have c3 : wr.cell? ⟨b, off + k * 5 + 3, none⟩ = some (.int .i64 x.xb) := hc 3 (by omega)
      have c4 : wr.cell? ⟨b, off + k * 5 + 4, none⟩ = some (.int .i64 x.yb) := hc 4 (by omega)
      have HX : Hid (x = S k) := hx
      clear hx hc
      go_wp2_with fail
      refine (isIn_any p x _).mono ?_
      rintro e w2 ⟨rfl, hb2⟩
      have HB : Hid (Below w.heap.size w w2) := HH.out.1.trans (hb2.mono HH.out.1.size)
      clear hb2 c0 c1 c2 c3 c4
      cases ht : inB p x with
      | false =>
        have HF : Hid (∀ j, j < k + 1 → inB p (S j) = false) := fun j hj => by
          by_cases e : j = k
          · subst e; rw [← HX.out]; exact ht
          · exact HH.out.2 j (by omega)
        go_wp2
        go_roundw
        case rel => exact ⟨k + 1, by omega, by simp, HB.out, HF.out⟩
        case measure => simp [intOf]; omega
      | true =>
        have hs : Hid (C = (k : Int)) := by
          show C = _
          rw [HC.out]
          exact fpl_hit (B := fun k => inB p (S k)) hkn (by show inB p (S k) = true; rw [← HX.out]; exact ht) HH.out.2
        clear HA
        go_wp2
        go_ret
        exact ⟨by rw [hs.out]; rfl, HB.out⟩
    · obtain rfl : n = k := by omega
      have hs : Hid (C = -1) := by
        show C = _
        rw [HC.out]
        exact fpl_none (B := fun k => inB p (S k)) HH.out.2
      clear HA
      go_wp2
      go_ret
      exact ⟨by rw [hs.out]; rfl, HH.out.1⟩
end Go.Proofs.Ytclnmikneomccaa
