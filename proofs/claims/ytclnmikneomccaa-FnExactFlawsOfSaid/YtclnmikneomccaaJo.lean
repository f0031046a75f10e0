/- Rectangles that are joined, in both packages: contracts. -/
import Derived.Test.YtclnmikneomccaaRp
import Derived.Test.YtclnmikneomccaaLo
namespace Go.Proofs.Ytclnmikneomccaa
open Go.RowKit
set_option linter.unusedVariables false
set_option linter.unusedSimpArgs false
/-- How far two stretches overlap. -/
def cmn (a0 a1 b0 b1 : Int) : Int := min a1 b1 - max a0 b0
/-- Joined, by the layers and how far they overlap both ways. -/
def jnN (la lb X Y : Int) : Prop := (la = lb ∧ 0 ≤ X ∧ 0 ≤ Y ∧ 0 < X + Y) ∨ (la ≠ lb ∧ ((la = 0 ∧ (lb = 1 ∨ lb = 2)) ∨ (lb = 0 ∧ (la = 1 ∨ la = 2))) ∧ 0 < X ∧ 0 < Y)
def jn (a b : R.G) : Prop := jnN a.ly b.ly (cmn a.xa a.xb b.xa b.xb) (cmn a.ya a.yb b.ya b.yb)
theorem cmn_swap (a0 a1 b0 b1 : Int) : cmn b0 b1 a0 a1 = cmn a0 a1 b0 b1 := by unfold cmn; omega
theorem jn_symm {a b : R.G} (h : jn a b) : jn b a := by
  unfold jn jnN at h ⊢
  rw [cmn_swap a.xa, cmn_swap a.ya]
  omega
theorem jn_self {a : R.G} (h : Rok a) : jn a a := by
  have h1 := h.x
  have h2 := h.y
  unfold jn jnN cmn
  omega
theorem cmn_b {a b : R.G} (ha : Rok a) (hb : Rok b) : -20000 ≤ cmn a.xa a.xb b.xa b.xb ∧ cmn a.xa a.xb b.xa b.xb ≤ 20000 ∧ -20000 ≤ cmn a.ya a.yb b.ya b.yb ∧ cmn a.ya a.yb b.ya b.yb ≤ 20000 := by
  obtain ⟨a1, a2, a3, a4, a5, a6, a7, a8⟩ := ha
  obtain ⟨b1, b2, b3, b4, b5, b6, b7, b8⟩ := hb
  unfold cmn
  omega
set_option maxRecDepth 20000 in
set_option maxHeartbeats 6400000 in
theorem sMin_any (a b : Int) (w : World) : Calls Try.prog 63 #[.int .i64 a, .int .i64 b] w fun e w' => e = .returned (.int .i64 (min a b)) ∧ w = w' := by
  by_cases h : a < b
  · have hs : Hid (min a b = a) := by show _ = _; omega
    go_enter Try.func63, Try.ntmps63
    go_wp2
    go_ret
    exact ⟨by rw [hs.out]; rfl, rfl⟩
  · have hs : Hid (min a b = b) := by show _ = _; omega
    go_enter Try.func63, Try.ntmps63
    go_wp2
    go_ret
    exact ⟨by rw [hs.out]; rfl, rfl⟩
set_option maxRecDepth 20000 in
set_option maxHeartbeats 6400000 in
theorem sMost_any (a b : Int) (w : World) : Calls Try.prog 64 #[.int .i64 a, .int .i64 b] w fun e w' => e = .returned (.int .i64 (max a b)) ∧ w = w' := by
  by_cases h : b < a
  · have hs : Hid (max a b = a) := by show _ = _; omega
    go_enter Try.func64, Try.ntmps64
    go_wp2
    go_ret
    exact ⟨by rw [hs.out]; rfl, rfl⟩
  · have hs : Hid (max a b = b) := by show _ = _; omega
    go_enter Try.func64, Try.ntmps64
    go_wp2
    go_ret
    exact ⟨by rw [hs.out]; rfl, rfl⟩
set_option maxRecDepth 20000 in
set_option maxHeartbeats 6400000 in
theorem sCommon_any (a0 a1 b0 b1 : Int) (w : World) (h : -100000 ≤ min a1 b1 - max a0 b0 ∧ min a1 b1 - max a0 b0 ≤ 100000) : Calls Try.prog 65 #[.int .i64 a0, .int .i64 a1, .int .i64 b0, .int .i64 b1] w fun e w' => e = .returned (.int .i64 (cmn a0 a1 b0 b1)) ∧ w = w' := by
  obtain ⟨p, hp⟩ : ∃ p, p = min a1 b1 := ⟨_, rfl⟩
  obtain ⟨q, hq⟩ : ∃ q, q = max a0 b0 := ⟨_, rfl⟩
  rw [← hp, ← hq] at h
  have H : Hid (p = min a1 b1 ∧ q = max a0 b0 ∧ cmn a0 a1 b0 b1 = p - q) := ⟨hp, hq, by unfold cmn; rw [hp, hq]⟩
  clear hp hq
  obtain ⟨z, hz⟩ : ∃ z, z = p - q := ⟨_, rfl⟩
  have hw : wrap64 (p - q) = z := by rw [hz]; unfold wrap64; omega
  have HZ : Hid (z = p - q) := hz
  clear hz
  go_enter Try.func65, Try.ntmps65
  go_wp2_with (first | (go_at_call 63; refine (sMin_any a1 b1 _).mono ?_; rintro e w1 ⟨rfl, rfl⟩; rw [← H.out.1]) | (go_at_call 64; refine (sMost_any a0 b0 _).mono ?_; rintro e w1 ⟨rfl, rfl⟩; rw [← H.out.2.1]))
  go_ret
  exact ⟨by rw [H.out.2.2, ← HZ.out]; rfl, rfl⟩
set_option maxRecDepth 20000 in
set_option maxHeartbeats 6400000 in
theorem sJoined0 {a b : R.G} (ha : Rok a) (hb : Rok b) (t : Bool) (ht : t = true ↔ jn a b) (w : World) (hl : a.ly = b.ly ∨ b.ly ≠ 0) :
    Calls Try.prog 83 #[.agg #[.int .i64 a.ly, .int .i64 a.xa, .int .i64 a.ya, .int .i64 a.xb, .int .i64 a.yb], .agg #[.int .i64 b.ly, .int .i64 b.xa, .int .i64 b.ya, .int .i64 b.xb, .int .i64 b.yb]] w fun e w' => e = .returned (.bool t) ∧ Below w.heap.size w w' := by
  obtain ⟨X, hx⟩ : ∃ X, X = cmn a.xa a.xb b.xa b.xb := ⟨_, rfl⟩
  obtain ⟨Y, hy⟩ : ∃ Y, Y = cmn a.ya a.yb b.ya b.yb := ⟨_, rfl⟩
  have hbd := cmn_b ha hb
  have HT : Hid (t = true ↔ jnN a.ly b.ly X Y) := by rw [hx, hy]; exact ht
  have hX : Hid (X = cmn a.xa a.xb b.xa b.xb ∧ (-100000 ≤ min a.xb b.xb - max a.xa b.xa ∧ min a.xb b.xb - max a.xa b.xa ≤ 100000) ∧ Y = cmn a.ya a.yb b.ya b.yb ∧ (-100000 ≤ min a.yb b.yb - max a.ya b.ya ∧ min a.yb b.yb - max a.ya b.ya ≤ 100000)) := ⟨hx, by unfold cmn at hbd; omega, hy, by unfold cmn at hbd; omega⟩
  rw [← hx, ← hy] at hbd
  obtain ⟨hb1, hb2, hb3, hb4⟩ := hbd
  have HAB : Hid (Rok a ∧ Rok b) := ⟨ha, hb⟩
  have hl0 := ha.l0
  have hl1 := hb.l0
  clear hx hy ht ha hb
  by_cases e : a.ly = b.ly
  · have e1 : (a.ly == b.ly) = true := by simpa using e
    by_cases g0 : 0 ≤ X
    · by_cases g1 : 0 ≤ Y
      · by_cases g2 : 0 < X + Y
        · have hs : Hid (t = true) := HT.out.2 (by unfold jnN; omega)
          go_enter Try.func83, Try.ntmps83
          go_wp2_with fail
          refine (sCommon_any a.xa a.xb b.xa b.xb _ hX.out.2.1).mono ?_
          rintro e w1 ⟨rfl, hww⟩
          obtain rfl := hww.symm
          rw [← hX.out.1]
          go_wp2_with fail
          refine (sCommon_any a.ya a.yb b.ya b.yb _ hX.out.2.2.2).mono ?_
          rintro e w1 ⟨rfl, hww⟩
          obtain rfl := hww.symm
          rw [← hX.out.2.2.1]
          go_wp2
          go_ret
          refine ⟨?_, (box_stay (box_stay (Below.refl _ _) _) _)⟩
          rw [hs.out]
          first | rfl | (rw [show true = decide (0 < X + Y) from (by simp; omega)]; rfl) | (rw [show true = decide (0 < Y) from (by simp; omega)]; rfl)
        · have hs : Hid (t = false) := by
            show t = false
            cases t with
            | false => rfl
            | true => exact absurd (HT.out.1 rfl) (by unfold jnN; omega)
          go_enter Try.func83, Try.ntmps83
          go_wp2_with fail
          refine (sCommon_any a.xa a.xb b.xa b.xb _ hX.out.2.1).mono ?_
          rintro e w1 ⟨rfl, hww⟩
          obtain rfl := hww.symm
          rw [← hX.out.1]
          go_wp2_with fail
          refine (sCommon_any a.ya a.yb b.ya b.yb _ hX.out.2.2.2).mono ?_
          rintro e w1 ⟨rfl, hww⟩
          obtain rfl := hww.symm
          rw [← hX.out.2.2.1]
          go_wp2
          go_ret
          refine ⟨?_, (box_stay (box_stay (Below.refl _ _) _) _)⟩
          rw [hs.out]
          first | rfl | (rw [show false = decide (0 < X + Y) from (by simp; omega)]; rfl) | (rw [show false = decide (0 < Y) from (by simp; omega)]; rfl)
      · have hs : Hid (t = false) := by
          show t = false
          cases t with
          | false => rfl
          | true => exact absurd (HT.out.1 rfl) (by unfold jnN; omega)
        go_enter Try.func83, Try.ntmps83
        go_wp2_with fail
        refine (sCommon_any a.xa a.xb b.xa b.xb _ hX.out.2.1).mono ?_
        rintro e w1 ⟨rfl, hww⟩
        obtain rfl := hww.symm
        rw [← hX.out.1]
        go_wp2_with fail
        refine (sCommon_any a.ya a.yb b.ya b.yb _ hX.out.2.2.2).mono ?_
        rintro e w1 ⟨rfl, hww⟩
        obtain rfl := hww.symm
        rw [← hX.out.2.2.1]
        go_wp2
        go_ret
        refine ⟨?_, (box_stay (box_stay (Below.refl _ _) _) _)⟩
        rw [hs.out]
        first | rfl | (rw [show false = decide (0 < X + Y) from (by simp; omega)]; rfl) | (rw [show false = decide (0 < Y) from (by simp; omega)]; rfl)
    · have hs : Hid (t = false) := by
        show t = false
        cases t with
        | false => rfl
        | true => exact absurd (HT.out.1 rfl) (by unfold jnN; omega)
      go_enter Try.func83, Try.ntmps83
      go_wp2_with fail
      refine (sCommon_any a.xa a.xb b.xa b.xb _ hX.out.2.1).mono ?_
      rintro e w1 ⟨rfl, hww⟩
      obtain rfl := hww.symm
      rw [← hX.out.1]
      go_wp2_with fail
      refine (sCommon_any a.ya a.yb b.ya b.yb _ hX.out.2.2.2).mono ?_
      rintro e w1 ⟨rfl, hww⟩
      obtain rfl := hww.symm
      rw [← hX.out.2.2.1]
      go_wp2
      go_ret
      refine ⟨?_, (box_stay (box_stay (Below.refl _ _) _) _)⟩
      rw [hs.out]
      first | rfl | (rw [show false = decide (0 < X + Y) from (by simp; omega)]; rfl) | (rw [show false = decide (0 < Y) from (by simp; omega)]; rfl)
  · have e1 : (a.ly == b.ly) = false := by simpa using e
    have hb0 : b.ly ≠ 0 := by omega
    have e2 : (b.ly == 0) = false := by simpa using hb0
    by_cases q0 : a.ly = 0
    · have f0 : (a.ly == 0) = true := by simpa using q0
      by_cases q1 : b.ly = 1
      · have f1 : (b.ly == 1) = true := by simpa using q1
        by_cases g0 : 0 < X
        · by_cases g1 : 0 < Y
          · have hs : Hid (t = true) := HT.out.2 (by unfold jnN; omega)
            go_enter Try.func83, Try.ntmps83
            go_wp2_with fail
            refine (sCommon_any a.xa a.xb b.xa b.xb _ hX.out.2.1).mono ?_
            rintro e w1 ⟨rfl, hww⟩
            obtain rfl := hww.symm
            rw [← hX.out.1]
            go_wp2_with fail
            refine (sCommon_any a.ya a.yb b.ya b.yb _ hX.out.2.2.2).mono ?_
            rintro e w1 ⟨rfl, hww⟩
            obtain rfl := hww.symm
            rw [← hX.out.2.2.1]
            go_wp2
            go_ret
            refine ⟨?_, (box_stay (box_stay (Below.refl _ _) _) _)⟩
            rw [hs.out]
            first | rfl | (rw [show true = decide (0 < X + Y) from (by simp; omega)]; rfl) | (rw [show true = decide (0 < Y) from (by simp; omega)]; rfl)
          · have hs : Hid (t = false) := by
              show t = false
              cases t with
              | false => rfl
              | true => exact absurd (HT.out.1 rfl) (by unfold jnN; omega)
            go_enter Try.func83, Try.ntmps83
            go_wp2_with fail
            refine (sCommon_any a.xa a.xb b.xa b.xb _ hX.out.2.1).mono ?_
            rintro e w1 ⟨rfl, hww⟩
            obtain rfl := hww.symm
            rw [← hX.out.1]
            go_wp2_with fail
            refine (sCommon_any a.ya a.yb b.ya b.yb _ hX.out.2.2.2).mono ?_
            rintro e w1 ⟨rfl, hww⟩
            obtain rfl := hww.symm
            rw [← hX.out.2.2.1]
            go_wp2
            go_ret
            refine ⟨?_, (box_stay (box_stay (Below.refl _ _) _) _)⟩
            rw [hs.out]
            first | rfl | (rw [show false = decide (0 < X + Y) from (by simp; omega)]; rfl) | (rw [show false = decide (0 < Y) from (by simp; omega)]; rfl)
        · have hs : Hid (t = false) := by
            show t = false
            cases t with
            | false => rfl
            | true => exact absurd (HT.out.1 rfl) (by unfold jnN; omega)
          go_enter Try.func83, Try.ntmps83
          go_wp2_with fail
          refine (sCommon_any a.xa a.xb b.xa b.xb _ hX.out.2.1).mono ?_
          rintro e w1 ⟨rfl, hww⟩
          obtain rfl := hww.symm
          rw [← hX.out.1]
          go_wp2_with fail
          refine (sCommon_any a.ya a.yb b.ya b.yb _ hX.out.2.2.2).mono ?_
          rintro e w1 ⟨rfl, hww⟩
          obtain rfl := hww.symm
          rw [← hX.out.2.2.1]
          go_wp2
          go_ret
          refine ⟨?_, (box_stay (box_stay (Below.refl _ _) _) _)⟩
          rw [hs.out]
          first | rfl | (rw [show false = decide (0 < X + Y) from (by simp; omega)]; rfl) | (rw [show false = decide (0 < Y) from (by simp; omega)]; rfl)
      · have f1 : (b.ly == 1) = false := by simpa using q1
        by_cases q2 : b.ly = 2
        · have f2 : (b.ly == 2) = true := by simpa using q2
          by_cases g0 : 0 < X
          · by_cases g1 : 0 < Y
            · have hs : Hid (t = true) := HT.out.2 (by unfold jnN; omega)
              go_enter Try.func83, Try.ntmps83
              go_wp2_with fail
              refine (sCommon_any a.xa a.xb b.xa b.xb _ hX.out.2.1).mono ?_
              rintro e w1 ⟨rfl, hww⟩
              obtain rfl := hww.symm
              rw [← hX.out.1]
              go_wp2_with fail
              refine (sCommon_any a.ya a.yb b.ya b.yb _ hX.out.2.2.2).mono ?_
              rintro e w1 ⟨rfl, hww⟩
              obtain rfl := hww.symm
              rw [← hX.out.2.2.1]
              go_wp2
              go_ret
              refine ⟨?_, (box_stay (box_stay (Below.refl _ _) _) _)⟩
              rw [hs.out]
              first | rfl | (rw [show true = decide (0 < X + Y) from (by simp; omega)]; rfl) | (rw [show true = decide (0 < Y) from (by simp; omega)]; rfl)
            · have hs : Hid (t = false) := by
                show t = false
                cases t with
                | false => rfl
                | true => exact absurd (HT.out.1 rfl) (by unfold jnN; omega)
              go_enter Try.func83, Try.ntmps83
              go_wp2_with fail
              refine (sCommon_any a.xa a.xb b.xa b.xb _ hX.out.2.1).mono ?_
              rintro e w1 ⟨rfl, hww⟩
              obtain rfl := hww.symm
              rw [← hX.out.1]
              go_wp2_with fail
              refine (sCommon_any a.ya a.yb b.ya b.yb _ hX.out.2.2.2).mono ?_
              rintro e w1 ⟨rfl, hww⟩
              obtain rfl := hww.symm
              rw [← hX.out.2.2.1]
              go_wp2
              go_ret
              refine ⟨?_, (box_stay (box_stay (Below.refl _ _) _) _)⟩
              rw [hs.out]
              first | rfl | (rw [show false = decide (0 < X + Y) from (by simp; omega)]; rfl) | (rw [show false = decide (0 < Y) from (by simp; omega)]; rfl)
          · have hs : Hid (t = false) := by
              show t = false
              cases t with
              | false => rfl
              | true => exact absurd (HT.out.1 rfl) (by unfold jnN; omega)
            go_enter Try.func83, Try.ntmps83
            go_wp2_with fail
            refine (sCommon_any a.xa a.xb b.xa b.xb _ hX.out.2.1).mono ?_
            rintro e w1 ⟨rfl, hww⟩
            obtain rfl := hww.symm
            rw [← hX.out.1]
            go_wp2_with fail
            refine (sCommon_any a.ya a.yb b.ya b.yb _ hX.out.2.2.2).mono ?_
            rintro e w1 ⟨rfl, hww⟩
            obtain rfl := hww.symm
            rw [← hX.out.2.2.1]
            go_wp2
            go_ret
            refine ⟨?_, (box_stay (box_stay (Below.refl _ _) _) _)⟩
            rw [hs.out]
            first | rfl | (rw [show false = decide (0 < X + Y) from (by simp; omega)]; rfl) | (rw [show false = decide (0 < Y) from (by simp; omega)]; rfl)
        · have f2 : (b.ly == 2) = false := by simpa using q2
          have hs : Hid (t = false) := by
            show t = false
            cases t with
            | false => rfl
            | true => exact absurd (HT.out.1 rfl) (by unfold jnN; omega)
          go_enter Try.func83, Try.ntmps83
          go_wp2_with fail
          refine (sCommon_any a.xa a.xb b.xa b.xb _ hX.out.2.1).mono ?_
          rintro e w1 ⟨rfl, hww⟩
          obtain rfl := hww.symm
          rw [← hX.out.1]
          go_wp2_with fail
          refine (sCommon_any a.ya a.yb b.ya b.yb _ hX.out.2.2.2).mono ?_
          rintro e w1 ⟨rfl, hww⟩
          obtain rfl := hww.symm
          rw [← hX.out.2.2.1]
          go_wp2
          go_ret
          refine ⟨?_, (box_stay (box_stay (Below.refl _ _) _) _)⟩
          rw [hs.out]
          first | rfl | (rw [show false = decide (0 < X + Y) from (by simp; omega)]; rfl) | (rw [show false = decide (0 < Y) from (by simp; omega)]; rfl)
    · have f0 : (a.ly == 0) = false := by simpa using q0
      have hs : Hid (t = false) := by
        show t = false
        cases t with
        | false => rfl
        | true => exact absurd (HT.out.1 rfl) (by unfold jnN; omega)
      go_enter Try.func83, Try.ntmps83
      go_wp2_with fail
      refine (sCommon_any a.xa a.xb b.xa b.xb _ hX.out.2.1).mono ?_
      rintro e w1 ⟨rfl, hww⟩
      obtain rfl := hww.symm
      rw [← hX.out.1]
      go_wp2_with fail
      refine (sCommon_any a.ya a.yb b.ya b.yb _ hX.out.2.2.2).mono ?_
      rintro e w1 ⟨rfl, hww⟩
      obtain rfl := hww.symm
      rw [← hX.out.2.2.1]
      go_wp2
      go_ret
      refine ⟨?_, (box_stay (box_stay (Below.refl _ _) _) _)⟩
      rw [hs.out]
      first | rfl | (rw [show false = decide (0 < X + Y) from (by simp; omega)]; rfl) | (rw [show false = decide (0 < Y) from (by simp; omega)]; rfl)
set_option maxRecDepth 20000 in
set_option maxHeartbeats 6400000 in
theorem sJoined_any {a b : R.G} (ha : Rok a) (hb : Rok b) (t : Bool) (ht : t = true ↔ jn a b) (w : World) :
    Calls Try.prog 83 #[.agg #[.int .i64 a.ly, .int .i64 a.xa, .int .i64 a.ya, .int .i64 a.xb, .int .i64 a.yb], .agg #[.int .i64 b.ly, .int .i64 b.xa, .int .i64 b.ya, .int .i64 b.xb, .int .i64 b.yb]] w fun e w' => e = .returned (.bool t) ∧ Below w.heap.size w w' := by
  by_cases hl : a.ly = b.ly ∨ b.ly ≠ 0
  · exact sJoined0 ha hb t ht w hl
  have hsw : ∀ W, Calls Try.prog 83 #[.agg #[.int .i64 b.ly, .int .i64 b.xa, .int .i64 b.ya, .int .i64 b.xb, .int .i64 b.yb], .agg #[.int .i64 a.ly, .int .i64 a.xa, .int .i64 a.ya, .int .i64 a.xb, .int .i64 a.yb]] W fun e w' => e = .returned (.bool t) ∧ Below W.heap.size W w' := fun W => sJoined0 hb ha t (ht.trans ⟨jn_symm, jn_symm⟩) W (Or.inr (by omega))
  obtain ⟨X, hx⟩ : ∃ X, X = cmn a.xa a.xb b.xa b.xb := ⟨_, rfl⟩
  obtain ⟨Y, hy⟩ : ∃ Y, Y = cmn a.ya a.yb b.ya b.yb := ⟨_, rfl⟩
  have hbd := cmn_b ha hb
  have hX : Hid (X = cmn a.xa a.xb b.xa b.xb ∧ (-100000 ≤ min a.xb b.xb - max a.xa b.xa ∧ min a.xb b.xb - max a.xa b.xa ≤ 100000) ∧ Y = cmn a.ya a.yb b.ya b.yb ∧ (-100000 ≤ min a.yb b.yb - max a.ya b.ya ∧ min a.yb b.yb - max a.ya b.ya ≤ 100000)) := ⟨hx, by unfold cmn at hbd; omega, hy, by unfold cmn at hbd; omega⟩
  have e1 : (a.ly == b.ly) = false := by simp; omega
  have e2 : (b.ly == 0) = true := by simp; omega
  have HSW : Hid _ := hsw
  clear hbd hx hy ht ha hb hl hsw
  go_enter Try.func83, Try.ntmps83
  go_wp2_with fail
  refine (sCommon_any a.xa a.xb b.xa b.xb _ hX.out.2.1).mono ?_
  rintro e w1 ⟨rfl, hww⟩
  obtain rfl := hww.symm
  go_wp2_with fail
  refine (sCommon_any a.ya a.yb b.ya b.yb _ hX.out.2.2.2).mono ?_
  rintro e w1 ⟨rfl, hww⟩
  obtain rfl := hww.symm
  go_wp2_with fail
  refine (HSW.out _).mono ?_
  rintro e w1 ⟨rfl, hbw⟩
  have HBW : Hid (Below w.heap.size w w1) := box_step (box_stay (box_stay (Below.refl _ _) _) _) hbw (by first | (simp; done) | (simp; omega))
  clear hbw
  go_wp2
  go_ret
  exact ⟨rfl, HBW.out⟩
end Go.Proofs.Ytclnmikneomccaa
