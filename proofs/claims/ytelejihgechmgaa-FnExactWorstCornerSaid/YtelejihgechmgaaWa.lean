/- Worst corners, in both packages: contracts. -/
import Derived.Test.YtelejihgechmgaaMm
import Derived.Test.YtelejihgechmgaaPw
import Derived.Lib.MinMax
namespace Go.Proofs.Ytelejihgechmgaa
open Go.RowKit
set_option linter.unusedVariables false
set_option linter.unusedSimpArgs false
set_option maxRecDepth 20000 in
theorem sAbs_any {x g : Int} (hg : g = Mt.ab x) (h0 : -1000000000000 ≤ x) (h1 : x ≤ 1000000000000) (w : World) : Calls Try.prog 89 #[.int .i64 x] w fun e w' => e = .returned (.int .i64 g) ∧ w = w' := by
  by_cases c : x < 0
  · have e : g = -x := by rw [hg]; unfold Mt.ab; rw [if_pos c]
    rw [e]
    go_enter Try.func89, Try.ntmps89
    go_wp2
    go_ret
    exact ⟨rfl, rfl⟩
  · have e : g = x := by rw [hg]; unfold Mt.ab; rw [if_neg c]
    rw [e]
    go_enter Try.func89, Try.ntmps89
    go_wp2
    go_ret
    exact ⟨rfl, rfl⟩
set_option maxRecDepth 20000 in
theorem sMost_any (a b : Int) (w : World) : Calls Try.prog 90 #[.int .i64 a, .int .i64 b] w fun e w' => e = .returned (.int .i64 (max a b)) ∧ w = w' := by
  by_cases c : b < a
  · rw [show max a b = a by omega]
    go_enter Try.func90, Try.ntmps90
    go_wp2
    go_ret
    exact ⟨rfl, rfl⟩
  · rw [show max a b = b by omega]
    go_enter Try.func90, Try.ntmps90
    go_wp2
    go_ret
    exact ⟨rfl, rfl⟩
set_option maxRecDepth 20000 in
set_option maxHeartbeats 6400000 in
theorem iSize_any {a : Li} {d pc qc : Nat} {po qo : Option Addr} {P : Nat → Int} {w : World} {g : Int} (hg : g = Mt.ab (Mt.off a P d)) (G : Mt.AGood (fun _ => a) 1 d) (hP : ∀ k, k < d → -12000 ≤ P k ∧ P k ≤ 12000) (h : RdRow w (.slice po d pc) d a.p) (hp : RdRow w (.slice qo d qc) d P) :
    Calls Try.prog 92 #[.agg #[.slice po d pc, .int .i64 a.want], .slice qo d qc] w fun e w' => e = .returned (.int .i64 g) ∧ Below w.heap.size w w' := by
  obtain ⟨X, hX⟩ : ∃ X, X = w.alloc (.cells #[.slice po d pc, .int .i64 a.want] 91) := ⟨_, rfl⟩
  have BX : Hid (Blk X w.heap.size #[.slice po d pc, .int .i64 a.want] 91 ∧ Below w.heap.size w X) := by rw [hX]; exact ⟨Blk.new rfl, (Below.refl _ _).alloc (Nat.le_refl _) _⟩
  have hX1 : w.heap.size < X.heap.size := BX.out.1.lt
  have e0 := BX.out.1.cell (j := 0) (v := .slice po d pc) rfl
  have e1 := BX.out.1.cell (j := 1) (v := .int .i64 a.want) rfl
  obtain ⟨f, hf⟩ : ∃ f, f = Mt.off a P d := ⟨_, rfl⟩
  have HCl := iMiss_any (w := X) G hP (h.later BX.out.2) (hp.later BX.out.2)
  have hfb := Mt.off_b G (i := 0) (by omega) hP (Nat.le_refl d)
  have hd : (d : Int) ≤ 10 := by have := G.d10; omega
  rw [← hf] at HCl hfb hg
  have hf0 : -120100000 ≤ f := by omega
  have hf1 : f ≤ 120100000 := by omega
  have hgm : max f (-f) = g := by rw [hg]; unfold Mt.ab; split <;> omega
  clear hf G hP h hp hfb hg hd
  go_enter Try.func92, Try.ntmps92
  go_wp2_with fail
  rw [← hX]
  clear hX
  go_wp2_with (first | (go_at_call 99; refine HCl.mono ?_; rintro e w1 ⟨rfl, hb1⟩))
  go_ret
  refine ⟨?_, BX.out.2.trans (hb1.mono (Nat.le_of_lt hX1))⟩
  first | rfl | (rw [← hgm]; rfl)
set_option maxRecDepth 20000 in
set_option maxHeartbeats 6400000 in
theorem iSway_any {a : Li} {d pc qc : Nat} {po qo : Option Addr} {S : Nat → Int} {w : World} {g : Int} (hg : g = Mt.sway a S d) (G : Mt.AGood (fun _ => a) 1 d) (hS : ∀ k, k < d → 0 ≤ S k ∧ S k ≤ 1000) (h : RdRow w (.slice po d pc) d a.p) (hp : RdRow w (.slice qo d qc) d S) :
    Calls Try.prog 93 #[.agg #[.slice po d pc, .int .i64 a.want], .slice qo d qc] w fun e w' => e = .returned (.int .i64 g) ∧ Below w.heap.size w w' := by
  have H : ∀ W, Below w.heap.size w W → Hid (RdRow W (.slice po d pc) d a.p ∧ RdRow W (.slice qo d qc) d S) := fun W hb => ⟨h.later hb, hp.later hb⟩
  have HG : Hid (Mt.AGood (fun _ => a) 1 d ∧ ∀ k, k < d → 0 ≤ S k ∧ S k ≤ 1000) := ⟨G, hS⟩
  have hd10 := G.d10
  have hdI : (d : Int) ≤ 10 := by omega
  have HC : Hid (g = Mt.sway a S d) := hg
  clear h hp G hS hg
  obtain ⟨X, hX⟩ : ∃ X, X = w.alloc (.cells #[.slice po d pc, .int .i64 a.want] 91) := ⟨_, rfl⟩
  have BX : Hid (Blk X w.heap.size #[.slice po d pc, .int .i64 a.want] 91 ∧ Below w.heap.size w X) := by rw [hX]; exact ⟨Blk.new rfl, (Below.refl _ _).alloc (Nat.le_refl _) _⟩
  have hX1 : w.heap.size < X.heap.size := BX.out.1.lt
  have e0 := BX.out.1.cell (j := 0) (v := .slice po d pc) rfl
  go_enter Try.func93, Try.ntmps93
  go_wp2_with fail
  rw [← hX]
  clear hX
  go_wp2_with fail
  clear e0
  go_loopw [5, 11] (fun u i wr => wr = X ∧ ∃ k : Nat, k ≤ d ∧ i = .int .i64 k ∧ u = .int .i64 (Mt.sway a S k)) (fun _ i _ => d - (intOf i).toNat)
  case atStart => exact ⟨rfl, 0, Nat.zero_le _, rfl, rfl⟩
  case round =>
    obtain ⟨rfl, k, hk, rfl, rfl⟩ := hrel
    obtain ⟨s, hs⟩ : ∃ s, s = Mt.sway a S k := ⟨_, rfl⟩
    by_cases hkn : k < d
    · obtain ⟨b, of, rfl, hc⟩ := (H wr BX.out.2).out.1.at hkn
      obtain ⟨b', of', rfl, hc'⟩ := (H wr BX.out.2).out.2.at hkn
      obtain ⟨v, hv⟩ : ∃ v, v = a.p k := ⟨_, rfl⟩
      obtain ⟨u, hu⟩ : ∃ v, v = S k := ⟨_, rfl⟩
      rw [← hv] at hc
      rw [← hu] at hc'
      obtain ⟨y, hy⟩ : ∃ y, y = Mt.ab v := ⟨_, rfl⟩
      have hvb := HG.out.1.row 0 (by omega) k hkn
      rw [← hv] at hvb
      obtain ⟨hv0, hv1⟩ := hvb
      have hym : max v (-v) = y := by rw [hy]; unfold Mt.ab; split <;> omega
      obtain ⟨p, hp⟩ : ∃ p, p = y * u := ⟨_, rfl⟩
      have hpb := Mt.swp_b HG.out.1 (S := S) (i := 0) (by omega) hkn (HG.out.2 k hkn)
      rw [← hv, ← hu, ← hy, ← hp] at hpb
      have hsb := Mt.sway_b HG.out.1 (i := 0) (by omega) HG.out.2 (Nat.le_of_lt hkn)
      rw [← hs] at hsb
      have hw1 : wrap64 (y * u) = p := by rw [← hp]; unfold wrap64; omega
      obtain ⟨s2, hs2⟩ : ∃ q, q = s + p := ⟨_, rfl⟩
      have hw2 : wrap64 (s + p) = s2 := by rw [hs2]; unfold wrap64; omega
      have HN : Hid (Mt.sway a S (k + 1) = s2) := by show Mt.sway a S k + Mt.ab (a.p k) * S k = s2; rw [← hs, ← hv, ← hu, ← hy, ← hp, hs2]
      have hkI : (k : Int) < d := by omega
      rw [← hs]
      clear hv hu hy hp hpb hsb hs2 hs H
      go_wp2
      go_roundw
      case rel => exact ⟨by trivial, k + 1, by omega, by simp, by first | (rw [HN.out, hw2]; done) | (rw [HN.out]; simp only [hym, hw1, hw2])⟩
      case measure => simp [intOf]; omega
    · obtain rfl : d = k := by omega
      have hC : Hid (g = s) := by show g = s; rw [hs]; exact HC.out
      rw [← hs]
      clear hs H
      go_wp2
      go_ret
      exact ⟨by rw [hC.out]; rfl, BX.out.2⟩
end Go.Proofs.Ytelejihgechmgaa
