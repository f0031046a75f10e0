/- How far aims are missed, and the sum of the squares, in both packages: contracts. -/
import Derived.Test.YtelejihgechmgaaAf
namespace Go.Proofs.Ytelejihgechmgaa
open Go.RowKit
set_option linter.unusedVariables false
set_option linter.unusedSimpArgs false
/-- One right aim by itself. -/
theorem one_good {A : Nat → Li} {n d i : Nat} (G : Mt.AGood A n d) (hi : i < n) : Mt.AGood (fun _ => A i) 1 d :=
  ⟨G.d1, G.d10, by omega, fun _ _ => G.np i hi, fun _ _ => G.row i hi, fun _ _ => G.want i hi⟩
set_option maxRecDepth 20000 in
set_option maxHeartbeats 6400000 in
theorem sOff_any {a : Li} {d pc qc : Nat} {po qo : Option Addr} {P : Nat → Int} {w : World} (G : Mt.AGood (fun _ => a) 1 d) (hP : ∀ k, k < d → -12000 ≤ P k ∧ P k ≤ 12000) (h : RdRow w (.slice po d pc) d a.p) (hp : RdRow w (.slice qo d qc) d P) :
    Calls Try.prog 70 #[.agg #[.slice po d pc, .int .i64 a.want], .slice qo d qc] w fun e w' => e = .returned (.int .i64 (Mt.off a P d)) ∧ Below w.heap.size w w' := by
  have H : ∀ W, Below w.heap.size w W → Hid (RdRow W (.slice po d pc) d a.p ∧ RdRow W (.slice qo d qc) d P) := fun W hb => ⟨h.later hb, hp.later hb⟩
  have HG : Hid (Mt.AGood (fun _ => a) 1 d ∧ ∀ k, k < d → -12000 ≤ P k ∧ P k ≤ 12000) := ⟨G, hP⟩
  have hd10 := G.d10
  have hdI : (d : Int) ≤ 10 := by omega
  have hw0 := G.want 0 (by omega)
  obtain ⟨hw0a, hw0b⟩ := hw0
  clear h hp G hP
  obtain ⟨X, hX⟩ : ∃ X, X = w.alloc (.cells #[.slice po d pc, .int .i64 a.want] 91) := ⟨_, rfl⟩
  have BX : Hid (Blk X w.heap.size #[.slice po d pc, .int .i64 a.want] 91 ∧ Below w.heap.size w X) := by rw [hX]; exact ⟨Blk.new rfl, (Below.refl _ _).alloc (Nat.le_refl _) _⟩
  have hX1 : w.heap.size < X.heap.size := BX.out.1.lt
  have e0 := BX.out.1.cell (j := 0) (v := .slice po d pc) rfl
  have e1 := BX.out.1.cell (j := 1) (v := .int .i64 a.want) rfl
  obtain ⟨C, hC⟩ : ∃ C, C = Mt.off a P d := ⟨_, rfl⟩
  have HC : Hid (C = Mt.off a P d) := hC
  rw [← hC]
  clear hC
  go_enter Try.func70, Try.ntmps70
  go_wp2_with fail
  rw [← hX]
  clear hX
  go_wp2_with fail
  clear e0 e1
  go_loopw [5, 6] (fun u i wr => ∃ k : Nat, k ≤ d ∧ i = .int .i64 k ∧ u = .int .i64 (Mt.off a P k) ∧ Hid (Below X.heap.size X wr)) (fun _ i _ => d - (intOf i).toNat)
  case atStart => exact ⟨0, Nat.zero_le _, rfl, rfl, Below.refl _ _⟩
  case round =>
    obtain ⟨k, hk, rfl, rfl, HB⟩ := hrel
    obtain ⟨s, hs⟩ : ∃ s, s = Mt.off a P k := ⟨_, rfl⟩
    by_cases hkn : k < d
    · have HBw : Hid (Below w.heap.size w wr) := BX.out.2.trans (HB.out.mono (Nat.le_of_lt hX1))
      obtain ⟨b, of, rfl, hc⟩ := (H wr HBw.out).out.1.at hkn
      obtain ⟨b', of', rfl, hc'⟩ := (H wr HBw.out).out.2.at hkn
      obtain ⟨v, hv⟩ : ∃ v, v = a.p k := ⟨_, rfl⟩
      obtain ⟨u, hu⟩ : ∃ v, v = P k := ⟨_, rfl⟩
      rw [← hv] at hc
      rw [← hu] at hc'
      obtain ⟨p, hp⟩ : ∃ p, p = v * u := ⟨_, rfl⟩
      have hpb := Mt.prodk_b HG.out.1 (x := P) (i := 0) (by omega) hkn (HG.out.2 k hkn)
      rw [← hv, ← hu, ← hp] at hpb
      have hsb := Mt.off_b HG.out.1 (i := 0) (by omega) HG.out.2 (Nat.le_of_lt hkn)
      rw [← hs] at hsb
      have hw1 : wrap64 (v * u) = p := by rw [← hp]; unfold wrap64; omega
      obtain ⟨s2, hs2⟩ : ∃ q, q = s + p := ⟨_, rfl⟩
      have hw2 : wrap64 (s + p) = s2 := by rw [hs2]; unfold wrap64; omega
      have HN : Hid (Mt.off a P (k + 1) = s2) := by show Mt.off a P k + a.p k * P k = s2; rw [← hs, ← hv, ← hu, ← hp, hs2]
      have hkI : (k : Int) < d := by omega
      have e0 := (BX.out.1.old HB.out).cell (j := 0) (v := .slice (some ⟨b, of, none⟩) d pc) rfl
      rw [← hs]
      clear hv hu hp hpb hsb hs2 hs H
      go_upto_region 5 with fail
      have K0 := fun z : Kept wr.heap.size wr => kold z.h e0
      have K1 := fun z : Kept wr.heap.size wr => kold z.h hc
      have K2 := fun z : Kept wr.heap.size wr => kold z.h hc'
      clear e0 hc hc'
      refine wp_region_kept wr.heap.size (by kernel_rfl) (by kernel_rfl) ?_
      intro hne
      repeat (go_big_quiet_step (first | fail))
      refine wpQuiet_nil ?_
      rintro u1 ⟨xk, hxk⟩
      have hR1 := xk.h
      rw [← hxk] at hR1
      clear hxk xk hne K0 K1 K2
      go_wp2
      go_roundw
      case rel => exact ⟨k + 1, by omega, by simp, by rw [HN.out, hw2], HB.out.trans (hR1.mono HB.out.size)⟩
      case measure => simp [intOf]; omega
    · obtain rfl : d = k := by omega
      have hC : Hid (C = s) := by show C = s; rw [hs]; exact HC.out
      rw [← hs]
      clear hs H
      go_wp2
      go_ret
      exact ⟨by rw [hC.out]; rfl, BX.out.2.trans (HB.out.mono (Nat.le_of_lt hX1))⟩
set_option maxRecDepth 20000 in
set_option maxHeartbeats 6400000 in
theorem iMiss_any {a : Li} {d pc qc : Nat} {po qo : Option Addr} {P : Nat → Int} {w : World} (G : Mt.AGood (fun _ => a) 1 d) (hP : ∀ k, k < d → -12000 ≤ P k ∧ P k ≤ 12000) (h : RdRow w (.slice po d pc) d a.p) (hp : RdRow w (.slice qo d qc) d P) :
    Calls Try.prog 99 #[.agg #[.slice po d pc, .int .i64 a.want], .slice qo d qc] w fun e w' => e = .returned (.int .i64 (Mt.off a P d)) ∧ Below w.heap.size w w' := by
  have H : ∀ W, Below w.heap.size w W → Hid (RdRow W (.slice po d pc) d a.p ∧ RdRow W (.slice qo d qc) d P) := fun W hb => ⟨h.later hb, hp.later hb⟩
  have HG : Hid (Mt.AGood (fun _ => a) 1 d ∧ ∀ k, k < d → -12000 ≤ P k ∧ P k ≤ 12000) := ⟨G, hP⟩
  have hd10 := G.d10
  have hdI : (d : Int) ≤ 10 := by omega
  have hw0 := G.want 0 (by omega)
  obtain ⟨hw0a, hw0b⟩ := hw0
  clear h hp G hP
  obtain ⟨X, hX⟩ : ∃ X, X = w.alloc (.cells #[.slice po d pc, .int .i64 a.want] 91) := ⟨_, rfl⟩
  have BX : Hid (Blk X w.heap.size #[.slice po d pc, .int .i64 a.want] 91 ∧ Below w.heap.size w X) := by rw [hX]; exact ⟨Blk.new rfl, (Below.refl _ _).alloc (Nat.le_refl _) _⟩
  have hX1 : w.heap.size < X.heap.size := BX.out.1.lt
  have e0 := BX.out.1.cell (j := 0) (v := .slice po d pc) rfl
  have e1 := BX.out.1.cell (j := 1) (v := .int .i64 a.want) rfl
  obtain ⟨C, hC⟩ : ∃ C, C = Mt.off a P d := ⟨_, rfl⟩
  have HC : Hid (C = Mt.off a P d) := hC
  rw [← hC]
  clear hC
  go_enter Try.func99, Try.ntmps99
  go_wp2_with fail
  rw [← hX]
  clear hX
  go_wp2_with fail
  clear e0 e1
  go_loopw [5, 14] (fun u i wr => ∃ k : Nat, k ≤ d ∧ i = .int .i64 k ∧ u = .int .i64 (Mt.off a P k) ∧ Hid (Below X.heap.size X wr)) (fun _ i _ => d - (intOf i).toNat)
  case atStart => exact ⟨0, Nat.zero_le _, rfl, rfl, Below.refl _ _⟩
  case round =>
    obtain ⟨k, hk, rfl, rfl, HB⟩ := hrel
    obtain ⟨s, hs⟩ : ∃ s, s = Mt.off a P k := ⟨_, rfl⟩
    by_cases hkn : k < d
    · have HBw : Hid (Below w.heap.size w wr) := BX.out.2.trans (HB.out.mono (Nat.le_of_lt hX1))
      obtain ⟨b, of, rfl, hc⟩ := (H wr HBw.out).out.1.at hkn
      obtain ⟨b', of', rfl, hc'⟩ := (H wr HBw.out).out.2.at hkn
      obtain ⟨v, hv⟩ : ∃ v, v = a.p k := ⟨_, rfl⟩
      obtain ⟨u, hu⟩ : ∃ v, v = P k := ⟨_, rfl⟩
      rw [← hv] at hc
      rw [← hu] at hc'
      obtain ⟨p, hp⟩ : ∃ p, p = v * u := ⟨_, rfl⟩
      have hpb := Mt.prodk_b HG.out.1 (x := P) (i := 0) (by omega) hkn (HG.out.2 k hkn)
      rw [← hv, ← hu, ← hp] at hpb
      have hsb := Mt.off_b HG.out.1 (i := 0) (by omega) HG.out.2 (Nat.le_of_lt hkn)
      rw [← hs] at hsb
      have hw1 : wrap64 (v * u) = p := by rw [← hp]; unfold wrap64; omega
      obtain ⟨s2, hs2⟩ : ∃ q, q = s + p := ⟨_, rfl⟩
      have hw2 : wrap64 (s + p) = s2 := by rw [hs2]; unfold wrap64; omega
      have HN : Hid (Mt.off a P (k + 1) = s2) := by show Mt.off a P k + a.p k * P k = s2; rw [← hs, ← hv, ← hu, ← hp, hs2]
      have hkI : (k : Int) < d := by omega
      have e0 := (BX.out.1.old HB.out).cell (j := 0) (v := .slice (some ⟨b, of, none⟩) d pc) rfl
      rw [← hs]
      clear hv hu hp hpb hsb hs2 hs H
      go_wp2
      go_roundw
      case rel => exact ⟨k + 1, by omega, by simp, by rw [HN.out, hw2], HB.out⟩
      case measure => simp [intOf]; omega
    · obtain rfl : d = k := by omega
      have hC : Hid (C = s) := by show C = s; rw [hs]; exact HC.out
      rw [← hs]
      clear hs H
      go_wp2
      go_ret
      exact ⟨by rw [hC.out]; rfl, BX.out.2.trans (HB.out.mono (Nat.le_of_lt hX1))⟩
set_option maxRecDepth 20000 in
set_option maxHeartbeats 6400000 in
theorem iPlace_any {w : World} {ao : Option Addr} {d cap : Nat} {P : Nat → Int} {r : Int} (hr : r = if Mt.place P d then 0 else 3) (h : RdRow w (.slice ao d cap) d P) (hn : d ≤ 1048576) :
    Calls Try.prog 71 #[.slice ao d cap] w fun e w' => e = .returned (.int .i64 r) ∧ Below w.heap.size w w' := by
  have H : ∀ W v, Below w.heap.size w W → Bnd W v (-10000) 10000 3 → Calls Try.prog 63 #[v, .slice ao d cap] W fun e w' => e = .returned (.int .i64 r) ∧ Below W.heap.size W w' := fun W v hb hv => by
    rw [hr]
    exact fault_any hv (h.later hb) hn
  clear h hr
  go_enter Try.func71, Try.ntmps71
  go_wp2_with (first | (go_at_call 62; refine (either_any 10000 (by omega) (by omega) _).mono ?_; rintro e w1 ⟨bv, rfl, hbv, hb1⟩) | (go_at_call 63; refine (H _ _ hb1 hbv).mono ?_; rintro e w2 ⟨rfl, hb2⟩))
  go_ret
  exact ⟨rfl, hb1.trans (hb2.mono hb1.size)⟩
set_option maxRecDepth 20000 in
set_option maxHeartbeats 6400000 in
theorem iMeritOf_any {w : World} {ao qo : Option Addr} {n d cap qc : Nat} {L : Nat → Li} {P : Nat → Int} {r : Int} (hr : r = Mt.sq L d P n) (G : Mt.AGood L n d) (hP : ∀ k, k < d → -12000 ≤ P k ∧ P k ≤ 12000) (h : RdL w (.slice ao n cap) n L) (hp : RdRow w (.slice qo d qc) d P) :
    Calls Try.prog 72 #[.slice ao n cap, .slice qo d qc] w fun e w' => e = .returned (.int .i64 r) ∧ Below w.heap.size w w' := by
  have H : ∀ W, Below w.heap.size w W → Hid (RdL W (.slice ao n cap) n L ∧ RdRow W (.slice qo d qc) d P) := fun W hb => ⟨h.later hb, hp.later hb⟩
  have HG : Hid (Mt.AGood L n d ∧ ∀ k, k < d → -12000 ≤ P k ∧ P k ≤ 12000) := ⟨G, hP⟩
  have hnI : (n : Int) ≤ 20 := by have := G.n20; omega
  have HC : Hid (r = Mt.sq L d P n) := hr
  clear h hp G hP hr
  go_enter Try.func72, Try.ntmps72
  go_wp2_with fail
  go_loopw [5, 11] (fun u i wr => ∃ k : Nat, k ≤ n ∧ i = .int .i64 k ∧ u = .int .i64 (Mt.sq L d P k) ∧ Hid (Below w.heap.size w wr)) (fun _ i _ => n - (intOf i).toNat)
  case atStart => exact ⟨0, Nat.zero_le _, rfl, rfl, Below.refl _ _⟩
  case round =>
    obtain ⟨k, hk, rfl, rfl, HBw⟩ := hrel
    obtain ⟨s, hs⟩ : ∃ s, s = Mt.sq L d P k := ⟨_, rfl⟩
    by_cases hkn : k < n
    · obtain ⟨b, off, po, pc, rfl, hc, hp⟩ := (H wr HBw.out).out.1.at hkn
      obtain ⟨x, hx⟩ : ∃ x, x = L k := ⟨_, rfl⟩
      rw [HG.out.1.np k hkn, ← hx] at hc hp
      have c0 : wr.cell? ⟨b, off + k * 2, none⟩ = some (.slice po d pc) := hc 0 (by omega)
      have c1 : wr.cell? ⟨b, off + k * 2 + 1, none⟩ = some (.int .i64 x.want) := hc 1 (by omega)
      obtain ⟨f, hf⟩ : ∃ f, f = Mt.off x P d := ⟨_, rfl⟩
      have HCl : ∀ W, Below wr.heap.size wr W → Calls Try.prog 99 #[.agg #[.slice po d pc, .int .i64 x.want], .slice qo d qc] W fun e w' => e = .returned (.int .i64 f) ∧ Below W.heap.size W w' := fun W hb => by
        rw [hf]
        exact iMiss_any (by rw [hx]; exact one_good HG.out.1 hkn) HG.out.2 (hp.later hb) ((H wr HBw.out).out.2.later hb)
      obtain ⟨p, hp2⟩ : ∃ p, p = f * f := ⟨_, rfl⟩
      have hpb := Mt.sqr_b HG.out.1 (i := k) hkn HG.out.2
      rw [← hx, ← hf, ← hp2] at hpb
      have hsb := Mt.sq_b HG.out.1 HG.out.2 (Nat.le_of_lt hkn)
      rw [← hs] at hsb
      have hkk : (k : Int) ≤ 20 := by have := HG.out.1.n20; omega
      have hw1 : wrap64 (f * f) = p := by rw [← hp2]; unfold wrap64; omega
      obtain ⟨s2, hs2⟩ : ∃ q, q = s + p := ⟨_, rfl⟩
      have hw2 : wrap64 (s + p) = s2 := by rw [hs2]; unfold wrap64; omega
      have HN : Hid (Mt.sq L d P (k + 1) = s2) := by show Mt.sq L d P k + Mt.off (L k) P d * Mt.off (L k) P d = s2; rw [← hs, ← hx, ← hf, ← hp2, hs2]
      have hkI : (k : Int) < n := by omega
      rw [← hs]
      clear hc hp hf hp2 hpb hsb hs2 hs H hx
      go_wp2_with (first | (go_at_call 99; refine (HCl _ (by go_grown)).mono ?_; rintro e w3 ⟨rfl, hb3⟩))
      go_roundw
      case rel => exact ⟨k + 1, by omega, by simp, by rw [HN.out, hw2], by refine box_step ?_ hb3 (by go_size); exact HBw.out.alloc HBw.out.size _⟩
      case measure => simp [intOf]; omega
    · obtain rfl : n = k := by omega
      have hC : Hid (r = s) := by show r = s; rw [hs]; exact HC.out
      rw [← hs]
      clear hs H
      go_wp2
      go_ret
      exact ⟨by rw [hC.out]; rfl, HBw.out⟩
end Go.Proofs.Ytelejihgechmgaa
