/- Plates out of drawn bytes. -/
import Derived.Test.YtloebnlmeplgbaaDx
import Derived.Handy
namespace Go.Proofs.Ytloebnlmeplgbaa
open Go.RowKit
set_option linter.unusedVariables false
set_option linter.unusedSimpArgs false
set_option maxRecDepth 20000 in
set_option maxHeartbeats 3200000 in
theorem plate_any {w0 w : World} {v : Value} {a : Int} {p : Nat} (hS : Src w0 w v a p) (NX : Nexts w0 v p) (h0 : 0 ≤ a) (h1 : a ≤ 600) :
    Calls Try.prog 62 #[.pointer (some ⟨p, 0, none⟩)] w fun e w' => ∃ (m : Pl) (k : Int), e = .returned (.agg #[.int .i64 m.a.re, .int .i64 m.a.im, .int .i64 m.b.re, .int .i64 m.b.im, .int .i64 m.c.re, .int .i64 m.c.im, .int .i64 m.d.re, .int .i64 m.d.im]) ∧ 0 ≤ k ∧ k ≤ 13 ∧ Src w0 w' v (a + k) p ∧ Bu p w w' := by
  have HA : Hid (0 ≤ a ∧ a ≤ 600) := ⟨h0, h1⟩
  have HN : Hid (Nexts w0 v p) := NX
  have hpw : Hid (p < w.heap.size) := hS.lt
  have HL : Hid (w0.heap.size ≤ w.heap.size) := hS.below.size
  have hnr : Hid (w.heap.size ≠ p) := by show _ ≠ _; have := hpw.out; omega
  clear h0 h1 NX
  go_enter Try.func62, Try.ntmps62
  go_upto_region 1 with fail
  obtain ⟨v1, hv⟩ : ∃ X, X = w.alloc (.cells #[.int .i64 0, .int .i64 0, .int .i64 0, .int .i64 0, .int .i64 0, .int .i64 0, .int .i64 0, .int .i64 0] 27) := ⟨_, rfl⟩
  rw [← hv]
  have HS : Hid (Src w0 v1 v a p) := by rw [hv]; exact hS.alloc _
  have HB : Hid (Bu p w v1) := by rw [hv]; exact (Bu.refl _ _).alloc _
  have BR : Hid (Blk v1 w.heap.size #[.int .i64 0, .int .i64 0, .int .i64 0, .int .i64 0, .int .i64 0, .int .i64 0, .int .i64 0, .int .i64 0] 27) := by show Blk _ _ _ _; rw [hv]; exact Blk.new rfl
  clear hv hS
  go_wp2_with fail
  refine (chance_any HS.out HN.out HA.out.1 (by have := HA.out; omega) 2 (by omega) (by omega)).mono ?_
  rintro e v2 ⟨b, rfl, hs2, hb2⟩
  replace HS : Hid (Src w0 v2 v (a + 1) p) := hs2
  replace BR : Hid (Blk v2 w.heap.size #[.int .i64 0, .int .i64 0, .int .i64 0, .int .i64 0, .int .i64 0, .int .i64 0, .int .i64 0, .int .i64 0] 27) := hb2.keep BR.out hnr.out
  replace HB : Hid (Bu p w v2) := HB.out.trans hb2
  clear hs2 hb2
  cases b with
  | true =>
    go_wp2_with fail
    refine (HN.out _ _ 6 HS.out (by have := HA.out; omega) (by have := HA.out; omega) (by omega) (by omega)).mono ?_
    rintro e v3 ⟨r1, rfl, r10, r11, hs, hk⟩
    have hb : Bu p v2 v3 := bu_of hs hk
    replace HS : Hid (Src w0 v3 v (a + 1 + 1) p) := hs
    replace BR : Hid (Blk v3 w.heap.size #[.int .i64 0, .int .i64 0, .int .i64 0, .int .i64 0, .int .i64 0, .int .i64 0, .int .i64 0, .int .i64 0] 27) := hb.keep BR.out hnr.out
    replace HB : Hid (Bu p w v3) := HB.out.trans hb
    obtain ⟨q1, hq1⟩ : ∃ q, q = wrap64 (1 + r1) := ⟨_, rfl⟩
    have e1 : wrap64 (1 + r1) = q1 := hq1.symm
    clear hs hk hb r10 r11 hq1
    go_wp2_with fail
    refine (splateOf q1 _).mono ?_
    rintro e v4 ⟨rfl, hb⟩
    replace HS : Hid (Src w0 v4 v (a + 1 + 1) p) := HS.out.later hb
    replace BR : Hid (Blk v4 w.heap.size #[.int .i64 0, .int .i64 0, .int .i64 0, .int .i64 0, .int .i64 0, .int .i64 0, .int .i64 0, .int .i64 0] 27) := Blk.old BR.out hb
    replace HB : Hid (Bu p w v4) := HB.out.later hb
    clear hb
    obtain ⟨m, hm⟩ : ∃ m, m = plk q1 := ⟨_, rfl⟩
    rw [← hm]
    clear hm
    have c0 := BR.out.cell (j := 0) rfl
    have c1 := BR.out.cell (j := 1) rfl
    have c2 := BR.out.cell (j := 2) rfl
    have c3 := BR.out.cell (j := 3) rfl
    have c4 := BR.out.cell (j := 4) rfl
    have c5 := BR.out.cell (j := 5) rfl
    have c6 := BR.out.cell (j := 6) rfl
    have c7 := BR.out.cell (j := 7) rfl
    have cf := BR.out.frozen
    have cz := BR.out.lt
    go_wp2
    refine bodyPost_ret (v := .agg #[.int .i64 m.a.re, .int .i64 m.a.im, .int .i64 m.b.re, .int .i64 m.b.im, .int .i64 m.c.re, .int .i64 m.c.im, .int .i64 m.d.re, .int .i64 m.d.im]) (by simp [results, Try.results62, go_sem, c0, c1, c2, c3, c4, c5, c6, c7, cf, cz] <;> (repeat' (first | rfl | apply And.intro))) rfl ⟨m, 2, rfl, by omega, by omega, ?_, ?_⟩
    · rw [show a + 2 = a + 1 + 1 by omega]
      exact ((((((((HS.out.set hnr.out HL.out _ (j := 0)).set hnr.out HL.out _ (j := 1)).set hnr.out HL.out _ (j := 2)).set hnr.out HL.out _ (j := 3)).set hnr.out HL.out _ (j := 4)).set hnr.out HL.out _ (j := 5)).set hnr.out HL.out _ (j := 6)).set hnr.out HL.out _ (j := 7))
    · exact ((((((((HB.out.set (Nat.le_refl _) _).set (Nat.le_refl _) _).set (Nat.le_refl _) _).set (Nat.le_refl _) _).set (Nat.le_refl _) _).set (Nat.le_refl _) _).set (Nat.le_refl _) _).set (Nat.le_refl _) _)
  | false =>
    go_wp2_with fail
    refine (g_any HS.out HN.out (by have := HA.out; omega) (by have := HA.out; omega)).mono ?_
    rintro e ux ⟨gx, kx, rfl, k0, k1, hs, hb⟩
    have HKx : Hid (0 ≤ kx ∧ kx ≤ 3) := ⟨k0, k1⟩
    replace HS : Hid (Src w0 ux v (a + 1 + kx) p) := hs
    replace BR : Hid (Blk ux w.heap.size #[.int .i64 0, .int .i64 0, .int .i64 0, .int .i64 0, .int .i64 0, .int .i64 0, .int .i64 0, .int .i64 0] 27) := hb.keep BR.out hnr.out
    replace HB : Hid (Bu p w ux) := HB.out.trans hb
    clear hs hb k0 k1
    have hnx : Hid (ux.heap.size ≠ p) := by show _ ≠ _; have := HS.out.lt; omega
    have hxr : Hid (ux.heap.size ≠ w.heap.size) := by show _ ≠ _; have := BR.out.lt; omega
    go_upto_region 4 with fail
    obtain ⟨vx, hv⟩ : ∃ X, X = ux.alloc (.cells #[.int .i64 gx.re, .int .i64 gx.im] 25) := ⟨_, rfl⟩
    rw [← hv]
    have Bx : Hid (Blk vx ux.heap.size #[.int .i64 gx.re, .int .i64 gx.im] 25) := by show Blk _ _ _ _; rw [hv]; exact Blk.new rfl
    replace HS : Hid (Src w0 vx v (a + 1 + kx) p) := by rw [hv]; exact HS.out.alloc _
    replace BR : Hid (Blk vx w.heap.size #[.int .i64 0, .int .i64 0, .int .i64 0, .int .i64 0, .int .i64 0, .int .i64 0, .int .i64 0, .int .i64 0] 27) := by show Blk _ _ _ _; rw [hv]; exact Blk.alloc BR.out _
    replace HB : Hid (Bu p w vx) := by rw [hv]; exact HB.out.alloc _
    clear hv
    go_wp2_with fail
    refine (g_any HS.out HN.out (by have := HKx.out; have := HA.out; omega) (by have := HKx.out; have := HA.out; omega)).mono ?_
    rintro e uy ⟨gy, ky, rfl, k0, k1, hs, hb⟩
    have HKy : Hid (0 ≤ ky ∧ ky ≤ 3) := ⟨k0, k1⟩
    replace HS : Hid (Src w0 uy v (a + 1 + kx + ky) p) := hs
    replace BR : Hid (Blk uy w.heap.size #[.int .i64 0, .int .i64 0, .int .i64 0, .int .i64 0, .int .i64 0, .int .i64 0, .int .i64 0, .int .i64 0] 27) := hb.keep BR.out hnr.out
    replace Bx : Hid (Blk uy ux.heap.size #[.int .i64 gx.re, .int .i64 gx.im] 25) := hb.keep Bx.out hnx.out
    replace HB : Hid (Bu p w uy) := HB.out.trans hb
    clear hs hb k0 k1
    have hny : Hid (uy.heap.size ≠ p) := by show _ ≠ _; have := HS.out.lt; omega
    have hyr : Hid (uy.heap.size ≠ w.heap.size) := by show _ ≠ _; have := BR.out.lt; omega
    go_upto_region 5 with fail
    obtain ⟨vy, hv⟩ : ∃ X, X = uy.alloc (.cells #[.int .i64 gy.re, .int .i64 gy.im] 25) := ⟨_, rfl⟩
    rw [← hv]
    have By : Hid (Blk vy uy.heap.size #[.int .i64 gy.re, .int .i64 gy.im] 25) := by show Blk _ _ _ _; rw [hv]; exact Blk.new rfl
    replace Bx : Hid (Blk vy ux.heap.size #[.int .i64 gx.re, .int .i64 gx.im] 25) := by show Blk _ _ _ _; rw [hv]; exact Blk.alloc Bx.out _
    replace HS : Hid (Src w0 vy v (a + 1 + kx + ky) p) := by rw [hv]; exact HS.out.alloc _
    replace BR : Hid (Blk vy w.heap.size #[.int .i64 0, .int .i64 0, .int .i64 0, .int .i64 0, .int .i64 0, .int .i64 0, .int .i64 0, .int .i64 0] 27) := by show Blk _ _ _ _; rw [hv]; exact Blk.alloc BR.out _
    replace HB : Hid (Bu p w vy) := by rw [hv]; exact HB.out.alloc _
    clear hv
    go_wp2_with fail
    refine (g_any HS.out HN.out (by have := HKx.out; have := HKy.out; have := HA.out; omega) (by have := HKx.out; have := HKy.out; have := HA.out; omega)).mono ?_
    rintro e uz ⟨gz, kz, rfl, k0, k1, hs, hb⟩
    have HKz : Hid (0 ≤ kz ∧ kz ≤ 3) := ⟨k0, k1⟩
    replace HS : Hid (Src w0 uz v (a + 1 + kx + ky + kz) p) := hs
    replace BR : Hid (Blk uz w.heap.size #[.int .i64 0, .int .i64 0, .int .i64 0, .int .i64 0, .int .i64 0, .int .i64 0, .int .i64 0, .int .i64 0] 27) := hb.keep BR.out hnr.out
    replace Bx : Hid (Blk uz ux.heap.size #[.int .i64 gx.re, .int .i64 gx.im] 25) := hb.keep Bx.out hnx.out
    replace By : Hid (Blk uz uy.heap.size #[.int .i64 gy.re, .int .i64 gy.im] 25) := hb.keep By.out hny.out
    replace HB : Hid (Bu p w uz) := HB.out.trans hb
    clear hs hb k0 k1
    have hnz : Hid (uz.heap.size ≠ p) := by show _ ≠ _; have := HS.out.lt; omega
    have hzr : Hid (uz.heap.size ≠ w.heap.size) := by show _ ≠ _; have := BR.out.lt; omega
    go_upto_region 6 with fail
    obtain ⟨vz, hv⟩ : ∃ X, X = uz.alloc (.cells #[.int .i64 gz.re, .int .i64 gz.im] 25) := ⟨_, rfl⟩
    rw [← hv]
    have Bz : Hid (Blk vz uz.heap.size #[.int .i64 gz.re, .int .i64 gz.im] 25) := by show Blk _ _ _ _; rw [hv]; exact Blk.new rfl
    replace Bx : Hid (Blk vz ux.heap.size #[.int .i64 gx.re, .int .i64 gx.im] 25) := by show Blk _ _ _ _; rw [hv]; exact Blk.alloc Bx.out _
    replace By : Hid (Blk vz uy.heap.size #[.int .i64 gy.re, .int .i64 gy.im] 25) := by show Blk _ _ _ _; rw [hv]; exact Blk.alloc By.out _
    replace HS : Hid (Src w0 vz v (a + 1 + kx + ky + kz) p) := by rw [hv]; exact HS.out.alloc _
    replace BR : Hid (Blk vz w.heap.size #[.int .i64 0, .int .i64 0, .int .i64 0, .int .i64 0, .int .i64 0, .int .i64 0, .int .i64 0, .int .i64 0] 27) := by show Blk _ _ _ _; rw [hv]; exact Blk.alloc BR.out _
    replace HB : Hid (Bu p w vz) := by rw [hv]; exact HB.out.alloc _
    clear hv
    have kx_0 : ∀ W, (Blk W ux.heap.size #[.int .i64 gx.re, .int .i64 gx.im] 25 ∧ Blk W uy.heap.size #[.int .i64 gy.re, .int .i64 gy.im] 25 ∧ Blk W uz.heap.size #[.int .i64 gz.re, .int .i64 gz.im] 25) → W.cell? ⟨ux.heap.size, 0, none⟩ = some (.int .i64 gx.re) := fun _ h => (h.1).cell (j := 0) rfl
    have kx_1 : ∀ W, (Blk W ux.heap.size #[.int .i64 gx.re, .int .i64 gx.im] 25 ∧ Blk W uy.heap.size #[.int .i64 gy.re, .int .i64 gy.im] 25 ∧ Blk W uz.heap.size #[.int .i64 gz.re, .int .i64 gz.im] 25) → W.cell? ⟨ux.heap.size, 1, none⟩ = some (.int .i64 gx.im) := fun _ h => (h.1).cell (j := 1) rfl
    have ky_0 : ∀ W, (Blk W ux.heap.size #[.int .i64 gx.re, .int .i64 gx.im] 25 ∧ Blk W uy.heap.size #[.int .i64 gy.re, .int .i64 gy.im] 25 ∧ Blk W uz.heap.size #[.int .i64 gz.re, .int .i64 gz.im] 25) → W.cell? ⟨uy.heap.size, 0, none⟩ = some (.int .i64 gy.re) := fun _ h => (h.2.1).cell (j := 0) rfl
    have ky_1 : ∀ W, (Blk W ux.heap.size #[.int .i64 gx.re, .int .i64 gx.im] 25 ∧ Blk W uy.heap.size #[.int .i64 gy.re, .int .i64 gy.im] 25 ∧ Blk W uz.heap.size #[.int .i64 gz.re, .int .i64 gz.im] 25) → W.cell? ⟨uy.heap.size, 1, none⟩ = some (.int .i64 gy.im) := fun _ h => (h.2.1).cell (j := 1) rfl
    have kz_0 : ∀ W, (Blk W ux.heap.size #[.int .i64 gx.re, .int .i64 gx.im] 25 ∧ Blk W uy.heap.size #[.int .i64 gy.re, .int .i64 gy.im] 25 ∧ Blk W uz.heap.size #[.int .i64 gz.re, .int .i64 gz.im] 25) → W.cell? ⟨uz.heap.size, 0, none⟩ = some (.int .i64 gz.re) := fun _ h => (h.2.2).cell (j := 0) rfl
    have kz_1 : ∀ W, (Blk W ux.heap.size #[.int .i64 gx.re, .int .i64 gx.im] 25 ∧ Blk W uy.heap.size #[.int .i64 gy.re, .int .i64 gy.im] 25 ∧ Blk W uz.heap.size #[.int .i64 gz.re, .int .i64 gz.im] 25) → W.cell? ⟨uz.heap.size, 1, none⟩ = some (.int .i64 gz.im) := fun _ h => (h.2.2).cell (j := 1) rfl
    have hx0 : Blk vz ux.heap.size #[.int .i64 gx.re, .int .i64 gx.im] 25 ∧ Blk vz uy.heap.size #[.int .i64 gy.re, .int .i64 gy.im] 25 ∧ Blk vz uz.heap.size #[.int .i64 gz.re, .int .i64 gz.im] 25 := ⟨Bx.out, By.out, Bz.out⟩
    go_region_held (fun W => Blk W ux.heap.size #[.int .i64 gx.re, .int .i64 gx.im] 25 ∧ Blk W uy.heap.size #[.int .i64 gy.re, .int .i64 gy.im] 25 ∧ Blk W uz.heap.size #[.int .i64 gz.re, .int .i64 gz.im] 25) (first | with_reducible assumption | with_reducible exact ⟨Blk.drew hx0.1, Blk.drew hx0.2.1, Blk.drew hx0.2.2⟩ | (have hh := hR1; with_reducible exact ⟨(Blk.setOther (Blk.setOther (Blk.setOther (Blk.setOther (Blk.setOther (Blk.setOther (Blk.setOther (Blk.setOther hh.1 hxr.out _) hxr.out _) hxr.out _) hxr.out _) hxr.out _) hxr.out _) hxr.out _) hxr.out _), (Blk.setOther (Blk.setOther (Blk.setOther (Blk.setOther (Blk.setOther (Blk.setOther (Blk.setOther (Blk.setOther hh.2.1 hyr.out _) hyr.out _) hyr.out _) hyr.out _) hyr.out _) hyr.out _) hyr.out _) hyr.out _), (Blk.setOther (Blk.setOther (Blk.setOther (Blk.setOther (Blk.setOther (Blk.setOther (Blk.setOther (Blk.setOther hh.2.2 hzr.out _) hzr.out _) hzr.out _) hzr.out _) hzr.out _) hzr.out _) hzr.out _) hzr.out _)⟩))
      (first | (go_at_call 94; refine (g_any (Src.drew HS.out) HN.out (by have := HKx.out; have := HKy.out; have := HKz.out; have := HA.out; omega) (by have := HKx.out; have := HKy.out; have := HKz.out; have := HA.out; omega)).mono ?_; rintro e w1 ⟨gw, kw, rfl, kw0, kw1, hs1, hb1⟩; have hR1 : Blk w1 ux.heap.size #[.int .i64 gx.re, .int .i64 gx.im] 25 ∧ Blk w1 uy.heap.size #[.int .i64 gy.re, .int .i64 gy.im] 25 ∧ Blk w1 uz.heap.size #[.int .i64 gz.re, .int .i64 gz.im] 25 := ⟨hb1.keep Bx.out hnx.out, hb1.keep By.out hny.out, hb1.keep Bz.out hnz.out⟩; have BR1 : Hid (Blk w1 w.heap.size #[.int .i64 0, .int .i64 0, .int .i64 0, .int .i64 0, .int .i64 0, .int .i64 0, .int .i64 0, .int .i64 0] 27) := hb1.keep BR.out hnr.out; have HS1 : Hid (Src w0 w1 v (a + 1 + kx + ky + kz + kw) p) := hs1; have HB1 : Hid (Bu p w w1) := HB.out.trans ((Bu.drew (Bu.refl _ _)).trans hb1); clear hs1 hb1; have c0 := BR1.out.cell (j := 0) rfl; have c1 := BR1.out.cell (j := 1) rfl; have c2 := BR1.out.cell (j := 2) rfl; have c3 := BR1.out.cell (j := 3) rfl; have c4 := BR1.out.cell (j := 4) rfl; have c5 := BR1.out.cell (j := 5) rfl; have c6 := BR1.out.cell (j := 6) rfl; have c7 := BR1.out.cell (j := 7) rfl; have cf := BR1.out.frozen; have cz := BR1.out.lt))
    clear kx_0 kx_1 ky_0 ky_1 kz_0 kz_1 hx0
    go_wp2
    refine bodyPost_ret (v := .agg #[.int .i64 gx.re, .int .i64 gx.im, .int .i64 gy.re, .int .i64 gy.im, .int .i64 gz.re, .int .i64 gz.im, .int .i64 gw.re, .int .i64 gw.im]) (by simp [results, Try.results62, go_sem, c0, c1, c2, c3, c4, c5, c6, c7, cf, cz] <;> (repeat' (first | rfl | apply And.intro))) rfl ⟨⟨gx, gy, gz, gw⟩, 1 + kx + ky + kz + kw, rfl, by have := HKx.out; have := HKy.out; have := HKz.out; have := HA.out; omega, by have := HKx.out; have := HKy.out; have := HKz.out; have := HA.out; omega, ?_, ?_⟩
    · rw [show a + (1 + kx + ky + kz + kw) = a + 1 + kx + ky + kz + kw by omega]
      exact ((((((((HS1.out.set hnr.out HL.out _ (j := 0)).set hnr.out HL.out _ (j := 1)).set hnr.out HL.out _ (j := 2)).set hnr.out HL.out _ (j := 3)).set hnr.out HL.out _ (j := 4)).set hnr.out HL.out _ (j := 5)).set hnr.out HL.out _ (j := 6)).set hnr.out HL.out _ (j := 7))
    · exact ((((((((HB1.out.set (Nat.le_refl _) _).set (Nat.le_refl _) _).set (Nat.le_refl _) _).set (Nat.le_refl _) _).set (Nat.le_refl _) _).set (Nat.le_refl _) _).set (Nat.le_refl _) _).set (Nat.le_refl _) _)
end Go.Proofs.Ytloebnlmeplgbaa
