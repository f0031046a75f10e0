/- The flaws of one rectangle, by the program: a contract. -/
import Derived.Test.YtclnmikneomccaaNr
namespace Go.Proofs.Ytclnmikneomccaa
open Go.RowKit Go.Maps
set_option linter.unusedVariables false
set_option linter.unusedSimpArgs false
theorem row_at1 {w : World} {ao : Option Addr} {n cap k : Nat} {f : Nat → Int} (h : RdRow w (.slice ao n cap) n f) (hk : k < n) : ∃ b off, ao = some ⟨b, off, none⟩ ∧ w.cell? ⟨b, off + k, none⟩ = some (.int .i64 (f k)) := by
  rcases h with ⟨ao', cap', _, e⟩ | ⟨b, off, cap', e, hc⟩
  · omega
  · simp only [Value.slice.injEq] at e
    exact ⟨b, off, e.1, hc k hk⟩
theorem rdOwnI {lo hi : Nat} {w : World} {v : Value} {X : Nat → Int} {n : Nat} (h : OwnI lo hi w 0 v (fints X n)) : RdRow w v n X := by
  rcases h.rd with ⟨e, _⟩ | ⟨_, h⟩
  · exact absurd rfl e
  · rw [fints_len] at h
    exact h.congr fun i hi => fints_at X hi
theorem rdOl {w : World} {lo : Nat} {v : Value} {X : Nat → Int} {n : Nat} (h : Ol w lo v (fints X n)) : RdRow w v n X := by
  have h := h.rd
  rw [fints_len] at h
  exact h.congr fun i hi => fints_at X hi
set_option maxRecDepth 20000 in
set_option maxHeartbeats 6400000 in
theorem iFrom_any {w : World} {ao vo : Option Addr} {n cap vc : Nat} {S : Nat → R.G} {X : Nat → Int} (h : R.Rsp w (.slice ao n cap) n S) (hx : RdRow w (.slice vo n vc) n X) (hok : ∀ i, i < n → Rok (S i)) (hn : n ≤ 60) {i : Nat} (hin : i < n) (r : U.G) :
    Calls Try.prog 69 #[.slice ao n cap, .slice vo n vc, .int .i64 (i : Int), .agg #[.int .i64 r.ly, .int .i64 r.wd, .int .i64 r.sp]] w fun e w' => ∃ v, e = .returned v ∧ Wl w' w.heap.size v (fj S X r i n) ∧ Below w.heap.size w w' := by
  have HOK : Hid (∀ i, i < n → Rok (S i)) := hok
  have HA : ∀ W, Below w.heap.size w W → Hid (R.Rsp W (.slice ao n cap) n S ∧ RdRow W (.slice vo n vc) n X) := fun W hb => ⟨h.later hb, hx.later hb⟩
  have hnI : (n : Int) ≤ 60 := by omega
  have hinI : (i : Int) < n := by omega
  obtain ⟨b, off, hao, hc⟩ := h.at hin
  subst hao
  obtain ⟨a, ha⟩ : ∃ y, y = S i := ⟨_, rfl⟩
  rw [← ha] at hc
  have c0 : w.cell? ⟨b, off + i * 5, none⟩ = some (.int .i64 a.ly) := hc 0 (by omega)
  have c1 : w.cell? ⟨b, off + i * 5 + 1, none⟩ = some (.int .i64 a.xa) := hc 1 (by omega)
  have c2 : w.cell? ⟨b, off + i * 5 + 2, none⟩ = some (.int .i64 a.ya) := hc 2 (by omega)
  have c3 : w.cell? ⟨b, off + i * 5 + 3, none⟩ = some (.int .i64 a.xb) := hc 3 (by omega)
  have c4 : w.cell? ⟨b, off + i * 5 + 4, none⟩ = some (.int .i64 a.yb) := hc 4 (by omega)
  have HAR : Hid (a = S i ∧ Rok a) := ⟨ha, by rw [ha]; exact hok i hin⟩
  have hra : Rok a := HAR.out.2
  clear h hx hok ha hc
  go_enter Try.func69, Try.ntmps69
  go_upto_region 2 with fail
  obtain ⟨wz, hwz⟩ : ∃ W, W = w.alloc (.cells #[.int .i64 r.ly, .int .i64 r.wd, .int .i64 r.sp] 77) := ⟨_, rfl⟩
  obtain ⟨p7, h7⟩ : ∃ p, p = w.heap.size := ⟨_, rfl⟩
  have hbz : Below w.heap.size w wz := by rw [hwz]; exact box_stay (Below.refl _ _) _
  have HZ : Hid (Blk wz p7 #[.int .i64 r.ly, .int .i64 r.wd, .int .i64 r.sp] 77 ∧ Below w.heap.size w wz) := ⟨by rw [hwz]; exact Blk.new h7, hbz⟩
  replace c0 := kold hbz c0
  replace c1 := kold hbz c1
  replace c2 := kold hbz c2
  replace c3 := kold hbz c3
  replace c4 := kold hbz c4
  have HP0 : Hid (w.heap.size ≤ p7) := (show _ ≤ _ from by omega)
  rw [← hwz, ← h7]
  clear hwz h7 hbz
  go_upto_region 3 with fail
  obtain ⟨wa, hwa⟩ : ∃ W, W = wz.alloc (.cells #[.int .i64 a.ly, .int .i64 a.xa, .int .i64 a.ya, .int .i64 a.xb, .int .i64 a.yb] 68) := ⟨_, rfl⟩
  obtain ⟨p10, h10⟩ : ∃ p, p = wz.heap.size := ⟨_, rfl⟩
  have HW : Hid (Blk wa p7 #[.int .i64 r.ly, .int .i64 r.wd, .int .i64 r.sp] 77 ∧ Blk wa p10 #[.int .i64 a.ly, .int .i64 a.xa, .int .i64 a.ya, .int .i64 a.xb, .int .i64 a.yb] 68 ∧ Below w.heap.size w wa) := ⟨by rw [hwa]; exact HZ.out.1.alloc _, by rw [hwa]; exact Blk.new h10, by rw [hwa]; exact box_stay HZ.out.2 _⟩
  have HP7 : Hid (p7 < p10 ∧ w.heap.size ≤ p7 ∧ w.heap.size ≤ p10 + 1) := ⟨by have := HZ.out.1.lt; omega, HP0.out, by have := HZ.out.1.lt; have := HP0.out; omega⟩
  rw [← hwa, ← h10]
  clear hwa h10 c0 c1 c2 c3 c4
  have k0 := HW.out.2.1.cell (j := 0) rfl
  have k1 := HW.out.2.1.cell (j := 1) rfl
  have k2 := HW.out.2.1.cell (j := 2) rfl
  have k3 := HW.out.2.1.cell (j := 3) rfl
  have k4 := HW.out.2.1.cell (j := 4) rfl
  have n1 := HW.out.1.cell (j := 1) rfl
  have a1 := hra.x
  have a2 := hra.y
  have a3 := hra.x0
  have a4 := hra.y0
  have a5 := hra.x1
  have a6 := hra.y1
  clear hra
  obtain ⟨D1, hD1⟩ : ∃ d, d = a.xb - a.xa := ⟨_, rfl⟩
  obtain ⟨D2, hD2⟩ : ∃ d, d = a.yb - a.ya := ⟨_, rfl⟩
  have hw1 : wrap64 (a.xb - a.xa) = D1 := by rw [hD1]; unfold wrap64; omega
  have hw2 : wrap64 (a.yb - a.ya) = D2 := by rw [hD2]; unfold wrap64; omega
  have HWD : Hid (wideB a r = decide (min D1 D2 < r.wd)) := (show _ = _ from by unfold wideB; rw [hD1, hD2])
  clear hD1 hD2 a1 a2 a3 a4 a5 a6
  by_cases qd : D2 < D1
  · by_cases qw : D2 < r.wd
    · have HBS : Hid (fbase i a r = [⟨1, i, i⟩]) := (show _ = _ from by unfold fbase; rw [HWD.out]; simp only [decide_eq_true_eq]; rw [if_pos (by omega)])
      go_wp2_with (first | (at_builtin; refine pushW rfl (.tmp 33) (.tmp 37) rfl wa ⟨1, i, i⟩ (p10 + 1) (.slice none 0 0) [] (by simp [Act.eval]) (Wl.nil _ _) 1 (by simp [Act.eval]) (by simp) HW.out.2.1.lt ?_; intro v8 w8 ho8 hb8; have HS : Hid (Wl w8 (p10 + 1) v8 (fj S X r i (i + 1)) ∧ Blk w8 p7 #[.int .i64 r.ly, .int .i64 r.wd, .int .i64 r.sp] 77 ∧ Blk w8 p10 #[.int .i64 a.ly, .int .i64 a.xa, .int .i64 a.ya, .int .i64 a.xb, .int .i64 a.yb] 68 ∧ Below w.heap.size w w8) := ⟨by rw [fj_low _ (Nat.le_refl _), ← HAR.out.1, HBS.out]; exact ho8, (hb8.block p7 (by have := HP7.out; omega)).trans HW.out.1, (hb8.block p10 (by omega)).trans HW.out.2.1, HW.out.2.2.trans (hb8.mono (by have := HP7.out; omega))⟩; clear ho8 hb8))
      clear k0 k1 k2 k3 k4 n1
      go_loopw [9, 12] (fun v s12 wr => ∃ k : Nat, i + 1 ≤ k ∧ k ≤ n ∧ s12 = .int .i64 k ∧ Hid (Wl wr (p10 + 1) v (fj S X r i k) ∧ Blk wr p7 #[.int .i64 r.ly, .int .i64 r.wd, .int .i64 r.sp] 77 ∧ Blk wr p10 #[.int .i64 a.ly, .int .i64 a.xa, .int .i64 a.ya, .int .i64 a.xb, .int .i64 a.yb] 68 ∧ Below w.heap.size w wr)) (fun _ s12 _ => n - (intOf s12).toNat)
      case atStart => exact ⟨i + 1, Nat.le_refl _, by omega, by simp, HS.out⟩
      case round =>
        clear HS
        obtain ⟨k, hk0, hk, rfl, HH⟩ := hrel
        by_cases hkn : k < n
        · have hkI : (k : Int) < n := by omega
          have hc := RdV.cells (w := w) (HA wr HH.out.2.2.2).out.1 hkn
          obtain ⟨y, hy⟩ : ∃ y, y = S k := ⟨_, rfl⟩
          rw [← hy] at hc
          have c0 : wr.cell? ⟨b, off + k * 5, none⟩ = some (.int .i64 y.ly) := hc 0 (by omega)
          have c1 : wr.cell? ⟨b, off + k * 5 + 1, none⟩ = some (.int .i64 y.xa) := hc 1 (by omega)
          have c2 : wr.cell? ⟨b, off + k * 5 + 2, none⟩ = some (.int .i64 y.ya) := hc 2 (by omega)
          have c3 : wr.cell? ⟨b, off + k * 5 + 3, none⟩ = some (.int .i64 y.xb) := hc 3 (by omega)
          have c4 : wr.cell? ⟨b, off + k * 5 + 4, none⟩ = some (.int .i64 y.yb) := hc 4 (by omega)
          have HY : Hid (y = S k ∧ Rok y) := ⟨hy, by rw [hy]; exact HOK.out k hkn⟩
          clear hy hc
          go_upto_region 9 with fail
          obtain ⟨wb, hwb⟩ : ∃ W, W = wr.alloc (.cells #[.int .i64 y.ly, .int .i64 y.xa, .int .i64 y.ya, .int .i64 y.xb, .int .i64 y.yb] 68) := ⟨_, rfl⟩
          obtain ⟨p13, h13⟩ : ∃ p, p = wr.heap.size := ⟨_, rfl⟩
          have hbl : Below wr.heap.size wr wb := by rw [hwb]; exact (Below.refl _ _).alloc (Nat.le_refl _) _
          have HB : Hid (Blk wb p13 #[.int .i64 y.ly, .int .i64 y.xa, .int .i64 y.ya, .int .i64 y.xb, .int .i64 y.yb] 68 ∧ Blk wb p7 #[.int .i64 r.ly, .int .i64 r.wd, .int .i64 r.sp] 77 ∧ Blk wb p10 #[.int .i64 a.ly, .int .i64 a.xa, .int .i64 a.ya, .int .i64 a.xb, .int .i64 a.yb] 68 ∧ Below w.heap.size w wb ∧ Wl wb (p10 + 1) u9 (fj S X r i k)) := ⟨by rw [hwb]; exact Blk.new h13, HH.out.2.1.old hbl, HH.out.2.2.1.old hbl, HH.out.2.2.2.trans (hbl.mono HH.out.2.2.2.size), HH.out.1.later hbl⟩
          rw [← hwb, ← h13]
          clear hwb h13 c0 c1 c2 c3 c4
          have K0 : ∀ xk : Kept wb.heap.size wb, xk.w.cell? ⟨p13, 0, none⟩ = some (.int .i64 y.ly) := fun xk => (HB.out.1.old xk.h).cell rfl
          have M0 : ∀ xk : Kept wb.heap.size wb, xk.w.cell? ⟨p10, 0, none⟩ = some (.int .i64 a.ly) := fun xk => (HB.out.2.2.1.old xk.h).cell rfl
          have K1 : ∀ xk : Kept wb.heap.size wb, xk.w.cell? ⟨p13, 1, none⟩ = some (.int .i64 y.xa) := fun xk => (HB.out.1.old xk.h).cell rfl
          have M1 : ∀ xk : Kept wb.heap.size wb, xk.w.cell? ⟨p10, 1, none⟩ = some (.int .i64 a.xa) := fun xk => (HB.out.2.2.1.old xk.h).cell rfl
          have K2 : ∀ xk : Kept wb.heap.size wb, xk.w.cell? ⟨p13, 2, none⟩ = some (.int .i64 y.ya) := fun xk => (HB.out.1.old xk.h).cell rfl
          have M2 : ∀ xk : Kept wb.heap.size wb, xk.w.cell? ⟨p10, 2, none⟩ = some (.int .i64 a.ya) := fun xk => (HB.out.2.2.1.old xk.h).cell rfl
          have K3 : ∀ xk : Kept wb.heap.size wb, xk.w.cell? ⟨p13, 3, none⟩ = some (.int .i64 y.xb) := fun xk => (HB.out.1.old xk.h).cell rfl
          have M3 : ∀ xk : Kept wb.heap.size wb, xk.w.cell? ⟨p10, 3, none⟩ = some (.int .i64 a.xb) := fun xk => (HB.out.2.2.1.old xk.h).cell rfl
          have K4 : ∀ xk : Kept wb.heap.size wb, xk.w.cell? ⟨p13, 4, none⟩ = some (.int .i64 y.yb) := fun xk => (HB.out.1.old xk.h).cell rfl
          have M4 : ∀ xk : Kept wb.heap.size wb, xk.w.cell? ⟨p10, 4, none⟩ = some (.int .i64 a.yb) := fun xk => (HB.out.2.2.1.old xk.h).cell rfl
          have N2 : ∀ xk : Kept wb.heap.size wb, xk.w.cell? ⟨p7, 2, none⟩ = some (.int .i64 r.sp) := fun xk => (HB.out.2.1.old xk.h).cell rfl
          obtain ⟨vb, voff, hva, hvk⟩ := row_at1 (HA wb HB.out.2.2.2.1).out.2 hkn
          subst hva
          obtain ⟨vb2, voff2, hva2, hvi⟩ := row_at1 (HA wb HB.out.2.2.2.1).out.2 hin
          simp only [Option.some.injEq, Addr.mk.injEq] at hva2
          obtain ⟨rfl, rfl, _⟩ := hva2
          obtain ⟨xk0, hxk0⟩ : ∃ x, x = X k := ⟨_, rfl⟩
          obtain ⟨xi0, hxi0⟩ : ∃ x, x = X i := ⟨_, rfl⟩
          rw [← hxk0] at hvk
          rw [← hxi0] at hvi
          have V1 : ∀ xk : Kept wb.heap.size wb, xk.w.cell? ⟨vb, voff + k, none⟩ = some (.int .i64 xk0) := fun xk => kold xk.h hvk
          have V2 : ∀ xk : Kept wb.heap.size wb, xk.w.cell? ⟨vb, voff + i, none⟩ = some (.int .i64 xi0) := fun xk => kold xk.h hvi
          obtain ⟨t, ht⟩ : ∃ t, t = nearB a y r.sp := ⟨_, rfl⟩
          have hra := HAR.out.2
          have hry := HY.out.2
          have HI : ∀ xk : Kept wb.heap.size wb, Calls Try.prog 95 #[.agg #[.int .i64 a.ly, .int .i64 a.xa, .int .i64 a.ya, .int .i64 a.xb, .int .i64 a.yb], .agg #[.int .i64 y.ly, .int .i64 y.xa, .int .i64 y.ya, .int .i64 y.xb, .int .i64 y.yb], .int .i64 r.sp] xk.w fun e w' => e = .returned (.bool t) ∧ Below xk.w.heap.size xk.w w' := fun xk => by rw [ht]; exact iNear_any hra hry r.sp xk.w
          have HBAD : Hid (badB S X r i k = ((y.ly == a.ly) && ((xk0 != xi0) && t))) := (show _ = _ from by unfold badB; rw [ht, hxk0, hxi0, HY.out.1, HAR.out.1])
          have hinI : (i : Int) < n := by omega
          clear hvk hvi hxk0 hxi0 ht hra hry hbl
          by_cases q1 : y.ly = a.ly
          · have b1 : (y.ly == a.ly) = true := by simpa using q1
            have HQ1 : Hid (y.ly = a.ly) := q1
            clear q1
            by_cases q2 : xk0 = xi0
            · have b2 : (xk0 != xi0) = false := by simpa using q2
              replace q2 : Hid _ := q2
              have HNB : Hid (badB S X r i k = false) := (show _ = _ from by rw [HBAD.out]; simp [b2])
              refine wp_region_kept wb.heap.size (by kernel_rfl) (by kernel_rfl) ?_
              intro hne
              repeat (go_big_quiet_step (first | (go_at_call 95; exact Calls.kept_of (Nat.le_refl _) (HI _))))
              refine wpQuiet_nil ?_
              rintro u ⟨xk, hxk⟩
              have hR1 := xk.h
              rw [← hxk] at hR1
              have HU : Hid (Blk u p7 #[.int .i64 r.ly, .int .i64 r.wd, .int .i64 r.sp] 77 ∧ Blk u p10 #[.int .i64 a.ly, .int .i64 a.xa, .int .i64 a.ya, .int .i64 a.xb, .int .i64 a.yb] 68 ∧ Below w.heap.size w u ∧ Wl u (p10 + 1) u9 (fj S X r i k)) := ⟨HB.out.2.1.old hR1, HB.out.2.2.1.old hR1, HB.out.2.2.2.1.trans (hR1.mono HB.out.2.2.2.1.size), HB.out.2.2.2.2.later hR1⟩
              clear hxk xk hne K0 K1 K2 K3 K4 M0 M1 M2 M3 M4 N2 V1 V2 HI hR1
              have HF : Hid (Wl u (p10 + 1) u9 (fj S X r i (k + 1)) ∧ Blk u p7 #[.int .i64 r.ly, .int .i64 r.wd, .int .i64 r.sp] 77 ∧ Blk u p10 #[.int .i64 a.ly, .int .i64 a.xa, .int .i64 a.ya, .int .i64 a.xb, .int .i64 a.yb] 68 ∧ Below w.heap.size w u) := ⟨by rw [fj_no HNB.out]; exact HU.out.2.2.2, HU.out.1, HU.out.2.1, HU.out.2.2.1⟩
              clear HH HB HU
              go_wp2
              go_roundw
              case rel => exact ⟨k + 1, by omega, by omega, by simp, HF⟩
              case measure => simp [intOf]; omega
            · have b2 : (xk0 != xi0) = true := by simpa using q2
              replace q2 : Hid _ := q2
              cases t with
              | false =>
                have HNB : Hid (badB S X r i k = false) := (show _ = _ from by rw [HBAD.out]; simp)
                refine wp_region_kept wb.heap.size (by kernel_rfl) (by kernel_rfl) ?_
                intro hne
                repeat (go_big_quiet_step (first | (go_at_call 95; exact Calls.kept_of (Nat.le_refl _) (HI _))))
                refine wpQuiet_nil ?_
                rintro u ⟨xk, hxk⟩
                have hR1 := xk.h
                rw [← hxk] at hR1
                have HU : Hid (Blk u p7 #[.int .i64 r.ly, .int .i64 r.wd, .int .i64 r.sp] 77 ∧ Blk u p10 #[.int .i64 a.ly, .int .i64 a.xa, .int .i64 a.ya, .int .i64 a.xb, .int .i64 a.yb] 68 ∧ Below w.heap.size w u ∧ Wl u (p10 + 1) u9 (fj S X r i k)) := ⟨HB.out.2.1.old hR1, HB.out.2.2.1.old hR1, HB.out.2.2.2.1.trans (hR1.mono HB.out.2.2.2.1.size), HB.out.2.2.2.2.later hR1⟩
                clear hxk xk hne K0 K1 K2 K3 K4 M0 M1 M2 M3 M4 N2 V1 V2 HI hR1
                have HF : Hid (Wl u (p10 + 1) u9 (fj S X r i (k + 1)) ∧ Blk u p7 #[.int .i64 r.ly, .int .i64 r.wd, .int .i64 r.sp] 77 ∧ Blk u p10 #[.int .i64 a.ly, .int .i64 a.xa, .int .i64 a.ya, .int .i64 a.xb, .int .i64 a.yb] 68 ∧ Below w.heap.size w u) := ⟨by rw [fj_no HNB.out]; exact HU.out.2.2.2, HU.out.1, HU.out.2.1, HU.out.2.2.1⟩
                clear HH HB HU
                go_wp2
                go_roundw
                case rel => exact ⟨k + 1, by omega, by omega, by simp, HF⟩
                case measure => simp [intOf]; omega
              | true =>
                have HYB : Hid (badB S X r i k = true) := (show _ = _ from by rw [HBAD.out, b1, b2]; rfl)
                refine wp_region_kept wb.heap.size (by kernel_rfl) (by kernel_rfl) ?_
                intro hne
                repeat (go_big_quiet_step (first | (go_at_call 95; exact Calls.kept_of (Nat.le_refl _) (HI _))))
                refine wpQuiet_nil ?_
                rintro u ⟨xk, hxk⟩
                have hR1 := xk.h
                rw [← hxk] at hR1
                have HU : Hid (Blk u p7 #[.int .i64 r.ly, .int .i64 r.wd, .int .i64 r.sp] 77 ∧ Blk u p10 #[.int .i64 a.ly, .int .i64 a.xa, .int .i64 a.ya, .int .i64 a.xb, .int .i64 a.yb] 68 ∧ Below w.heap.size w u ∧ Wl u (p10 + 1) u9 (fj S X r i k)) := ⟨HB.out.2.1.old hR1, HB.out.2.2.1.old hR1, HB.out.2.2.2.1.trans (hR1.mono HB.out.2.2.2.1.size), HB.out.2.2.2.2.later hR1⟩
                clear hxk xk hne K0 K1 K2 K3 K4 M0 M1 M2 M3 M4 N2 V1 V2 HI hR1
                have hlen : (fj S X r i k).length ≤ 1000000000 := by have := fj_len (S := S) (X := X) (r := r) (i := i) k; omega
                have HLEN : Hid ((fj S X r i k).length ≤ 1000000000 ∧ p10 + 1 ≤ u.heap.size) := ⟨hlen, HU.out.2.1.lt⟩
                clear hlen HH HB
                go_wp2_with (first | (at_builtin; refine pushW rfl (.tmp 74) (.tmp 78) rfl u ⟨2, i, k⟩ (p10 + 1) u9 (fj S X r i k) (by simp [Act.eval]) HU.out.2.2.2 1 (by simp [Act.eval]) HLEN.out.1 HLEN.out.2 ?_; intro v8 w8 ho8 hb8; have HF : Hid (Wl w8 (p10 + 1) v8 (fj S X r i (k + 1)) ∧ Blk w8 p7 #[.int .i64 r.ly, .int .i64 r.wd, .int .i64 r.sp] 77 ∧ Blk w8 p10 #[.int .i64 a.ly, .int .i64 a.xa, .int .i64 a.ya, .int .i64 a.xb, .int .i64 a.yb] 68 ∧ Below w.heap.size w w8) := ⟨by rw [fj_yes (by omega) HYB.out]; exact ho8, (hb8.block p7 (by have := HP7.out; omega)).trans HU.out.1, (hb8.block p10 (by omega)).trans HU.out.2.1, HU.out.2.2.1.trans (hb8.mono (by have := HP7.out; omega))⟩; clear ho8 hb8))
                go_roundw
                case rel => exact ⟨k + 1, by omega, by omega, by simp, HF⟩
                case measure => simp [intOf]; omega
          · have b1 : (y.ly == a.ly) = false := by simpa using q1
            replace q1 : Hid _ := q1
            have HNB : Hid (badB S X r i k = false) := (show _ = _ from by rw [HBAD.out]; simp [b1])
            refine wp_region_kept wb.heap.size (by kernel_rfl) (by kernel_rfl) ?_
            intro hne
            repeat (go_big_quiet_step (first | (go_at_call 95; exact Calls.kept_of (Nat.le_refl _) (HI _))))
            refine wpQuiet_nil ?_
            rintro u ⟨xk, hxk⟩
            have hR1 := xk.h
            rw [← hxk] at hR1
            have HU : Hid (Blk u p7 #[.int .i64 r.ly, .int .i64 r.wd, .int .i64 r.sp] 77 ∧ Blk u p10 #[.int .i64 a.ly, .int .i64 a.xa, .int .i64 a.ya, .int .i64 a.xb, .int .i64 a.yb] 68 ∧ Below w.heap.size w u ∧ Wl u (p10 + 1) u9 (fj S X r i k)) := ⟨HB.out.2.1.old hR1, HB.out.2.2.1.old hR1, HB.out.2.2.2.1.trans (hR1.mono HB.out.2.2.2.1.size), HB.out.2.2.2.2.later hR1⟩
            clear hxk xk hne K0 K1 K2 K3 K4 M0 M1 M2 M3 M4 N2 V1 V2 HI hR1
            have HF : Hid (Wl u (p10 + 1) u9 (fj S X r i (k + 1)) ∧ Blk u p7 #[.int .i64 r.ly, .int .i64 r.wd, .int .i64 r.sp] 77 ∧ Blk u p10 #[.int .i64 a.ly, .int .i64 a.xa, .int .i64 a.ya, .int .i64 a.xb, .int .i64 a.yb] 68 ∧ Below w.heap.size w u) := ⟨by rw [fj_no HNB.out]; exact HU.out.2.2.2, HU.out.1, HU.out.2.1, HU.out.2.2.1⟩
            clear HH HB HU
            go_wp2
            go_roundw
            case rel => exact ⟨k + 1, by omega, by omega, by simp, HF⟩
            case measure => simp [intOf]; omega
        · obtain rfl : n = k := by omega
          obtain ⟨va9, vc9, ev⟩ := HH.out.1.form
          subst ev
          have HQ : Hid (Wl wr (p10 + 1) (.slice va9 (fj S X r i n).length vc9) (fj S X r i n) ∧ Below w.heap.size w wr) := ⟨HH.out.1, HH.out.2.2.2⟩
          clear HH HA
          go_wp2
          go_ret
          exact ⟨_, rfl, HQ.out.1.low (by have := HP7.out; omega), HQ.out.2⟩
    · have HBS : Hid (fbase i a r = []) := (show _ = _ from by unfold fbase; rw [HWD.out]; simp only [decide_eq_true_eq]; rw [if_neg (by omega)])
      have HS : Hid (Wl wa (p10 + 1) (.slice none 0 0) (fj S X r i (i + 1)) ∧ Blk wa p7 #[.int .i64 r.ly, .int .i64 r.wd, .int .i64 r.sp] 77 ∧ Blk wa p10 #[.int .i64 a.ly, .int .i64 a.xa, .int .i64 a.ya, .int .i64 a.xb, .int .i64 a.yb] 68 ∧ Below w.heap.size w wa) := ⟨by rw [fj_low _ (Nat.le_refl _), ← HAR.out.1, HBS.out]; exact Wl.nil _ _, HW.out.1, HW.out.2.1, HW.out.2.2⟩
      go_wp2_with fail
      clear k0 k1 k2 k3 k4 n1
      go_loopw [9, 12] (fun v s12 wr => ∃ k : Nat, i + 1 ≤ k ∧ k ≤ n ∧ s12 = .int .i64 k ∧ Hid (Wl wr (p10 + 1) v (fj S X r i k) ∧ Blk wr p7 #[.int .i64 r.ly, .int .i64 r.wd, .int .i64 r.sp] 77 ∧ Blk wr p10 #[.int .i64 a.ly, .int .i64 a.xa, .int .i64 a.ya, .int .i64 a.xb, .int .i64 a.yb] 68 ∧ Below w.heap.size w wr)) (fun _ s12 _ => n - (intOf s12).toNat)
      case atStart => exact ⟨i + 1, Nat.le_refl _, by omega, by simp, HS.out⟩
      case round =>
        clear HS
        obtain ⟨k, hk0, hk, rfl, HH⟩ := hrel
        by_cases hkn : k < n
        · have hkI : (k : Int) < n := by omega
          have hc := RdV.cells (w := w) (HA wr HH.out.2.2.2).out.1 hkn
          obtain ⟨y, hy⟩ : ∃ y, y = S k := ⟨_, rfl⟩
          rw [← hy] at hc
          have c0 : wr.cell? ⟨b, off + k * 5, none⟩ = some (.int .i64 y.ly) := hc 0 (by omega)
          have c1 : wr.cell? ⟨b, off + k * 5 + 1, none⟩ = some (.int .i64 y.xa) := hc 1 (by omega)
          have c2 : wr.cell? ⟨b, off + k * 5 + 2, none⟩ = some (.int .i64 y.ya) := hc 2 (by omega)
          have c3 : wr.cell? ⟨b, off + k * 5 + 3, none⟩ = some (.int .i64 y.xb) := hc 3 (by omega)
          have c4 : wr.cell? ⟨b, off + k * 5 + 4, none⟩ = some (.int .i64 y.yb) := hc 4 (by omega)
          have HY : Hid (y = S k ∧ Rok y) := ⟨hy, by rw [hy]; exact HOK.out k hkn⟩
          clear hy hc
          go_upto_region 9 with fail
          obtain ⟨wb, hwb⟩ : ∃ W, W = wr.alloc (.cells #[.int .i64 y.ly, .int .i64 y.xa, .int .i64 y.ya, .int .i64 y.xb, .int .i64 y.yb] 68) := ⟨_, rfl⟩
          obtain ⟨p13, h13⟩ : ∃ p, p = wr.heap.size := ⟨_, rfl⟩
          have hbl : Below wr.heap.size wr wb := by rw [hwb]; exact (Below.refl _ _).alloc (Nat.le_refl _) _
          have HB : Hid (Blk wb p13 #[.int .i64 y.ly, .int .i64 y.xa, .int .i64 y.ya, .int .i64 y.xb, .int .i64 y.yb] 68 ∧ Blk wb p7 #[.int .i64 r.ly, .int .i64 r.wd, .int .i64 r.sp] 77 ∧ Blk wb p10 #[.int .i64 a.ly, .int .i64 a.xa, .int .i64 a.ya, .int .i64 a.xb, .int .i64 a.yb] 68 ∧ Below w.heap.size w wb ∧ Wl wb (p10 + 1) u9 (fj S X r i k)) := ⟨by rw [hwb]; exact Blk.new h13, HH.out.2.1.old hbl, HH.out.2.2.1.old hbl, HH.out.2.2.2.trans (hbl.mono HH.out.2.2.2.size), HH.out.1.later hbl⟩
          rw [← hwb, ← h13]
          clear hwb h13 c0 c1 c2 c3 c4
          have K0 : ∀ xk : Kept wb.heap.size wb, xk.w.cell? ⟨p13, 0, none⟩ = some (.int .i64 y.ly) := fun xk => (HB.out.1.old xk.h).cell rfl
          have M0 : ∀ xk : Kept wb.heap.size wb, xk.w.cell? ⟨p10, 0, none⟩ = some (.int .i64 a.ly) := fun xk => (HB.out.2.2.1.old xk.h).cell rfl
          have K1 : ∀ xk : Kept wb.heap.size wb, xk.w.cell? ⟨p13, 1, none⟩ = some (.int .i64 y.xa) := fun xk => (HB.out.1.old xk.h).cell rfl
          have M1 : ∀ xk : Kept wb.heap.size wb, xk.w.cell? ⟨p10, 1, none⟩ = some (.int .i64 a.xa) := fun xk => (HB.out.2.2.1.old xk.h).cell rfl
          have K2 : ∀ xk : Kept wb.heap.size wb, xk.w.cell? ⟨p13, 2, none⟩ = some (.int .i64 y.ya) := fun xk => (HB.out.1.old xk.h).cell rfl
          have M2 : ∀ xk : Kept wb.heap.size wb, xk.w.cell? ⟨p10, 2, none⟩ = some (.int .i64 a.ya) := fun xk => (HB.out.2.2.1.old xk.h).cell rfl
          have K3 : ∀ xk : Kept wb.heap.size wb, xk.w.cell? ⟨p13, 3, none⟩ = some (.int .i64 y.xb) := fun xk => (HB.out.1.old xk.h).cell rfl
          have M3 : ∀ xk : Kept wb.heap.size wb, xk.w.cell? ⟨p10, 3, none⟩ = some (.int .i64 a.xb) := fun xk => (HB.out.2.2.1.old xk.h).cell rfl
          have K4 : ∀ xk : Kept wb.heap.size wb, xk.w.cell? ⟨p13, 4, none⟩ = some (.int .i64 y.yb) := fun xk => (HB.out.1.old xk.h).cell rfl
          have M4 : ∀ xk : Kept wb.heap.size wb, xk.w.cell? ⟨p10, 4, none⟩ = some (.int .i64 a.yb) := fun xk => (HB.out.2.2.1.old xk.h).cell rfl
          have N2 : ∀ xk : Kept wb.heap.size wb, xk.w.cell? ⟨p7, 2, none⟩ = some (.int .i64 r.sp) := fun xk => (HB.out.2.1.old xk.h).cell rfl
          obtain ⟨vb, voff, hva, hvk⟩ := row_at1 (HA wb HB.out.2.2.2.1).out.2 hkn
          subst hva
          obtain ⟨vb2, voff2, hva2, hvi⟩ := row_at1 (HA wb HB.out.2.2.2.1).out.2 hin
          simp only [Option.some.injEq, Addr.mk.injEq] at hva2
          obtain ⟨rfl, rfl, _⟩ := hva2
          obtain ⟨xk0, hxk0⟩ : ∃ x, x = X k := ⟨_, rfl⟩
          obtain ⟨xi0, hxi0⟩ : ∃ x, x = X i := ⟨_, rfl⟩
          rw [← hxk0] at hvk
          rw [← hxi0] at hvi
          have V1 : ∀ xk : Kept wb.heap.size wb, xk.w.cell? ⟨vb, voff + k, none⟩ = some (.int .i64 xk0) := fun xk => kold xk.h hvk
          have V2 : ∀ xk : Kept wb.heap.size wb, xk.w.cell? ⟨vb, voff + i, none⟩ = some (.int .i64 xi0) := fun xk => kold xk.h hvi
          obtain ⟨t, ht⟩ : ∃ t, t = nearB a y r.sp := ⟨_, rfl⟩
          have hra := HAR.out.2
          have hry := HY.out.2
          have HI : ∀ xk : Kept wb.heap.size wb, Calls Try.prog 95 #[.agg #[.int .i64 a.ly, .int .i64 a.xa, .int .i64 a.ya, .int .i64 a.xb, .int .i64 a.yb], .agg #[.int .i64 y.ly, .int .i64 y.xa, .int .i64 y.ya, .int .i64 y.xb, .int .i64 y.yb], .int .i64 r.sp] xk.w fun e w' => e = .returned (.bool t) ∧ Below xk.w.heap.size xk.w w' := fun xk => by rw [ht]; exact iNear_any hra hry r.sp xk.w
          have HBAD : Hid (badB S X r i k = ((y.ly == a.ly) && ((xk0 != xi0) && t))) := (show _ = _ from by unfold badB; rw [ht, hxk0, hxi0, HY.out.1, HAR.out.1])
          have hinI : (i : Int) < n := by omega
          clear hvk hvi hxk0 hxi0 ht hra hry hbl
          by_cases q1 : y.ly = a.ly
          · have b1 : (y.ly == a.ly) = true := by simpa using q1
            have HQ1 : Hid (y.ly = a.ly) := q1
            clear q1
            by_cases q2 : xk0 = xi0
            · have b2 : (xk0 != xi0) = false := by simpa using q2
              replace q2 : Hid _ := q2
              have HNB : Hid (badB S X r i k = false) := (show _ = _ from by rw [HBAD.out]; simp [b2])
              refine wp_region_kept wb.heap.size (by kernel_rfl) (by kernel_rfl) ?_
              intro hne
              repeat (go_big_quiet_step (first | (go_at_call 95; exact Calls.kept_of (Nat.le_refl _) (HI _))))
              refine wpQuiet_nil ?_
              rintro u ⟨xk, hxk⟩
              have hR1 := xk.h
              rw [← hxk] at hR1
              have HU : Hid (Blk u p7 #[.int .i64 r.ly, .int .i64 r.wd, .int .i64 r.sp] 77 ∧ Blk u p10 #[.int .i64 a.ly, .int .i64 a.xa, .int .i64 a.ya, .int .i64 a.xb, .int .i64 a.yb] 68 ∧ Below w.heap.size w u ∧ Wl u (p10 + 1) u9 (fj S X r i k)) := ⟨HB.out.2.1.old hR1, HB.out.2.2.1.old hR1, HB.out.2.2.2.1.trans (hR1.mono HB.out.2.2.2.1.size), HB.out.2.2.2.2.later hR1⟩
              clear hxk xk hne K0 K1 K2 K3 K4 M0 M1 M2 M3 M4 N2 V1 V2 HI hR1
              have HF : Hid (Wl u (p10 + 1) u9 (fj S X r i (k + 1)) ∧ Blk u p7 #[.int .i64 r.ly, .int .i64 r.wd, .int .i64 r.sp] 77 ∧ Blk u p10 #[.int .i64 a.ly, .int .i64 a.xa, .int .i64 a.ya, .int .i64 a.xb, .int .i64 a.yb] 68 ∧ Below w.heap.size w u) := ⟨by rw [fj_no HNB.out]; exact HU.out.2.2.2, HU.out.1, HU.out.2.1, HU.out.2.2.1⟩
              clear HH HB HU
              go_wp2
              go_roundw
              case rel => exact ⟨k + 1, by omega, by omega, by simp, HF⟩
              case measure => simp [intOf]; omega
            · have b2 : (xk0 != xi0) = true := by simpa using q2
              replace q2 : Hid _ := q2
              cases t with
              | false =>
                have HNB : Hid (badB S X r i k = false) := (show _ = _ from by rw [HBAD.out]; simp)
                refine wp_region_kept wb.heap.size (by kernel_rfl) (by kernel_rfl) ?_
                intro hne
                repeat (go_big_quiet_step (first | (go_at_call 95; exact Calls.kept_of (Nat.le_refl _) (HI _))))
                refine wpQuiet_nil ?_
                rintro u ⟨xk, hxk⟩
                have hR1 := xk.h
                rw [← hxk] at hR1
                have HU : Hid (Blk u p7 #[.int .i64 r.ly, .int .i64 r.wd, .int .i64 r.sp] 77 ∧ Blk u p10 #[.int .i64 a.ly, .int .i64 a.xa, .int .i64 a.ya, .int .i64 a.xb, .int .i64 a.yb] 68 ∧ Below w.heap.size w u ∧ Wl u (p10 + 1) u9 (fj S X r i k)) := ⟨HB.out.2.1.old hR1, HB.out.2.2.1.old hR1, HB.out.2.2.2.1.trans (hR1.mono HB.out.2.2.2.1.size), HB.out.2.2.2.2.later hR1⟩
                clear hxk xk hne K0 K1 K2 K3 K4 M0 M1 M2 M3 M4 N2 V1 V2 HI hR1
                have HF : Hid (Wl u (p10 + 1) u9 (fj S X r i (k + 1)) ∧ Blk u p7 #[.int .i64 r.ly, .int .i64 r.wd, .int .i64 r.sp] 77 ∧ Blk u p10 #[.int .i64 a.ly, .int .i64 a.xa, .int .i64 a.ya, .int .i64 a.xb, .int .i64 a.yb] 68 ∧ Below w.heap.size w u) := ⟨by rw [fj_no HNB.out]; exact HU.out.2.2.2, HU.out.1, HU.out.2.1, HU.out.2.2.1⟩
                clear HH HB HU
                go_wp2
                go_roundw
                case rel => exact ⟨k + 1, by omega, by omega, by simp, HF⟩
                case measure => simp [intOf]; omega
              | true =>
                have HYB : Hid (badB S X r i k = true) := (show _ = _ from by rw [HBAD.out, b1, b2]; rfl)
                refine wp_region_kept wb.heap.size (by kernel_rfl) (by kernel_rfl) ?_
                intro hne
                repeat (go_big_quiet_step (first | (go_at_call 95; exact Calls.kept_of (Nat.le_refl _) (HI _))))
                refine wpQuiet_nil ?_
                rintro u ⟨xk, hxk⟩
                have hR1 := xk.h
                rw [← hxk] at hR1
                have HU : Hid (Blk u p7 #[.int .i64 r.ly, .int .i64 r.wd, .int .i64 r.sp] 77 ∧ Blk u p10 #[.int .i64 a.ly, .int .i64 a.xa, .int .i64 a.ya, .int .i64 a.xb, .int .i64 a.yb] 68 ∧ Below w.heap.size w u ∧ Wl u (p10 + 1) u9 (fj S X r i k)) := ⟨HB.out.2.1.old hR1, HB.out.2.2.1.old hR1, HB.out.2.2.2.1.trans (hR1.mono HB.out.2.2.2.1.size), HB.out.2.2.2.2.later hR1⟩
                clear hxk xk hne K0 K1 K2 K3 K4 M0 M1 M2 M3 M4 N2 V1 V2 HI hR1
                have hlen : (fj S X r i k).length ≤ 1000000000 := by have := fj_len (S := S) (X := X) (r := r) (i := i) k; omega
                have HLEN : Hid ((fj S X r i k).length ≤ 1000000000 ∧ p10 + 1 ≤ u.heap.size) := ⟨hlen, HU.out.2.1.lt⟩
                clear hlen HH HB
                go_wp2_with (first | (at_builtin; refine pushW rfl (.tmp 74) (.tmp 78) rfl u ⟨2, i, k⟩ (p10 + 1) u9 (fj S X r i k) (by simp [Act.eval]) HU.out.2.2.2 1 (by simp [Act.eval]) HLEN.out.1 HLEN.out.2 ?_; intro v8 w8 ho8 hb8; have HF : Hid (Wl w8 (p10 + 1) v8 (fj S X r i (k + 1)) ∧ Blk w8 p7 #[.int .i64 r.ly, .int .i64 r.wd, .int .i64 r.sp] 77 ∧ Blk w8 p10 #[.int .i64 a.ly, .int .i64 a.xa, .int .i64 a.ya, .int .i64 a.xb, .int .i64 a.yb] 68 ∧ Below w.heap.size w w8) := ⟨by rw [fj_yes (by omega) HYB.out]; exact ho8, (hb8.block p7 (by have := HP7.out; omega)).trans HU.out.1, (hb8.block p10 (by omega)).trans HU.out.2.1, HU.out.2.2.1.trans (hb8.mono (by have := HP7.out; omega))⟩; clear ho8 hb8))
                go_roundw
                case rel => exact ⟨k + 1, by omega, by omega, by simp, HF⟩
                case measure => simp [intOf]; omega
          · have b1 : (y.ly == a.ly) = false := by simpa using q1
            replace q1 : Hid _ := q1
            have HNB : Hid (badB S X r i k = false) := (show _ = _ from by rw [HBAD.out]; simp [b1])
            refine wp_region_kept wb.heap.size (by kernel_rfl) (by kernel_rfl) ?_
            intro hne
            repeat (go_big_quiet_step (first | (go_at_call 95; exact Calls.kept_of (Nat.le_refl _) (HI _))))
            refine wpQuiet_nil ?_
            rintro u ⟨xk, hxk⟩
            have hR1 := xk.h
            rw [← hxk] at hR1
            have HU : Hid (Blk u p7 #[.int .i64 r.ly, .int .i64 r.wd, .int .i64 r.sp] 77 ∧ Blk u p10 #[.int .i64 a.ly, .int .i64 a.xa, .int .i64 a.ya, .int .i64 a.xb, .int .i64 a.yb] 68 ∧ Below w.heap.size w u ∧ Wl u (p10 + 1) u9 (fj S X r i k)) := ⟨HB.out.2.1.old hR1, HB.out.2.2.1.old hR1, HB.out.2.2.2.1.trans (hR1.mono HB.out.2.2.2.1.size), HB.out.2.2.2.2.later hR1⟩
            clear hxk xk hne K0 K1 K2 K3 K4 M0 M1 M2 M3 M4 N2 V1 V2 HI hR1
            have HF : Hid (Wl u (p10 + 1) u9 (fj S X r i (k + 1)) ∧ Blk u p7 #[.int .i64 r.ly, .int .i64 r.wd, .int .i64 r.sp] 77 ∧ Blk u p10 #[.int .i64 a.ly, .int .i64 a.xa, .int .i64 a.ya, .int .i64 a.xb, .int .i64 a.yb] 68 ∧ Below w.heap.size w u) := ⟨by rw [fj_no HNB.out]; exact HU.out.2.2.2, HU.out.1, HU.out.2.1, HU.out.2.2.1⟩
            clear HH HB HU
            go_wp2
            go_roundw
            case rel => exact ⟨k + 1, by omega, by omega, by simp, HF⟩
            case measure => simp [intOf]; omega
        · obtain rfl : n = k := by omega
          obtain ⟨va9, vc9, ev⟩ := HH.out.1.form
          subst ev
          have HQ : Hid (Wl wr (p10 + 1) (.slice va9 (fj S X r i n).length vc9) (fj S X r i n) ∧ Below w.heap.size w wr) := ⟨HH.out.1, HH.out.2.2.2⟩
          clear HH HA
          go_wp2
          go_ret
          exact ⟨_, rfl, HQ.out.1.low (by have := HP7.out; omega), HQ.out.2⟩
  · by_cases qw : D1 < r.wd
    · have HBS : Hid (fbase i a r = [⟨1, i, i⟩]) := (show _ = _ from by unfold fbase; rw [HWD.out]; simp only [decide_eq_true_eq]; rw [if_pos (by omega)])
      go_wp2_with (first | (at_builtin; refine pushW rfl (.tmp 33) (.tmp 37) rfl wa ⟨1, i, i⟩ (p10 + 1) (.slice none 0 0) [] (by simp [Act.eval]) (Wl.nil _ _) 1 (by simp [Act.eval]) (by simp) HW.out.2.1.lt ?_; intro v8 w8 ho8 hb8; have HS : Hid (Wl w8 (p10 + 1) v8 (fj S X r i (i + 1)) ∧ Blk w8 p7 #[.int .i64 r.ly, .int .i64 r.wd, .int .i64 r.sp] 77 ∧ Blk w8 p10 #[.int .i64 a.ly, .int .i64 a.xa, .int .i64 a.ya, .int .i64 a.xb, .int .i64 a.yb] 68 ∧ Below w.heap.size w w8) := ⟨by rw [fj_low _ (Nat.le_refl _), ← HAR.out.1, HBS.out]; exact ho8, (hb8.block p7 (by have := HP7.out; omega)).trans HW.out.1, (hb8.block p10 (by omega)).trans HW.out.2.1, HW.out.2.2.trans (hb8.mono (by have := HP7.out; omega))⟩; clear ho8 hb8))
      clear k0 k1 k2 k3 k4 n1
      go_loopw [9, 12] (fun v s12 wr => ∃ k : Nat, i + 1 ≤ k ∧ k ≤ n ∧ s12 = .int .i64 k ∧ Hid (Wl wr (p10 + 1) v (fj S X r i k) ∧ Blk wr p7 #[.int .i64 r.ly, .int .i64 r.wd, .int .i64 r.sp] 77 ∧ Blk wr p10 #[.int .i64 a.ly, .int .i64 a.xa, .int .i64 a.ya, .int .i64 a.xb, .int .i64 a.yb] 68 ∧ Below w.heap.size w wr)) (fun _ s12 _ => n - (intOf s12).toNat)
      case atStart => exact ⟨i + 1, Nat.le_refl _, by omega, by simp, HS.out⟩
      case round =>
        clear HS
        obtain ⟨k, hk0, hk, rfl, HH⟩ := hrel
        by_cases hkn : k < n
        · have hkI : (k : Int) < n := by omega
          have hc := RdV.cells (w := w) (HA wr HH.out.2.2.2).out.1 hkn
          obtain ⟨y, hy⟩ : ∃ y, y = S k := ⟨_, rfl⟩
          rw [← hy] at hc
          have c0 : wr.cell? ⟨b, off + k * 5, none⟩ = some (.int .i64 y.ly) := hc 0 (by omega)
          have c1 : wr.cell? ⟨b, off + k * 5 + 1, none⟩ = some (.int .i64 y.xa) := hc 1 (by omega)
          have c2 : wr.cell? ⟨b, off + k * 5 + 2, none⟩ = some (.int .i64 y.ya) := hc 2 (by omega)
          have c3 : wr.cell? ⟨b, off + k * 5 + 3, none⟩ = some (.int .i64 y.xb) := hc 3 (by omega)
          have c4 : wr.cell? ⟨b, off + k * 5 + 4, none⟩ = some (.int .i64 y.yb) := hc 4 (by omega)
          have HY : Hid (y = S k ∧ Rok y) := ⟨hy, by rw [hy]; exact HOK.out k hkn⟩
          clear hy hc
          go_upto_region 9 with fail
          obtain ⟨wb, hwb⟩ : ∃ W, W = wr.alloc (.cells #[.int .i64 y.ly, .int .i64 y.xa, .int .i64 y.ya, .int .i64 y.xb, .int .i64 y.yb] 68) := ⟨_, rfl⟩
          obtain ⟨p13, h13⟩ : ∃ p, p = wr.heap.size := ⟨_, rfl⟩
          have hbl : Below wr.heap.size wr wb := by rw [hwb]; exact (Below.refl _ _).alloc (Nat.le_refl _) _
          have HB : Hid (Blk wb p13 #[.int .i64 y.ly, .int .i64 y.xa, .int .i64 y.ya, .int .i64 y.xb, .int .i64 y.yb] 68 ∧ Blk wb p7 #[.int .i64 r.ly, .int .i64 r.wd, .int .i64 r.sp] 77 ∧ Blk wb p10 #[.int .i64 a.ly, .int .i64 a.xa, .int .i64 a.ya, .int .i64 a.xb, .int .i64 a.yb] 68 ∧ Below w.heap.size w wb ∧ Wl wb (p10 + 1) u9 (fj S X r i k)) := ⟨by rw [hwb]; exact Blk.new h13, HH.out.2.1.old hbl, HH.out.2.2.1.old hbl, HH.out.2.2.2.trans (hbl.mono HH.out.2.2.2.size), HH.out.1.later hbl⟩
          rw [← hwb, ← h13]
          clear hwb h13 c0 c1 c2 c3 c4
          have K0 : ∀ xk : Kept wb.heap.size wb, xk.w.cell? ⟨p13, 0, none⟩ = some (.int .i64 y.ly) := fun xk => (HB.out.1.old xk.h).cell rfl
          have M0 : ∀ xk : Kept wb.heap.size wb, xk.w.cell? ⟨p10, 0, none⟩ = some (.int .i64 a.ly) := fun xk => (HB.out.2.2.1.old xk.h).cell rfl
          have K1 : ∀ xk : Kept wb.heap.size wb, xk.w.cell? ⟨p13, 1, none⟩ = some (.int .i64 y.xa) := fun xk => (HB.out.1.old xk.h).cell rfl
          have M1 : ∀ xk : Kept wb.heap.size wb, xk.w.cell? ⟨p10, 1, none⟩ = some (.int .i64 a.xa) := fun xk => (HB.out.2.2.1.old xk.h).cell rfl
          have K2 : ∀ xk : Kept wb.heap.size wb, xk.w.cell? ⟨p13, 2, none⟩ = some (.int .i64 y.ya) := fun xk => (HB.out.1.old xk.h).cell rfl
          have M2 : ∀ xk : Kept wb.heap.size wb, xk.w.cell? ⟨p10, 2, none⟩ = some (.int .i64 a.ya) := fun xk => (HB.out.2.2.1.old xk.h).cell rfl
          have K3 : ∀ xk : Kept wb.heap.size wb, xk.w.cell? ⟨p13, 3, none⟩ = some (.int .i64 y.xb) := fun xk => (HB.out.1.old xk.h).cell rfl
          have M3 : ∀ xk : Kept wb.heap.size wb, xk.w.cell? ⟨p10, 3, none⟩ = some (.int .i64 a.xb) := fun xk => (HB.out.2.2.1.old xk.h).cell rfl
          have K4 : ∀ xk : Kept wb.heap.size wb, xk.w.cell? ⟨p13, 4, none⟩ = some (.int .i64 y.yb) := fun xk => (HB.out.1.old xk.h).cell rfl
          have M4 : ∀ xk : Kept wb.heap.size wb, xk.w.cell? ⟨p10, 4, none⟩ = some (.int .i64 a.yb) := fun xk => (HB.out.2.2.1.old xk.h).cell rfl
          have N2 : ∀ xk : Kept wb.heap.size wb, xk.w.cell? ⟨p7, 2, none⟩ = some (.int .i64 r.sp) := fun xk => (HB.out.2.1.old xk.h).cell rfl
          obtain ⟨vb, voff, hva, hvk⟩ := row_at1 (HA wb HB.out.2.2.2.1).out.2 hkn
          subst hva
          obtain ⟨vb2, voff2, hva2, hvi⟩ := row_at1 (HA wb HB.out.2.2.2.1).out.2 hin
          simp only [Option.some.injEq, Addr.mk.injEq] at hva2
          obtain ⟨rfl, rfl, _⟩ := hva2
          obtain ⟨xk0, hxk0⟩ : ∃ x, x = X k := ⟨_, rfl⟩
          obtain ⟨xi0, hxi0⟩ : ∃ x, x = X i := ⟨_, rfl⟩
          rw [← hxk0] at hvk
          rw [← hxi0] at hvi
          have V1 : ∀ xk : Kept wb.heap.size wb, xk.w.cell? ⟨vb, voff + k, none⟩ = some (.int .i64 xk0) := fun xk => kold xk.h hvk
          have V2 : ∀ xk : Kept wb.heap.size wb, xk.w.cell? ⟨vb, voff + i, none⟩ = some (.int .i64 xi0) := fun xk => kold xk.h hvi
          obtain ⟨t, ht⟩ : ∃ t, t = nearB a y r.sp := ⟨_, rfl⟩
          have hra := HAR.out.2
          have hry := HY.out.2
          have HI : ∀ xk : Kept wb.heap.size wb, Calls Try.prog 95 #[.agg #[.int .i64 a.ly, .int .i64 a.xa, .int .i64 a.ya, .int .i64 a.xb, .int .i64 a.yb], .agg #[.int .i64 y.ly, .int .i64 y.xa, .int .i64 y.ya, .int .i64 y.xb, .int .i64 y.yb], .int .i64 r.sp] xk.w fun e w' => e = .returned (.bool t) ∧ Below xk.w.heap.size xk.w w' := fun xk => by rw [ht]; exact iNear_any hra hry r.sp xk.w
          have HBAD : Hid (badB S X r i k = ((y.ly == a.ly) && ((xk0 != xi0) && t))) := (show _ = _ from by unfold badB; rw [ht, hxk0, hxi0, HY.out.1, HAR.out.1])
          have hinI : (i : Int) < n := by omega
          clear hvk hvi hxk0 hxi0 ht hra hry hbl
          by_cases q1 : y.ly = a.ly
          · have b1 : (y.ly == a.ly) = true := by simpa using q1
            have HQ1 : Hid (y.ly = a.ly) := q1
            clear q1
            by_cases q2 : xk0 = xi0
            · have b2 : (xk0 != xi0) = false := by simpa using q2
              replace q2 : Hid _ := q2
              have HNB : Hid (badB S X r i k = false) := (show _ = _ from by rw [HBAD.out]; simp [b2])
              refine wp_region_kept wb.heap.size (by kernel_rfl) (by kernel_rfl) ?_
              intro hne
              repeat (go_big_quiet_step (first | (go_at_call 95; exact Calls.kept_of (Nat.le_refl _) (HI _))))
              refine wpQuiet_nil ?_
              rintro u ⟨xk, hxk⟩
              have hR1 := xk.h
              rw [← hxk] at hR1
              have HU : Hid (Blk u p7 #[.int .i64 r.ly, .int .i64 r.wd, .int .i64 r.sp] 77 ∧ Blk u p10 #[.int .i64 a.ly, .int .i64 a.xa, .int .i64 a.ya, .int .i64 a.xb, .int .i64 a.yb] 68 ∧ Below w.heap.size w u ∧ Wl u (p10 + 1) u9 (fj S X r i k)) := ⟨HB.out.2.1.old hR1, HB.out.2.2.1.old hR1, HB.out.2.2.2.1.trans (hR1.mono HB.out.2.2.2.1.size), HB.out.2.2.2.2.later hR1⟩
              clear hxk xk hne K0 K1 K2 K3 K4 M0 M1 M2 M3 M4 N2 V1 V2 HI hR1
              have HF : Hid (Wl u (p10 + 1) u9 (fj S X r i (k + 1)) ∧ Blk u p7 #[.int .i64 r.ly, .int .i64 r.wd, .int .i64 r.sp] 77 ∧ Blk u p10 #[.int .i64 a.ly, .int .i64 a.xa, .int .i64 a.ya, .int .i64 a.xb, .int .i64 a.yb] 68 ∧ Below w.heap.size w u) := ⟨by rw [fj_no HNB.out]; exact HU.out.2.2.2, HU.out.1, HU.out.2.1, HU.out.2.2.1⟩
              clear HH HB HU
              go_wp2
              go_roundw
              case rel => exact ⟨k + 1, by omega, by omega, by simp, HF⟩
              case measure => simp [intOf]; omega
            · have b2 : (xk0 != xi0) = true := by simpa using q2
              replace q2 : Hid _ := q2
              cases t with
              | false =>
                have HNB : Hid (badB S X r i k = false) := (show _ = _ from by rw [HBAD.out]; simp)
                refine wp_region_kept wb.heap.size (by kernel_rfl) (by kernel_rfl) ?_
                intro hne
                repeat (go_big_quiet_step (first | (go_at_call 95; exact Calls.kept_of (Nat.le_refl _) (HI _))))
                refine wpQuiet_nil ?_
                rintro u ⟨xk, hxk⟩
                have hR1 := xk.h
                rw [← hxk] at hR1
                have HU : Hid (Blk u p7 #[.int .i64 r.ly, .int .i64 r.wd, .int .i64 r.sp] 77 ∧ Blk u p10 #[.int .i64 a.ly, .int .i64 a.xa, .int .i64 a.ya, .int .i64 a.xb, .int .i64 a.yb] 68 ∧ Below w.heap.size w u ∧ Wl u (p10 + 1) u9 (fj S X r i k)) := ⟨HB.out.2.1.old hR1, HB.out.2.2.1.old hR1, HB.out.2.2.2.1.trans (hR1.mono HB.out.2.2.2.1.size), HB.out.2.2.2.2.later hR1⟩
                clear hxk xk hne K0 K1 K2 K3 K4 M0 M1 M2 M3 M4 N2 V1 V2 HI hR1
                have HF : Hid (Wl u (p10 + 1) u9 (fj S X r i (k + 1)) ∧ Blk u p7 #[.int .i64 r.ly, .int .i64 r.wd, .int .i64 r.sp] 77 ∧ Blk u p10 #[.int .i64 a.ly, .int .i64 a.xa, .int .i64 a.ya, .int .i64 a.xb, .int .i64 a.yb] 68 ∧ Below w.heap.size w u) := ⟨by rw [fj_no HNB.out]; exact HU.out.2.2.2, HU.out.1, HU.out.2.1, HU.out.2.2.1⟩
                clear HH HB HU
                go_wp2
                go_roundw
                case rel => exact ⟨k + 1, by omega, by omega, by simp, HF⟩
                case measure => simp [intOf]; omega
              | true =>
                have HYB : Hid (badB S X r i k = true) := (show _ = _ from by rw [HBAD.out, b1, b2]; rfl)
                refine wp_region_kept wb.heap.size (by kernel_rfl) (by kernel_rfl) ?_
                intro hne
                repeat (go_big_quiet_step (first | (go_at_call 95; exact Calls.kept_of (Nat.le_refl _) (HI _))))
                refine wpQuiet_nil ?_
                rintro u ⟨xk, hxk⟩
                have hR1 := xk.h
                rw [← hxk] at hR1
                have HU : Hid (Blk u p7 #[.int .i64 r.ly, .int .i64 r.wd, .int .i64 r.sp] 77 ∧ Blk u p10 #[.int .i64 a.ly, .int .i64 a.xa, .int .i64 a.ya, .int .i64 a.xb, .int .i64 a.yb] 68 ∧ Below w.heap.size w u ∧ Wl u (p10 + 1) u9 (fj S X r i k)) := ⟨HB.out.2.1.old hR1, HB.out.2.2.1.old hR1, HB.out.2.2.2.1.trans (hR1.mono HB.out.2.2.2.1.size), HB.out.2.2.2.2.later hR1⟩
                clear hxk xk hne K0 K1 K2 K3 K4 M0 M1 M2 M3 M4 N2 V1 V2 HI hR1
                have hlen : (fj S X r i k).length ≤ 1000000000 := by have := fj_len (S := S) (X := X) (r := r) (i := i) k; omega
                have HLEN : Hid ((fj S X r i k).length ≤ 1000000000 ∧ p10 + 1 ≤ u.heap.size) := ⟨hlen, HU.out.2.1.lt⟩
                clear hlen HH HB
                go_wp2_with (first | (at_builtin; refine pushW rfl (.tmp 74) (.tmp 78) rfl u ⟨2, i, k⟩ (p10 + 1) u9 (fj S X r i k) (by simp [Act.eval]) HU.out.2.2.2 1 (by simp [Act.eval]) HLEN.out.1 HLEN.out.2 ?_; intro v8 w8 ho8 hb8; have HF : Hid (Wl w8 (p10 + 1) v8 (fj S X r i (k + 1)) ∧ Blk w8 p7 #[.int .i64 r.ly, .int .i64 r.wd, .int .i64 r.sp] 77 ∧ Blk w8 p10 #[.int .i64 a.ly, .int .i64 a.xa, .int .i64 a.ya, .int .i64 a.xb, .int .i64 a.yb] 68 ∧ Below w.heap.size w w8) := ⟨by rw [fj_yes (by omega) HYB.out]; exact ho8, (hb8.block p7 (by have := HP7.out; omega)).trans HU.out.1, (hb8.block p10 (by omega)).trans HU.out.2.1, HU.out.2.2.1.trans (hb8.mono (by have := HP7.out; omega))⟩; clear ho8 hb8))
                go_roundw
                case rel => exact ⟨k + 1, by omega, by omega, by simp, HF⟩
                case measure => simp [intOf]; omega
          · have b1 : (y.ly == a.ly) = false := by simpa using q1
            replace q1 : Hid _ := q1
            have HNB : Hid (badB S X r i k = false) := (show _ = _ from by rw [HBAD.out]; simp [b1])
            refine wp_region_kept wb.heap.size (by kernel_rfl) (by kernel_rfl) ?_
            intro hne
            repeat (go_big_quiet_step (first | (go_at_call 95; exact Calls.kept_of (Nat.le_refl _) (HI _))))
            refine wpQuiet_nil ?_
            rintro u ⟨xk, hxk⟩
            have hR1 := xk.h
            rw [← hxk] at hR1
            have HU : Hid (Blk u p7 #[.int .i64 r.ly, .int .i64 r.wd, .int .i64 r.sp] 77 ∧ Blk u p10 #[.int .i64 a.ly, .int .i64 a.xa, .int .i64 a.ya, .int .i64 a.xb, .int .i64 a.yb] 68 ∧ Below w.heap.size w u ∧ Wl u (p10 + 1) u9 (fj S X r i k)) := ⟨HB.out.2.1.old hR1, HB.out.2.2.1.old hR1, HB.out.2.2.2.1.trans (hR1.mono HB.out.2.2.2.1.size), HB.out.2.2.2.2.later hR1⟩
            clear hxk xk hne K0 K1 K2 K3 K4 M0 M1 M2 M3 M4 N2 V1 V2 HI hR1
            have HF : Hid (Wl u (p10 + 1) u9 (fj S X r i (k + 1)) ∧ Blk u p7 #[.int .i64 r.ly, .int .i64 r.wd, .int .i64 r.sp] 77 ∧ Blk u p10 #[.int .i64 a.ly, .int .i64 a.xa, .int .i64 a.ya, .int .i64 a.xb, .int .i64 a.yb] 68 ∧ Below w.heap.size w u) := ⟨by rw [fj_no HNB.out]; exact HU.out.2.2.2, HU.out.1, HU.out.2.1, HU.out.2.2.1⟩
            clear HH HB HU
            go_wp2
            go_roundw
            case rel => exact ⟨k + 1, by omega, by omega, by simp, HF⟩
            case measure => simp [intOf]; omega
        · obtain rfl : n = k := by omega
          obtain ⟨va9, vc9, ev⟩ := HH.out.1.form
          subst ev
          have HQ : Hid (Wl wr (p10 + 1) (.slice va9 (fj S X r i n).length vc9) (fj S X r i n) ∧ Below w.heap.size w wr) := ⟨HH.out.1, HH.out.2.2.2⟩
          clear HH HA
          go_wp2
          go_ret
          exact ⟨_, rfl, HQ.out.1.low (by have := HP7.out; omega), HQ.out.2⟩
    · have HBS : Hid (fbase i a r = []) := (show _ = _ from by unfold fbase; rw [HWD.out]; simp only [decide_eq_true_eq]; rw [if_neg (by omega)])
      have HS : Hid (Wl wa (p10 + 1) (.slice none 0 0) (fj S X r i (i + 1)) ∧ Blk wa p7 #[.int .i64 r.ly, .int .i64 r.wd, .int .i64 r.sp] 77 ∧ Blk wa p10 #[.int .i64 a.ly, .int .i64 a.xa, .int .i64 a.ya, .int .i64 a.xb, .int .i64 a.yb] 68 ∧ Below w.heap.size w wa) := ⟨by rw [fj_low _ (Nat.le_refl _), ← HAR.out.1, HBS.out]; exact Wl.nil _ _, HW.out.1, HW.out.2.1, HW.out.2.2⟩
      go_wp2_with fail
      clear k0 k1 k2 k3 k4 n1
      go_loopw [9, 12] (fun v s12 wr => ∃ k : Nat, i + 1 ≤ k ∧ k ≤ n ∧ s12 = .int .i64 k ∧ Hid (Wl wr (p10 + 1) v (fj S X r i k) ∧ Blk wr p7 #[.int .i64 r.ly, .int .i64 r.wd, .int .i64 r.sp] 77 ∧ Blk wr p10 #[.int .i64 a.ly, .int .i64 a.xa, .int .i64 a.ya, .int .i64 a.xb, .int .i64 a.yb] 68 ∧ Below w.heap.size w wr)) (fun _ s12 _ => n - (intOf s12).toNat)
      case atStart => exact ⟨i + 1, Nat.le_refl _, by omega, by simp, HS.out⟩
      case round =>
        clear HS
        obtain ⟨k, hk0, hk, rfl, HH⟩ := hrel
        by_cases hkn : k < n
        · have hkI : (k : Int) < n := by omega
          have hc := RdV.cells (w := w) (HA wr HH.out.2.2.2).out.1 hkn
          obtain ⟨y, hy⟩ : ∃ y, y = S k := ⟨_, rfl⟩
          rw [← hy] at hc
          have c0 : wr.cell? ⟨b, off + k * 5, none⟩ = some (.int .i64 y.ly) := hc 0 (by omega)
          have c1 : wr.cell? ⟨b, off + k * 5 + 1, none⟩ = some (.int .i64 y.xa) := hc 1 (by omega)
          have c2 : wr.cell? ⟨b, off + k * 5 + 2, none⟩ = some (.int .i64 y.ya) := hc 2 (by omega)
          have c3 : wr.cell? ⟨b, off + k * 5 + 3, none⟩ = some (.int .i64 y.xb) := hc 3 (by omega)
          have c4 : wr.cell? ⟨b, off + k * 5 + 4, none⟩ = some (.int .i64 y.yb) := hc 4 (by omega)
          have HY : Hid (y = S k ∧ Rok y) := ⟨hy, by rw [hy]; exact HOK.out k hkn⟩
          clear hy hc
          go_upto_region 9 with fail
          obtain ⟨wb, hwb⟩ : ∃ W, W = wr.alloc (.cells #[.int .i64 y.ly, .int .i64 y.xa, .int .i64 y.ya, .int .i64 y.xb, .int .i64 y.yb] 68) := ⟨_, rfl⟩
          obtain ⟨p13, h13⟩ : ∃ p, p = wr.heap.size := ⟨_, rfl⟩
          have hbl : Below wr.heap.size wr wb := by rw [hwb]; exact (Below.refl _ _).alloc (Nat.le_refl _) _
          have HB : Hid (Blk wb p13 #[.int .i64 y.ly, .int .i64 y.xa, .int .i64 y.ya, .int .i64 y.xb, .int .i64 y.yb] 68 ∧ Blk wb p7 #[.int .i64 r.ly, .int .i64 r.wd, .int .i64 r.sp] 77 ∧ Blk wb p10 #[.int .i64 a.ly, .int .i64 a.xa, .int .i64 a.ya, .int .i64 a.xb, .int .i64 a.yb] 68 ∧ Below w.heap.size w wb ∧ Wl wb (p10 + 1) u9 (fj S X r i k)) := ⟨by rw [hwb]; exact Blk.new h13, HH.out.2.1.old hbl, HH.out.2.2.1.old hbl, HH.out.2.2.2.trans (hbl.mono HH.out.2.2.2.size), HH.out.1.later hbl⟩
          rw [← hwb, ← h13]
          clear hwb h13 c0 c1 c2 c3 c4
          have K0 : ∀ xk : Kept wb.heap.size wb, xk.w.cell? ⟨p13, 0, none⟩ = some (.int .i64 y.ly) := fun xk => (HB.out.1.old xk.h).cell rfl
          have M0 : ∀ xk : Kept wb.heap.size wb, xk.w.cell? ⟨p10, 0, none⟩ = some (.int .i64 a.ly) := fun xk => (HB.out.2.2.1.old xk.h).cell rfl
          have K1 : ∀ xk : Kept wb.heap.size wb, xk.w.cell? ⟨p13, 1, none⟩ = some (.int .i64 y.xa) := fun xk => (HB.out.1.old xk.h).cell rfl
          have M1 : ∀ xk : Kept wb.heap.size wb, xk.w.cell? ⟨p10, 1, none⟩ = some (.int .i64 a.xa) := fun xk => (HB.out.2.2.1.old xk.h).cell rfl
          have K2 : ∀ xk : Kept wb.heap.size wb, xk.w.cell? ⟨p13, 2, none⟩ = some (.int .i64 y.ya) := fun xk => (HB.out.1.old xk.h).cell rfl
          have M2 : ∀ xk : Kept wb.heap.size wb, xk.w.cell? ⟨p10, 2, none⟩ = some (.int .i64 a.ya) := fun xk => (HB.out.2.2.1.old xk.h).cell rfl
          have K3 : ∀ xk : Kept wb.heap.size wb, xk.w.cell? ⟨p13, 3, none⟩ = some (.int .i64 y.xb) := fun xk => (HB.out.1.old xk.h).cell rfl
          have M3 : ∀ xk : Kept wb.heap.size wb, xk.w.cell? ⟨p10, 3, none⟩ = some (.int .i64 a.xb) := fun xk => (HB.out.2.2.1.old xk.h).cell rfl
          have K4 : ∀ xk : Kept wb.heap.size wb, xk.w.cell? ⟨p13, 4, none⟩ = some (.int .i64 y.yb) := fun xk => (HB.out.1.old xk.h).cell rfl
          have M4 : ∀ xk : Kept wb.heap.size wb, xk.w.cell? ⟨p10, 4, none⟩ = some (.int .i64 a.yb) := fun xk => (HB.out.2.2.1.old xk.h).cell rfl
          have N2 : ∀ xk : Kept wb.heap.size wb, xk.w.cell? ⟨p7, 2, none⟩ = some (.int .i64 r.sp) := fun xk => (HB.out.2.1.old xk.h).cell rfl
          obtain ⟨vb, voff, hva, hvk⟩ := row_at1 (HA wb HB.out.2.2.2.1).out.2 hkn
          subst hva
          obtain ⟨vb2, voff2, hva2, hvi⟩ := row_at1 (HA wb HB.out.2.2.2.1).out.2 hin
          simp only [Option.some.injEq, Addr.mk.injEq] at hva2
          obtain ⟨rfl, rfl, _⟩ := hva2
          obtain ⟨xk0, hxk0⟩ : ∃ x, x = X k := ⟨_, rfl⟩
          obtain ⟨xi0, hxi0⟩ : ∃ x, x = X i := ⟨_, rfl⟩
          rw [← hxk0] at hvk
          rw [← hxi0] at hvi
          have V1 : ∀ xk : Kept wb.heap.size wb, xk.w.cell? ⟨vb, voff + k, none⟩ = some (.int .i64 xk0) := fun xk => kold xk.h hvk
          have V2 : ∀ xk : Kept wb.heap.size wb, xk.w.cell? ⟨vb, voff + i, none⟩ = some (.int .i64 xi0) := fun xk => kold xk.h hvi
          obtain ⟨t, ht⟩ : ∃ t, t = nearB a y r.sp := ⟨_, rfl⟩
          have hra := HAR.out.2
          have hry := HY.out.2
          have HI : ∀ xk : Kept wb.heap.size wb, Calls Try.prog 95 #[.agg #[.int .i64 a.ly, .int .i64 a.xa, .int .i64 a.ya, .int .i64 a.xb, .int .i64 a.yb], .agg #[.int .i64 y.ly, .int .i64 y.xa, .int .i64 y.ya, .int .i64 y.xb, .int .i64 y.yb], .int .i64 r.sp] xk.w fun e w' => e = .returned (.bool t) ∧ Below xk.w.heap.size xk.w w' := fun xk => by rw [ht]; exact iNear_any hra hry r.sp xk.w
          have HBAD : Hid (badB S X r i k = ((y.ly == a.ly) && ((xk0 != xi0) && t))) := (show _ = _ from by unfold badB; rw [ht, hxk0, hxi0, HY.out.1, HAR.out.1])
          have hinI : (i : Int) < n := by omega
          clear hvk hvi hxk0 hxi0 ht hra hry hbl
          by_cases q1 : y.ly = a.ly
          · have b1 : (y.ly == a.ly) = true := by simpa using q1
            have HQ1 : Hid (y.ly = a.ly) := q1
            clear q1
            by_cases q2 : xk0 = xi0
            · have b2 : (xk0 != xi0) = false := by simpa using q2
              replace q2 : Hid _ := q2
              have HNB : Hid (badB S X r i k = false) := (show _ = _ from by rw [HBAD.out]; simp [b2])
              refine wp_region_kept wb.heap.size (by kernel_rfl) (by kernel_rfl) ?_
              intro hne
              repeat (go_big_quiet_step (first | (go_at_call 95; exact Calls.kept_of (Nat.le_refl _) (HI _))))
              refine wpQuiet_nil ?_
              rintro u ⟨xk, hxk⟩
              have hR1 := xk.h
              rw [← hxk] at hR1
              have HU : Hid (Blk u p7 #[.int .i64 r.ly, .int .i64 r.wd, .int .i64 r.sp] 77 ∧ Blk u p10 #[.int .i64 a.ly, .int .i64 a.xa, .int .i64 a.ya, .int .i64 a.xb, .int .i64 a.yb] 68 ∧ Below w.heap.size w u ∧ Wl u (p10 + 1) u9 (fj S X r i k)) := ⟨HB.out.2.1.old hR1, HB.out.2.2.1.old hR1, HB.out.2.2.2.1.trans (hR1.mono HB.out.2.2.2.1.size), HB.out.2.2.2.2.later hR1⟩
              clear hxk xk hne K0 K1 K2 K3 K4 M0 M1 M2 M3 M4 N2 V1 V2 HI hR1
              have HF : Hid (Wl u (p10 + 1) u9 (fj S X r i (k + 1)) ∧ Blk u p7 #[.int .i64 r.ly, .int .i64 r.wd, .int .i64 r.sp] 77 ∧ Blk u p10 #[.int .i64 a.ly, .int .i64 a.xa, .int .i64 a.ya, .int .i64 a.xb, .int .i64 a.yb] 68 ∧ Below w.heap.size w u) := ⟨by rw [fj_no HNB.out]; exact HU.out.2.2.2, HU.out.1, HU.out.2.1, HU.out.2.2.1⟩
              clear HH HB HU
              go_wp2
              go_roundw
              case rel => exact ⟨k + 1, by omega, by omega, by simp, HF⟩
              case measure => simp [intOf]; omega
            · have b2 : (xk0 != xi0) = true := by simpa using q2
              replace q2 : Hid _ := q2
              cases t with
              | false =>
                have HNB : Hid (badB S X r i k = false) := (show _ = _ from by rw [HBAD.out]; simp)
                refine wp_region_kept wb.heap.size (by kernel_rfl) (by kernel_rfl) ?_
                intro hne
                repeat (go_big_quiet_step (first | (go_at_call 95; exact Calls.kept_of (Nat.le_refl _) (HI _))))
                refine wpQuiet_nil ?_
                rintro u ⟨xk, hxk⟩
                have hR1 := xk.h
                rw [← hxk] at hR1
                have HU : Hid (Blk u p7 #[.int .i64 r.ly, .int .i64 r.wd, .int .i64 r.sp] 77 ∧ Blk u p10 #[.int .i64 a.ly, .int .i64 a.xa, .int .i64 a.ya, .int .i64 a.xb, .int .i64 a.yb] 68 ∧ Below w.heap.size w u ∧ Wl u (p10 + 1) u9 (fj S X r i k)) := ⟨HB.out.2.1.old hR1, HB.out.2.2.1.old hR1, HB.out.2.2.2.1.trans (hR1.mono HB.out.2.2.2.1.size), HB.out.2.2.2.2.later hR1⟩
                clear hxk xk hne K0 K1 K2 K3 K4 M0 M1 M2 M3 M4 N2 V1 V2 HI hR1
                have HF : Hid (Wl u (p10 + 1) u9 (fj S X r i (k + 1)) ∧ Blk u p7 #[.int .i64 r.ly, .int .i64 r.wd, .int .i64 r.sp] 77 ∧ Blk u p10 #[.int .i64 a.ly, .int .i64 a.xa, .int .i64 a.ya, .int .i64 a.xb, .int .i64 a.yb] 68 ∧ Below w.heap.size w u) := ⟨by rw [fj_no HNB.out]; exact HU.out.2.2.2, HU.out.1, HU.out.2.1, HU.out.2.2.1⟩
                clear HH HB HU
                go_wp2
                go_roundw
                case rel => exact ⟨k + 1, by omega, by omega, by simp, HF⟩
                case measure => simp [intOf]; omega
              | true =>
                have HYB : Hid (badB S X r i k = true) := (show _ = _ from by rw [HBAD.out, b1, b2]; rfl)
                refine wp_region_kept wb.heap.size (by kernel_rfl) (by kernel_rfl) ?_
                intro hne
                repeat (go_big_quiet_step (first | (go_at_call 95; exact Calls.kept_of (Nat.le_refl _) (HI _))))
                refine wpQuiet_nil ?_
                rintro u ⟨xk, hxk⟩
                have hR1 := xk.h
                rw [← hxk] at hR1
                have HU : Hid (Blk u p7 #[.int .i64 r.ly, .int .i64 r.wd, .int .i64 r.sp] 77 ∧ Blk u p10 #[.int .i64 a.ly, .int .i64 a.xa, .int .i64 a.ya, .int .i64 a.xb, .int .i64 a.yb] 68 ∧ Below w.heap.size w u ∧ Wl u (p10 + 1) u9 (fj S X r i k)) := ⟨HB.out.2.1.old hR1, HB.out.2.2.1.old hR1, HB.out.2.2.2.1.trans (hR1.mono HB.out.2.2.2.1.size), HB.out.2.2.2.2.later hR1⟩
                clear hxk xk hne K0 K1 K2 K3 K4 M0 M1 M2 M3 M4 N2 V1 V2 HI hR1
                have hlen : (fj S X r i k).length ≤ 1000000000 := by have := fj_len (S := S) (X := X) (r := r) (i := i) k; omega
                have HLEN : Hid ((fj S X r i k).length ≤ 1000000000 ∧ p10 + 1 ≤ u.heap.size) := ⟨hlen, HU.out.2.1.lt⟩
                clear hlen HH HB
                go_wp2_with (first | (at_builtin; refine pushW rfl (.tmp 74) (.tmp 78) rfl u ⟨2, i, k⟩ (p10 + 1) u9 (fj S X r i k) (by simp [Act.eval]) HU.out.2.2.2 1 (by simp [Act.eval]) HLEN.out.1 HLEN.out.2 ?_; intro v8 w8 ho8 hb8; have HF : Hid (Wl w8 (p10 + 1) v8 (fj S X r i (k + 1)) ∧ Blk w8 p7 #[.int .i64 r.ly, .int .i64 r.wd, .int .i64 r.sp] 77 ∧ Blk w8 p10 #[.int .i64 a.ly, .int .i64 a.xa, .int .i64 a.ya, .int .i64 a.xb, .int .i64 a.yb] 68 ∧ Below w.heap.size w w8) := ⟨by rw [fj_yes (by omega) HYB.out]; exact ho8, (hb8.block p7 (by have := HP7.out; omega)).trans HU.out.1, (hb8.block p10 (by omega)).trans HU.out.2.1, HU.out.2.2.1.trans (hb8.mono (by have := HP7.out; omega))⟩; clear ho8 hb8))
                go_roundw
                case rel => exact ⟨k + 1, by omega, by omega, by simp, HF⟩
                case measure => simp [intOf]; omega
          · have b1 : (y.ly == a.ly) = false := by simpa using q1
            replace q1 : Hid _ := q1
            have HNB : Hid (badB S X r i k = false) := (show _ = _ from by rw [HBAD.out]; simp [b1])
            refine wp_region_kept wb.heap.size (by kernel_rfl) (by kernel_rfl) ?_
            intro hne
            repeat (go_big_quiet_step (first | (go_at_call 95; exact Calls.kept_of (Nat.le_refl _) (HI _))))
            refine wpQuiet_nil ?_
            rintro u ⟨xk, hxk⟩
            have hR1 := xk.h
            rw [← hxk] at hR1
            have HU : Hid (Blk u p7 #[.int .i64 r.ly, .int .i64 r.wd, .int .i64 r.sp] 77 ∧ Blk u p10 #[.int .i64 a.ly, .int .i64 a.xa, .int .i64 a.ya, .int .i64 a.xb, .int .i64 a.yb] 68 ∧ Below w.heap.size w u ∧ Wl u (p10 + 1) u9 (fj S X r i k)) := ⟨HB.out.2.1.old hR1, HB.out.2.2.1.old hR1, HB.out.2.2.2.1.trans (hR1.mono HB.out.2.2.2.1.size), HB.out.2.2.2.2.later hR1⟩
            clear hxk xk hne K0 K1 K2 K3 K4 M0 M1 M2 M3 M4 N2 V1 V2 HI hR1
            have HF : Hid (Wl u (p10 + 1) u9 (fj S X r i (k + 1)) ∧ Blk u p7 #[.int .i64 r.ly, .int .i64 r.wd, .int .i64 r.sp] 77 ∧ Blk u p10 #[.int .i64 a.ly, .int .i64 a.xa, .int .i64 a.ya, .int .i64 a.xb, .int .i64 a.yb] 68 ∧ Below w.heap.size w u) := ⟨by rw [fj_no HNB.out]; exact HU.out.2.2.2, HU.out.1, HU.out.2.1, HU.out.2.2.1⟩
            clear HH HB HU
            go_wp2
            go_roundw
            case rel => exact ⟨k + 1, by omega, by omega, by simp, HF⟩
            case measure => simp [intOf]; omega
        · obtain rfl : n = k := by omega
          obtain ⟨va9, vc9, ev⟩ := HH.out.1.form
          subst ev
          have HQ : Hid (Wl wr (p10 + 1) (.slice va9 (fj S X r i n).length vc9) (fj S X r i n) ∧ Below w.heap.size w wr) := ⟨HH.out.1, HH.out.2.2.2⟩
          clear HH HA
          go_wp2
          go_ret
          exact ⟨_, rfl, HQ.out.1.low (by have := HP7.out; omega), HQ.out.2⟩
end Go.Proofs.Ytclnmikneomccaa
