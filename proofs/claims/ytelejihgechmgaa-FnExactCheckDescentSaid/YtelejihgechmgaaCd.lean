/- Whether a path is proved, in both packages: contracts. -/
import Derived.Test.YtelejihgechmgaaMm
import Derived.Test.YtelejihgechmgaaPk
import Derived.Test.YtelejihgechmgaaPt
import Derived.Test.YtelejihgechmgaaEq
namespace Go.Proofs.Ytelejihgechmgaa
open Go.RowKit
set_option linter.unusedVariables false
set_option linter.unusedSimpArgs false
set_option maxRecDepth 20000 in
set_option maxHeartbeats 12800000 in
theorem sCheck_any {w : World} {c : Int} {ao po mo : Option Addr} {n np nm cap pc mc : Nat} {L : Nat → Li} {Ls : Nat → Nat} {F : Rm.Mx} {M : Nat → Int} {r : Bool} (hr : r = Mt.chk L n c np Ls F nm M) (h : RdL w (.slice ao n cap) n L) (hp : RdP w (.slice po np pc) (.slice mo nm mc) np Ls F nm M) (hn : n ≤ 1048576) (hnp : np ≤ 1048576) (hnm : nm ≤ 1048576) (hL : ∀ i, i < np → Ls i ≤ 1048576) :
    Calls Try.prog 45 #[.slice ao n cap, .agg #[.int .i64 c, .slice po np pc, .slice mo nm mc]] w fun e w' => e = .returned (.bool r) ∧ Below w.heap.size w w' := by
  obtain ⟨X, hX⟩ : ∃ X, X = w.alloc (.cells #[.int .i64 c, .slice po np pc, .slice mo nm mc] 55) := ⟨_, rfl⟩
  have BX : Hid (Blk X w.heap.size #[.int .i64 c, .slice po np pc, .slice mo nm mc] 55 ∧ Below w.heap.size w X) := by rw [hX]; exact ⟨Blk.new rfl, (Below.refl _ _).alloc (Nat.le_refl _) _⟩
  have hX1 : w.heap.size < X.heap.size := BX.out.1.lt
  have H : ∀ W, Below X.heap.size X W → Hid (RdL W (.slice ao n cap) n L ∧ RdP W (.slice po np pc) (.slice mo nm mc) np Ls F nm M) := fun W hb => ⟨(h.later BX.out.2).later hb, (hp.later BX.out.2).later hb⟩
  have HR : Hid (r = Mt.chk L n c np Ls F nm M) := hr
  have HL : Hid (∀ i, i < np → Ls i ≤ 1048576) := hL
  have hnpI : (np : Int) ≤ 1048576 := by omega
  have hnmI : (nm : Int) ≤ 1048576 := by omega
  have HNn : Hid (n ≤ 1048576) := hn
  clear hr h hp hL hn
  have a0 := BX.out.1.cell (j := 0) (v := .int .i64 c) rfl
  have a1 := BX.out.1.cell (j := 1) (v := .slice po np pc) rfl
  have a2 := BX.out.1.cell (j := 2) (v := .slice mo nm mc) rfl
  by_cases hc : c = 0
  case neg =>
    have hs : Hid (r = false) := by show r = false; rw [HR.out]; exact Mt.chk_c hc
    have hcb : (c != 0) = true := by simpa using hc
    clear hc H
    go_enter Try.func45, Try.ntmps45
    go_wp2_with fail
    rw [← hX]
    clear hX
    go_wp2
    go_ret
    exact ⟨by rw [hs.out]; rfl, BX.out.2⟩
  case pos =>
  subst hc
  by_cases hz : np = 0
  case pos =>
    subst hz
    have hs : Hid (r = false) := by show r = false; rw [HR.out]; exact Mt.chk_n rfl
    clear H
    go_enter Try.func45, Try.ntmps45
    go_wp2_with fail
    rw [← hX]
    clear hX
    go_wp2
    go_ret
    exact ⟨by rw [hs.out]; rfl, BX.out.2⟩
  case neg =>
  have hzb : ((np : Int) == 0) = false := by simp; omega
  by_cases hm : nm = np
  case neg =>
    have hs : Hid (r = false) := by show r = false; rw [HR.out]; exact Mt.chk_m hm
    have hmb : ((nm : Int) != (np : Int)) = true := by simp; omega
    clear hm hz H
    go_enter Try.func45, Try.ntmps45
    go_wp2_with fail
    rw [← hX]
    clear hX
    go_wp2
    go_ret
    exact ⟨by rw [hs.out]; rfl, BX.out.2⟩
  case pos =>
  subst hm
  have HA : Hid (r = Mt.all (Mt.okP L n Ls F M) nm) := by show r = _; rw [HR.out]; exact Mt.chk_all rfl hz rfl
  have hmb : ((nm : Int) != (nm : Int)) = false := by simp
  clear HR hz
  go_enter Try.func45, Try.ntmps45
  go_wp2_with fail
  rw [← hX]
  clear hX
  go_wp2_with fail
  clear a0 a1 a2
  go_loopw [6] (fun i wr => ∃ k : Nat, k ≤ nm ∧ i = .int .i64 k ∧ Hid (Below X.heap.size X wr) ∧ Hid (Mt.all (Mt.okP L n Ls F M) k = true)) (fun i _ => nm - (intOf i).toNat)
  case atStart => exact ⟨0, Nat.zero_le _, rfl, Below.refl _ _, rfl⟩
  case round =>
    obtain ⟨k, hk, rfl, HB, HF⟩ := hrel
    by_cases hkn : k < nm
    · skip
      obtain ⟨b, of, ro, rc, rfl, hrc, hrr⟩ := (H wr HB.out).out.2.pts.at hkn
      obtain ⟨mb, mf, hmo, hmk⟩ := (H wr HB.out).out.2.mer.at hkn
      subst hmo
      have hkI : (k : Int) < nm := by omega
      obtain ⟨d, hd⟩ : ∃ d, d = Ls k := ⟨_, rfl⟩
      obtain ⟨P, hP⟩ : ∃ P, P = F k := ⟨_, rfl⟩
      have hd1 : d ≤ 1048576 := by rw [hd]; exact HL.out k hkn
      rw [← hd] at hrc hrr
      rw [← hP] at hrr
      obtain ⟨q, hq⟩ : ∃ q, q = Mt.tcode L n d P := ⟨_, rfl⟩
      obtain ⟨m, hm⟩ : ∃ m, m = Mt.merit L n d P := ⟨_, rfl⟩
      obtain ⟨y, hy⟩ : ∃ y, y = M k := ⟨_, rfl⟩
      rw [← hy] at hmk
      have HQ : Hid (q = Mt.tcode L n (Ls k) (F k) ∧ m = Mt.merit L n (Ls k) (F k) ∧ y = M k) := ⟨by rw [hq, hd, hP], by rw [hm, hd, hP], hy⟩
      have e1 := (BX.out.1.old HB.out).cell (j := 1) (v := .slice (some ⟨b, of, none⟩) nm pc) rfl
      have bad : Mt.okP L n Ls F M k = false → r = false := fun e => by rw [HA.out]; exact Mt.all_hit hkn e
      have pass : Mt.okP L n Ls F M k = true → Hid (Mt.all (Mt.okP L n Ls F M) (k + 1) = true) := fun e => Mt.all_next HF.out e
      replace bad : Hid _ := bad
      replace pass : Hid _ := pass
      have HCl := sMerit_any hq hm (H wr HB.out).out.1 hrr HNn.out hd1
      clear hq hm hy hd hP hrr hd1
      go_upto_region 8 with (first | (go_at_call 33; refine HCl.mono ?_; rintro e w1 ⟨rfl, hb1⟩))
      obtain ⟨Y, hY⟩ : ∃ Y, Y = w1.alloc (.cells #[.int .i64 q, .int .i64 m] 36) := ⟨_, rfl⟩
      obtain ⟨pb, hpb⟩ : ∃ p, p = w1.heap.size := ⟨_, rfl⟩
      have BY : Hid (Blk Y pb #[.int .i64 q, .int .i64 m] 36 ∧ Below wr.heap.size wr Y) := by rw [hY, hpb]; exact ⟨Blk.new rfl, hb1.alloc hb1.size _⟩
      rw [← hY, ← hpb]
      clear hY hpb hb1 HCl
      have HBY : Hid (Below X.heap.size X Y) := HB.out.trans (BY.out.2.mono HB.out.size)
      have K0 := fun z : Kept Y.heap.size Y => (BY.out.1.old z.h).cell (j := 0) (v := .int .i64 q) rfl
      have K1 := fun z : Kept Y.heap.size Y => (BY.out.1.old z.h).cell (j := 1) (v := .int .i64 m) rfl
      have K2 := fun z : Kept Y.heap.size Y => (BX.out.1.old (HBY.out.trans (z.h.mono HBY.out.size))).cell (j := 2) (v := .slice (some ⟨mb, mf, none⟩) nm mc) rfl
      have K3 := fun z : Kept Y.heap.size Y => kold (BY.out.2.trans (z.h.mono BY.out.2.size)) hmk
      have K4 : ∀ j, j < nm → ∀ z : Kept Y.heap.size Y, z.w.cell? ⟨mb, mf + j, none⟩ = some (.int .i64 (M j)) := fun j hj z => by
        obtain ⟨mb', mf', e', hc'⟩ := (H z.w (HBY.out.trans (z.h.mono HBY.out.size))).out.2.mer.at hj
        simp only [Option.some.injEq, Addr.mk.injEq] at e'
        obtain ⟨rfl, rfl, -⟩ := e'
        exact hc'
      replace K4 : Hid _ := K4
      clear hmk hrc e1 H
      by_cases hz : q = 0
      case neg =>
        have hs : Hid (r = false) := bad.out (Mt.okP_1 (by rw [← HQ.out.1]; exact hz))
        have hqb : (q != 0) = true := by simpa using hz
        clear hz
        go_upto_region 8 with fail
        refine wp_region_kept Y.heap.size (by kernel_rfl) (by kernel_rfl) ?_
        intro hne
        repeat (go_big_quiet_step (first | fail))
        refine wpQuiet_nil ?_
        rintro u1 ⟨xk, hxk⟩
        have hR1 := xk.h
        rw [← hxk] at hR1
        clear hxk xk hne K0 K1 K2 K3
        go_wp2
        go_ret
        exact ⟨by rw [hs.out]; rfl, BX.out.2.trans ((HBY.out.trans (hR1.mono HBY.out.size)).mono (Nat.le_of_lt hX1))⟩
      case pos =>
      subst hz
      by_cases hmy : m = y
      case neg =>
        have hs : Hid (r = false) := bad.out (Mt.okP_2 (by rw [← HQ.out.2.1, ← HQ.out.2.2]; exact hmy))
        have hqb : (m != y) = true := by simpa using hmy
        clear hmy
        go_upto_region 8 with fail
        refine wp_region_kept Y.heap.size (by kernel_rfl) (by kernel_rfl) ?_
        intro hne
        repeat (go_big_quiet_step (first | fail))
        refine wpQuiet_nil ?_
        rintro u1 ⟨xk, hxk⟩
        have hR1 := xk.h
        rw [← hxk] at hR1
        clear hxk xk hne K0 K1 K2 K3
        go_wp2
        go_ret
        exact ⟨by rw [hs.out]; rfl, BX.out.2.trans ((HBY.out.trans (hR1.mono HBY.out.size)).mono (Nat.le_of_lt hX1))⟩
      case pos =>
      subst hmy
      have hqb : (m != m) = false := by simp
      by_cases hk0 : k = 0
      case pos =>
        have HF2 := pass.out (Mt.okP_t HQ.out.1.symm (HQ.out.2.1.symm.trans HQ.out.2.2) (Or.inl hk0))
        have hk0a : decide (0 < k) = false := by simp; omega
        have hk0I : (k : Int) ≤ 0 := by omega
        clear hk0
        go_upto_region 8 with fail
        refine wp_region_kept Y.heap.size (by kernel_rfl) (by kernel_rfl) ?_
        intro hne
        repeat (go_big_quiet_step (first | fail))
        refine wpQuiet_nil ?_
        rintro u1 ⟨xk, hxk⟩
        have hR1 := xk.h
        rw [← hxk] at hR1
        clear hxk xk hne K0 K1 K2 K3
        go_wp2
        go_roundw
        case rel => exact ⟨k + 1, by omega, by simp, HBY.out.trans (hR1.mono HBY.out.size), HF2⟩
        case measure => simp [intOf]; omega
      case neg =>
        obtain ⟨j, rfl⟩ : ∃ j, k = j + 1 := ⟨k - 1, by omega⟩
        clear hk0
        obtain ⟨x, hx⟩ : ∃ x, x = M j := ⟨_, rfl⟩
        have K5 : ∀ z : Kept Y.heap.size Y, z.w.cell? ⟨mb, mf + j, none⟩ = some (.int .i64 x) := fun z => by rw [hx]; exact K4.out j (by omega) z
        have hjI : (j : Int) < nm := by omega
        by_cases hxm : x ≤ m
        case pos =>
          have hs : Hid (r = false) := bad.out (Mt.okP_3 (by omega) (by show M j ≤ M (j + 1); rw [← hx, ← HQ.out.2.2]; exact hxm))
          clear hx
          go_upto_region 8 with fail
          refine wp_region_kept Y.heap.size (by kernel_rfl) (by kernel_rfl) ?_
          intro hne
          repeat (go_big_quiet_step (first | fail))
          refine wpQuiet_nil ?_
          rintro u1 ⟨xk, hxk⟩
          have hR1 := xk.h
          rw [← hxk] at hR1
          clear hxk xk hne K0 K1 K2 K3 K5
          go_wp2
          go_ret
          exact ⟨by rw [hs.out]; rfl, BX.out.2.trans ((HBY.out.trans (hR1.mono HBY.out.size)).mono (Nat.le_of_lt hX1))⟩
        case neg =>
          have HF2 := pass.out (Mt.okP_t HQ.out.1.symm (HQ.out.2.1.symm.trans HQ.out.2.2) (Or.inr (by show M (j + 1) < M j; rw [← hx, ← HQ.out.2.2]; omega)))
          clear hx
          go_upto_region 8 with fail
          refine wp_region_kept Y.heap.size (by kernel_rfl) (by kernel_rfl) ?_
          intro hne
          repeat (go_big_quiet_step (first | fail))
          refine wpQuiet_nil ?_
          rintro u1 ⟨xk, hxk⟩
          have hR1 := xk.h
          rw [← hxk] at hR1
          clear hxk xk hne K0 K1 K2 K3 K5
          go_wp2
          go_roundw
          case rel => exact ⟨j + 1 + 1, by omega, by simp, HBY.out.trans (hR1.mono HBY.out.size), HF2⟩
          case measure => simp [intOf]; omega
    · obtain rfl : nm = k := by omega
      have hs : Hid (r = true) := by show r = true; rw [HA.out]; exact HF.out
      clear H
      go_wp2
      go_ret
      exact ⟨by rw [hs.out]; rfl, BX.out.2.trans (HB.out.mono (Nat.le_of_lt hX1))⟩
set_option maxRecDepth 20000 in
set_option maxHeartbeats 12800000 in
theorem iCheck_any {w : World} {c : Int} {ao po mo : Option Addr} {n np nm cap pc mc : Nat} {L : Nat → Li} {Ls : Nat → Nat} {F : Rm.Mx} {M : Nat → Int} {r : Bool} (hr : r = Mt.chk L n c np Ls F nm M) (h : RdL w (.slice ao n cap) n L) (hp : RdP w (.slice po np pc) (.slice mo nm mc) np Ls F nm M) (hn : n ≤ 1048576) (hnp : np ≤ 1048576) (hnm : nm ≤ 1048576) (hL : ∀ i, i < np → Ls i ≤ 1048576) :
    Calls Try.prog 47 #[.slice ao n cap, .agg #[.int .i64 c, .slice po np pc, .slice mo nm mc]] w fun e w' => e = .returned (.bool r) ∧ Below w.heap.size w w' := by
  obtain ⟨X, hX⟩ : ∃ X, X = w.alloc (.cells #[.int .i64 c, .slice po np pc, .slice mo nm mc] 55) := ⟨_, rfl⟩
  have BX : Hid (Blk X w.heap.size #[.int .i64 c, .slice po np pc, .slice mo nm mc] 55 ∧ Below w.heap.size w X) := by rw [hX]; exact ⟨Blk.new rfl, (Below.refl _ _).alloc (Nat.le_refl _) _⟩
  have hX1 : w.heap.size < X.heap.size := BX.out.1.lt
  have H : ∀ W, Below X.heap.size X W → Hid (RdL W (.slice ao n cap) n L ∧ RdP W (.slice po np pc) (.slice mo nm mc) np Ls F nm M) := fun W hb => ⟨(h.later BX.out.2).later hb, (hp.later BX.out.2).later hb⟩
  have HR : Hid (r = Mt.chk L n c np Ls F nm M) := hr
  have HL : Hid (∀ i, i < np → Ls i ≤ 1048576) := hL
  have hnpI : (np : Int) ≤ 1048576 := by omega
  have hnmI : (nm : Int) ≤ 1048576 := by omega
  have HNn : Hid (n ≤ 1048576) := hn
  clear hr h hp hL hn
  have a0 := BX.out.1.cell (j := 0) (v := .int .i64 c) rfl
  have a1 := BX.out.1.cell (j := 1) (v := .slice po np pc) rfl
  have a2 := BX.out.1.cell (j := 2) (v := .slice mo nm mc) rfl
  by_cases hc : c = 0
  case neg =>
    have hs : Hid (r = false) := by show r = false; rw [HR.out]; exact Mt.chk_c hc
    have hcb : (c != 0) = true := by simpa using hc
    clear hc H
    go_enter Try.func47, Try.ntmps47
    go_wp2_with fail
    rw [← hX]
    clear hX
    go_wp2
    go_ret
    exact ⟨by rw [hs.out]; rfl, BX.out.2⟩
  case pos =>
  subst hc
  by_cases hz : np = 0
  case pos =>
    subst hz
    have hs : Hid (r = false) := by show r = false; rw [HR.out]; exact Mt.chk_n rfl
    clear H
    go_enter Try.func47, Try.ntmps47
    go_wp2_with fail
    rw [← hX]
    clear hX
    go_wp2
    go_ret
    exact ⟨by rw [hs.out]; rfl, BX.out.2⟩
  case neg =>
  have hzb : ((np : Int) == 0) = false := by simp; omega
  by_cases hm : nm = np
  case neg =>
    have hs : Hid (r = false) := by show r = false; rw [HR.out]; exact Mt.chk_m hm
    have hmb : ((nm : Int) != (np : Int)) = true := by simp; omega
    clear hm hz H
    go_enter Try.func47, Try.ntmps47
    go_wp2_with fail
    rw [← hX]
    clear hX
    go_wp2
    go_ret
    exact ⟨by rw [hs.out]; rfl, BX.out.2⟩
  case pos =>
  subst hm
  have HA : Hid (r = Mt.all (Mt.okP L n Ls F M) nm) := by show r = _; rw [HR.out]; exact Mt.chk_all rfl hz rfl
  have hmb : ((nm : Int) != (nm : Int)) = false := by simp
  clear HR hz
  go_enter Try.func47, Try.ntmps47
  go_wp2_with fail
  rw [← hX]
  clear hX
  go_wp2_with fail
  clear a0 a1 a2
  go_loopw [28] (fun i wr => ∃ k : Nat, k ≤ nm ∧ i = .int .i64 k ∧ Hid (Below X.heap.size X wr) ∧ Hid (Mt.all (Mt.okP L n Ls F M) k = true)) (fun i _ => nm - (intOf i).toNat)
  case atStart => exact ⟨0, Nat.zero_le _, rfl, Below.refl _ _, rfl⟩
  case round =>
    obtain ⟨k, hk, rfl, HB, HF⟩ := hrel
    by_cases hkn : k < nm
    · skip
      obtain ⟨b, of, ro, rc, rfl, hrc, hrr⟩ := (H wr HB.out).out.2.pts.at hkn
      obtain ⟨mb, mf, hmo, hmk⟩ := (H wr HB.out).out.2.mer.at hkn
      subst hmo
      have hkI : (k : Int) < nm := by omega
      obtain ⟨d, hd⟩ : ∃ d, d = Ls k := ⟨_, rfl⟩
      obtain ⟨P, hP⟩ : ∃ P, P = F k := ⟨_, rfl⟩
      have hd1 : d ≤ 1048576 := by rw [hd]; exact HL.out k hkn
      rw [← hd] at hrc hrr
      rw [← hP] at hrr
      obtain ⟨q, hq⟩ : ∃ q, q = Mt.tcode L n d P := ⟨_, rfl⟩
      obtain ⟨m, hm⟩ : ∃ m, m = Mt.merit L n d P := ⟨_, rfl⟩
      obtain ⟨y, hy⟩ : ∃ y, y = M k := ⟨_, rfl⟩
      rw [← hy] at hmk
      have HQ : Hid (q = Mt.tcode L n (Ls k) (F k) ∧ m = Mt.merit L n (Ls k) (F k) ∧ y = M k) := ⟨by rw [hq, hd, hP], by rw [hm, hd, hP], hy⟩
      have e1x := (BX.out.1.old HB.out).cell (j := 1) (v := .slice (some ⟨b, of, none⟩) nm pc) rfl
      have bad : Mt.okP L n Ls F M k = false → r = false := fun e => by rw [HA.out]; exact Mt.all_hit hkn e
      have pass : Mt.okP L n Ls F M k = true → Hid (Mt.all (Mt.okP L n Ls F M) (k + 1) = true) := fun e => Mt.all_next HF.out e
      replace bad : Hid _ := bad
      replace pass : Hid _ := pass
      have HCl : ∀ z : Kept wr.heap.size wr, Calls Try.prog 35 #[.slice ao n cap, .slice ro d rc] z.w fun e w' => e = .returned (.agg #[.int .i64 q, .int .i64 m]) ∧ Below z.w.heap.size z.w w' := fun z => iMerit_any hq hm (H z.w (HB.out.trans (z.h.mono HB.out.size))).out.1 (hrr.later z.h) HNn.out hd1
      have K2 := fun z : Kept wr.heap.size wr => (BX.out.1.old (HB.out.trans (z.h.mono HB.out.size))).cell (j := 2) (v := .slice (some ⟨mb, mf, none⟩) nm mc) rfl
      have K3 := fun z : Kept wr.heap.size wr => kold z.h hmk
      have K4 : ∀ j, j < nm → ∀ W, Below X.heap.size X W → W.cell? ⟨mb, mf + j, none⟩ = some (.int .i64 (M j)) := fun j hj W hb => by
        obtain ⟨mb', mf', e', hc'⟩ := (H W hb).out.2.mer.at hj
        simp only [Option.some.injEq, Addr.mk.injEq] at e'
        obtain ⟨rfl, rfl, -⟩ := e'
        exact hc'
      replace K4 : Hid _ := K4
      clear hq hm hy hd hP hrr hd1 hmk e1x H
      by_cases hz : q = 0
      case neg =>
        have hs : Hid (r = false) := bad.out (Mt.okP_1 (by rw [← HQ.out.1]; exact hz))
        have hnq : ∀ W, (binOp .neq 36 (.agg #[.int .i64 q, .int .i64 m]) (.agg #[.int .i64 0, .int .i64 y])).run Try.prog W = .ok (.bool true) W := fun W => by rw [neq36]; simp [hz]
        clear hz
        go_upto_region 6 with fail
        refine wp_region_kept wr.heap.size (by kernel_rfl) (by kernel_rfl) ?_
        intro hne
        repeat (go_big_quiet_step (first | (go_at_call 35; exact Calls.kept_of (Nat.le_refl _) (HCl _))))
        refine wpQuiet_nil ?_
        rintro u1 ⟨xk, hxk⟩
        have hR1 := xk.h
        rw [← hxk] at hR1
        clear hxk xk hne K2 K3 HCl hnq
        go_wp2
        go_ret
        exact ⟨by rw [hs.out]; rfl, BX.out.2.trans ((HB.out.trans (hR1.mono HB.out.size)).mono (Nat.le_of_lt hX1))⟩
      case pos =>
      by_cases hmy : m = y
      case neg =>
        have hs : Hid (r = false) := bad.out (Mt.okP_2 (by rw [← HQ.out.2.1, ← HQ.out.2.2]; exact hmy))
        have hnq : ∀ W, (binOp .neq 36 (.agg #[.int .i64 q, .int .i64 m]) (.agg #[.int .i64 0, .int .i64 y])).run Try.prog W = .ok (.bool true) W := fun W => by rw [neq36]; simp [hmy]
        clear hmy hz
        go_upto_region 6 with fail
        refine wp_region_kept wr.heap.size (by kernel_rfl) (by kernel_rfl) ?_
        intro hne
        repeat (go_big_quiet_step (first | (go_at_call 35; exact Calls.kept_of (Nat.le_refl _) (HCl _))))
        refine wpQuiet_nil ?_
        rintro u1 ⟨xk, hxk⟩
        have hR1 := xk.h
        rw [← hxk] at hR1
        clear hxk xk hne K2 K3 HCl hnq
        go_wp2
        go_ret
        exact ⟨by rw [hs.out]; rfl, BX.out.2.trans ((HB.out.trans (hR1.mono HB.out.size)).mono (Nat.le_of_lt hX1))⟩
      case pos =>
      have hnq : ∀ W, (binOp .neq 36 (.agg #[.int .i64 q, .int .i64 m]) (.agg #[.int .i64 0, .int .i64 y])).run Try.prog W = .ok (.bool false) W := fun W => by rw [neq36]; simp [hz, hmy]
      subst hz
      subst hmy
      go_upto_region 6 with fail
      refine wp_region_kept wr.heap.size (by kernel_rfl) (by kernel_rfl) ?_
      intro hne
      repeat (go_big_quiet_step (first | (go_at_call 35; exact Calls.kept_of (Nat.le_refl _) (HCl _))))
      refine wpQuiet_nil ?_
      rintro u1 ⟨xk, hxk⟩
      have hR1 := xk.h
      rw [← hxk] at hR1
      clear hxk xk hne K2 K3 HCl hnq
      have HB1 : Hid (Below X.heap.size X u1) := HB.out.trans (hR1.mono HB.out.size)
      have J2 := fun z : Kept u1.heap.size u1 => (BX.out.1.old (HB1.out.trans (z.h.mono HB1.out.size))).cell (j := 2) (v := .slice (some ⟨mb, mf, none⟩) nm mc) rfl
      have J3 : ∀ z : Kept u1.heap.size u1, z.w.cell? ⟨mb, mf + k, none⟩ = some (.int .i64 m) := fun z => by rw [HQ.out.2.2]; exact K4.out k hkn z.w (HB1.out.trans (z.h.mono HB1.out.size))
      clear hR1
      by_cases hk0 : k = 0
      case pos =>
        have HF2 := pass.out (Mt.okP_t HQ.out.1.symm (HQ.out.2.1.symm.trans HQ.out.2.2) (Or.inl hk0))
        have hk0a : decide (0 < k) = false := by simp; omega
        have hk0I : (k : Int) ≤ 0 := by omega
        clear hk0
        go_upto_region 8 with fail
        refine wp_region_kept u1.heap.size (by kernel_rfl) (by kernel_rfl) ?_
        intro hne
        repeat (go_big_quiet_step (first | fail))
        refine wpQuiet_nil ?_
        rintro u2 ⟨xk, hxk⟩
        have hR2 := xk.h
        rw [← hxk] at hR2
        clear hxk xk hne J2 J3
        go_wp2
        go_roundw
        case rel => exact ⟨k + 1, by omega, by simp, HB1.out.trans (hR2.mono HB1.out.size), HF2⟩
        case measure => simp [intOf]; omega
      case neg =>
        obtain ⟨j, rfl⟩ : ∃ j, k = j + 1 := ⟨k - 1, by omega⟩
        clear hk0
        obtain ⟨x, hx⟩ : ∃ x, x = M j := ⟨_, rfl⟩
        have J5 : ∀ z : Kept u1.heap.size u1, z.w.cell? ⟨mb, mf + j, none⟩ = some (.int .i64 x) := fun z => by rw [hx]; exact K4.out j (by omega) z.w (HB1.out.trans (z.h.mono HB1.out.size))
        have hjI : (j : Int) < nm := by omega
        by_cases hxm : x ≤ m
        case pos =>
          have hs : Hid (r = false) := bad.out (Mt.okP_3 (by omega) (by show M j ≤ M (j + 1); rw [← hx, ← HQ.out.2.2]; exact hxm))
          clear hx
          go_upto_region 8 with fail
          refine wp_region_kept u1.heap.size (by kernel_rfl) (by kernel_rfl) ?_
          intro hne
          repeat (go_big_quiet_step (first | fail))
          refine wpQuiet_nil ?_
          rintro u2 ⟨xk, hxk⟩
          have hR2 := xk.h
          rw [← hxk] at hR2
          clear hxk xk hne J2 J3 J5
          go_wp2
          go_ret
          exact ⟨by rw [hs.out]; rfl, BX.out.2.trans ((HB1.out.trans (hR2.mono HB1.out.size)).mono (Nat.le_of_lt hX1))⟩
        case neg =>
          have HF2 := pass.out (Mt.okP_t HQ.out.1.symm (HQ.out.2.1.symm.trans HQ.out.2.2) (Or.inr (by show M (j + 1) < M j; rw [← hx, ← HQ.out.2.2]; omega)))
          clear hx
          go_upto_region 8 with fail
          refine wp_region_kept u1.heap.size (by kernel_rfl) (by kernel_rfl) ?_
          intro hne
          repeat (go_big_quiet_step (first | fail))
          refine wpQuiet_nil ?_
          rintro u2 ⟨xk, hxk⟩
          have hR2 := xk.h
          rw [← hxk] at hR2
          clear hxk xk hne J2 J3 J5
          go_wp2
          go_roundw
          case rel => exact ⟨j + 1 + 1, by omega, by simp, HB1.out.trans (hR2.mono HB1.out.size), HF2⟩
          case measure => simp [intOf]; omega
    · obtain rfl : nm = k := by omega
      have hs : Hid (r = true) := by show r = true; rw [HA.out]; exact HF.out
      clear H
      go_wp2
      go_ret
      exact ⟨by rw [hs.out]; rfl, BX.out.2.trans (HB.out.mono (Nat.le_of_lt hX1))⟩
end Go.Proofs.Ytelejihgechmgaa
