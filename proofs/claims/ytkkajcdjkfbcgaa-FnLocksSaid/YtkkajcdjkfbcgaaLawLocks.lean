/- Of bytes that draw a list and a period the lock-in does not see a constant, and a quarter of a period changes what is in phase and what is across; nothing that was there is changed. -/
import Derived.Test.YtkkajcdjkfbcgaaFl2
import Derived.Handy
import Derived.Deep.RegionHeld3
import Derived.Deep.DeepCutAuto
namespace Go.Proofs.Ytkkajcdjkfbcgaa.LawLocks
open Go.ChangeShapes Go.WideShapes Go.ChangeAt Go.RowKit Go.Joins
set_option linter.unusedVariables false

theorem owns_low1 {w : World} {base base' n m : Nat} {t : TypeId} {v : Value} {xs : List Value} (h : w.ownsRow base t m v n xs) (hb : base' ≤ base) : w.ownsRow base' t m v n xs := by
  obtain ⟨h0, h | ⟨g, cap, cur, hv, hg, r⟩⟩ := h
  · exact ⟨h0, Or.inl h⟩
  · exact ⟨h0, Or.inr ⟨g, cap, cur, hv, Nat.le_trans hb hg, r⟩⟩
theorem lock_bad {f : Nat → Int} {m : Nat} {P : Int} (hm : m ≤ 2000000) (h : ¬ (Lform m P ∧ m ≤ 4000 ∧ InB f m)) : ∃ k : Int, k ≠ 0 ∧ (∀ W v, RdRow W v m f → Calls Try.prog 15 #[v, .int .i64 P] W fun e w' => e = .returned (Qv k 0 0) ∧ Below W.heap.size W w') ∧ (∀ W v, RdRow W v m f → Calls Try.prog 16 #[v, .int .i64 P] W fun e w' => e = .returned (Qv k 0 0) ∧ Below W.heap.size W w') := by
  by_cases hf : Lform m P
  · by_cases h4 : 4000 < m
    · exact ⟨2, by decide, fun W v h => lock_s2 h hm hf h4, fun W v h => lock_i2 h hm hf h4⟩
    · by_cases hb : InB f m
      · exact absurd ⟨hf, by omega, hb⟩ h
      · exact ⟨3, by decide, fun W v h => lock_s3 h hm hf (by omega) hb, fun W v h => lock_i3 h hm hf (by omega) hb⟩
  · exact ⟨1, by decide, fun W v h => lock_s1 h hm hf, fun W v h => lock_i1 h hm hf⟩
/-- What the three calls answer where all is right. -/
theorem lock_good {f : Nat → Int} {m : Nat} {P : Int} (hf : Lform m P) (h4 : m ≤ 4000) (hb : InB f m) : ∃ X Y : Int, (-4000000000000 ≤ Y ∧ Y ≤ 4000000000000) ∧ (∀ W v, RdRow W v m f → Calls Try.prog 15 #[v, .int .i64 P] W fun e w' => e = .returned (Qv 0 X Y) ∧ Below W.heap.size W w') ∧ (∀ W v, RdRow W v m f → Calls Try.prog 16 #[v, .int .i64 P] W fun e w' => e = .returned (Qv 0 X Y) ∧ Below W.heap.size W w')
    ∧ ((∀ i, i < m → -900000000 ≤ f i ∧ f i ≤ 900000000) → (∀ (k : Int), -40 ≤ k → k ≤ 50 → ∀ W v, RdRow W v m (fun i => f i + k) → Calls Try.prog 16 #[v, .int .i64 P] W fun e w' => e = .returned (Qv 0 X Y) ∧ Below W.heap.size W w') ∧ (∀ W v, RdRow W v m (fun i => f ((i + P.toNat / 4) % m)) → Calls Try.prog 16 #[v, .int .i64 P] W fun e w' => e = .returned (Qv 0 (-Y) X) ∧ Below W.heap.size W w')) := by
  obtain ⟨p, rfl⟩ := Int.eq_ofNat_of_zero_le (show 0 ≤ P by have := hf.p0; omega)
  have hp : p ≠ 0 := by have := hf.p0; omega
  have hp4 : p % 4 = 0 := by have := hf.p4; omega
  have hmp : m % p = 0 := by have := hf.np; norm_cast at this
  have hq : ((p : Int) / 4) = ((p / 4 : Nat) : Int) := by norm_cast
  have hbd := lsum_bd (P := (p : Int)) (a := (p : Int) / 4) hb m (Nat.le_refl _)
  refine ⟨lsum f p 0 m, lsum f p ((p : Int) / 4) m, by omega, fun W v h => lock_s0 h (by omega) hf h4 hb, fun W v h => lock_i0 h (by omega) hf h4 hb, fun h9 => ⟨fun k k0 k1 W v h => ?_, fun W v h => ?_⟩⟩
  · have hb2 : InB (fun i => f i + k) m := fun i hi => by have := h9 i hi; show -1000000000 ≤ f i + k ∧ f i + k ≤ 1000000000; omega
    have e0 := lock_const (f := f) 0 k hp (by omega) hmp hf.n0
    have e1 := lock_const (f := f) (p / 4) k hp (by omega) hmp hf.n0
    rw [← hq] at e1
    have := lock_i0 h (by omega) hf h4 hb2
    rwa [show lsum (fun i => f i + k) (p : Int) 0 m = lsum f (p : Int) 0 m from e0, e1] at this
  · rw [Int.toNat_natCast] at h
    have hb2 : InB (fun i => f ((i + p / 4) % m)) m := fun i hi => hb _ (Nat.mod_lt _ (Nat.pos_of_ne_zero hf.n0))
    have e0 := lock_in (f := f) hp hp4 hmp hf.n0
    have e1 := lock_quad (f := f) hp hp4 hmp hf.n0
    rw [← hq] at e0 e1
    have := lock_i0 h (by omega) hf h4 hb2
    rwa [show lsum (fun i => f ((i + p / 4) % m)) (p : Int) 0 m = -(lsum f (p : Int) ((p : Int) / 4) m) from e0, show lsum (fun i => f ((i + p / 4) % m)) (p : Int) ((p : Int) / 4) m = lsum f (p : Int) 0 m from e1] at this
set_option maxRecDepth 20000 in
set_option maxHeartbeats 6400000 in
theorem walk {w : World} {v : Value} {n : Nat} {g : Nat → Int} (hB : RdB w v n g) (nb : n ≤ 9223372036854775807) (hg : ∀ i, i < n → 0 ≤ g i ∧ g i ≤ 255) : Calls Try.prog 3 #[v] w fun e w' => e = .returned (.bool true) ∧ Below w.heap.size w w' := by
  obtain ⟨ao, cap, rfl⟩ : ∃ ao cap, v = .slice ao n cap := by
    rcases hB with ⟨ao, cap, rfl, rfl⟩ | ⟨b, off, cap, rfl, _⟩
    · exact ⟨_, _, rfl⟩
    · exact ⟨_, _, rfl⟩
  by_cases hbig : (1048576 : Int) < n
  · clear hB hg
    go_enter Try.func3, Try.ntmps3
    go_wp2_with fail
    refine (big_any ao n cap w).mono ?_
    rintro e w' ⟨rfl, rfl⟩
    rw [decide_eq_true (by omega)]
    go_wp2
    go_ret
    exact ⟨rfl, Below.refl _ _⟩
  have DL := drawLock hB hg (by omega)
  have AT : Hid (∀ W, Below w.heap.size w W → Calls Try.prog 17 #[.slice ao n cap, .int .i64 4, .int .i64 90] W fun e w' => ∃ r : Int, e = .returned (.int .i64 r) ∧ 0 ≤ r ∧ (1 ≤ (90 : Int) → r < 90) ∧ ∃ q, w' = W.drewN q) := fun W b => at_any b hB hg (by omega) (by omega)
  clear hB hg
  go_enter Try.func3, Try.ntmps3
  go_wp2_with fail
  refine (big_any ao n cap w).mono ?_
  rintro e w' ⟨rfl, rfl⟩
  rw [decide_eq_false (by omega)]
  go_wp2_with fail
  refine DL.mono ?_
  rintro e w1 ⟨vl, m, f, P, rfl, R, hm, b1⟩
  clear DL hbig
  obtain ⟨ao2, c2, rfl, hcc⟩ := R.at
  clear hcc
  have HR : Hid (RdRow w1 (.slice ao2 m c2) m f ∧ Below w.heap.size w w1) := ⟨R, b1⟩
  clear R b1
  by_cases hD : Lform m P ∧ m ≤ 4000 ∧ InB f m
  case neg =>
    obtain ⟨k, hk, hS, hI⟩ := lock_bad (by omega) hD
    have SC : Hid (∀ W v, RdRow W v m f → Calls Try.prog 15 #[v, .int .i64 P] W fun e w' => e = .returned (Qv k 0 0) ∧ Below W.heap.size W w') := hS
    have IC : Hid (∀ W v, RdRow W v m f → Calls Try.prog 16 #[v, .int .i64 P] W fun e w' => e = .returned (Qv k 0 0) ∧ Below W.heap.size W w') := hI
    clear hS hI hD AT
    have hk0 : (k == 0) = false := by simpa using hk
    go_wp2_with fail
    refine (SC.out _ _ HR.out.1).mono ?_
    rintro e w2 ⟨rfl, b2⟩
    go_upto_region 5 with fail
    obtain ⟨w3, hw3⟩ : ∃ W, W = w2.alloc (.cells #[.int .i64 k, .int .i64 0, .int .i64 0] 28) := ⟨_, rfl⟩
    have B3 : Hid (Blk w3 w2.heap.size #[.int .i64 k, .int .i64 0, .int .i64 0] 28) := by show Blk _ _ _ _; rw [hw3]; exact Blk.new rfl
    have b3 : Below w2.heap.size w2 w3 := by rw [hw3]; exact (Below.refl _ _).alloc (Nat.le_refl _) _
    replace HR : Hid (RdRow w3 (.slice ao2 m c2) m f ∧ Below w.heap.size w w3) := ⟨(HR.out.1.later b2).later b3, (HR.out.2.trans (b2.mono HR.out.2.size)).trans (b3.mono (Nat.le_trans HR.out.2.size b2.size))⟩
    rw [← hw3]
    clear hw3 b2 b3 SC
    have c0 := B3.out.cell (j := 0) (v := .int .i64 k) rfl
    go_upto_region 6 with fail
    have kc : ∀ x : Kept w3.heap.size w3, x.w.cell? ⟨w2.heap.size, 0, none⟩ = some (.int .i64 k) := fun x => x.cell B3.out.lt (B3.out.cell (j := 0) rfl)
    have hfd := field28_0
    refine wp_region_kept w3.heap.size (by kernel_rfl) (by kernel_rfl) ?_
    intro hne
    repeat (go_big_quiet_step (first | (go_at_call 16; exact Calls.kept_of (Nat.le_refl _) (IC.out _ _ (HR.out.1.later (Kept.h _))))))
    refine wpQuiet_nil ?_
    rintro w4 ⟨xk, hxk⟩
    have hR1 := xk.h
    rw [← hxk] at hR1
    clear hxk xk hne kc hfd c0
    have HO : Hid (Below w.heap.size w w4) := HR.out.2.trans (hR1.mono HR.out.2.size)
    clear hR1
    go_wp2
    go_ret
    exact ⟨by simp, HO.out⟩
  case pos =>
    obtain ⟨hf, h4, hb⟩ := hD
    obtain ⟨X, Y, hY, hS, hI, hMT⟩ := lock_good hf h4 hb
    have SC : Hid (∀ W v, RdRow W v m f → Calls Try.prog 15 #[v, .int .i64 P] W fun e w' => e = .returned (Qv 0 X Y) ∧ Below W.heap.size W w') := hS
    have IC : Hid (∀ W v, RdRow W v m f → Calls Try.prog 16 #[v, .int .i64 P] W fun e w' => e = .returned (Qv 0 X Y) ∧ Below W.heap.size W w') := hI
    have MT : Hid ((∀ i, i < m → -900000000 ≤ f i ∧ f i ≤ 900000000) → (∀ (k : Int), -40 ≤ k → k ≤ 50 → ∀ W v, RdRow W v m (fun i => f i + k) → Calls Try.prog 16 #[v, .int .i64 P] W fun e w' => e = .returned (Qv 0 X Y) ∧ Below W.heap.size W w') ∧ (∀ W v, RdRow W v m (fun i => f ((i + P.toNat / 4) % m)) → Calls Try.prog 16 #[v, .int .i64 P] W fun e w' => e = .returned (Qv 0 (-Y) X) ∧ Below W.heap.size W w')) := hMT
    have p0 := hf.p0
    have p1 := hf.p1
    have m0 : 0 < m := Nat.pos_of_ne_zero hf.n0
    have e4 : P.tdiv 4 = P / 4 := Int.tdiv_eq_ediv_of_nonneg (by omega)
    clear hS hI hMT hf hb
    go_wp2_with fail
    refine (SC.out _ _ HR.out.1).mono ?_
    rintro e w2 ⟨rfl, b2⟩
    go_upto_region 5 with fail
    obtain ⟨w3, hw3⟩ : ∃ W, W = w2.alloc (.cells #[.int .i64 0, .int .i64 X, .int .i64 Y] 28) := ⟨_, rfl⟩
    have c0 : w3.cell? ⟨w2.heap.size, 0, none⟩ = some (.int .i64 0) := by rw [hw3]; exact (Blk.new rfl).cell (j := 0) rfl
    have b3 : Below w2.heap.size w2 w3 := by rw [hw3]; exact (Below.refl _ _).alloc (Nat.le_refl _) _
    replace HR : Hid (RdRow w3 (.slice ao2 m c2) m f ∧ Below w.heap.size w w3) := ⟨(HR.out.1.later b2).later b3, (HR.out.2.trans (b2.mono HR.out.2.size)).trans (b3.mono (Nat.le_trans HR.out.2.size b2.size))⟩
    rw [← hw3]
    clear hw3 b2 b3 SC
    go_wp2_with fail
    refine (AT.out _ HR.out.2).mono ?_
    rintro e w4 ⟨r, rfl, r0, r1, q, hq⟩
    have r2 := r1 (by decide)
    have b4 : Below w3.heap.size w3 w4 := by rw [hq]; exact below_drewN (Below.refl _ _) q
    replace HR : Hid (RdRow w4 (.slice ao2 m c2) m f ∧ Below w.heap.size w w4) := ⟨HR.out.1.later b4, HR.out.2.trans (b4.mono HR.out.2.size)⟩
    clear hq b4 c0 AT r1
    go_upto_region 10 with fail
    obtain ⟨w5, hw5⟩ : ∃ W, W = (w4.alloc (.cells #[] 2)).alloc (.cells #[] 2) := ⟨_, rfl⟩
    have X5 : Hid (X2 w4.heap.size w4 w5 (.slice (some ⟨w4.heap.size, 0, none⟩) 0 0) (.slice (some ⟨w4.heap.size + 1, 0, none⟩) 0 0) (fun i => f i + (r - 40)) (fun i => f ((i + P.toNat / 4) % m)) 0 0) := by
      have hh : X2 w4.heap.size w4 w5 (.slice (some ⟨w4.heap.size, 0, none⟩) 0 0) (.slice (some ⟨w4.heap.size + 1, 0, none⟩) 0 0) (fun i => f i + (r - 40)) (fun i => f ((i + P.toNat / 4) % m)) 0 0 := by
        rw [hw5]
        refine ⟨(owns_empty w4 2 1).alloc _, ?_, fun q h1 h2 => ?_, ((Below.refl _ _).alloc (Nat.le_refl _) _).alloc (by simp) _, Nat.le_refl _⟩
        · have h9 := owns_empty (w4.alloc (.cells #[] 2)) 2 1
          rw [show (w4.alloc (.cells #[] 2)).heap.size = w4.heap.size + 1 by simp] at h9
          exact owns_low1 h9 (by omega)
        · simp [Value.ownBlock] at h1 h2
          omega
      exact hh
    rw [← hw5]
    clear hw5
    go_wp2_with fail
    go_loopw [7, 8, 10] (fun v7 v8 i wx => ∃ (k : Nat) (a7 a8 : Option Addr) (c7 c8 : Nat), k ≤ m ∧ i = .int .i64 (k : Int) ∧ v7 = .slice a7 k c7 ∧ v8 = .slice a8 k c8 ∧ Hid (X2 w4.heap.size w4 wx v7 v8 (fun i => f i + (r - 40)) (fun i => f ((i + P.toNat / 4) % m)) k k ∧ ∀ i, i < k → -900000000 ≤ f i ∧ f i ≤ 900000000)) (fun _ _ i _ => m - (intOf i).toNat)
    case atStart => exact ⟨0, _, _, _, _, Nat.zero_le _, rfl, rfl, rfl, X5.out, fun i hi => by omega⟩
    case round =>
      obtain ⟨k, a7, a8, c7, c8, hk, rfl, rfl, rfl, XK⟩ := hrel
      clear X5
      have RK : RdRow wr (.slice ao2 m c2) m f := HR.out.1.later XK.out.1.be
      by_cases hkm : k < m
      · obtain ⟨ao3, c3, e3, hcc⟩ := RK.at
        cases e3
        obtain ⟨b, off, rfl, ck⟩ := hcc k hkm
        by_cases lo : f k < -900000000
        · have HO : Hid (Below w.heap.size w wr) := HR.out.2.trans (XK.out.1.be.mono HR.out.2.size)
          clear hcc RK XK HR
          go_wp2
          go_ret
          exact ⟨rfl, HO.out⟩
        by_cases hi : 900000000 < f k
        · have HO : Hid (Below w.heap.size w wr) := HR.out.2.trans (XK.out.1.be.mono HR.out.2.size)
          clear hcc RK XK HR
          go_wp2
          go_ret
          exact ⟨rfl, HO.out⟩
        obtain ⟨j, hjd⟩ : ∃ j, j = (k + P.toNat / 4) % m := ⟨_, rfl⟩
        have hj : j < m := by rw [hjd]; exact Nat.mod_lt _ m0
        have ej : ((k : Int) + P / 4).tmod (m : Int) = (j : Int) := by
          rw [tmod_pos (by omega), show P / 4 = ((P.toNat / 4 : Nat) : Int) by omega, hjd]
          norm_cast
        have HJ : Hid (f j = (fun i => f ((i + P.toNat / 4) % m)) k) := by show f j = f ((k + P.toNat / 4) % m); rw [hjd]
        have mz : ¬ (m : Int) = 0 := by omega
        have z4 : w4.heap.size ≤ wr.heap.size := XK.out.1.be.size
        have jI : (j : Int) < m := by omega
        have H9 : Hid (∀ i, i < k + 1 → -900000000 ≤ f i ∧ f i ≤ 900000000) := fun i hi => by
          by_cases e : i = k
          · subst e; omega
          · exact XK.out.2 i (by omega)
        have OX := XK.out.1.ox
        have OXh : Hid (wr.ownsRow w4.heap.size 2 1 (.slice a7 k c7) k (il (fun i => f i + (r - 40)) k)) := OX
        clear OX hcc RK hjd
        go_wp2_with (first | (at_builtin; refine push_at rfl (.tmp 57) (.tmp 64) 24 rfl 2 (.int .i64 0) 1 8 Try.underlying24 info2 rfl (by decide) (by decide) wr [.int .i64 (f k + (r - 40))] rfl (by intro u hu; simp at hu; subst hu; rfl) w4.heap.size _ k _ (by simp [Act.eval]) OXh.out 1 (by simp [Act.eval]) (by omega) z4 ?_; intro v1 w6 own6 grow6 nn6 ob6; obtain ⟨g7, d7, rfl⟩ := owns_form1 own6; have X6 : Hid (X2 w4.heap.size w4 w6 (.slice (some ⟨g7, 0, none⟩) (k + 1) d7) (.slice a8 k c8) (fun i => f i + (r - 40)) (fun i => f ((i + P.toNat / 4) % m)) (k + 1) k) := XK.out.1.step own6 grow6 ob6; obtain ⟨a9, c9, e9, h9⟩ := (HR.out.1.later X6.out.be).at; cases e9; obtain ⟨b9, o9, e9, cj⟩ := h9 j hj; cases e9; have z6 : w4.heap.size ≤ w6.heap.size := X6.out.be.size; have OYh : Hid (w6.ownsRow w4.heap.size 2 1 (.slice a8 k c8) k (il (fun i => f ((i + P.toNat / 4) % m)) k)) := X6.out.oy; clear own6 grow6 nn6 ob6 h9) | (at_builtin; refine push_at rfl (.tmp 66) (.tmp 76) 24 rfl 2 (.int .i64 0) 1 8 Try.underlying24 info2 rfl (by decide) (by decide) w6 [.int .i64 (f j)] rfl (by intro u hu; simp at hu; subst hu; rfl) w4.heap.size _ k _ (by simp [Act.eval]) OYh.out 1 (by simp [Act.eval]) (by omega) z6 ?_; intro v2 w7 own7 grow7 nn7 ob7; obtain ⟨g8, d8, rfl⟩ := owns_form1 own7; rw [HJ.out] at own7; have X7 : Hid (X2 w4.heap.size w4 w7 (.slice (some ⟨g7, 0, none⟩) (k + 1) d7) (.slice (some ⟨g8, 0, none⟩) (k + 1) d8) (fun i => f i + (r - 40)) (fun i => f ((i + P.toNat / 4) % m)) (k + 1) (k + 1)) := ((X6.out.swap.step own7 grow7 ob7).swap); clear own7 grow7 nn7 ob7))
        exact ⟨⟨k + 1, _, _, _, _, by omega, by simp, rfl, rfl, X7.out, H9.out⟩, by simp [intOf]; omega⟩
      · obtain rfl : k = m := by omega
        obtain ⟨hMo, hTu⟩ := MT.out XK.out.2
        have MO : Hid (∀ W v, RdRow W v k (fun i => f i + (r - 40)) → Calls Try.prog 16 #[v, .int .i64 P] W fun e w' => e = .returned (Qv 0 X Y) ∧ Below W.heap.size W w') := fun W v h => hMo (r - 40) (by omega) (by omega) W v h
        have TU : Hid (∀ W v, RdRow W v k (fun i => f ((i + P.toNat / 4) % k)) → Calls Try.prog 16 #[v, .int .i64 P] W fun e w' => e = .returned (Qv 0 (-Y) X) ∧ Below W.heap.size W w') := hTu
        have RM := (owned_il XK.out.1.ox).rdI
        have RT := (owned_il XK.out.1.oy).rdI
        have HW : Hid (RdRow wr (.slice a7 k c7) k (fun i => f i + (r - 40)) ∧ RdRow wr (.slice a8 k c8) k (fun i => f ((i + P.toNat / 4) % k)) ∧ Below w.heap.size w wr) := ⟨RM, RT, HR.out.2.trans (XK.out.1.be.mono HR.out.2.size)⟩
        have RL : Hid (RdRow wr (.slice ao2 k c2) k f) := RK
        clear RM RT hMo hTu MT XK RK HR
        go_wp2_with fail
        refine (IC.out _ _ RL.out).mono ?_
        rintro e w8 ⟨rfl, b8⟩
        go_upto_region 19 with fail
        obtain ⟨w9, hw9⟩ : ∃ W, W = w8.alloc (.cells #[.int .i64 0, .int .i64 X, .int .i64 Y] 28) := ⟨_, rfl⟩
        have B9 : Hid (Blk w9 w8.heap.size #[.int .i64 0, .int .i64 X, .int .i64 Y] 28) := by show Blk _ _ _ _; rw [hw9]; exact Blk.new rfl
        have b9 : Below w8.heap.size w8 w9 := by rw [hw9]; exact (Below.refl _ _).alloc (Nat.le_refl _) _
        replace HW : Hid (RdRow w9 (.slice a7 k c7) k (fun i => f i + (r - 40)) ∧ RdRow w9 (.slice a8 k c8) k (fun i => f ((i + P.toNat / 4) % k)) ∧ Below w.heap.size w w9) := ⟨(HW.out.1.later b8).later b9, (HW.out.2.1.later b8).later b9, (HW.out.2.2.trans (b8.mono HW.out.2.2.size)).trans (b9.mono (Nat.le_trans HW.out.2.2.size b8.size))⟩
        rw [← hw9]
        clear hw9 b8 b9 RL IC
        have kc0 : ∀ x : Kept w9.heap.size w9, x.w.cell? ⟨w8.heap.size, 0, none⟩ = some (.int .i64 0) := fun x => x.cell B9.out.lt (B9.out.cell (j := 0) rfl)
        have kc1 : ∀ x : Kept w9.heap.size w9, x.w.cell? ⟨w8.heap.size, 1, none⟩ = some (.int .i64 X) := fun x => x.cell B9.out.lt (B9.out.cell (j := 1) rfl)
        have kc2 : ∀ x : Kept w9.heap.size w9, x.w.cell? ⟨w8.heap.size, 2, none⟩ = some (.int .i64 Y) := fun x => x.cell B9.out.lt (B9.out.cell (j := 2) rfl)
        have st := st28
        refine wp_region_kept w9.heap.size (by kernel_rfl) (by kernel_rfl) ?_
        intro hne
        repeat (go_big_quiet_step (first | (go_at_call 16; exact Calls.kept_of (Nat.le_refl _) (MO.out _ _ (HW.out.1.later (Kept.h _))))))
        refine wpQuiet_nil ?_
        rintro x1 ⟨xk, hxk⟩
        have hR1 := xk.h
        rw [← hxk] at hR1
        clear hxk xk hne kc0 kc1 kc2 st MO
        replace B9 : Hid (Blk x1 w8.heap.size #[.int .i64 0, .int .i64 X, .int .i64 Y] 28) := B9.out.later hR1
        replace HW : Hid (RdRow x1 (.slice a8 k c8) k (fun i => f ((i + P.toNat / 4) % k)) ∧ Below w.heap.size w x1) := ⟨HW.out.2.1.later hR1, HW.out.2.2.trans (hR1.mono HW.out.2.2.size)⟩
        clear hR1
        go_wp2_with fail
        refine (TU.out _ _ HW.out.1).mono ?_
        rintro e x2 ⟨rfl, b2⟩
        go_upto_region 22 with fail
        obtain ⟨x3, hx3⟩ : ∃ W, W = x2.alloc (.cells #[.int .i64 0, .int .i64 (-Y), .int .i64 X] 28) := ⟨_, rfl⟩
        have B3 : Blk x3 x2.heap.size #[.int .i64 0, .int .i64 (-Y), .int .i64 X] 28 := by rw [hx3]; exact Blk.new rfl
        have b3 : Below x2.heap.size x2 x3 := by rw [hx3]; exact (Below.refl _ _).alloc (Nat.le_refl _) _
        have B9' := (B9.out.later b2).later b3
        have HO : Hid (Below w.heap.size w x3) := (HW.out.2.trans (b2.mono HW.out.2.size)).trans (b3.mono (Nat.le_trans HW.out.2.size b2.size))
        rw [← hx3]
        have d1 := B3.cell (j := 1) (v := .int .i64 (-Y)) rfl
        have d2 := B3.cell (j := 2) (v := .int .i64 X) rfl
        have e1 := B9'.cell (j := 1) (v := .int .i64 X) rfl
        have e2 := B9'.cell (j := 2) (v := .int .i64 Y) rfl
        clear hx3 b2 b3 B3 B9' B9 HW TU
        go_wp2
        go_ret
        exact ⟨by simp, HO.out⟩

set_option maxRecDepth 100000 in
theorem lifted (os : Os) (started : os.Started) (H : Type) (enc : TypeId × Value → H) :
    ReturnsInHanded {} Try.checked os 3 .any (Rows.fnLocksSpec.pre6 enc Try.prog Try.f3 Rows.fnLocksRow.domain false) (Rows.fnLocksSpec.post enc Try.prog Try.f3 false true false false) := by
  refine returnsInHanded_of_change (C := Try.checked) own started (by kernel_rfl) Try.func3
    (ChangeSpec.witness6 (enc := enc) (C := Try.checked) false ⟨#[], #[.slice none 0 0], []⟩ 8 (by kernel_rfl) (by kernel_rfl) (by kernel_rfl) (by kernel_rfl)) ?_
  intro W base args ds gs before hval0 hW hcnd _
  have hval : ∀ (j : Nat) t v, Try.f3.params[j]? = some t → args[j]? = some v → Value.okWide Try.prog W .any base t v := hval0
  have hW' := hW
  obtain ⟨p, q, hA0, hV, rfl, hfz, hnd⟩ := hW
  have hA : DataW.TrodAll enc Try.prog W 0 (fun _ => true) true Try.f3.params.toList args.toList ds p := hA0
  rw [Try.params3] at hA hval
  obtain ⟨v0, vs0, d0, ds0, p0, q0, hargs, rfl, rfl, h0, r0⟩ := trodAll_cons hA
  obtain ⟨rfl, rfl, rfl⟩ := trodAll_nil r0
  obtain rfl : args = #[v0] := by cases args; simp_all
  obtain ⟨rfl, rfl⟩ := trodVars_none hV
  have k0 := h0
  have lt0 : ∀ x ∈ p0, x.block < W.heap.size := by obtain ⟨m, hm⟩ := k0; exact DataW.trod_lt m _ _ _ hm
  obtain ⟨n0, F0, R0, nb0, fb0⟩ := open_bytes (hval 0 22 v0 rfl rfl) h0
  clear hA0 hval0
  refine (walk R0 nb0 fb0).mono fun e W' ⟨he, bel⟩ => ?_
  subst he
  exact ⟨_, rfl, _, _, _, [], _, [], hW', trodAll_mk1 (shut_bool Try.underlying4 _), (trodAll_cons_mk (Below.trod laidOut (by kernel_rfl) (of_decide_eq_true (by kernel_rfl)) k0 bel lt0) trodAll_mk0), rfl, bel.frame _, fun h => by cases h⟩

theorem over : Rows.fnLocksRow.holds Try.pinned (OpenSpec.ofChange Rows.fnLocksSpec) :=
  OpenClaim.holds_of_wide 3 Try.f3 rfl rfl rfl rfl rfl rfl rfl ⟨rfl, rfl, rfl, rfl, rfl⟩ rfl rfl rfl rfl rfl (by kernel_rfl) Try.func3 (by kernel_rfl)
    (of_decide_eq_true (by kernel_rfl)) (by unfold Func.isWrapper; first | (rw [if_pos (by decide +kernel)]; kernel_rfl) | (rw [if_neg (by decide +kernel)]; exact ⟨rfl, rfl⟩))
    (fun os started H enc _ => lifted os started H enc)
end Go.Proofs.Ytkkajcdjkfbcgaa.LawLocks
namespace Go.Proofs.Ytkkajcdjkfbcgaa
theorem locks_holds : Rows.FnLocksSaid := LawLocks.over
#print axioms locks_holds
end Go.Proofs.Ytkkajcdjkfbcgaa
