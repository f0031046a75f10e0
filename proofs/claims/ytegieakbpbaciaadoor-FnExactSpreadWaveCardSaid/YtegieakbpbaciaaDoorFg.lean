/- SpreadWave of both packages: contracts. -/
import Derived.Test.YtegieakbpbaciaaDoorFf
import Derived.Handy
namespace Go.Proofs.YtegieakbpbaciaaDoor
open Go.RowKit
set_option linter.unusedVariables false
theorem rem_twice (a : Int) {n : Int} (hn : 0 < n) : (a.tmod n + n).tmod n = a % n := by
  have h1 := tmod_lo a hn
  have h2 := tmod_hi a hn
  have h3 := tmod_mod a hn
  rw [Int.tmod_eq_emod_of_nonneg (by omega), Int.add_emod_right, ← h3]
  split
  · rw [← Int.add_emod_right]; exact Int.emod_eq_of_lt (by omega) (by omega)
  · exact Int.emod_eq_of_lt (by omega) (by omega)
namespace Wv
/-- The power of the root by which number j is multiplied. -/
def ex (n c j : Nat) : Nat := c * (j * j % n) % n
theorem ex_eq (n c j : Nat) : c * j * j % n = ex n c j := by
  unfold ex
  rw [Nat.mul_assoc, Nat.mul_mod c (j * j), Nat.mul_mod c (j * j % n), Nat.mod_mod]
theorem ex_lt {n c j : Nat} (h : 0 < n) : ex n c j < n := Nat.mod_lt _ h
/-- What goes into the restoring. -/
def sp0 (k n : Nat) (f : Nat → Int) (c j : Nat) : Int := Rm.mulM (ft k f (Rm.rootI k) j) (Rm.powM (Rm.rootI k) (ex n c j))
/-- What is spread. -/
def spr (k n : Nat) (f : Nat → Int) (a : Int) (j : Nat) : Int := Rm.mulM (ft k (sp0 k n f (a % (n : Int)).toNat) (Rm.invM (Rm.rootI k)) j) (Rm.invM (n : Int))
theorem sp0_md (k n : Nat) (f : Nat → Int) (c j : Nat) : Rm.md (sp0 k n f c j) = sp0 k n f c j := Rm.md_id (Rm.mulM_lo _ _) (Rm.mulM_hi _ _)
theorem mul_le3 {a b c N : Nat} (ha : a ≤ N) (hb : b ≤ N) (hc : c ≤ N) : a * b * c ≤ N * N * N := Nat.mul_le_mul (Nat.mul_le_mul ha hb) hc
end Wv
set_option maxHeartbeats 2000000 in
theorem iSpread_ok {w : World} {vf : Value} {n k : Nat} {f : Nat → Int} (hk : k ≤ 10) (hn : n = 2 ^ k) (hf : RdRow w vf n f) (a : Int) (T : Tab w) :
    Calls Tryd.prog 18 #[vf, .int .i64 a] w fun e w' => ∃ v, e = .returned (.agg #[.int .i64 0, v]) ∧ OwnL w.heap.size w'.heap.size w' 0 v n (fun i => Wv.spr k n f a i) ∧ Below w.heap.size w w' := by
  have hpw := Wv.pow10 hk
  rw [← hn] at hpw
  obtain ⟨h0, h1⟩ := hpw
  have hp : Wv.wf n = 0 := by rw [hn]; exact Wv.wf_of hk
  have RF : Hid (RdRow w vf n f) := hf
  obtain ⟨bf, of, capf, rfl, cf⟩ := hf.get (by omega)
  have HK : Hid (k ≤ 10 ∧ n = 2 ^ k) := ⟨hk, hn⟩
  have TW : Hid (Tab w) := T
  have HP : Hid (Wv.wf n = 0) := hp
  clear hf cf T hk hn hp
  go_enter Tryd.func18, Tryd.ntmps18
  go_wp2_with fail
  obtain ⟨x0, hx0⟩ : ∃ W, W = w.alloc (.cells #[.int .i64 0, .slice none 0 0] 24) := ⟨_, rfl⟩
  have R0 : Hid (Rc w x0) := by rw [hx0]; exact Rc.start w
  have T0 : Hid (Tab x0) := TW.out.later R0.out.2.1
  rw [← hx0]
  clear hx0
  refine (iFault_any _ n _ _).mono ?_
  rintro e w1 ⟨rfl, rfl⟩
  rw [HP.out]
  obtain ⟨c, hc⟩ : ∃ c : Nat, (c : Int) = a % (n : Int) := ⟨(a % (n : Int)).toNat, by have := Int.emod_nonneg a (show (n : Int) ≠ 0 by omega); omega⟩
  have hcn : (c : Int) < n := by rw [hc]; exact Int.emod_lt_of_pos _ (by omega)
  have HCc : Hid ((a % (n : Int)).toNat = c) := by show (a % (n : Int)).toNat = c; omega
  have HCa : Hid (a % (n : Int) = (c : Int)) := hc.symm
  have hmk := run_make_row' (P := Tryd.prog) 39 45 (.int .i64 0) 8 Tryd.underlying39 info56 rfl .i64 .i64 n (by omega) (by omega)
  have HMK : Hid (∀ w : World, (Instr.makeSlice 39 (.int .i64 (n : Int)) (.int .i64 (n : Int))).run Tryd.prog w = .ok (.slice (some ⟨w.heap.size, 0, none⟩) n n) (w.alloc (.cells (madeCells #[.int .i64 0] n) 45))) := hmk
  clear hc hmk
  go_wp2_with fail
  refine (modulo_any a n (by omega) (by omega) _).mono ?_
  rintro e wx ⟨rfl, rfl⟩
  rw [HCa.out]
  go_wp2_with fail
  refine (root_n HK.out.1 HK.out.2 _ T0.out).mono ?_
  rintro e x1 ⟨rfl, hbb⟩
  have R1 : Hid (Rc w x1) := R0.out.later hbb
  have T1 : Hid (Tab x1) := T0.out.later hbb
  clear hbb R0 T0
  go_wp2_with fail
  refine (powers_any  (Rm.rootI k) n (by omega) _ ).mono ?_
  rintro e x2 ⟨rfl, hss, hbb, hzz⟩
  clear hzz
  have R2 : Hid (Rc w x2) := R1.out.later hbb
  have T2 : Hid (Tab x2) := T1.out.later hbb
  have P_2 : Hid (Seg x2 x1.heap.size 45 0 n (fun i => .int .i64 (Rm.powM (Rm.rootI k) i))) := hss
  clear hss hbb R1 T1
  have hmk := HMK.out
  go_wp2_with fail
  clear hmk HMK
  have P2 : Hid (∀ W, Below x2.heap.size x2 W → ∀ i, i < n → W.cell? ⟨x1.heap.size, i, none⟩ = some (.int .i64 (Rm.powM (Rm.rootI k) i))) := fun W hb i hi => by
    have := (P_2.out.later hb).cell hi
    rwa [Nat.zero_add] at this
  go_loopw [31] (fun i wr => ∃ j : Nat, j ≤ n ∧ i = .int .i64 j ∧ Hid (Seg wr x2.heap.size 45 0 n (fun i => if i < j then .int .i64 (Rm.powM (Rm.rootI k) (Wv.ex n c i)) else .int .i64 0) ∧ Below x2.heap.size x2 wr)) (fun i _ => n - (intOf i).toNat)
  case atStart => exact ⟨0, Nat.zero_le _, rfl, (seg_made x2 _ n 45).congr (fun i _ => by rw [if_neg (by omega)]), (Below.refl _ _).alloc (Nat.le_refl _) _⟩
  case round =>
    obtain ⟨j, hj, rfl, HS⟩ := hrel
    by_cases hjn : j < n
    · obtain ⟨p, hp⟩ : ∃ p, p = Wv.ex n c j := ⟨_, rfl⟩
      have hpn : p < n := by rw [hp]; exact Wv.ex_lt h0
      have hmul := Wv.mul_le3 (a := c) (b := j) (c := j) (N := 1024) (by omega) (by omega) (by omega)
      have hmul2 : c * j ≤ 1024 * 1024 := Nat.mul_le_mul (by omega) (by omega)
      obtain ⟨s, hs⟩ : ∃ s, s = c * j := ⟨_, rfl⟩
      obtain ⟨t, ht⟩ : ∃ t, t = s * j := ⟨_, rfl⟩
      have hsI : (c : Int) * (j : Int) = (s : Int) := by rw [hs]; simp
      have htI : (s : Int) * (j : Int) = (t : Int) := by rw [ht]; simp
      have hpI : (t : Int) % (n : Int) = (p : Int) := by
        have e : t % n = p := by rw [hp, ← Wv.ex_eq, ht, hs]
        rw [← e]; simp
      have hpT : (t : Int).tmod (n : Int) = (p : Int) := by rw [Int.tmod_eq_emod_of_nonneg (by omega)]; exact hpI
      have hsb : s ≤ 1048576 := by rw [hs]; omega
      have htb : t ≤ 1073741824 := by rw [ht, hs]; omega
      have hnz : ((n : Int) == 0) = false := by rw [beq_eq_false_iff_ne]; omega
      have HPp : Hid (p = Wv.ex n c j) := hp
      have gp : wr.cell? ⟨x1.heap.size, p, none⟩ = some (.int .i64 (Rm.powM (Rm.rootI k) p)) := P2.out _ HS.out.2 p hpn
      have g2 : wr.cell? ⟨x2.heap.size, j, none⟩ = some (.int .i64 0) := by
        have := HS.out.1.cell hjn
        rw [if_neg (by omega), Nat.zero_add] at this
        exact this
      have g3 : wr.frozen? ⟨x2.heap.size, j, none⟩ = false := HS.out.1.frozen j
      clear hp hs ht hmul hmul2
      go_wp2
      go_roundw
      case rel =>
        refine ⟨j + 1, by omega, by simp, ?_, HS.out.2.setCell (Nat.le_refl _) _⟩
        have := HS.out.1.set j hjn (.int .i64 (Rm.powM (Rm.rootI k) p))
        rw [Nat.zero_add] at this
        refine this.congr fun i hi => ?_
        by_cases e : i = j
        · subst e
          rw [if_pos rfl, if_pos (by omega), HPp.out]
        · by_cases e2 : i < j
          · simp [e, e2, Nat.lt_succ_of_lt e2]
          · simp [e, e2]; intro h; omega
      case measure => simp [intOf]; omega
    · obtain rfl : j = n := by omega
      have R3 : Hid (Rc w wr) := R2.out.later HS.out.2
      have T3 : Hid (Tab wr) := T2.out.later HS.out.2
      have K_3 : Hid (Seg wr x2.heap.size 45 0 j (fun i => .int .i64 (Rm.powM (Rm.rootI k) (Wv.ex j c i)))) := HS.out.1.congr fun i hi => by rw [if_pos hi]
      obtain ⟨x3, hx3⟩ : ∃ W, W = wr := ⟨_, rfl⟩
      subst hx3
      clear HS P2 P_2 R2 T2
      go_wp2_with fail
      refine (waveOf_any (RF.out.later R3.out.2.1)  h0 (by omega)).mono ?_
      rintro e x4 ⟨rfl, hss, hbb, hzz⟩
      clear hzz
      have R4 : Hid (Rc w x4) := R3.out.later hbb
      have T4 : Hid (Tab x4) := T3.out.later hbb
      have K_4 : Hid (Seg x4 x2.heap.size 45 0 j (fun i => .int .i64 (Rm.powM (Rm.rootI k) (Wv.ex j c i)))) := K_3.out.later hbb
      clear K_3
      have A_4 : Hid (Seg x4 x3.heap.size 45 0 j (fun i => .int .i64 (Rm.md (f i)))) := hss
      clear hss hbb R3 T3
      go_wp2_with fail
      refine (spectrum_any (f := f) HK.out.1 HK.out.2 A_4.out.rd T4.out).mono ?_
      rintro e x5 ⟨gb, rfl, hgg, hss, hbb⟩
      clear hgg
      have R5 : Hid (Rc w x5) := R4.out.later hbb
      have T5 : Hid (Tab x5) := T4.out.later hbb
      have K_5 : Hid (Seg x5 x2.heap.size 45 0 j (fun i => .int .i64 (Rm.powM (Rm.rootI k) (Wv.ex j c i)))) := K_4.out.later hbb
      clear K_4
      have A_5 : Hid (Seg x5 x3.heap.size 45 0 j (fun i => .int .i64 (Rm.md (f i)))) := A_4.out.later hbb
      clear A_4
      have B_5 : Hid (Seg x5 gb 45 0 j (fun i => .int .i64 (Wv.ft k f (Rm.rootI k) i))) := hss
      clear hss hbb R4 T4
      go_wp2_with fail
      refine (through_any B_5.out.rd K_5.out.rd  h0 (by omega)).mono ?_
      rintro e x6 ⟨rfl, hss, hbb, hzz⟩
      clear hzz
      have R6 : Hid (Rc w x6) := R5.out.later hbb
      have T6 : Hid (Tab x6) := T5.out.later hbb
      have K_6 : Hid (Seg x6 x2.heap.size 45 0 j (fun i => .int .i64 (Rm.powM (Rm.rootI k) (Wv.ex j c i)))) := K_5.out.later hbb
      clear K_5
      have A_6 : Hid (Seg x6 x3.heap.size 45 0 j (fun i => .int .i64 (Rm.md (f i)))) := A_5.out.later hbb
      clear A_5
      have B_6 : Hid (Seg x6 gb 45 0 j (fun i => .int .i64 (Wv.ft k f (Rm.rootI k) i))) := B_5.out.later hbb
      clear B_5
      have D_6 : Hid (Seg x6 x5.heap.size 45 0 j (fun i => .int .i64 (Wv.sp0 k j f c i))) := hss
      clear hss hbb R5 T5
      go_wp2_with fail
      refine (restored_any (f := Wv.sp0 k j f c) HK.out.1 HK.out.2 (D_6.out.rd.congr fun i _ => (Wv.sp0_md k j f c i).symm) T6.out).mono ?_
      rintro e x7 ⟨ge, rfl, hgg, hss, hbb⟩
      clear hgg
      have R7 : Hid (Rc w x7) := R6.out.later hbb
      have T7 : Hid (Tab x7) := T6.out.later hbb
      have K_7 : Hid (Seg x7 x2.heap.size 45 0 j (fun i => .int .i64 (Rm.powM (Rm.rootI k) (Wv.ex j c i)))) := K_6.out.later hbb
      clear K_6
      have A_7 : Hid (Seg x7 x3.heap.size 45 0 j (fun i => .int .i64 (Rm.md (f i)))) := A_6.out.later hbb
      clear A_6
      have B_7 : Hid (Seg x7 gb 45 0 j (fun i => .int .i64 (Wv.ft k f (Rm.rootI k) i))) := B_6.out.later hbb
      clear B_6
      have D_7 : Hid (Seg x7 x5.heap.size 45 0 j (fun i => .int .i64 (Wv.sp0 k j f c i))) := D_6.out.later hbb
      clear D_6
      have E_7 : Hid (Seg x7 ge 45 0 j (fun i => .int .i64 (Rm.mulM (Wv.ft k (Wv.sp0 k j f c) (Rm.invM (Rm.rootI k)) i) (Rm.invM (j : Int))))) := hss
      clear hss hbb R6 T6
      go_wp2_with fail
      refine (tellWave_any E_7.out.rd h0 (by omega)).mono ?_
      rintro e x8 ⟨rfl, hss, hbb, hzz⟩
      have R8 : Hid (Rc w x8) := R7.out.later hbb
      have SS : Hid (Seg x8 (x7.heap.size + 1) 2 0 j (fun i => .int .i64 (Wv.spr k j f a i))) := hss.congr fun i hi => by unfold Wv.spr; rw [HCc.out]
      have zl : w.heap.size + 1 ≤ x7.heap.size := R7.out.2.2
      have c0 := R8.out.c0
      have c1 := R8.out.c1
      have f0 := R8.out.fz 0
      have f1 := R8.out.fz 1
      clear hss hbb hzz
      go_wp2
      exact bodyPost_ret (v := .agg #[.int .i64 0, .slice (some ⟨x7.heap.size + 1, 0, none⟩) j j]) (by simp [results, Tryd.results18, go_sem, c0, c1]) rfl ⟨_, rfl, R8.out.told (by omega) SS.out _ _⟩
set_option maxHeartbeats 2000000 in
theorem iSpread_any {w : World} {b0 n : Nat} {f : Nat → Int} (s0 : Seg w b0 2 0 n (fun i => .int .i64 (f i))) (a : Int) (hn : n ≤ 1000000000000) (T : Tab w) :
    Calls Tryd.prog 18 #[.slice (some ⟨b0, 0, none⟩) n n, .int .i64 a] w fun e w' => ∃ v, e = .returned (.agg #[.int .i64 (Wv.wf n), v]) ∧ OwnL w.heap.size w'.heap.size w' (Wv.wf n) v n (fun i => Wv.spr (Wv.lgI n).toNat n f a i) ∧ Below w.heap.size w w' := by
  by_cases hp : Wv.wf n = 0
  · have hw := hp
    skip
    obtain ⟨k, hk, hn2⟩ := Wv.wf_ok hw
    have hl : Wv.lgI n = (k : Int) := by rw [hn2]; exact Wv.lgI_of k hk
    rw [hp, hl]
    exact iSpread_ok hk hn2 s0.rd a T
  · have A : Hid (∀ w, Calls Tryd.prog 24 #[.slice (some ⟨b0, 0, none⟩) n n] w fun e w' => e = .returned (.int .i64 (Wv.wf n)) ∧ w = w') := fun w => iFault_any _ n _ w
    clear s0
    generalize Wv.wf n = q at *
    have hc : (q != 0) = true := by rw [bne_iff_ne]; exact hp
    have HC : Hid (q ≠ 0) := hp
    clear hp
    go_enter Tryd.func18, Tryd.ntmps18
    go_wp2_with fail
    refine (A.out _).mono ?_
    rintro e w1 ⟨rfl, rfl⟩
    go_wp2
    refine bodyPost_ret (v := .agg #[.int .i64 q, .slice none 0 0]) (by simp [results, Tryd.results18, go_sem]) rfl ⟨_, rfl, Or.inl ⟨HC.out, rfl⟩, ?_⟩
    go_grown
set_option maxHeartbeats 4000000 in
theorem sSpread_ok {w : World} {vf : Value} {n k : Nat} {f : Nat → Int} (hk : k ≤ 10) (hn : n = 2 ^ k) (hf : RdRow w vf n f) (a : Int) :
    Calls Tryd.prog 17 #[vf, .int .i64 a] w fun e w' => ∃ v, e = .returned (.agg #[.int .i64 0, v]) ∧ OutL w' 0 v n (fun i => Wv.spr k n f a i) ∧ Below w.heap.size w w' := by
  have hpw := Wv.pow10 hk
  rw [← hn] at hpw
  obtain ⟨h0, h1⟩ := hpw
  have HP : Hid (Wv.wf n = 0) := by show Wv.wf n = 0; rw [hn]; exact Wv.wf_of hk
  have RF : Hid (RdRow w vf n f) := hf
  obtain ⟨bf, of, capf, rfl, cf⟩ := hf.get (by omega)
  have HK : Hid (k ≤ 10 ∧ n = 2 ^ k) := ⟨hk, hn⟩
  obtain ⟨c, hc⟩ : ∃ c : Nat, (c : Int) = a % (n : Int) := ⟨(a % (n : Int)).toNat, by have := Int.emod_nonneg a (show (n : Int) ≠ 0 by omega); omega⟩
  have hcn : (c : Int) < n := by rw [hc]; exact Int.emod_lt_of_pos _ (by omega)
  have HCc : Hid ((a % (n : Int)).toNat = c) := by show (a % (n : Int)).toNat = c; omega
  have hnz : ((n : Int) == 0) = false := by rw [beq_eq_false_iff_ne]; omega
  have q1 := tmod_lo a (show 0 < (n : Int) by omega)
  have q2 := tmod_hi a (show 0 < (n : Int) by omega)
  have q3 : (a.tmod n + n).tmod n = (c : Int) := by rw [hc]; exact rem_twice a (by omega)
  obtain ⟨G, hG⟩ : ∃ G : Nat → Int, G = Wv.ft k f (Rm.rootI k) := ⟨_, rfl⟩
  have HG : Hid (G = Wv.ft k f (Rm.rootI k)) := hG
  clear hf cf hk hn hc hG
  go_enter Tryd.func17, Tryd.ntmps17
  go_wp2_with fail
  obtain ⟨x0, hx0⟩ : ∃ W, W = w.alloc (.cells #[.int .i64 0, .slice none 0 0] 24) := ⟨_, rfl⟩
  have R0 : Hid (Rc w x0) := by rw [hx0]; exact Rc.start w
  rw [← hx0]
  clear hx0
  refine (sFault_any _ n _ _).mono ?_
  rintro e w1 ⟨rfl, rfl⟩
  rw [HP.out]
  go_wp2_with fail
  refine (sRootOf_any HK.out.1 HK.out.2 _ _ _).mono ?_
  rintro e w1 ⟨rfl, rfl⟩
  clear q1 q2 q3
  go_wp2_with fail
  refine (sum_n HK.out.1 HK.out.2 _ (RF.out.later R0.out.2.1)).mono ?_
  rintro e x1 ⟨g, rfl, hg, hss, hbb⟩
  have R1 : Hid (Rc w x1) := R0.out.later hbb
  have SS : Hid (Seg x1 g 2 0 n (fun i => .int .i64 (G i))) := hss.congr fun i _ => by rw [HG.out]
  have hgw : w.heap.size + 1 ≤ g := Nat.le_trans R0.out.2.2 hg
  clear hss hbb hg R0
  go_wp2_with fail
  go_loopw [8] (fun i wr => ∃ j : Nat, j ≤ n ∧ i = .int .i64 j ∧ Hid (Seg wr g 2 0 n (fun i => if i < j then .int .i64 (Wv.sp0 k n f c i) else .int .i64 (G i)) ∧ Rc w wr)) (fun i _ => n - (intOf i).toNat)
  case atStart => exact ⟨0, Nat.zero_le _, rfl, SS.out.congr (fun i _ => by rw [if_neg (by omega)]), R1.out⟩
  case round =>
    obtain ⟨j, hj, rfl, HS⟩ := hrel
    by_cases hjn : j < n
    · obtain ⟨p, hp⟩ : ∃ p, p = Wv.ex n c j := ⟨_, rfl⟩
      have hpn : p < n := by rw [hp]; exact Wv.ex_lt h0
      obtain ⟨s, hs⟩ : ∃ s, s = j * j := ⟨_, rfl⟩
      obtain ⟨r, hr⟩ : ∃ r, r = s % n := ⟨_, rfl⟩
      obtain ⟨t, ht⟩ : ∃ t, t = c * r := ⟨_, rfl⟩
      have hrn : r < n := by rw [hr]; exact Nat.mod_lt _ (by omega)
      have hsI : (j : Int) * (j : Int) = (s : Int) := by rw [hs]; simp
      have hsb : s ≤ 1048576 := by rw [hs]; have := Nat.mul_le_mul (show j ≤ 1024 by omega) (show j ≤ 1024 by omega); omega
      have hrI : (s : Int).tmod (n : Int) = (r : Int) := by rw [Int.tmod_eq_emod_of_nonneg (by omega), hr]; simp
      have htI : (c : Int) * (r : Int) = (t : Int) := by rw [ht]; simp
      have htb : t ≤ 1048576 := by rw [ht]; have := Nat.mul_le_mul (show c ≤ 1024 by omega) (show r ≤ 1024 by omega); omega
      have hpT : (t : Int).tmod (n : Int) = (p : Int) := by
        have e : t % n = p := by rw [hp, ht, hr, hs]; rfl
        rw [Int.tmod_eq_emod_of_nonneg (by omega), ← e]; simp
      have hrI2 : (s : Int) % (n : Int) = (r : Int) := by rw [hr]; simp
      have hpI2 : (t : Int) % (n : Int) = (p : Int) := by rw [← hpT, Int.tmod_eq_emod_of_nonneg (by omega)]
      have hw1 : IntKind.i64.wrap (s : Int) = (s : Int) := by rw [IntKind.wrap_i64]; omega
      have hw2 : IntKind.i64.wrap (t : Int) = (t : Int) := by rw [IntKind.wrap_i64]; omega
      have hw3 : IntKind.i64.wrap (r : Int) = (r : Int) := by rw [IntKind.wrap_i64]; omega
      have hw4 : IntKind.i64.wrap (p : Int) = (p : Int) := by rw [IntKind.wrap_i64]; omega
      have HPp : Hid (p = Wv.ex n c j) := hp
      have HPW : Hid (Rm.powI (Rm.rootI k) (p : Int) = Rm.powM (Rm.rootI k) p) := Rm.powI_pos p
      have g2 : wr.cell? ⟨g, j, none⟩ = some (.int .i64 (G j)) := by
        have := HS.out.1.cell hjn
        rw [if_neg (by omega), Nat.zero_add] at this
        exact this
      have g3 : wr.frozen? ⟨g, j, none⟩ = false := HS.out.1.frozen j
      clear hp hs hr ht
      go_wp2
      go_region_with (first | (go_at_call 23; refine (sRootOf_any HK.out.1 HK.out.2 _ _ _).mono ?_; rintro e w1 ⟨rfl, rfl⟩) | (go_at_call 32; refine (sPow_any _ _ (by omega) _).mono ?_; rintro e w1 ⟨rfl, rfl⟩; rw [HPW.out]) | (go_at_call 30; refine (sMul_any _ _ _).mono ?_; rintro e w1 ⟨rfl, rfl⟩))
      all_goals
      go_wp2
      go_roundw
      case rel =>
        refine ⟨j + 1, by omega, by simp, ?_, ?_⟩
        · have := HS.out.1.set j hjn (.int .i64 (Rm.mulM (G j) (Rm.powM (Rm.rootI k) p)))
          rw [Nat.zero_add] at this
          refine Seg.drew (this.congr fun i hi => ?_)
          by_cases e : i = j
          · subst e
            rw [if_pos rfl, if_pos (by omega), HPp.out, HG.out]
            rfl
          · by_cases e2 : i < j
            · simp [e, e2, Nat.lt_succ_of_lt e2]
            · simp [e, e2]; intro h; omega
        · obtain ⟨r1, r2, r3⟩ := HS.out.2
          exact ⟨by show (wr.setCell _ _).heap[w.heap.size]? = _; rw [Below.heap_setCell _ _ _ _ (by show w.heap.size ≠ g; omega)]; exact r1, (r2.setCell (by show w.heap.size ≤ g; omega) _).drew, by simpa using r3⟩
      case measure => simp [intOf]; omega
    · obtain rfl : j = n := by omega
      have SF : Hid (RdRow wr (.slice (some ⟨g, 0, none⟩) j j) j (Wv.sp0 k j f c)) := Seg.rd (HS.out.1.congr fun i hi => by rw [if_pos hi])
      have RR : Hid (Rc w wr) := HS.out.2
      clear HS
      go_wp2_with fail
      refine (sRestore_own HK.out.1 HK.out.2 SF.out).mono ?_
      rintro e x2 ⟨rv, rfl, hoo, hbb⟩
      obtain ⟨g2, cap2, e2, hg2, hs2⟩ : ∃ g cap, rv = .slice (some ⟨g, 0, none⟩) j cap ∧ wr.heap.size ≤ g ∧ Seg x2 g 2 0 j (fun i => .int .i64 (Wv.spr k j f a i)) := by
        rcases hoo with ⟨h, _⟩ | ⟨_, g2, cap2, e2, l2, _, hs2⟩
        · exact absurd rfl h
        · exact ⟨g2, cap2, e2, l2, hs2.congr fun i _ => by unfold Wv.spr; rw [HCc.out]⟩
      subst e2
      have R2 : Hid (Rc w x2) := RR.out.later hbb
      have S2 : Hid (Seg x2 g2 2 0 j (fun i => .int .i64 (Wv.spr k j f a i)) ∧ w.heap.size + 1 ≤ g2) := ⟨hs2, Nat.le_trans RR.out.2.2 hg2⟩
      have c0 := R2.out.c0
      have c1 := R2.out.c1
      have f0 := R2.out.fz 0
      have f1 := R2.out.fz 1
      clear hoo hbb hs2 hg2
      go_wp2
      obtain ⟨t1, t2⟩ := R2.out.told (cap := cap2) S2.out.2 S2.out.1 (.int .i64 0) (.slice (some ⟨g2, 0, none⟩) j cap2)
      exact bodyPost_ret (v := .agg #[.int .i64 0, .slice (some ⟨g2, 0, none⟩) j cap2]) (by simp [results, Tryd.results17, go_sem, c0, c1]) rfl ⟨_, rfl, t1.rd, t2⟩
set_option maxHeartbeats 2000000 in
theorem sSpread_any {w : World} {b0 n : Nat} {f : Nat → Int} (s0 : Seg w b0 2 0 n (fun i => .int .i64 (f i))) (a : Int) (hn : n ≤ 1000000000000) :
    Calls Tryd.prog 17 #[.slice (some ⟨b0, 0, none⟩) n n, .int .i64 a] w fun e w' => ∃ v, e = .returned (.agg #[.int .i64 (Wv.wf n), v]) ∧ OutL w' (Wv.wf n) v n (fun i => Wv.spr (Wv.lgI n).toNat n f a i) ∧ Below w.heap.size w w' := by
  by_cases hp : Wv.wf n = 0
  · have hw := hp
    skip
    obtain ⟨k, hk, hn2⟩ := Wv.wf_ok hw
    have hl : Wv.lgI n = (k : Int) := by rw [hn2]; exact Wv.lgI_of k hk
    rw [hp, hl]
    exact sSpread_ok hk hn2 s0.rd a 
  · have A : Hid (∀ w, Calls Tryd.prog 21 #[.slice (some ⟨b0, 0, none⟩) n n] w fun e w' => e = .returned (.int .i64 (Wv.wf n)) ∧ w = w') := fun w => sFault_any _ n _ w
    clear s0
    generalize Wv.wf n = q at *
    have hc : (q != 0) = true := by rw [bne_iff_ne]; exact hp
    have HC : Hid (q ≠ 0) := hp
    clear hp
    go_enter Tryd.func17, Tryd.ntmps17
    go_wp2_with fail
    refine (A.out _).mono ?_
    rintro e w1 ⟨rfl, rfl⟩
    go_wp2
    refine bodyPost_ret (v := .agg #[.int .i64 q, .slice none 0 0]) (by simp [results, Tryd.results17, go_sem]) rfl ⟨_, rfl, Or.inl ⟨HC.out, rfl⟩, ?_⟩
    go_grown
end Go.Proofs.YtegieakbpbaciaaDoor
