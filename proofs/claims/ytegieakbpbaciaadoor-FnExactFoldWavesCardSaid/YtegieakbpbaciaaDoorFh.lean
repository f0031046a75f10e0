/- FoldWaves of both packages: contracts. -/
import Derived.Test.YtegieakbpbaciaaDoorFf
import Derived.Test.YtegieakbpbaciaaDoorPs
import Derived.Deep.RegionHeld3
import Derived.Handy
namespace Go.Proofs.YtegieakbpbaciaaDoor
open Go.RowKit
set_option linter.unusedVariables false
set_option maxHeartbeats 2000000 in
theorem iFold_ok {w : World} {vf : Value} {n k : Nat} {f : Nat → Int} {vg : Value} {g : Nat → Int} (hk : k ≤ 10) (hn : n = 2 ^ k) (hf : RdRow w vf n f) (hg : RdRow w vg n g) (T : Tab w) :
    Calls Tryd.prog 20 #[vf, vg] w fun e w' => ∃ v, e = .returned (.agg #[.int .i64 0, v]) ∧ OwnL w.heap.size w'.heap.size w' 0 v n (fun i => Wv.cv n f g i) ∧ Below w.heap.size w w' := by
  have hpw := Wv.pow10 hk
  rw [← hn] at hpw
  obtain ⟨h0, h1⟩ := hpw
  have hp : Wv.wf n = 0 := by rw [hn]; exact Wv.wf_of hk
  have RF : Hid (RdRow w vf n f) := hf
  obtain ⟨bf, of, capf, rfl, cf⟩ := hf.get (by omega)
  have RG : Hid (RdRow w vg n g) := hg
  obtain ⟨bg, og, capg, rfl, cg⟩ := hg.get (by omega)
  clear hg cg
  have HK : Hid (k ≤ 10 ∧ n = 2 ^ k) := ⟨hk, hn⟩
  have TW : Hid (Tab w) := T
  have HP : Hid (Wv.wf n = 0) := hp
  clear hf cf T hk hn hp
  go_enter Tryd.func20, Tryd.ntmps20
  go_wp2_with fail
  obtain ⟨x0, hx0⟩ : ∃ W, W = w.alloc (.cells #[.int .i64 0, .slice none 0 0] 24) := ⟨_, rfl⟩
  have R0 : Hid (Rc w x0) := by rw [hx0]; exact Rc.start w
  have T0 : Hid (Tab x0) := TW.out.later R0.out.2.1
  rw [← hx0]
  clear hx0
  refine (iPair_any _ _ n n _ _ _).mono ?_
  rintro e w1 ⟨rfl, rfl⟩
  rw [show Wv.pf n n = 0 by unfold Wv.pf; rw [if_pos HP.out, if_pos HP.out, if_pos rfl]]
  go_wp2_with fail
  refine (waveOf_any (RF.out.later R0.out.2.1)  h0 (by omega)).mono ?_
  rintro e x1 ⟨rfl, hss, hbb, hzz⟩
  clear hzz
  have R1 : Hid (Rc w x1) := R0.out.later hbb
  have T1 : Hid (Tab x1) := T0.out.later hbb
  have A_1 : Hid (Seg x1 x0.heap.size 45 0 n (fun i => .int .i64 (Rm.md (f i)))) := hss
  clear hss hbb R0 T0
  go_wp2_with fail
  refine (spectrum_any (f := f) HK.out.1 HK.out.2 A_1.out.rd T1.out).mono ?_
  rintro e x2 ⟨gb, rfl, hgg, hss, hbb⟩
  clear hgg
  have R2 : Hid (Rc w x2) := R1.out.later hbb
  have T2 : Hid (Tab x2) := T1.out.later hbb
  have A_2 : Hid (Seg x2 x0.heap.size 45 0 n (fun i => .int .i64 (Rm.md (f i)))) := A_1.out.later hbb
  clear A_1
  have B_2 : Hid (Seg x2 gb 45 0 n (fun i => .int .i64 (Wv.ft k f (Rm.rootI k) i))) := hss
  clear hss hbb R1 T1
  go_wp2_with fail
  refine (waveOf_any (RG.out.later R2.out.2.1)  h0 (by omega)).mono ?_
  rintro e x3 ⟨rfl, hss, hbb, hzz⟩
  clear hzz
  have R3 : Hid (Rc w x3) := R2.out.later hbb
  have T3 : Hid (Tab x3) := T2.out.later hbb
  have A_3 : Hid (Seg x3 x0.heap.size 45 0 n (fun i => .int .i64 (Rm.md (f i)))) := A_2.out.later hbb
  clear A_2
  have B_3 : Hid (Seg x3 gb 45 0 n (fun i => .int .i64 (Wv.ft k f (Rm.rootI k) i))) := B_2.out.later hbb
  clear B_2
  have C_3 : Hid (Seg x3 x2.heap.size 45 0 n (fun i => .int .i64 (Rm.md (g i)))) := hss
  clear hss hbb R2 T2
  go_wp2_with fail
  refine (spectrum_any (f := g) HK.out.1 HK.out.2 C_3.out.rd T3.out).mono ?_
  rintro e x4 ⟨gd, rfl, hgg, hss, hbb⟩
  clear hgg
  have R4 : Hid (Rc w x4) := R3.out.later hbb
  have T4 : Hid (Tab x4) := T3.out.later hbb
  have A_4 : Hid (Seg x4 x0.heap.size 45 0 n (fun i => .int .i64 (Rm.md (f i)))) := A_3.out.later hbb
  clear A_3
  have B_4 : Hid (Seg x4 gb 45 0 n (fun i => .int .i64 (Wv.ft k f (Rm.rootI k) i))) := B_3.out.later hbb
  clear B_3
  have C_4 : Hid (Seg x4 x2.heap.size 45 0 n (fun i => .int .i64 (Rm.md (g i)))) := C_3.out.later hbb
  clear C_3
  have D_4 : Hid (Seg x4 gd 45 0 n (fun i => .int .i64 (Wv.ft k g (Rm.rootI k) i))) := hss
  clear hss hbb R3 T3
  go_wp2_with fail
  refine (through_any B_4.out.rd D_4.out.rd  h0 (by omega)).mono ?_
  rintro e x5 ⟨rfl, hss, hbb, hzz⟩
  clear hzz
  have R5 : Hid (Rc w x5) := R4.out.later hbb
  have T5 : Hid (Tab x5) := T4.out.later hbb
  have A_5 : Hid (Seg x5 x0.heap.size 45 0 n (fun i => .int .i64 (Rm.md (f i)))) := A_4.out.later hbb
  clear A_4
  have B_5 : Hid (Seg x5 gb 45 0 n (fun i => .int .i64 (Wv.ft k f (Rm.rootI k) i))) := B_4.out.later hbb
  clear B_4
  have C_5 : Hid (Seg x5 x2.heap.size 45 0 n (fun i => .int .i64 (Rm.md (g i)))) := C_4.out.later hbb
  clear C_4
  have D_5 : Hid (Seg x5 gd 45 0 n (fun i => .int .i64 (Wv.ft k g (Rm.rootI k) i))) := D_4.out.later hbb
  clear D_4
  have E_5 : Hid (Seg x5 x4.heap.size 45 0 n (fun i => .int .i64 (Rm.mulM (Wv.ft k f (Rm.rootI k) i) (Wv.ft k g (Rm.rootI k) i)))) := hss
  clear hss hbb R4 T4
  go_wp2_with fail
  refine (restored_any (f := fun i => Rm.mulM (Wv.ft k f (Rm.rootI k) i) (Wv.ft k g (Rm.rootI k) i)) HK.out.1 HK.out.2 (E_5.out.rd.congr fun i _ => (Rm.md_id (Rm.mulM_lo _ _) (Rm.mulM_hi _ _)).symm) T5.out).mono ?_
  rintro e x6 ⟨gh, rfl, hgg, hss, hbb⟩
  clear hgg
  have R6 : Hid (Rc w x6) := R5.out.later hbb
  have T6 : Hid (Tab x6) := T5.out.later hbb
  have A_6 : Hid (Seg x6 x0.heap.size 45 0 n (fun i => .int .i64 (Rm.md (f i)))) := A_5.out.later hbb
  clear A_5
  have B_6 : Hid (Seg x6 gb 45 0 n (fun i => .int .i64 (Wv.ft k f (Rm.rootI k) i))) := B_5.out.later hbb
  clear B_5
  have C_6 : Hid (Seg x6 x2.heap.size 45 0 n (fun i => .int .i64 (Rm.md (g i)))) := C_5.out.later hbb
  clear C_5
  have D_6 : Hid (Seg x6 gd 45 0 n (fun i => .int .i64 (Wv.ft k g (Rm.rootI k) i))) := D_5.out.later hbb
  clear D_5
  have E_6 : Hid (Seg x6 x4.heap.size 45 0 n (fun i => .int .i64 (Rm.mulM (Wv.ft k f (Rm.rootI k) i) (Wv.ft k g (Rm.rootI k) i)))) := E_5.out.later hbb
  clear E_5
  have H_6 : Hid (Seg x6 gh 45 0 n (fun i => .int .i64 (Rm.mulM (Wv.ft k (fun i => Rm.mulM (Wv.ft k f (Rm.rootI k) i) (Wv.ft k g (Rm.rootI k) i)) (Rm.invM (Rm.rootI k)) i) (Rm.invM (n : Int))))) := hss
  clear hss hbb R5 T5
  go_wp2_with fail
  refine (tellWave_any H_6.out.rd h0 (by omega)).mono ?_
  rintro e x7 ⟨rfl, hss, hbb, hzz⟩
  have R7 : Hid (Rc w x7) := R6.out.later hbb
  have SS : Hid (Seg x7 (x6.heap.size + 1) 2 0 n (fun i => .int .i64 (Wv.cv n f g i))) := hss.congr fun i hi => by have e := Wv.fold_ok HK.out.1 f g (j := i) (by rw [← HK.out.2]; exact hi); rw [← HK.out.2] at e; rw [e]
  have zl : w.heap.size + 1 ≤ x6.heap.size := R6.out.2.2
  have c0 := R7.out.c0
  have c1 := R7.out.c1
  have f0 := R7.out.fz 0
  have f1 := R7.out.fz 1
  clear hss hbb hzz
  go_wp2
  exact bodyPost_ret (v := .agg #[.int .i64 0, .slice (some ⟨x6.heap.size + 1, 0, none⟩) n n]) (by simp [results, Tryd.results20, go_sem, c0, c1]) rfl ⟨_, rfl, R7.out.told (by omega) SS.out _ _⟩
set_option maxHeartbeats 2000000 in
theorem iFold_any {w : World} {b0 n : Nat} {f : Nat → Int} {b1 m : Nat} {g : Nat → Int} (s0 : Seg w b0 2 0 n (fun i => .int .i64 (f i))) (s1 : Seg w b1 2 0 m (fun i => .int .i64 (g i))) (hn : n ≤ 1000000000000) (hm : m ≤ 1000000000000) (T : Tab w) :
    Calls Tryd.prog 20 #[.slice (some ⟨b0, 0, none⟩) n n, .slice (some ⟨b1, 0, none⟩) m m] w fun e w' => ∃ v, e = .returned (.agg #[.int .i64 (Wv.pf n m), v]) ∧ OwnL w.heap.size w'.heap.size w' (Wv.pf n m) v n (fun i => Wv.cv n f g i) ∧ Below w.heap.size w w' := by
  by_cases hp : Wv.pf n m = 0
  · obtain ⟨hw, hmn⟩ := Wv.pf_ok hp
    subst hmn
    obtain ⟨k, hk, hn2⟩ := Wv.wf_ok hw
    rw [hp]
    exact iFold_ok hk hn2 s0.rd s1.rd T
  · have A : Hid (∀ w, Calls Tryd.prog 40 #[.slice (some ⟨b0, 0, none⟩) n n, .slice (some ⟨b1, 0, none⟩) m m] w fun e w' => e = .returned (.int .i64 (Wv.pf n m)) ∧ w = w') := fun w => iPair_any _ _ n m _ _ w
    clear s0 s1
    generalize Wv.pf n m = q at *
    have hc : (q != 0) = true := by rw [bne_iff_ne]; exact hp
    have HC : Hid (q ≠ 0) := hp
    clear hp
    go_enter Tryd.func20, Tryd.ntmps20
    go_wp2_with fail
    refine (A.out _).mono ?_
    rintro e w1 ⟨rfl, rfl⟩
    go_wp2
    refine bodyPost_ret (v := .agg #[.int .i64 q, .slice none 0 0]) (by simp [results, Tryd.results20, go_sem]) rfl ⟨_, rfl, Or.inl ⟨HC.out, rfl⟩, ?_⟩
    go_grown
set_option maxHeartbeats 2000000 in
theorem sFold_great {w : World} {vf vg : Value} {n k : Nat} {f g : Nat → Int} (hk : k ≤ 10) (hn : n = 2 ^ k) (hf : RdRow w vf n f) (hg : RdRow w vg n g) (hbig : 128 < n) :
    Calls Tryd.prog 19 #[vf, vg] w fun e w' => ∃ v, e = .returned (.agg #[.int .i64 0, v]) ∧ OutL w' 0 v n (fun i => Wv.cv n f g i) ∧ Below w.heap.size w w' := by
  have hpw := Wv.pow10 hk
  rw [← hn] at hpw
  obtain ⟨h0, h1⟩ := hpw
  have HP : Hid (Wv.wf n = 0) := by show Wv.wf n = 0; rw [hn]; exact Wv.wf_of hk
  have PF : Hid (Wv.pf n n = 0) := by show Wv.pf n n = 0; unfold Wv.pf; rw [if_pos HP.out, if_pos HP.out, if_pos rfl]
  have RF : Hid (RdRow w vf n f) := hf
  have RG : Hid (RdRow w vg n g) := hg
  obtain ⟨bf, of, capf, rfl, cf⟩ := hf.get (by omega)
  obtain ⟨bg, og, capg, rfl, cg⟩ := hg.get (by omega)
  have HK : Hid (k ≤ 10 ∧ n = 2 ^ k) := ⟨hk, hn⟩
  clear hf cf hg cg hk hn
  go_enter Tryd.func19, Tryd.ntmps19
  go_wp2_with fail
  obtain ⟨x0, hx0⟩ : ∃ W, W = w.alloc (.cells #[.int .i64 0, .slice none 0 0] 24) := ⟨_, rfl⟩
  have R0 : Hid (Rc w x0) := by rw [hx0]; exact Rc.start w
  rw [← hx0]
  clear hx0
  refine (sBoth_any _ _ n n _ _ _).mono ?_
  rintro e w1 ⟨rfl, rfl⟩
  rw [PF.out]
  go_wp2_with fail
  refine (sRootOf_any HK.out.1 HK.out.2 _ _ _).mono ?_
  rintro e w1 ⟨rfl, rfl⟩
  go_wp2_with fail
  refine (sum_n HK.out.1 HK.out.2 _ (RF.out.later R0.out.2.1)).mono ?_
  rintro e x1 ⟨g1, rfl, hg1, hss, hbb⟩
  have R1 : Hid (Rc w x1) := R0.out.later hbb
  have S1 : Hid (Seg x1 g1 2 0 n (fun i => .int .i64 (Wv.ft k f (Rm.rootI k) i))) := hss
  clear hss hbb hg1 R0
  go_wp2_with fail
  refine (sRootOf_any HK.out.1 HK.out.2 _ _ _).mono ?_
  rintro e w1 ⟨rfl, rfl⟩
  go_wp2_with fail
  refine (sum_n HK.out.1 HK.out.2 _ (RG.out.later R1.out.2.1)).mono ?_
  rintro e x2 ⟨g2, rfl, hg2, hss, hbb⟩
  have R2 : Hid (Rc w x2) := R1.out.later hbb
  have S2 : Hid (Seg x2 g1 2 0 n (fun i => .int .i64 (Wv.ft k f (Rm.rootI k) i))) := S1.out.later hbb
  have V2 : Hid (Seg x2 g2 2 0 n (fun i => .int .i64 (Wv.ft k g (Rm.rootI k) i))) := hss
  clear hss hbb hg2 R1 S1
  go_wp2_with fail
  refine (sPass_ok S2.out.rd V2.out.rd PF.out (by omega) (by omega)).mono ?_
  rintro e x3 ⟨pv, rfl, hoo, hbb⟩
  obtain ⟨pa, pk, pc, epv⟩ : ∃ ao k cap, pv = .slice ao k cap := OutL.shape hoo
  subst epv
  have R3 : Hid (Rc w x3) := R2.out.later hbb
  have O3 : Hid (RdRow x3 (.slice pa pk pc) n (fun i => Rm.mulM (Wv.ft k f (Rm.rootI k) i) (Wv.ft k g (Rm.rootI k) i))) := by
    rcases hoo with ⟨h, _⟩ | ⟨_, h⟩
    · exact absurd rfl h
    · exact h
  clear hoo hbb R2 S2 V2
  have hfd : ∀ w : World, (Instr.field 24 (.agg #[.int .i64 0, .slice pa pk pc]) 1).run Tryd.prog w = .ok (.slice pa pk pc) w := fun _ => by kernel_rfl
  go_wp2_with fail
  clear hfd
  refine (sRestore_own HK.out.1 HK.out.2 O3.out).mono ?_
  rintro e x4 ⟨rv, rfl, hoo, hbb⟩
  obtain ⟨g4, cap4, e4, hg4, hs4⟩ : ∃ g' cap, rv = .slice (some ⟨g', 0, none⟩) n cap ∧ x3.heap.size ≤ g' ∧ Seg x4 g' 2 0 n (fun i => .int .i64 (Wv.cv n f g i)) := by
    rcases hoo with ⟨h, _⟩ | ⟨_, g2, cap2, e2, l2, _, hs2⟩
    · exact absurd rfl h
    · exact ⟨g2, cap2, e2, l2, hs2.congr fun i hi => by have e := Wv.fold_ok HK.out.1 f g (j := i) (by rw [← HK.out.2]; exact hi); rw [← HK.out.2] at e; exact congrArg (Value.int .i64) e⟩
  subst e4
  have R4 : Hid (Rc w x4) := R3.out.later hbb
  have S4 : Hid (Seg x4 g4 2 0 n (fun i => .int .i64 (Wv.cv n f g i)) ∧ w.heap.size + 1 ≤ g4) := ⟨hs4, Nat.le_trans R3.out.2.2 hg4⟩
  have c0 := R4.out.c0
  have c1 := R4.out.c1
  have f0 := R4.out.fz 0
  have f1 := R4.out.fz 1
  clear hoo hbb hs4 hg4
  go_wp2
  obtain ⟨t1, t2⟩ := R4.out.told (cap := cap4) S4.out.2 S4.out.1 (.int .i64 0) (.slice (some ⟨g4, 0, none⟩) n cap4)
  exact bodyPost_ret (v := .agg #[.int .i64 0, .slice (some ⟨g4, 0, none⟩) n cap4]) (by simp [results, Tryd.results19, go_sem, c0, c1]) rfl ⟨_, rfl, t1.rd, t2⟩
set_option maxHeartbeats 4000000 in
theorem sFold_small {w : World} {vf vg : Value} {n k : Nat} {f g : Nat → Int} (hk : k ≤ 10) (hn : n = 2 ^ k) (hf : RdRow w vf n f) (hg : RdRow w vg n g) (hbig : ¬128 < n) :
    Calls Tryd.prog 19 #[vf, vg] w fun e w' => ∃ v, e = .returned (.agg #[.int .i64 0, v]) ∧ OutL w' 0 v n (fun i => Wv.cv n f g i) ∧ Below w.heap.size w w' := by
  have hpw := Wv.pow10 hk
  rw [← hn] at hpw
  obtain ⟨h0, h1⟩ := hpw
  have hb1 : n ≤ 128 := by omega
  have HP : Hid (Wv.wf n = 0) := by show Wv.wf n = 0; rw [hn]; exact Wv.wf_of hk
  have PF : Hid (Wv.pf n n = 0) := by show Wv.pf n n = 0; unfold Wv.pf; rw [if_pos HP.out, if_pos HP.out, if_pos rfl]
  obtain ⟨bf, of, capf, rfl, cf⟩ := hf.get (by omega)
  obtain ⟨bg, og, capg, rfl, cg⟩ := hg.get (by omega)
  have CF : Hid (∀ W, Below w.heap.size w W → ∀ i, i < n → W.cell? ⟨bf, of + i, none⟩ = some (.int .i64 (f i))) := fun W hb i hi => (hb.cell (World.block_lt_of_cell? _ _ (cf i hi))).trans (cf i hi)
  have CG : Hid (∀ W, Below w.heap.size w W → ∀ i, i < n → W.cell? ⟨bg, og + i, none⟩ = some (.int .i64 (g i))) := fun W hb i hi => (hb.cell (World.block_lt_of_cell? _ _ (cg i hi))).trans (cg i hi)
  have hnz : ((n : Int) == 0) = false := by rw [beq_eq_false_iff_ne]; omega
  clear hf cf hg cg hk hn hbig
  go_enter Tryd.func19, Tryd.ntmps19
  go_wp2_with fail
  refine (sBoth_any _ _ n n _ _ _).mono ?_
  rintro e w1 ⟨rfl, rfl⟩
  rw [PF.out]
  go_wp2_with fail
  go_loopw [9, 10] (fun v i wr => ∃ j : Nat, j ≤ n ∧ i = .int .i64 j ∧ Hid (Bd w wr v j (fun j => Wv.cs f g n j n))) (fun _ i _ => n - (intOf i).toNat)
  case atStart => exact ⟨0, Nat.zero_le _, rfl, Bd.start w _⟩
  case round =>
    obtain ⟨j, hj, rfl, HB⟩ := hrel
    by_cases hjn : j < n
    · go_wp2_with fail
      go_loopw [11, 12] (fun s i wi => ∃ m : Nat, m ≤ n ∧ i = .int .i64 m ∧ s = .int .i64 (Wv.cs f g n j m) ∧ Hid (Bd w wi u9 j (fun j => Wv.cs f g n j n))) (fun _ i _ => n - (intOf i).toNat)
      case atStart => exact ⟨0, Nat.zero_le _, rfl, rfl, HB⟩
      case round =>
        clear HB
        obtain ⟨m, hm, rfl, rfl, HB⟩ := hrel
        by_cases hmn : m < n
        · obtain ⟨p, hp⟩ : ∃ p, p = (j + n - m) % n := ⟨_, rfl⟩
          have hpn : p < n := by rw [hp]; exact Nat.mod_lt _ (by omega)
          have hpI : ((j : Int) - (m : Int) + (n : Int)) % (n : Int) = (p : Int) := by
            rw [hp, show (j : Int) - m + n = ((j + n - m : Nat) : Int) by omega]; simp
          have hpT : ((j : Int) - (m : Int) + (n : Int)).tmod (n : Int) = (p : Int) := by rw [Int.tmod_eq_emod_of_nonneg (by omega)]; exact hpI
          have hw1 : IntKind.i64.wrap ((j : Int) - (m : Int)) = (j : Int) - (m : Int) := by rw [IntKind.wrap_i64]; omega
          have hw2 : IntKind.i64.wrap ((j : Int) - (m : Int) + (n : Int)) = (j : Int) - (m : Int) + (n : Int) := by rw [IntKind.wrap_i64]; omega
          have hw3 : IntKind.i64.wrap (p : Int) = (p : Int) := by rw [IntKind.wrap_i64]; omega
          have hn1 : ¬ ((n : Int) = 0) := by omega
          have hn2 : ¬ (n = 0) := by omega
          have hw4 : IntKind.i64.wrap (((j : Int) - (m : Int) + (n : Int)).tmod (n : Int)) = (p : Int) := by rw [hpT]; exact hw3
          have hp0 : (0 : Int) ≤ (p : Int) := by omega
          have hpz : (p : Int) < (n : Int) := by omega
          have kf : ∀ W, Below w.heap.size w W → W.cell? ⟨bf, of + m, none⟩ = some (.int .i64 (f m)) := fun W hb => CF.out W hb m hmn
          have kg : ∀ W, Below w.heap.size w W → W.cell? ⟨bg, og + p, none⟩ = some (.int .i64 (g p)) := fun W hb => CG.out W hb p hpn
          have hb0 : Below w.heap.size w wr := HB.out.below
          have hz0 : w.heap.size ≤ wr.heap.size := hb0.size
          have HC : Hid (Wv.cs f g n j (m + 1) = Rm.addM (Wv.cs f g n j m) (Rm.mulM (f m) (g p))) := by show Wv.cs f g n j (m + 1) = _; rw [Wv.cs, ← hp]
          obtain ⟨sv, hsv⟩ : ∃ s, s = Wv.cs f g n j m := ⟨_, rfl⟩
          rw [← hsv] at HC ⊢
          clear hp hsv
          go_wp2
          go_region_held3 (fun W => Below w.heap.size w W) (go_grown) (first | (go_at_call 30; refine (sMul_any _ _ _).mono ?_; rintro e w1 ⟨rfl, rfl⟩) | (go_at_call 39; refine (sAdd_any _ _ _).mono ?_; rintro e w1 ⟨rfl, rfl⟩))
          rw [← HC.out]
          clear kf kg
          go_wp2
          go_roundw
          case rel => exact ⟨m + 1, by omega, by simp, rfl, HB.out.later ((Below.refl _ _).drew)⟩
          case measure => simp [intOf]; omega
        · obtain rfl : m = n := by omega
          have O1 : Hid (wr.ownsRow (w.heap.size + 1) 2 1 u9 j (il (fun j => Wv.cs f g m j m) j)) := HB.out.own
          have Z1 : w.heap.size + 1 ≤ wr.heap.size := HB.out.lt
          have hjI : j ≤ 1000000 := by omega
          obtain ⟨sv, hsv⟩ : ∃ s, s = Wv.cs f g m j m := ⟨_, rfl⟩
          have HSV : Hid (sv = Wv.cs f g m j m) := hsv
          rw [← hsv]
          clear hsv CF CG
          go_wp2_with (first | (at_builtin; refine push_law rfl (.tmp 65) (.tmp 67) 22 rfl 2 (.int .i64 0) 8 Tryd.underlying22 info2 rfl (by decide) wr (.int .i64 sv) rfl (w.heap.size + 1) u9 j _ rfl O1.out 1 rfl hjI Z1 ?_; intro v1 w3 own3 grow3))
          have HB3 : Hid (Bd w w3 v1 (j + 1) (fun j => Wv.cs f g m j m)) := HB.out.push (by rw [HSV.out]) own3 grow3
          clear own3 grow3 HB O1 Z1
          go_wp2
          go_roundw
          case rel => exact ⟨j + 1, by omega, by simp, HB3⟩
          case measure => simp [intOf]; omega
    · obtain rfl : j = n := by omega
      have c0 := HB.out.c0
      have c1 := HB.out.c1
      have f0 := HB.out.fz 0
      have f1 := HB.out.fz 1
      obtain ⟨x1, x2, hx⟩ : ∃ x1 x2, u9 = .slice (some ⟨x1, 0, none⟩) j x2 := by
        obtain ⟨gq, cq, e | e⟩ := HB.out.shape
        · exact ⟨gq, cq, e⟩
        · omega
      subst hx
      clear CF CG
      go_wp2
      obtain ⟨t1, t2⟩ := HB.out.told h0 (.int .i64 0) (.slice (some ⟨x1, 0, none⟩) j x2)
      have t3 : OutL ((wr.setCell ⟨w.heap.size, 0, none⟩ (.int .i64 0)).setCell ⟨w.heap.size, 1, none⟩ (.slice (some ⟨x1, 0, none⟩) j x2)) 0 (.slice (some ⟨x1, 0, none⟩) j x2) j (fun i => Wv.cv j f g i) := by
        rcases t1 with ⟨h, _⟩ | ⟨h, r⟩
        · exact absurd rfl h
        · exact Or.inr ⟨h, r.congr fun i _ => Wv.cs_cv f g j i⟩
      exact bodyPost_ret (v := .agg #[.int .i64 0, .slice (some ⟨x1, 0, none⟩) j x2]) (by simp [results, Tryd.results19, go_sem, c0, c1]) rfl ⟨_, rfl, t3, t2⟩
theorem sFold_ok {w : World} {vf vg : Value} {n k : Nat} {f g : Nat → Int} (hk : k ≤ 10) (hn : n = 2 ^ k) (hf : RdRow w vf n f) (hg : RdRow w vg n g) :
    Calls Tryd.prog 19 #[vf, vg] w fun e w' => ∃ v, e = .returned (.agg #[.int .i64 0, v]) ∧ OutL w' 0 v n (fun i => Wv.cv n f g i) ∧ Below w.heap.size w w' := by
  by_cases h : 128 < n
  · exact sFold_great hk hn hf hg h
  · exact sFold_small hk hn hf hg h
set_option maxHeartbeats 2000000 in
theorem sFold_any {w : World} {b0 n : Nat} {f : Nat → Int} {b1 m : Nat} {g : Nat → Int} (s0 : Seg w b0 2 0 n (fun i => .int .i64 (f i))) (s1 : Seg w b1 2 0 m (fun i => .int .i64 (g i))) (hn : n ≤ 1000000000000) (hm : m ≤ 1000000000000) :
    Calls Tryd.prog 19 #[.slice (some ⟨b0, 0, none⟩) n n, .slice (some ⟨b1, 0, none⟩) m m] w fun e w' => ∃ v, e = .returned (.agg #[.int .i64 (Wv.pf n m), v]) ∧ OutL w' (Wv.pf n m) v n (fun i => Wv.cv n f g i) ∧ Below w.heap.size w w' := by
  by_cases hp : Wv.pf n m = 0
  · obtain ⟨hw, hmn⟩ := Wv.pf_ok hp
    subst hmn
    obtain ⟨k, hk, hn2⟩ := Wv.wf_ok hw
    rw [hp]
    exact sFold_ok hk hn2 s0.rd s1.rd 
  · have A : Hid (∀ w, Calls Tryd.prog 37 #[.slice (some ⟨b0, 0, none⟩) n n, .slice (some ⟨b1, 0, none⟩) m m] w fun e w' => e = .returned (.int .i64 (Wv.pf n m)) ∧ w = w') := fun w => sBoth_any _ _ n m _ _ w
    clear s0 s1
    generalize Wv.pf n m = q at *
    have hc : (q != 0) = true := by rw [bne_iff_ne]; exact hp
    have HC : Hid (q ≠ 0) := hp
    clear hp
    go_enter Tryd.func19, Tryd.ntmps19
    go_wp2_with fail
    refine (A.out _).mono ?_
    rintro e w1 ⟨rfl, rfl⟩
    go_wp2
    refine bodyPost_ret (v := .agg #[.int .i64 q, .slice none 0 0]) (by simp [results, Tryd.results19, go_sem]) rfl ⟨_, rfl, Or.inl ⟨HC.out, rfl⟩, ?_⟩
    go_grown
end Go.Proofs.YtegieakbpbaciaaDoor
