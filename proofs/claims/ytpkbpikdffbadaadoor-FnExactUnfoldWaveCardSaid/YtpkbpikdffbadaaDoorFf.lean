/- The program's TransformWave and RestoreWave: contracts. -/
import Derived.Test.YtpkbpikdffbadaaDoorFi
import Derived.Handy
namespace Go.Proofs.YtpkbpikdffbadaaDoor
open Go.RowKit
set_option linter.unusedVariables false
set_option maxHeartbeats 2000000 in
theorem sTransform_ok {w : World} {vf : Value} {n k : Nat} {f : Nat → Int} (hk : k ≤ 10) (hn : n = 2 ^ k) (hf : RdRow w vf n f) :
    Calls Tryd.prog 13 #[vf] w fun e w' => ∃ v, e = .returned (.agg #[.int .i64 0, v]) ∧ OutL w' 0 v n (fun i => Wv.ft k f (Rm.rootI k) i) ∧ Below w.heap.size w w' := by
  have hpw := Wv.pow10 hk
  rw [← hn] at hpw
  obtain ⟨h0, h1⟩ := hpw
  have HP : Hid (Wv.wf n = 0) := by show Wv.wf n = 0; rw [hn]; exact Wv.wf_of hk
  have RF : Hid (RdRow w vf n f) := hf
  obtain ⟨bf, of, capf, rfl, cf⟩ := hf.get (by omega)
  have HK : Hid (k ≤ 10 ∧ n = 2 ^ k) := ⟨hk, hn⟩
  clear hf cf hk hn
  go_enter Tryd.func13, Tryd.ntmps13
  go_wp2_with fail
  obtain ⟨x0, hx0⟩ : ∃ W, W = w.alloc (.cells #[.int .i64 0, .slice none 0 0] 24) := ⟨_, rfl⟩
  have R0 : Hid (Rc w x0) := by rw [hx0]; exact Rc.start w
  rw [← hx0]
  clear hx0
  refine (sFault_any _ n _ _).mono ?_
  rintro e w1 ⟨rfl, rfl⟩
  rw [HP.out]
  go_wp2_with fail
  refine (sRootOf_any HK.out.1 HK.out.2 _ _ _).mono ?_
  rintro e w1 ⟨rfl, rfl⟩
  go_wp2_with fail
  refine (sum_n HK.out.1 HK.out.2 _ (RF.out.later R0.out.2.1)).mono ?_
  rintro e x1 ⟨g, rfl, hg, hss, hbb⟩
  have R1 : Hid (Rc w x1) := R0.out.later hbb
  have SS : Hid (Seg x1 g 2 0 n (fun i => .int .i64 (Wv.ft k f (Rm.rootI k) i)) ∧ w.heap.size + 1 ≤ g) := ⟨hss, Nat.le_trans R0.out.2.2 hg⟩
  have c0 := R1.out.c0
  have c1 := R1.out.c1
  have f0 := R1.out.fz 0
  have f1 := R1.out.fz 1
  clear hss hbb hg
  go_wp2
  obtain ⟨t1, t2⟩ := R1.out.told (cap := n) SS.out.2 SS.out.1 (.int .i64 0) (.slice (some ⟨g, 0, none⟩) n n)
  exact bodyPost_ret (v := .agg #[.int .i64 0, .slice (some ⟨g, 0, none⟩) n n]) (by simp [results, Tryd.results13, go_sem, c0, c1]) rfl ⟨_, rfl, t1.rd, t2⟩
set_option maxHeartbeats 2000000 in
theorem sTransform_any {w : World} {b0 n : Nat} {f : Nat → Int} (s0 : Seg w b0 2 0 n (fun i => .int .i64 (f i))) (hn : n ≤ 1000000000000) :
    Calls Tryd.prog 13 #[.slice (some ⟨b0, 0, none⟩) n n] w fun e w' => ∃ v, e = .returned (.agg #[.int .i64 (Wv.wf n), v]) ∧ OutL w' (Wv.wf n) v n (fun i => Wv.ft (Wv.lgI n).toNat f (Rm.rootI (Wv.lgI n)) i) ∧ Below w.heap.size w w' := by
  by_cases hp : Wv.wf n = 0
  · have hw := hp
    skip
    obtain ⟨k, hk, hn2⟩ := Wv.wf_ok hw
    have hl : Wv.lgI n = (k : Int) := by rw [hn2]; exact Wv.lgI_of k hk
    rw [hp, hl]
    exact sTransform_ok hk hn2 s0.rd 
  · have A : Hid (∀ w, Calls Tryd.prog 26 #[.slice (some ⟨b0, 0, none⟩) n n] w fun e w' => e = .returned (.int .i64 (Wv.wf n)) ∧ w = w') := fun w => sFault_any _ n _ w
    clear s0
    generalize Wv.wf n = q at *
    have hc : (q != 0) = true := by rw [bne_iff_ne]; exact hp
    have HC : Hid (q ≠ 0) := hp
    clear hp
    go_enter Tryd.func13, Tryd.ntmps13
    go_wp2_with fail
    refine (A.out _).mono ?_
    rintro e w1 ⟨rfl, rfl⟩
    go_wp2
    refine bodyPost_ret (v := .agg #[.int .i64 q, .slice none 0 0]) (by simp [results, Tryd.results13, go_sem]) rfl ⟨_, rfl, Or.inl ⟨HC.out, rfl⟩, ?_⟩
    go_grown
set_option maxHeartbeats 2000000 in
theorem sRestore_own {w : World} {vf : Value} {n k : Nat} {f : Nat → Int} (hk : k ≤ 10) (hn : n = 2 ^ k) (hf : RdRow w vf n f) :
    Calls Tryd.prog 16 #[vf] w fun e w' => ∃ v, e = .returned (.agg #[.int .i64 0, v]) ∧ OwnL w.heap.size w'.heap.size w' 0 v n (fun i => Rm.mulM (Wv.ft k f (Rm.invM (Rm.rootI k)) i) (Rm.invM (n : Int))) ∧ Below w.heap.size w w' := by
  have hpw := Wv.pow10 hk
  rw [← hn] at hpw
  obtain ⟨h0, h1⟩ := hpw
  have HP : Hid (Wv.wf n = 0) := by show Wv.wf n = 0; rw [hn]; exact Wv.wf_of hk
  have RF : Hid (RdRow w vf n f) := hf
  obtain ⟨bf, of, capf, rfl, cf⟩ := hf.get (by omega)
  have HK : Hid (k ≤ 10 ∧ n = 2 ^ k) := ⟨hk, hn⟩
  obtain ⟨iv, hiv⟩ : ∃ iv, iv = Rm.invM (n : Int) := ⟨_, rfl⟩
  obtain ⟨G, hG⟩ : ∃ G : Nat → Int, G = Wv.ft k f (Rm.invM (Rm.rootI k)) := ⟨_, rfl⟩
  have HV : Hid (Rm.invM (n : Int) = iv) := hiv.symm
  have HG : Hid (G = Wv.ft k f (Rm.invM (Rm.rootI k))) := hG
  rw [← hiv, ← hG]
  clear hf cf hk hn hiv hG
  go_enter Tryd.func16, Tryd.ntmps16
  go_wp2_with fail
  obtain ⟨x0, hx0⟩ : ∃ W, W = w.alloc (.cells #[.int .i64 0, .slice none 0 0] 24) := ⟨_, rfl⟩
  have R0 : Hid (Rc w x0) := by rw [hx0]; exact Rc.start w
  rw [← hx0]
  clear hx0
  refine (sFault_any _ n _ _).mono ?_
  rintro e w1 ⟨rfl, rfl⟩
  rw [HP.out]
  go_wp2_with fail
  refine (sRootOf_any HK.out.1 HK.out.2 _ _ _).mono ?_
  rintro e w1 ⟨rfl, rfl⟩
  go_wp2_with fail
  refine (sInv_any _ _).mono ?_
  rintro e w1 ⟨rfl, rfl⟩
  go_wp2_with fail
  refine (sum_n HK.out.1 HK.out.2 _ (RF.out.later R0.out.2.1)).mono ?_
  rintro e x1 ⟨g, rfl, hg, hss, hbb⟩
  have R1 : Hid (Rc w x1) := R0.out.later hbb
  have SS : Hid (Seg x1 g 2 0 n (fun i => .int .i64 (G i))) := hss.congr fun i _ => by rw [HG.out]
  have hgw : w.heap.size + 1 ≤ g := Nat.le_trans R0.out.2.2 hg
  clear hss hbb hg R0
  go_wp2_with fail
  refine (sInv_any _ _).mono ?_
  rintro e w1 ⟨rfl, rfl⟩
  rw [HV.out]
  go_wp2_with fail
  go_loopw [6] (fun i wr => ∃ j : Nat, j ≤ n ∧ i = .int .i64 j ∧ Hid (Seg wr g 2 0 n (fun i => if i < j then .int .i64 (Rm.mulM (G i) iv) else .int .i64 (G i)) ∧ Rc w wr)) (fun i _ => n - (intOf i).toNat)
  case atStart => exact ⟨0, Nat.zero_le _, rfl, SS.out.congr (fun i _ => by rw [if_neg (by omega)]), R1.out⟩
  case round =>
    obtain ⟨j, hj, rfl, HS⟩ := hrel
    by_cases hjn : j < n
    · have g2 : wr.cell? ⟨g, j, none⟩ = some (.int .i64 (G j)) := by
        have := HS.out.1.cell hjn
        rw [if_neg (by omega), Nat.zero_add] at this
        exact this
      have g3 : wr.frozen? ⟨g, j, none⟩ = false := HS.out.1.frozen j
      go_wp2_with fail
      refine (sMul_any _ _ _).mono ?_
      rintro e w1 ⟨rfl, rfl⟩
      go_wp2
      go_roundw
      case rel =>
        refine ⟨j + 1, by omega, by simp, ?_, ?_⟩
        · have := HS.out.1.set j hjn (.int .i64 (Rm.mulM (G j) iv))
          rw [Nat.zero_add] at this
          refine this.congr fun i hi => ?_
          by_cases e : i = j
          · subst e; simp
          · by_cases e2 : i < j
            · simp [e, e2, Nat.lt_succ_of_lt e2]
            · simp [e, e2]; intro h; omega
        · obtain ⟨r1, r2, r3⟩ := HS.out.2
          exact ⟨by rw [Below.heap_setCell _ _ _ _ (by show w.heap.size ≠ g; omega)]; exact r1, r2.setCell (by show w.heap.size ≤ g; omega) _, by simpa using r3⟩
      case measure => simp [intOf]; omega
    · obtain rfl : j = n := by omega
      have SF : Hid (Seg wr g 2 0 j (fun i => .int .i64 (Rm.mulM (G i) iv))) := HS.out.1.congr fun i hi => by rw [if_pos hi]
      have RR : Hid (Rc w wr) := HS.out.2
      have c0 := RR.out.c0
      have c1 := RR.out.c1
      have f0 := RR.out.fz 0
      have f1 := RR.out.fz 1
      clear HS
      go_wp2
      obtain ⟨t1, t2⟩ := RR.out.told (cap := j) hgw SF.out (.int .i64 0) (.slice (some ⟨g, 0, none⟩) j j)
      exact bodyPost_ret (v := .agg #[.int .i64 0, .slice (some ⟨g, 0, none⟩) j j]) (by simp [results, Tryd.results16, go_sem, c0, c1]) rfl ⟨_, rfl, t1, t2⟩
theorem sRestore_ok {w : World} {vf : Value} {n k : Nat} {f : Nat → Int} (hk : k ≤ 10) (hn : n = 2 ^ k) (hf : RdRow w vf n f) :
    Calls Tryd.prog 16 #[vf] w fun e w' => ∃ v, e = .returned (.agg #[.int .i64 0, v]) ∧ OutL w' 0 v n (fun i => Rm.mulM (Wv.ft k f (Rm.invM (Rm.rootI k)) i) (Rm.invM (n : Int))) ∧ Below w.heap.size w w' :=
  (sRestore_own hk hn hf).mono fun _ _ ⟨v, e, h, b⟩ => ⟨v, e, h.rd, b⟩
set_option maxHeartbeats 2000000 in
theorem sRestore_any {w : World} {b0 n : Nat} {f : Nat → Int} (s0 : Seg w b0 2 0 n (fun i => .int .i64 (f i))) (hn : n ≤ 1000000000000) :
    Calls Tryd.prog 16 #[.slice (some ⟨b0, 0, none⟩) n n] w fun e w' => ∃ v, e = .returned (.agg #[.int .i64 (Wv.wf n), v]) ∧ OutL w' (Wv.wf n) v n (fun i => Rm.mulM (Wv.ft (Wv.lgI n).toNat f (Rm.invM (Rm.rootI (Wv.lgI n))) i) (Rm.invM (n : Int))) ∧ Below w.heap.size w w' := by
  by_cases hp : Wv.wf n = 0
  · have hw := hp
    skip
    obtain ⟨k, hk, hn2⟩ := Wv.wf_ok hw
    have hl : Wv.lgI n = (k : Int) := by rw [hn2]; exact Wv.lgI_of k hk
    rw [hp, hl]
    exact sRestore_ok hk hn2 s0.rd 
  · have A : Hid (∀ w, Calls Tryd.prog 26 #[.slice (some ⟨b0, 0, none⟩) n n] w fun e w' => e = .returned (.int .i64 (Wv.wf n)) ∧ w = w') := fun w => sFault_any _ n _ w
    clear s0
    generalize Wv.wf n = q at *
    have hc : (q != 0) = true := by rw [bne_iff_ne]; exact hp
    have HC : Hid (q ≠ 0) := hp
    clear hp
    go_enter Tryd.func16, Tryd.ntmps16
    go_wp2_with fail
    refine (A.out _).mono ?_
    rintro e w1 ⟨rfl, rfl⟩
    go_wp2
    refine bodyPost_ret (v := .agg #[.int .i64 q, .slice none 0 0]) (by simp [results, Tryd.results16, go_sem]) rfl ⟨_, rfl, Or.inl ⟨HC.out, rfl⟩, ?_⟩
    go_grown
end Go.Proofs.YtpkbpikdffbadaaDoor
