/- Echoes undone: the specification. -/
import Derived.Test.YtpkbpikdffbadaaDoorUf
import Derived.Deep.RegionLaw
namespace Go.Proofs.YtpkbpikdffbadaaDoor
open Go.RowKit
set_option linter.unusedVariables false
set_option linter.unusedSimpArgs false
set_option maxRecDepth 20000 in
set_option maxHeartbeats 4000000 in
theorem sUnf_ok {w : World} {vf vg : Value} {n k : Nat} {f g : Nat → Int} (hk : k ≤ 10) (hn : n = 2 ^ k) (hf : RdRow w vf n f) (hg : RdRow w vg n g) :
    Calls Tryd.prog 4 #[vf, vg] w fun e w' => ∃ v, e = .returned (.agg #[.int .i64 (uck k n g), v]) ∧ OutL w' (uck k n g) v n (fun i => uvk k n f g i) ∧ Below w.heap.size w w' := by
  have hpw := Wv.pow10 hk
  rw [← hn] at hpw
  obtain ⟨h0, h1⟩ := hpw
  have RF : Hid (RdRow w vf n f) := hf
  obtain ⟨bf, of, capf, rfl, cf⟩ := hf.get (by omega)
  have RG : Hid (RdRow w vg n g) := hg
  obtain ⟨bg, og, capg, rfl, cg⟩ := hg.get (by omega)
  have HK : Hid (k ≤ 10 ∧ n = 2 ^ k) := ⟨hk, hn⟩
  have HP : Hid (Wv.pf n n = 0) := by show _ = _; have hp : Wv.wf n = 0 := by rw [hn]; exact Wv.wf_of hk
                                      unfold Wv.pf; rw [if_pos hp, if_pos hp, if_pos rfl]
  clear hf cf hg cg hk hn
  have hfl := field24
  obtain ⟨x0, hx0⟩ : ∃ W, W = w.alloc (.cells #[.int .i64 0, .slice none 0 0] 24) := ⟨_, rfl⟩
  have R0 : Hid (Rc w x0) := by rw [hx0]; exact Rc.start w
  go_enter Tryd.func4, Tryd.ntmps4
  go_wp2_with fail
  rw [← hx0]
  clear hx0
  refine Calls.mono (sBoth_any _ _ n n _ _ _) ?_
  rintro e w1 ⟨rfl, hw1⟩
  subst hw1
  rw [HP.out]
  go_wp2_with fail
  refine Calls.mono (sTransform_own HK.out.1 HK.out.2 (RF.out.later R0.out.2.1)) ?_
  rintro e x1 ⟨v1, rfl, ho, hbb⟩
  rcases ho with ⟨h9, _⟩ | ⟨_, gx, capx, rfl, gx1, gx2, hss⟩
  · exact absurd rfl h9
  have R1 : Hid (Rc w x1) := R0.out.later hbb
  have X1 : Hid (Seg x1 gx 2 0 n (fun i => .int .i64 (Wv.ft k f (Rm.rootI k) i))) := hss
  have hgx : w.heap.size + 1 ≤ gx := Nat.le_trans R0.out.2.2 gx1
  clear hss hbb gx1
  go_wp2_with fail
  refine Calls.mono (sTransform_own HK.out.1 HK.out.2 (RG.out.later R1.out.2.1)) ?_
  rintro e x2 ⟨v2, rfl, ho, hbb⟩
  rcases ho with ⟨h9, _⟩ | ⟨_, ge, cape, rfl, ge1, ge2, hss⟩
  · exact absurd rfl h9
  have R2 : Hid (Rc w x2) := R1.out.later hbb
  have X2 : Hid (Seg x2 gx 2 0 n (fun i => .int .i64 (Wv.ft k f (Rm.rootI k) i))) := X1.out.later hbb
  have E2 : Hid (Seg x2 ge 2 0 n (fun i => .int .i64 (Wv.ft k g (Rm.rootI k) i))) := hss
  have hne : gx < ge := by omega
  clear hss hbb X1 R0 R1 gx2 ge1 ge2
  go_wp2_with fail
  go_loopw [8] (fun i wr => ∃ j : Nat, j ≤ n ∧ i = .int .i64 j ∧ Hid (hz (fun i => Wv.ft k g (Rm.rootI k) i) j = false) ∧ Hid (Seg wr gx 2 0 n (fun i => if i < j then .int .i64 (upr k f g i) else .int .i64 (Wv.ft k f (Rm.rootI k) i)) ∧ Seg wr ge 2 0 n (fun i => .int .i64 (Wv.ft k g (Rm.rootI k) i)) ∧ Rc w wr)) (fun i _ => n - (intOf i).toNat)
  case atStart => exact ⟨0, Nat.zero_le _, rfl, rfl, X2.out.congr (fun i _ => by simp), E2.out, R2.out⟩
  case round =>
    obtain ⟨j, hj, rfl, HZ, HS⟩ := hrel
    clear X2 E2 R2
    by_cases hjn : j < n
    · have g1 : wr.cell? ⟨gx, j, none⟩ = some (.int .i64 (Wv.ft k f (Rm.rootI k) j)) := by simpa using HS.out.1.cell hjn
      have g3 : wr.frozen? ⟨gx, j, none⟩ = false := HS.out.1.frozen j
      have g2 : wr.cell? ⟨ge, j, none⟩ = some (.int .i64 (Wv.ft k g (Rm.rootI k) j)) := by simpa using HS.out.2.1.cell hjn
      by_cases h6 : Wv.ft k g (Rm.rootI k) j = 0
      · have HU : Hid (uck k n g = 6) := by show _ = _; unfold uck; rw [hz_at (g := fun i => Wv.ft k g (Rm.rootI k) i) hjn h6]; rfl
        have c0 := HS.out.2.2.c0
        have c1 := HS.out.2.2.c1
        have f0 := HS.out.2.2.fz 0
        have f1 := HS.out.2.2.fz 1
        rw [h6] at g2
        clear h6
        go_wp2
        rw [HU.out]
        exact bodyPost_ret (v := .agg #[.int .i64 6, .slice none 0 0]) (by simp [results, Tryd.results4, go_sem, c0, c1]) rfl ⟨_, rfl, Or.inl ⟨by decide, rfl⟩, (HS.out.2.2.2.1.setCell (by simp) _).setCell (by simp) _⟩
      · have HZ2 : Hid (hz (fun i => Wv.ft k g (Rm.rootI k) i) (j + 1) = false) := by show (hz _ j || decide (_ = 0)) = false; rw [HZ.out]; simp [h6]
        have HU : Hid (upr k f g j = Rm.mulM (Wv.ft k f (Rm.rootI k) j) (Rm.invM (Wv.ft k g (Rm.rootI k) j))) := rfl
        obtain ⟨x, hx⟩ : ∃ x, x = Wv.ft k f (Rm.rootI k) j := ⟨_, rfl⟩
        obtain ⟨y, hy⟩ : ∃ y, y = Wv.ft k g (Rm.rootI k) j := ⟨_, rfl⟩
        rw [← hx] at g1 HU
        rw [← hy] at g2 h6 HU
        clear hx hy
        have h7 : (y == 0) = false := by simp [h6]
        have hji : (j : Int) < n := by omega
        have hnb : ¬ ge = gx := by omega
        have hnb2 : ¬ gx = ge := by omega
        go_wp2_with fail
        go_region_law (first | (go_simp; go_at_call 15; refine Calls.mono (sInv_any _ _) ?_; rintro e w5 ⟨rfl, rfl⟩) | (go_simp; go_at_call 14; refine Calls.mono (sMul_any _ _ _) ?_; rintro e w5 ⟨rfl, rfl⟩))
        all_goals
          go_wp2
          refine ⟨⟨j + 1, by omega, by simp, HZ2, ?_, ?_, ?_⟩, by simp [intOf]; omega⟩
          · have := HS.out.1.set j hjn (.int .i64 (upr k f g j))
            rw [Nat.zero_add, HU.out] at this
            refine this.congr fun i hi => ?_
            by_cases e : i = j
            · subst e; simp [HU.out]
            · by_cases e2 : i < j
              · simp [e, e2, Nat.lt_succ_of_lt e2]
              · simp [e, e2]; intro h; omega
          · exact HS.out.2.1.setOther (by simp; omega) _
          · obtain ⟨r1, r2, r3⟩ := HS.out.2.2
            exact ⟨(Below.heap_setCell _ _ _ _ (by show w.heap.size ≠ gx; omega)).trans r1, (r2.setCell (p := ⟨gx, j, none⟩) (by show w.heap.size ≤ gx; omega) _).drew, by simpa using r3⟩
    · obtain rfl : j = n := by omega
      have HU : Hid (uck k j g = 0) := by show _ = _; unfold uck; rw [HZ.out]; rfl
      have SP : Hid (Seg wr gx 2 0 j (fun i => .int .i64 (upr k f g i))) := HS.out.1.congr fun i hi => by simp [hi]
      have RR : Hid (Rc w wr) := HS.out.2.2
      clear HS HZ
      go_wp2_with fail
      refine Calls.mono (sRestore_own HK.out.1 HK.out.2 SP.out.rd) ?_
      rintro e x3 ⟨v3, rfl, ho, hbb⟩
      rcases ho with ⟨h9, _⟩ | ⟨_, gr, capr, rfl, gr1, gr2, hss⟩
      · exact absurd rfl h9
      have R3 : Hid (Rc w x3) := RR.out.later hbb
      have S3 : Hid (Seg x3 gr 2 0 j (fun i => .int .i64 (uvk k j f g i))) := hss
      have hgr : w.heap.size + 1 ≤ gr := Nat.le_trans RR.out.2.2 gr1
      clear hss hbb SP RR
      have c0 := R3.out.c0
      have c1 := R3.out.c1
      have f0 := R3.out.fz 0
      have f1 := R3.out.fz 1
      go_wp2
      obtain ⟨t1, t2⟩ := R3.out.told (cap := capr) hgr S3.out (.int .i64 0) (.slice (some ⟨gr, 0, none⟩) j capr)
      rw [HU.out]
      exact bodyPost_ret (v := .agg #[.int .i64 0, .slice (some ⟨gr, 0, none⟩) j capr]) (by simp [results, Tryd.results4, go_sem, c0, c1]) rfl ⟨_, rfl, t1.rd, t2⟩
set_option maxHeartbeats 2000000 in
theorem sUnf_any {w : World} {b0 n : Nat} {f : Nat → Int} {b1 m : Nat} {g : Nat → Int} (s0 : Seg w b0 2 0 n (fun i => .int .i64 (f i))) (s1 : Seg w b1 2 0 m (fun i => .int .i64 (g i))) (hn : n ≤ 1000000000000) (hm : m ≤ 1000000000000) :
    Calls Tryd.prog 4 #[.slice (some ⟨b0, 0, none⟩) n n, .slice (some ⟨b1, 0, none⟩) m m] w fun e w' => ∃ v, e = .returned (.agg #[.int .i64 (uc n m g), v]) ∧ OutL w' (uc n m g) v n (fun i => uv n f g i) ∧ Below w.heap.size w w' := by
  by_cases hp : Wv.pf n m = 0
  · obtain ⟨hw, hmn⟩ := Wv.pf_ok hp
    subst hmn
    obtain ⟨k, hk, hn2⟩ := Wv.wf_ok hw
    have hl : (Wv.lgI m).toNat = k := by rw [hn2, Wv.lgI_of k hk]; rfl
    have e1 : uc m m g = uck k m g := by unfold uc; rw [if_pos hp, hl]
    have e2 : ∀ i, uv m f g i = uvk k m f g i := fun i => by unfold uv; rw [hl]
    rw [e1, show (fun i => uv m f g i) = (fun i => uvk k m f g i) from funext e2]
    exact sUnf_ok hk hn2 s0.rd s1.rd
  · have e1 : uc n m g = Wv.pf n m := by unfold uc; rw [if_neg hp]
    rw [e1]
    have A : Hid (∀ w, Calls Tryd.prog 12 #[.slice (some ⟨b0, 0, none⟩) n n, .slice (some ⟨b1, 0, none⟩) m m] w fun e w' => e = .returned (.int .i64 (Wv.pf n m)) ∧ w = w') := fun w => sBoth_any _ _ n m _ _ w
    clear s0 s1 e1
    generalize Wv.pf n m = q at *
    have hc : (q != 0) = true := by rw [bne_iff_ne]; exact hp
    have HC : Hid (q ≠ 0) := hp
    clear hp
    go_enter Tryd.func4, Tryd.ntmps4
    go_wp2_with fail
    refine (A.out _).mono ?_
    rintro e w1 ⟨rfl, rfl⟩
    go_wp2
    refine bodyPost_ret (v := .agg #[.int .i64 q, .slice none 0 0]) (by simp [results, Tryd.results4, go_sem]) rfl ⟨_, rfl, Or.inl ⟨HC.out, rfl⟩, ?_⟩
    go_grown
theorem uc_dim {n m : Nat} {g : Nat → Int} (h : uc n m g = 0) : n ≤ 1000000 := by
  unfold uc at h
  split at h
  · rename_i hp
    have := Wv.wf_le (Wv.pf_ok hp).1
    omega
  · rename_i hp; exact absurd h hp
end Go.Proofs.YtpkbpikdffbadaaDoor
