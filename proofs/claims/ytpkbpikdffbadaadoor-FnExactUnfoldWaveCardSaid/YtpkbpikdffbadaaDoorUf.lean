/- Echoes undone: both packages. -/
import Derived.Test.YtpkbpikdffbadaaDoorFf
import Derived.Deep.RegionHeld3
import Derived.Handy
namespace Go.Proofs.YtpkbpikdffbadaaDoor
open Go.RowKit
set_option linter.unusedVariables false
set_option linter.unusedSimpArgs false
set_option maxHeartbeats 2000000 in
theorem sTransform_own {w : World} {vf : Value} {n k : Nat} {f : Nat → Int} (hk : k ≤ 10) (hn : n = 2 ^ k) (hf : RdRow w vf n f) :
    Calls Tryd.prog 13 #[vf] w fun e w' => ∃ v, e = .returned (.agg #[.int .i64 0, v]) ∧ OwnL w.heap.size w'.heap.size w' 0 v n (fun i => Wv.ft k f (Rm.rootI k) i) ∧ Below w.heap.size w w' := by
  have hpw := Wv.pow10 hk
  rw [← hn] at hpw
  obtain ⟨h0, h1⟩ := hpw
  have HP : Hid (Wv.wf n = 0) := by show Wv.wf n = 0; rw [hn]; exact Wv.wf_of hk
  have RF : Hid (RdRow w vf n f) := hf
  obtain ⟨bf, of, capf, rfl, cf⟩ := hf.get (by omega)
  have HK : Hid (k ≤ 10 ∧ n = 2 ^ k) := ⟨hk, hn⟩
  clear hf cf hk hn
  go_enter Tryd.func13, Tryd.ntmps13
  go_wp2_with fail
  obtain ⟨x0, hx0⟩ : ∃ W, W = w.alloc (.cells #[.int .i64 0, .slice none 0 0] 24) := ⟨_, rfl⟩
  have R0 : Hid (Rc w x0) := by rw [hx0]; exact Rc.start w
  rw [← hx0]
  clear hx0
  refine (sFault_any _ n _ _).mono ?_
  rintro e w1 ⟨rfl, rfl⟩
  rw [HP.out]
  go_wp2_with fail
  refine (sRootOf_any HK.out.1 HK.out.2 _ _ _).mono ?_
  rintro e w1 ⟨rfl, rfl⟩
  go_wp2_with fail
  refine (sum_n HK.out.1 HK.out.2 _ (RF.out.later R0.out.2.1)).mono ?_
  rintro e x1 ⟨g, rfl, hg, hss, hbb⟩
  have R1 : Hid (Rc w x1) := R0.out.later hbb
  have SS : Hid (Seg x1 g 2 0 n (fun i => .int .i64 (Wv.ft k f (Rm.rootI k) i)) ∧ w.heap.size + 1 ≤ g) := ⟨hss, Nat.le_trans R0.out.2.2 hg⟩
  have c0 := R1.out.c0
  have c1 := R1.out.c1
  have f0 := R1.out.fz 0
  have f1 := R1.out.fz 1
  clear hss hbb hg
  go_wp2
  obtain ⟨t1, t2⟩ := R1.out.told (cap := n) SS.out.2 SS.out.1 (.int .i64 0) (.slice (some ⟨g, 0, none⟩) n n)
  exact bodyPost_ret (v := .agg #[.int .i64 0, .slice (some ⟨g, 0, none⟩) n n]) (by simp [results, Tryd.results13, go_sem, c0, c1]) rfl ⟨_, rfl, t1, t2⟩

/-- One of the first k numbers is 0. -/
def hz (g : Nat → Int) : Nat → Bool
  | 0 => false
  | k + 1 => hz g k || decide (g k = 0)
theorem hz_at {g : Nat → Int} {k n : Nat} (hk : k < n) (h : g k = 0) : hz g n = true := by
  induction n with
  | zero => omega
  | succ n ih =>
    show (hz g n || decide (g n = 0)) = true
    by_cases e : k = n
    · subst e; simp [h]
    · rw [ih (by omega)]; rfl
/-- The transform, its numbers by those of the echo's, and what comes back. -/
def upr (k : Nat) (f g : Nat → Int) (j : Nat) : Int := Rm.mulM (Wv.ft k f (Rm.rootI k) j) (Rm.invM (Wv.ft k g (Rm.rootI k) j))
def uvk (k n : Nat) (f g : Nat → Int) (i : Nat) : Int := Rm.mulM (Wv.ft k (upr k f g) (Rm.invM (Rm.rootI k)) i) (Rm.invM (n : Int))
def uv (n : Nat) (f g : Nat → Int) (i : Nat) : Int := uvk (Wv.lgI n).toNat n f g i
def uck (k n : Nat) (g : Nat → Int) : Int := if hz (fun j => Wv.ft k g (Rm.rootI k) j) n = true then 6 else 0
def uc (n m : Nat) (g : Nat → Int) : Int := if Wv.pf n m = 0 then uck (Wv.lgI n).toNat n g else Wv.pf n m
theorem field24 (a b : Value) (w : World) : (Instr.field 24 (.agg #[a, b]) 1).run Tryd.prog w = .ok b w := by kernel_rfl
set_option maxHeartbeats 1600000 in
theorem index_any {w : World} {b n cap : Nat} {g : Nat → Int} (hs : Seg w b 40 0 n (fun i => .int .i64 (g i))) (hn : n ≤ 1000000) :
    Calls Tryd.prog 36 #[.slice (some ⟨b, 0, none⟩) n cap, .int .i64 0] w fun e w' => ∃ q : Int, e = .returned (.int .i64 q) ∧ Hid (decide (0 ≤ q) = hz g n) ∧ w' = w := by
  have HS : Hid (Seg w b 40 0 n (fun i => .int .i64 (g i))) := hs
  clear hs
  go_enter Tryd.func36, Tryd.ntmps36
  go_wp2_with fail
  go_loopw [8] (fun i wr => ∃ k : Nat, k ≤ n ∧ i = .int .i64 k ∧ Hid (hz g k = false) ∧ wr = w) (fun i _ => n - (intOf i).toNat)
  case atStart => exact ⟨0, Nat.zero_le _, rfl, rfl, rfl⟩
  case round =>
    obtain ⟨k, hk, rfl, HZ, rfl⟩ := hrel
    by_cases hkn : k < n
    · have g1 : wr.cell? ⟨b, k, none⟩ = some (.int .i64 (g k)) := by simpa using HS.out.cell hkn
      by_cases h0 : g k = 0
      · have HH : Hid (hz g n = true) := hz_at hkn h0
        rw [h0] at g1
        clear h0
        go_wp2
        go_ret
        exact ⟨_, rfl, by show _ = _; rw [HH.out]; simp, rfl⟩
      · have HH : Hid (hz g (k + 1) = false) := by show (hz g k || decide (g k = 0)) = false; rw [HZ.out]; simp [h0]
        have h1 : ((0 : Int) == g k) = false := by simp; exact fun h => h0 h.symm
        have h2 : ¬ (0 : Int) = g k := fun h => h0 h.symm
        go_wp2
        go_roundw
        case rel => exact ⟨k + 1, by omega, by simp, HH, by first | rfl | trivial⟩
        case measure => simp [intOf]; omega
    · obtain rfl : k = n := by omega
      go_wp2
      go_ret
      exact ⟨-1, rfl, by show _ = _; rw [HZ.out]; simp, rfl⟩
theorem contains_any {w : World} {b n cap : Nat} {g : Nat → Int} (hs : Seg w b 40 0 n (fun i => .int .i64 (g i))) (hn : n ≤ 1000000) :
    Calls Tryd.prog 20 #[.slice (some ⟨b, 0, none⟩) n cap, .int .i64 0] w fun e w' => e = .returned (.bool (hz g n)) ∧ w' = w := by
  have HC : Hid _ := index_any (cap := cap) hs hn
  clear hs
  go_enter Tryd.func20, Tryd.ntmps20
  go_wp2_with fail
  refine Calls.mono HC.out ?_
  rintro e w1 ⟨q, rfl, hq, rfl⟩
  have hq2 := hq.out
  go_wp2
  go_ret
  exact ⟨by rw [← hq2]; rfl, rfl⟩
set_option maxHeartbeats 1600000 in
theorem inverses_any {w : World} {b n cap : Nat} {g : Nat → Int} (hs : Seg w b 40 0 n (fun i => .int .i64 (g i))) (hn : n ≤ 1000000) :
    Calls Tryd.prog 24 #[.slice (some ⟨b, 0, none⟩) n cap] w fun e w' => e = .returned (.slice (some ⟨w.heap.size, 0, none⟩) n n) ∧ Seg w' w.heap.size 40 0 n (fun i => .int .i64 (Rm.invM (g i))) ∧ Below w.heap.size w w' := by
  have HS : Hid (Seg w b 40 0 n (fun i => .int .i64 (g i))) := hs
  have hmk := run_make_row' (P := Tryd.prog) 36 40 (.int .i64 0) 8 Tryd.underlying36 info56 rfl .i64 .i64 n (by omega) (by omega)
  clear hs
  go_enter Tryd.func24, Tryd.ntmps24
  go_wp2_with fail
  clear hmk
  go_loopw [10] (fun i wr => ∃ k : Nat, k ≤ n ∧ i = .int .i64 k ∧ Hid (Seg wr w.heap.size 40 0 n (fun j => if j < k then .int .i64 (Rm.invM (g j)) else .int .i64 0) ∧ Below w.heap.size w wr)) (fun i _ => n - (intOf i).toNat)
  case atStart => exact ⟨0, Nat.zero_le _, rfl, (seg_made w _ n 40).congr (fun j _ => by simp), (Below.refl _ _).alloc (Nat.le_refl _) _⟩
  case round =>
    obtain ⟨k, hk, rfl, HB⟩ := hrel
    by_cases hkn : k < n
    · have c0 := HS.out.cell hkn
      have g1 : wr.cell? ⟨b, k, none⟩ = some (.int .i64 (g k)) := by
        rw [Nat.zero_add] at c0
        exact (HB.out.2.cell (World.block_lt_of_cell? _ _ c0)).trans c0
      have g2 : wr.cell? ⟨w.heap.size, k, none⟩ = some (.int .i64 0) := by simpa using HB.out.1.cell hkn
      have g3 : wr.frozen? ⟨w.heap.size, k, none⟩ = false := HB.out.1.frozen k
      clear c0
      go_wp2_with fail
      refine Calls.mono (inverse_any _ _) ?_
      rintro e wx ⟨rfl, rfl⟩
      go_wp2
      go_roundw
      case rel =>
        refine ⟨k + 1, by omega, by simp, ?_, HB.out.2.setCell (Nat.le_refl _) _⟩
        have := HB.out.1.set k hkn (.int .i64 (Rm.invM (g k)))
        rw [Nat.zero_add] at this
        refine this.congr fun j hj => ?_
        by_cases e : j = k
        · subst e; simp
        · by_cases e2 : j < k
          · simp [e, e2, Nat.lt_succ_of_lt e2]
          · simp [e, e2]; intro h; omega
      case measure => simp [intOf]; omega
    · obtain rfl : k = n := by omega
      go_wp2
      go_ret
      exact ⟨rfl, HB.out.1.congr fun j hj => by simp [hj], HB.out.2⟩
set_option maxRecDepth 20000 in
set_option maxHeartbeats 4000000 in
theorem iUnf_ok {w : World} {vf vg : Value} {n k : Nat} {f g : Nat → Int} (hk : k ≤ 10) (hn : n = 2 ^ k) (hf : RdRow w vf n f) (hg : RdRow w vg n g) (T : Tab w) :
    Calls Tryd.prog 6 #[vf, vg] w fun e w' => ∃ v, e = .returned (.agg #[.int .i64 (uck k n g), v]) ∧ OwnL w.heap.size w'.heap.size w' (uck k n g) v n (fun i => uvk k n f g i) ∧ Below w.heap.size w w' := by
  have hpw := Wv.pow10 hk
  rw [← hn] at hpw
  obtain ⟨h0, h1⟩ := hpw
  have RF : Hid (RdRow w vf n f) := hf
  obtain ⟨bf, of, capf, rfl, cf⟩ := hf.get (by omega)
  have RG : Hid (RdRow w vg n g) := hg
  obtain ⟨bg, og, capg, rfl, cg⟩ := hg.get (by omega)
  have HK : Hid (k ≤ 10 ∧ n = 2 ^ k) := ⟨hk, hn⟩
  have HP : Hid (Wv.pf n n = 0) := by show _ = _; have hp : Wv.wf n = 0 := by rw [hn]; exact Wv.wf_of hk
                                      unfold Wv.pf; rw [if_pos hp, if_pos hp, if_pos rfl]
  have TW : Hid (Tab w) := T
  clear hf cf hg cg T hk hn
  obtain ⟨x0, hx0⟩ : ∃ W, W = w.alloc (.cells #[.int .i64 0, .slice none 0 0] 24) := ⟨_, rfl⟩
  have R0 : Hid (Rc w x0) := by rw [hx0]; exact Rc.start w
  go_enter Tryd.func6, Tryd.ntmps6
  go_wp2_with fail
  rw [← hx0]
  clear hx0
  refine Calls.mono (iPair_any _ _ n n _ _ _) ?_
  rintro e w1 ⟨rfl, hw1⟩
  subst hw1
  rw [HP.out]
  go_wp2_with fail
  refine Calls.mono (waveOf_any (RG.out.later R0.out.2.1) h0 (by omega)) ?_
  rintro e x1 ⟨rfl, hss, hbb, hzz⟩
  have R1 : Hid (Rc w x1) := R0.out.later hbb
  have A1 : Hid (Seg x1 x0.heap.size 40 0 n (fun i => .int .i64 (Rm.md (g i)))) := hss
  clear hss hbb hzz
  go_wp2_with fail
  refine Calls.mono (spectrum_any (f := g) HK.out.1 HK.out.2 A1.out.rd (TW.out.later R1.out.2.1)) ?_
  rintro e x2 ⟨ge, rfl, hgg, hss, hbb⟩
  have R2 : Hid (Rc w x2) := R1.out.later hbb
  have E2 : Hid (Seg x2 ge 40 0 n (fun i => .int .i64 (Wv.ft k g (Rm.rootI k) i))) := hss
  clear hss hbb hgg A1
  go_wp2_with fail
  refine Calls.mono (contains_any E2.out (by omega)) ?_
  rintro e w2 ⟨rfl, hw2⟩
  subst hw2
  cases hh : hz (fun i => Wv.ft k g (Rm.rootI k) i) n
  · have HU : Hid (uck k n g = 0) := by show _ = _; unfold uck; rw [hh]; rfl
    clear hh
    go_wp2_with fail
    refine Calls.mono (waveOf_any (RF.out.later R2.out.2.1) h0 (by omega)) ?_
    rintro e x3 ⟨rfl, hss, hbb, hzz⟩
    have R3 : Hid (Rc w x3) := R2.out.later hbb
    have E3 : Hid (Seg x3 ge 40 0 n (fun i => .int .i64 (Wv.ft k g (Rm.rootI k) i))) := E2.out.later hbb
    have A3 : Hid (Seg x3 w2.heap.size 40 0 n (fun i => .int .i64 (Rm.md (f i)))) := hss
    clear hss hbb hzz E2 R2
    go_wp2_with fail
    refine Calls.mono (spectrum_any (f := f) HK.out.1 HK.out.2 A3.out.rd (TW.out.later R3.out.2.1)) ?_
    rintro e x4 ⟨gx, rfl, hgg, hss, hbb⟩
    have R4 : Hid (Rc w x4) := R3.out.later hbb
    have E4 : Hid (Seg x4 ge 40 0 n (fun i => .int .i64 (Wv.ft k g (Rm.rootI k) i))) := E3.out.later hbb
    have X4 : Hid (Seg x4 gx 40 0 n (fun i => .int .i64 (Wv.ft k f (Rm.rootI k) i))) := hss
    clear hss hbb hgg E3 R3 A3
    go_wp2_with fail
    refine Calls.mono (inverses_any E4.out (by omega)) ?_
    rintro e x5 ⟨rfl, hss, hbb⟩
    have R5 : Hid (Rc w x5) := R4.out.later hbb
    have X5 : Hid (Seg x5 gx 40 0 n (fun i => .int .i64 (Wv.ft k f (Rm.rootI k) i))) := X4.out.later hbb
    have I5 : Hid (Seg x5 x4.heap.size 40 0 n (fun i => .int .i64 (Rm.invM (Wv.ft k g (Rm.rootI k) i)))) := hss
    clear hss hbb E4 R4 X4
    go_wp2_with fail
    refine Calls.mono (through_any X5.out.rd I5.out.rd h0 (by omega)) ?_
    rintro e x6 ⟨rfl, hss, hbb, hzz⟩
    have R6 : Hid (Rc w x6) := R5.out.later hbb
    have P6 : Hid (Seg x6 x5.heap.size 40 0 n (fun i => .int .i64 (Rm.md (upr k f g i)))) := hss.congr fun i _ => by rw [show Rm.md (upr k f g i) = upr k f g i from Rm.md_id (Rm.mulM_lo _ _) (Rm.mulM_hi _ _)]; rfl
    clear hss hbb hzz X5 I5 R5
    go_wp2_with fail
    refine Calls.mono (restored_any (f := upr k f g) HK.out.1 HK.out.2 P6.out.rd (TW.out.later R6.out.2.1)) ?_
    rintro e x7 ⟨gr, rfl, hgg, hss, hbb⟩
    have R7 : Hid (Rc w x7) := R6.out.later hbb
    have O7 : Hid (Seg x7 gr 40 0 n (fun i => .int .i64 (uvk k n f g i))) := hss
    clear hss hbb hgg P6 R6
    go_wp2_with fail
    refine Calls.mono (tellWave_any O7.out.rd h0 (by omega)) ?_
    rintro e x8 ⟨rfl, hss, hbb, hzz⟩
    have R8 : Hid (Rc w x8) := R7.out.later hbb
    have hz8 : w.heap.size + 1 ≤ x7.heap.size + 1 := by have := R7.out.2.2; omega
    have S8 : Hid (Seg x8 (x7.heap.size + 1) 2 0 n (fun i => .int .i64 (uvk k n f g i))) := hss
    clear hss hbb hzz O7 R7
    have c0 := R8.out.c0
    have c1 := R8.out.c1
    have f0 := R8.out.fz 0
    have f1 := R8.out.fz 1
    go_wp2
    obtain ⟨t1, t2⟩ := R8.out.told (cap := n) hz8 S8.out (.int .i64 0) (.slice (some ⟨x7.heap.size + 1, 0, none⟩) n n)
    rw [HU.out]
    exact bodyPost_ret (v := .agg #[.int .i64 0, .slice (some ⟨x7.heap.size + 1, 0, none⟩) n n]) (by simp [results, Tryd.results6, go_sem, c0, c1]) rfl ⟨_, rfl, t1, t2⟩
  · have HU : Hid (uck k n g = 6) := by show _ = _; unfold uck; rw [hh]; rfl
    clear hh
    have c0 := R2.out.c0
    have c1 := R2.out.c1
    have f0 := R2.out.fz 0
    have f1 := R2.out.fz 1
    go_wp2
    rw [HU.out]
    exact bodyPost_ret (v := .agg #[.int .i64 6, .slice none 0 0]) (by simp [results, Tryd.results6, go_sem, c0, c1]) rfl ⟨_, rfl, Or.inl ⟨by decide, rfl⟩, (R2.out.2.1.setCell (by simp) _).setCell (by simp) _⟩
set_option maxHeartbeats 2000000 in
theorem iUnf_any {w : World} {b0 n : Nat} {f : Nat → Int} {b1 m : Nat} {g : Nat → Int} (s0 : Seg w b0 2 0 n (fun i => .int .i64 (f i))) (s1 : Seg w b1 2 0 m (fun i => .int .i64 (g i))) (hn : n ≤ 1000000000000) (hm : m ≤ 1000000000000) (T : Tab w) :
    Calls Tryd.prog 6 #[.slice (some ⟨b0, 0, none⟩) n n, .slice (some ⟨b1, 0, none⟩) m m] w fun e w' => ∃ v, e = .returned (.agg #[.int .i64 (uc n m g), v]) ∧ OwnL w.heap.size w'.heap.size w' (uc n m g) v n (fun i => uv n f g i) ∧ Below w.heap.size w w' := by
  by_cases hp : Wv.pf n m = 0
  · obtain ⟨hw, hmn⟩ := Wv.pf_ok hp
    subst hmn
    obtain ⟨k, hk, hn2⟩ := Wv.wf_ok hw
    have hl : (Wv.lgI m).toNat = k := by rw [hn2, Wv.lgI_of k hk]; rfl
    have e1 : uc m m g = uck k m g := by unfold uc; rw [if_pos hp, hl]
    have e2 : ∀ i, uv m f g i = uvk k m f g i := fun i => by unfold uv; rw [hl]
    rw [e1, show (fun i => uv m f g i) = (fun i => uvk k m f g i) from funext e2]
    exact iUnf_ok hk hn2 s0.rd s1.rd T
  · have e1 : uc n m g = Wv.pf n m := by unfold uc; rw [if_neg hp]
    rw [e1]
    have A : Hid (∀ w, Calls Tryd.prog 17 #[.slice (some ⟨b0, 0, none⟩) n n, .slice (some ⟨b1, 0, none⟩) m m] w fun e w' => e = .returned (.int .i64 (Wv.pf n m)) ∧ w = w') := fun w => iPair_any _ _ n m _ _ w
    clear s0 s1 e1
    generalize Wv.pf n m = q at *
    have hc : (q != 0) = true := by rw [bne_iff_ne]; exact hp
    have HC : Hid (q ≠ 0) := hp
    clear hp
    go_enter Tryd.func6, Tryd.ntmps6
    go_wp2_with fail
    refine (A.out _).mono ?_
    rintro e w1 ⟨rfl, rfl⟩
    go_wp2
    refine bodyPost_ret (v := .agg #[.int .i64 q, .slice none 0 0]) (by simp [results, Tryd.results6, go_sem]) rfl ⟨_, rfl, Or.inl ⟨HC.out, rfl⟩, ?_⟩
    go_grown
end Go.Proofs.YtpkbpikdffbadaaDoor
