/- Waves that are shifted: the program's way, and the specification's: contracts. -/
import Derived.Test.YtegieakbpbaciaaIm
import Derived.Deep.RegionHeld3
import Derived.Handy
namespace Go.Proofs.Ytegieakbpbaciaa
open Go.RowKit
set_option linter.unusedVariables false
namespace Wv
/-- Whence number j comes. -/
def sh (n c j : Nat) : Nat := (j + n - c) % n
theorem sh_lt {n c j : Nat} (h : 0 < n) : sh n c j < n := Nat.mod_lt _ h
theorem sh_of {n c k : Nat} (hc : c < n) (hk : k < n) : sh n c ((k + c) % n) = k := by
  unfold sh
  by_cases h : k + c < n
  · rw [Nat.mod_eq_of_lt h, show k + c + n - c = k + n by omega, Nat.add_mod_right, Nat.mod_eq_of_lt hk]
  · have e : (k + c) % n = k + c - n := by rw [Nat.mod_eq_sub_mod (by omega), Nat.mod_eq_of_lt (by omega)]
    rw [e, show k + c - n + n - c = k by omega, Nat.mod_eq_of_lt hk]
theorem of_sh {n c j : Nat} (hc : c < n) (hj : j < n) : (sh n c j + c) % n = j := by
  unfold sh
  by_cases h : c ≤ j
  · have e : (j + n - c) % n = j - c := by rw [Nat.mod_eq_sub_mod (by omega), show j + n - c - n = j - c by omega, Nat.mod_eq_of_lt (by omega)]
    rw [e, show j - c + c = j by omega, Nat.mod_eq_of_lt hj]
  · rw [Nat.mod_eq_of_lt (show j + n - c < n by omega), show j + n - c + c = j + n by omega, Nat.add_mod_right, Nat.mod_eq_of_lt hj]
theorem sh_step {n c k j : Nat} (hc : c < n) (hk : k < n) (hj : j < n) : (sh n c j < k + 1) ↔ (sh n c j < k ∨ j = (k + c) % n) := by
  constructor
  · intro h
    by_cases e : sh n c j = k
    · right; rw [← e, of_sh hc hj]
    · left; omega
  · rintro (h | h)
    · omega
    · rw [h, sh_of hc hk]; omega
end Wv
set_option maxHeartbeats 1000000 in
theorem shifted_any {w : World} {vf : Value} {n : Nat} {f : Nat → Int} (hf : RdRow w vf n f) (c : Nat) (hc : c < n) (hn : n ≤ 1000000) :
    Calls Try.prog 38 #[vf, .int .i64 c] w fun e w' => e = .returned (.slice (some ⟨w.heap.size, 0, none⟩) n n) ∧ Seg w' w.heap.size 40 0 n (fun i => .int .i64 (f (Wv.sh n c i))) ∧ Below w.heap.size w w' ∧ w'.heap.size = w.heap.size + 1 := by
  obtain ⟨bf, of, capf, rfl, cf⟩ := hf.get (by omega)
  have hmk := run_make_row' (P := Try.prog) 37 40 (.int .i64 0) 8 Try.underlying37 info56 rfl .i64 .i64 n (by omega) (by omega)
  go_enter Try.func38, Try.ntmps38
  go_wp2_with fail
  clear hmk
  go_loopw [12] (fun i wr => ∃ k : Nat, k ≤ n ∧ i = .int .i64 k ∧ Seg wr w.heap.size 40 0 n (fun j => if Wv.sh n c j < k then .int .i64 (f (Wv.sh n c j)) else .int .i64 0) ∧ Below w.heap.size w wr ∧ wr.heap.size = w.heap.size + 1) (fun i _ => n - (intOf i).toNat)
  case atStart => exact ⟨0, Nat.zero_le _, rfl, (seg_made w _ n 40).congr (fun j _ => by simp), (Below.refl _ _).alloc (Nat.le_refl _) _, by simp⟩
  case round =>
    obtain ⟨k, hk, rfl, hs, hb, hz⟩ := hrel
    by_cases hkn : k < n
    · have gf : wr.cell? ⟨bf, of + k, none⟩ = some (.int .i64 (f k)) := (hb.cell (World.block_lt_of_cell? _ _ (cf k hkn))).trans (cf k hkn)
      obtain ⟨p, hp⟩ : ∃ p : Nat, p = (k + c) % n := ⟨_, rfl⟩
      have hpn : p < n := by rw [hp]; exact Nat.mod_lt _ (by omega)
      have hpI : ((k : Int) + (c : Int)) % (n : Int) = (p : Int) := by rw [hp]; simp
      have hpT : ((k : Int) + (c : Int)).tmod (n : Int) = (p : Int) := by rw [Int.tmod_eq_emod_of_nonneg (by omega)]; exact hpI
      have hnz : ((n : Int) == 0) = false := by rw [beq_eq_false_iff_ne]; omega
      have HP : Hid (p = (k + c) % n) := hp
      have g2 : ∃ x, wr.cell? ⟨w.heap.size, p, none⟩ = some (.int .i64 x) := by
        have := hs.cell hpn
        rw [Nat.zero_add] at this
        rw [this]
        split <;> exact ⟨_, rfl⟩
      obtain ⟨x, g2⟩ := g2
      have g3 : wr.frozen? ⟨w.heap.size, p, none⟩ = false := hs.frozen p
      have HS : Hid (Seg wr w.heap.size 40 0 n (fun j => if Wv.sh n c j < k then .int .i64 (f (Wv.sh n c j)) else .int .i64 0) ∧ Below w.heap.size w wr ∧ wr.heap.size = w.heap.size + 1) := ⟨hs, hb, hz⟩
      clear hs hb hz cf hf hp
      go_wp2
      go_region
      all_goals
      go_wp2
      go_roundw
      case rel =>
        obtain ⟨hs, hb, hz⟩ := HS.out
        refine ⟨k + 1, by omega, by simp, ?_, (hb.setCell (Nat.le_refl _) _).drew, by simpa using hz⟩
        have := hs.set p hpn (.int .i64 (f k))
        rw [Nat.zero_add] at this
        refine Seg.drew (this.congr fun j hj => ?_)
        by_cases e : j = p
        · subst e
          rw [if_pos rfl, HP.out, Wv.sh_of hc hkn]
          simp
        · rw [if_neg e]
          have hst := Wv.sh_step hc hkn hj
          rw [← HP.out] at hst
          by_cases e2 : Wv.sh n c j < k
          · rw [if_pos e2, if_pos (by omega)]
          · rw [if_neg e2, if_neg (by intro h; rcases hst.1 h with h | h <;> omega)]
      case measure => simp [intOf]; omega
    · obtain rfl : k = n := by omega
      clear cf hf
      go_wp2
      go_ret
      exact ⟨rfl, hs.congr fun j hj => by rw [if_pos (Wv.sh_lt (by omega))], hb, hz⟩
theorem rem_twice (a : Int) {n : Int} (hn : 0 < n) : (a.tmod n + n).tmod n = a % n := by
  have h1 := tmod_lo a hn
  have h2 := tmod_hi a hn
  have h3 := tmod_mod a hn
  rw [Int.tmod_eq_emod_of_nonneg (by omega), Int.add_emod_right, ← h3]
  split
  · rw [← Int.add_emod_right]; exact Int.emod_eq_of_lt (by omega) (by omega)
  · exact Int.emod_eq_of_lt (by omega) (by omega)
set_option maxHeartbeats 2000000 in
theorem sShift_ok {w : World} {vf : Value} {n : Nat} {f : Nat → Int} (hf : RdRow w vf n f) (a : Int) (c : Nat) (hc : (c : Int) = a % (n : Int)) (hp : Wv.wf n = 0) (h0 : 0 < n) (hn : n ≤ 1000000) :
    Calls Try.prog 19 #[vf, .int .i64 a] w fun e w' => ∃ v, e = .returned (.agg #[.int .i64 0, v]) ∧ OutL w' 0 v n (fun i => Rm.md (f (Wv.sh n c i))) ∧ Below w.heap.size w w' := by
  obtain ⟨bf, of, capf, rfl, cf⟩ := hf.get h0
  have hcn : (c : Int) < n := by rw [hc]; exact Int.emod_lt_of_pos _ (by omega)
  have hnz : ((n : Int) == 0) = false := by rw [beq_eq_false_iff_ne]; omega
  have h1 := tmod_lo a (show 0 < (n : Int) by omega)
  have h2 := tmod_hi a (show 0 < (n : Int) by omega)
  have h3 : (a.tmod n + n).tmod n = (c : Int) := by rw [hc]; exact rem_twice a (by omega)
  clear hf hc
  go_enter Try.func19, Try.ntmps19
  go_wp2_with fail
  refine (sFault_any _ n _ _).mono ?_
  rintro e w1 ⟨rfl, rfl⟩
  rw [hp]
  go_wp2_with fail
  clear h1 h2 h3
  go_loopw [7, 8] (fun v i wr => ∃ k : Nat, k ≤ n ∧ i = .int .i64 k ∧ Hid (Bd w wr v k (fun i => Rm.md (f (Wv.sh n c i))))) (fun _ i _ => n - (intOf i).toNat)
  case atStart => exact ⟨0, Nat.zero_le _, rfl, Bd.start w _⟩
  case round =>
    obtain ⟨k, hk, rfl, HB⟩ := hrel
    by_cases hkn : k < n
    · obtain ⟨p, hpp⟩ : ∃ p, p = Wv.sh n c k := ⟨_, rfl⟩
      have hpn : p < n := by rw [hpp]; exact Wv.sh_lt h0
      have hpI : ((k : Int) - (c : Int) + (n : Int)) % (n : Int) = (p : Int) := by
        rw [hpp]; unfold Wv.sh
        rw [show (k : Int) - c + n = ((k + n - c : Nat) : Int) by omega]; simp
      have hpT : ((k : Int) - (c : Int) + (n : Int)).tmod (n : Int) = (p : Int) := by rw [Int.tmod_eq_emod_of_nonneg (by omega)]; exact hpI
      have gf : wr.cell? ⟨bf, of + p, none⟩ = some (.int .i64 (f p)) := (HB.out.below.cell (World.block_lt_of_cell? _ _ (cf p hpn))).trans (cf p hpn)
      have hkI : k ≤ 1000000 := by omega
      have O1 : Hid (wr.ownsRow (w.heap.size + 1) 2 1 u7 k (il (fun i => Rm.md (f (Wv.sh n c i))) k)) := HB.out.own
      have Z1 : w.heap.size + 1 ≤ wr.heap.size := HB.out.lt
      have HP : Hid (p = Wv.sh n c k) := hpp
      clear cf hpp
      go_wp2_with fail
      refine (l2Mod_any _ _).mono ?_
      rintro e w1 ⟨rfl, rfl⟩
      go_wp2_with (first | (at_builtin; refine push_law rfl (.tmp 30) (.tmp 42) 22 rfl 2 (.int .i64 0) 8 Try.underlying22 info2 rfl (by decide) wr (.int .i64 (Rm.md (f p))) rfl (w.heap.size + 1) u7 k _ rfl O1.out 1 rfl hkI Z1 ?_; intro v1 w3 own3 grow3))
      have HB3 : Hid (Bd w w3 v1 (k + 1) (fun i => Rm.md (f (Wv.sh n c i)))) := HB.out.push (by rw [← HP.out]) own3 grow3
      clear own3 grow3 HB O1 Z1
      go_wp2
      go_roundw
      case rel => exact ⟨k + 1, by omega, by simp, HB3⟩
      case measure => simp [intOf]; omega
    · obtain rfl : k = n := by omega
      have c0 := HB.out.c0
      have c1 := HB.out.c1
      have f0 := HB.out.fz 0
      have f1 := HB.out.fz 1
      obtain ⟨x1, x2, hx⟩ : ∃ x1 x2, u7 = .slice (some ⟨x1, 0, none⟩) k x2 := by
        obtain ⟨gq, cq, e | e⟩ := HB.out.shape
        · exact ⟨gq, cq, e⟩
        · omega
      subst hx
      clear cf
      go_wp2
      refine bodyPost_ret (v := .agg #[.int .i64 0, .slice (some ⟨x1, 0, none⟩) k x2]) (by simp [results, Try.results19, go_sem, c0, c1]) rfl ⟨_, rfl, HB.out.told h0 _ _⟩
set_option maxHeartbeats 2000000 in
theorem iShift_ok {w : World} {vf : Value} {n : Nat} {f : Nat → Int} (hf : RdRow w vf n f) (a : Int) (c : Nat) (hc : (c : Int) = a % (n : Int)) (hp : Wv.wf n = 0) (h0 : 0 < n) (hn : n ≤ 1000000) :
    Calls Try.prog 20 #[vf, .int .i64 a] w fun e w' => ∃ v, e = .returned (.agg #[.int .i64 0, v]) ∧ OwnL w.heap.size w'.heap.size w' 0 v n (fun i => Rm.md (f (Wv.sh n c i))) ∧ Below w.heap.size w w' := by
  have RF : Hid (RdRow w vf n f) := hf
  obtain ⟨bf, of, capf, rfl, cf⟩ := hf.get h0
  have hcn : (c : Int) < n := by rw [hc]; exact Int.emod_lt_of_pos _ (by omega)
  have HC : Hid ((c : Int) = a % (n : Int)) := hc
  clear hf cf hc
  go_enter Try.func20, Try.ntmps20
  go_wp2_with fail
  obtain ⟨x0, hx0⟩ : ∃ W, W = w.alloc (.cells #[.int .i64 0, .slice none 0 0] 24) := ⟨_, rfl⟩
  have R0 : Hid (Rc w x0) := by rw [hx0]; exact Rc.start w
  rw [← hx0]
  clear hx0
  refine (iFault_any _ n _ _).mono ?_
  rintro e w1 ⟨rfl, rfl⟩
  rw [hp]
  go_wp2_with fail
  refine (waveOf_any (RF.out.later R0.out.2.1)  h0 (by omega)).mono ?_
  rintro e x1 ⟨rfl, hss, hbb, hzz⟩
  have R1 : Hid (Rc w x1) := R0.out.later hbb
  have A_1 : Hid (Seg x1 x0.heap.size 40 0 n (fun i => .int .i64 (Rm.md (f i)))) := hss
  clear hss hbb hzz R0
  go_wp2_with fail
  refine (modulo_any a n (by omega) (by omega) _).mono ?_
  rintro e w1 ⟨rfl, rfl⟩
  rw [← HC.out]
  go_wp2_with fail
  refine (shifted_any A_1.out.rd c (by omega) (by omega)).mono ?_
  rintro e x2 ⟨rfl, hss, hbb, hzz⟩
  have R2 : Hid (Rc w x2) := R1.out.later hbb
  have B_2 : Hid (Seg x2 x1.heap.size 40 0 n (fun i => .int .i64 (Rm.md (f (Wv.sh n c i))))) := hss
  clear hss hbb hzz R1 A_1
  go_wp2_with fail
  refine (tellWave_any B_2.out.rd h0 (by omega)).mono ?_
  rintro e x3 ⟨rfl, hss, hbb, hzz⟩
  have R3 : Hid (Rc w x3) := R2.out.later hbb
  have SS : Hid (Seg x3 (x2.heap.size + 1) 2 0 n (fun i => .int .i64 (Rm.md (f (Wv.sh n c i))))) := hss
  have zl : w.heap.size + 1 ≤ x2.heap.size := R2.out.2.2
  have c0 := R3.out.c0
  have c1 := R3.out.c1
  have f0 := R3.out.fz 0
  have f1 := R3.out.fz 1
  clear hss hbb hzz
  go_wp2
  exact bodyPost_ret (v := .agg #[.int .i64 0, .slice (some ⟨x2.heap.size + 1, 0, none⟩) n n]) (by simp [results, Try.results20, go_sem, c0, c1]) rfl ⟨_, rfl, R3.out.told (by omega) SS.out _ _⟩
set_option maxHeartbeats 2000000 in
theorem sShift_any {w : World} {b0 n : Nat} {f : Nat → Int} (s0 : Seg w b0 2 0 n (fun i => .int .i64 (f i))) (a : Int) (hn : n ≤ 1000000000000) :
    Calls Try.prog 19 #[.slice (some ⟨b0, 0, none⟩) n n, .int .i64 a] w fun e w' => ∃ v, e = .returned (.agg #[.int .i64 (Wv.wf n), v]) ∧ OutL w' (Wv.wf n) v n (fun i => Rm.md (f (Wv.sh n (a % (n : Int)).toNat i))) ∧ Below w.heap.size w w' := by
  by_cases hp : Wv.wf n = 0
  · have hle := Wv.wf_le hp
    have h1 := Int.emod_nonneg a (show (n : Int) ≠ 0 by omega)
    rw [hp]
    exact sShift_ok s0.rd a _ (by omega) hp (by omega) (by omega)
  · have A : Hid (∀ w, Calls Try.prog 35 #[.slice (some ⟨b0, 0, none⟩) n n] w fun e w' => e = .returned (.int .i64 (Wv.wf n)) ∧ w = w') := fun w => sFault_any _ n _ w
    clear s0
    generalize Wv.wf n = q at *
    have hc : (q != 0) = true := by rw [bne_iff_ne]; exact hp
    have HC : Hid (q ≠ 0) := hp
    clear hp
    go_enter Try.func19, Try.ntmps19
    go_wp2_with fail
    refine (A.out _).mono ?_
    rintro e w1 ⟨rfl, rfl⟩
    go_wp2
    refine bodyPost_ret (v := .agg #[.int .i64 q, .slice none 0 0]) (by simp [results, Try.results19, go_sem]) rfl ⟨_, rfl, Or.inl ⟨HC.out, rfl⟩, ?_⟩
    go_grown
set_option maxHeartbeats 2000000 in
theorem iShift_any {w : World} {b0 n : Nat} {f : Nat → Int} (s0 : Seg w b0 2 0 n (fun i => .int .i64 (f i))) (a : Int) (hn : n ≤ 1000000000000) :
    Calls Try.prog 20 #[.slice (some ⟨b0, 0, none⟩) n n, .int .i64 a] w fun e w' => ∃ v, e = .returned (.agg #[.int .i64 (Wv.wf n), v]) ∧ OwnL w.heap.size w'.heap.size w' (Wv.wf n) v n (fun i => Rm.md (f (Wv.sh n (a % (n : Int)).toNat i))) ∧ Below w.heap.size w w' := by
  by_cases hp : Wv.wf n = 0
  · have hle := Wv.wf_le hp
    have h1 := Int.emod_nonneg a (show (n : Int) ≠ 0 by omega)
    rw [hp]
    exact iShift_ok s0.rd a _ (by omega) hp (by omega) (by omega)
  · have A : Hid (∀ w, Calls Try.prog 37 #[.slice (some ⟨b0, 0, none⟩) n n] w fun e w' => e = .returned (.int .i64 (Wv.wf n)) ∧ w = w') := fun w => iFault_any _ n _ w
    clear s0
    generalize Wv.wf n = q at *
    have hc : (q != 0) = true := by rw [bne_iff_ne]; exact hp
    have HC : Hid (q ≠ 0) := hp
    clear hp
    go_enter Try.func20, Try.ntmps20
    go_wp2_with fail
    refine (A.out _).mono ?_
    rintro e w1 ⟨rfl, rfl⟩
    go_wp2
    refine bodyPost_ret (v := .agg #[.int .i64 q, .slice none 0 0]) (by simp [results, Try.results20, go_sem]) rfl ⟨_, rfl, Or.inl ⟨HC.out, rfl⟩, ?_⟩
    go_grown
end Go.Proofs.Ytegieakbpbaciaa
