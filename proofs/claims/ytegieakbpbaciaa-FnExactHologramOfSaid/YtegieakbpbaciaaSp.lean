/- The specification's PassWave and HologramOf: contracts. -/
import Derived.Test.YtegieakbpbaciaaWb
import Derived.Deep.RegionHeld3
import Derived.Handy
namespace Go.Proofs.Ytegieakbpbaciaa
open Go.RowKit
set_option linter.unusedVariables false
set_option maxHeartbeats 2000000 in
theorem sPass_ok {w : World} {vf vg : Value} {n : Nat} {f g : Nat → Int} (hf : RdRow w vf n f) (hg : RdRow w vg n g) (hp : Wv.pf n n = 0) (h0 : 0 < n) (hn : n ≤ 1000000) :
    Calls Try.prog 7 #[vf, vg] w fun e w' => ∃ v, e = .returned (.agg #[.int .i64 0, v]) ∧ OutL w' 0 v n (fun i => Rm.mulM (f i) (g i)) ∧ Below w.heap.size w w' := by
  obtain ⟨bf, of, capf, rfl, cf⟩ := hf.get h0
  obtain ⟨bg, og, capg, rfl, cg⟩ := hg.get h0
  have RG : Hid (RdRow w (.slice (some ⟨bg, og, none⟩) n capg) n g) := hg
  clear hf hg
  go_enter Try.func7, Try.ntmps7
  go_wp2_with fail
  refine (sBoth_any _ _ n n _ _ _).mono ?_
  rintro e w1 ⟨rfl, rfl⟩
  rw [hp]
  go_wp2_with fail
  go_loopw [6, 7] (fun v i wr => ∃ k : Nat, k ≤ n ∧ i = .int .i64 k ∧ Hid (Bd w wr v k (fun i => Rm.mulM (f i) (g i)))) (fun _ i _ => n - (intOf i).toNat)
  case atStart => exact ⟨0, Nat.zero_le _, rfl, Bd.start w _⟩
  case round =>
    obtain ⟨k, hk, rfl, HB⟩ := hrel
    by_cases hkn : k < n
    · have kf : ∀ W, Below w.heap.size w W → W.cell? ⟨bf, of + k, none⟩ = some (.int .i64 (f k)) := fun W hb => (hb.cell (World.block_lt_of_cell? _ _ (cf k hkn))).trans (cf k hkn)
      have kg : ∀ W, Below w.heap.size w W → W.cell? ⟨bg, og + k, none⟩ = some (.int .i64 (g k)) := fun W hb => (hb.cell (World.block_lt_of_cell? _ _ (cg k hkn))).trans (cg k hkn)
      have hkI : k ≤ 1000000 := by omega
      have hb0 : Below w.heap.size w wr := HB.out.below
      have hz0 : w.heap.size ≤ wr.heap.size := hb0.size
      clear cf cg RG
      have HB1 : Hid (Bd w wr.drew u6 k (fun i => Rm.mulM (f i) (g i))) := HB.out.later ((Below.refl _ _).drew)
      have O1 : Hid (wr.drew.ownsRow (w.heap.size + 1) 2 1 u6 k (il (fun i => Rm.mulM (f i) (g i)) k)) := HB1.out.own
      have Z1 : w.heap.size + 1 ≤ wr.drew.heap.size := HB.out.lt
      clear HB
      go_wp2
      go_region_held3 (fun W => Below w.heap.size w W) (go_grown) (first | (go_at_call 22; refine (sMul_any _ _ _).mono ?_; rintro e w1 ⟨rfl, rfl⟩) | (refine step_push (by rfl) (.tmp 22) (.tmp 32) 22 (by rfl) 2 (.int .i64 0) 8 Try.underlying22 info2 rfl (by decide)  wr.drew (.int .i64 (Rm.mulM (f k) (g k))) rfl (w.heap.size + 1) u6 k _ (by rfl) O1.out 1 (by rfl) hkI Z1 ?_; intro v1 w3 own3 grow3; have HB3 : Hid (Bd w w3 v1 (k + 1) (fun i => Rm.mulM (f i) (g i))) := HB1.out.push rfl own3 grow3; have b3 := HB3.out.below; clear own3 grow3))
      clear kf kg HB1 O1 Z1
      go_wp2
      go_roundw
      case rel => exact ⟨k + 1, by omega, by simp, HB3⟩
      case measure => simp [intOf]; omega
    · obtain rfl : k = n := by omega
      have c0 := HB.out.c0
      have c1 := HB.out.c1
      have f0 := HB.out.fz 0
      have f1 := HB.out.fz 1
      obtain ⟨x1, x2, hx⟩ : ∃ x1 x2, u6 = .slice (some ⟨x1, 0, none⟩) k x2 := by
        obtain ⟨gq, cq, e | e⟩ := HB.out.shape
        · exact ⟨gq, cq, e⟩
        · omega
      subst hx
      clear cf cg RG
      go_wp2
      refine bodyPost_ret (v := .agg #[.int .i64 0, .slice (some ⟨x1, 0, none⟩) k x2]) (by simp [results, Try.results7, go_sem, c0, c1]) rfl ⟨_, rfl, HB.out.told h0 _ _⟩
set_option maxHeartbeats 2000000 in
theorem sPass_any {w : World} {b0 b1 n m : Nat} {f g : Nat → Int} (s0 : Seg w b0 2 0 n (fun i => .int .i64 (f i))) (s1 : Seg w b1 2 0 m (fun i => .int .i64 (g i))) (hn : n ≤ 1000000000000) (hm : m ≤ 1000000000000) :
    Calls Try.prog 7 #[.slice (some ⟨b0, 0, none⟩) n n, .slice (some ⟨b1, 0, none⟩) m m] w fun e w' => ∃ v, e = .returned (.agg #[.int .i64 (Wv.pf n m), v]) ∧ OutL w' (Wv.pf n m) v n (fun i => Rm.mulM (f i) (g i)) ∧ Below w.heap.size w w' := by
  by_cases hp : Wv.pf n m = 0
  · obtain ⟨hw, rfl⟩ := Wv.pf_ok hp
    have hle := Wv.wf_le hw
    rw [hp]
    exact sPass_ok s0.rd s1.rd hp (by omega) (by omega)
  · have A : Hid (∀ w, Calls Try.prog 21 #[.slice (some ⟨b0, 0, none⟩) n n, .slice (some ⟨b1, 0, none⟩) m m] w fun e w' => e = .returned (.int .i64 (Wv.pf n m)) ∧ w = w') := fun w => sBoth_any _ _ n m _ _ w
    clear s0 s1
    generalize Wv.pf n m = c at *
    have hc : (c != 0) = true := by rw [bne_iff_ne]; exact hp
    have HC : Hid (c ≠ 0) := hp
    clear hp
    go_enter Try.func7, Try.ntmps7
    go_wp2_with fail
    refine (A.out _).mono ?_
    rintro e w1 ⟨rfl, rfl⟩
    go_wp2
    refine bodyPost_ret (v := .agg #[.int .i64 c, .slice none 0 0]) (by simp [results, Try.results7, go_sem]) rfl ⟨_, rfl, Or.inl ⟨HC.out, rfl⟩, ?_⟩
    go_grown
set_option maxHeartbeats 2000000 in
theorem sHolo_ok {w : World} {vf vg : Value} {n : Nat} {f g : Nat → Int} (hf : RdRow w vf n f) (hg : RdRow w vg n g) (hp : Wv.pf n n = 0) (hz : Wv.bz g n = false) (h0 : 0 < n) (hn : n ≤ 1000000) :
    Calls Try.prog 15 #[vf, vg] w fun e w' => ∃ v, e = .returned (.agg #[.int .i64 0, v]) ∧ OutL w' 0 v n (fun i => Rm.addM (Rm.mulM (f i) (g i)) (Rm.mulM (g i) (g i))) ∧ Below w.heap.size w w' := by
  obtain ⟨bf, of, capf, rfl, cf⟩ := hf.get h0
  obtain ⟨bg, og, capg, rfl, cg⟩ := hg.get h0
  have RG : Hid (RdRow w (.slice (some ⟨bg, og, none⟩) n capg) n g) := hg
  clear hf hg
  go_enter Try.func15, Try.ntmps15
  go_wp2_with fail
  refine (sBoth_any _ _ n n _ _ _).mono ?_
  rintro e w1 ⟨rfl, rfl⟩
  rw [hp]
  go_wp2_with fail
  refine (sBeam_any (RdRow.later RG.out (by go_grown)) h0 (by omega) ).mono ?_
  rintro e w1 ⟨rfl, rfl⟩
  rw [hz]
  go_wp2_with fail
  go_loopw [6, 7] (fun v i wr => ∃ k : Nat, k ≤ n ∧ i = .int .i64 k ∧ Hid (Bd w wr v k (fun i => Rm.addM (Rm.mulM (f i) (g i)) (Rm.mulM (g i) (g i))))) (fun _ i _ => n - (intOf i).toNat)
  case atStart => exact ⟨0, Nat.zero_le _, rfl, Bd.start w _⟩
  case round =>
    obtain ⟨k, hk, rfl, HB⟩ := hrel
    by_cases hkn : k < n
    · have kf : ∀ W, Below w.heap.size w W → W.cell? ⟨bf, of + k, none⟩ = some (.int .i64 (f k)) := fun W hb => (hb.cell (World.block_lt_of_cell? _ _ (cf k hkn))).trans (cf k hkn)
      have kg : ∀ W, Below w.heap.size w W → W.cell? ⟨bg, og + k, none⟩ = some (.int .i64 (g k)) := fun W hb => (hb.cell (World.block_lt_of_cell? _ _ (cg k hkn))).trans (cg k hkn)
      have hkI : k ≤ 1000000 := by omega
      have hb0 : Below w.heap.size w wr := HB.out.below
      have hz0 : w.heap.size ≤ wr.heap.size := hb0.size
      clear cf cg RG
      have HB1 : Hid (Bd w wr.drew u6 k (fun i => Rm.addM (Rm.mulM (f i) (g i)) (Rm.mulM (g i) (g i)))) := HB.out.later ((Below.refl _ _).drew)
      have O1 : Hid (wr.drew.ownsRow (w.heap.size + 1) 2 1 u6 k (il (fun i => Rm.addM (Rm.mulM (f i) (g i)) (Rm.mulM (g i) (g i))) k)) := HB1.out.own
      have Z1 : w.heap.size + 1 ≤ wr.drew.heap.size := HB.out.lt
      clear HB
      go_wp2
      go_region_held3 (fun W => Below w.heap.size w W) (go_grown) (first | (go_at_call 22; refine (sMul_any _ _ _).mono ?_; rintro e w1 ⟨rfl, rfl⟩) | (go_at_call 29; refine (sAdd_any _ _ _).mono ?_; rintro e w1 ⟨rfl, rfl⟩) | (refine step_push (by rfl) (.tmp 26) (.tmp 46) 22 (by rfl) 2 (.int .i64 0) 8 Try.underlying22 info2 rfl (by decide)  wr.drew (.int .i64 (Rm.addM (Rm.mulM (f k) (g k)) (Rm.mulM (g k) (g k)))) rfl (w.heap.size + 1) u6 k _ (by rfl) O1.out 1 (by rfl) hkI Z1 ?_; intro v1 w3 own3 grow3; have HB3 : Hid (Bd w w3 v1 (k + 1) (fun i => Rm.addM (Rm.mulM (f i) (g i)) (Rm.mulM (g i) (g i)))) := HB1.out.push rfl own3 grow3; have b3 := HB3.out.below; clear own3 grow3))
      clear kf kg HB1 O1 Z1
      go_wp2
      go_roundw
      case rel => exact ⟨k + 1, by omega, by simp, HB3⟩
      case measure => simp [intOf]; omega
    · obtain rfl : k = n := by omega
      have c0 := HB.out.c0
      have c1 := HB.out.c1
      have f0 := HB.out.fz 0
      have f1 := HB.out.fz 1
      obtain ⟨x1, x2, hx⟩ : ∃ x1 x2, u6 = .slice (some ⟨x1, 0, none⟩) k x2 := by
        obtain ⟨gq, cq, e | e⟩ := HB.out.shape
        · exact ⟨gq, cq, e⟩
        · omega
      subst hx
      clear cf cg RG
      go_wp2
      refine bodyPost_ret (v := .agg #[.int .i64 0, .slice (some ⟨x1, 0, none⟩) k x2]) (by simp [results, Try.results15, go_sem, c0, c1]) rfl ⟨_, rfl, HB.out.told h0 _ _⟩
set_option maxHeartbeats 2000000 in
theorem sHolo_any {w : World} {b0 b1 n m : Nat} {f g : Nat → Int} (s0 : Seg w b0 2 0 n (fun i => .int .i64 (f i))) (s1 : Seg w b1 2 0 m (fun i => .int .i64 (g i))) (hn : n ≤ 1000000000000) (hm : m ≤ 1000000000000) :
    Calls Try.prog 15 #[.slice (some ⟨b0, 0, none⟩) n n, .slice (some ⟨b1, 0, none⟩) m m] w fun e w' => ∃ v, e = .returned (.agg #[.int .i64 (Wv.hf n m g), v]) ∧ OutL w' (Wv.hf n m g) v n (fun i => Rm.addM (Rm.mulM (f i) (g i)) (Rm.mulM (g i) (g i))) ∧ Below w.heap.size w w' := by
  by_cases hp : Wv.pf n m = 0
  · obtain ⟨hw, rfl⟩ := Wv.pf_ok hp
    have hle := Wv.wf_le hw
    by_cases hz : Wv.bz g m = true
    · rw [Wv.hf_bz hp hz]
      have R1 : Hid (RdRow w (.slice (some ⟨b1, 0, none⟩) m m) m g) := s1.rd
      have HC : Hid ((6 : Int) ≠ 0) := by show (6 : Int) ≠ 0; omega
      clear s0 s1
      go_enter Try.func15, Try.ntmps15
      go_wp2_with fail
      refine (sBoth_any _ _ m m _ _ _).mono ?_
      rintro e w1 ⟨rfl, rfl⟩
      rw [hp]
      go_wp2_with fail
      refine (sBeam_any (R1.out.later (by go_grown)) (by omega) (by omega)).mono ?_
      rintro e w1 ⟨rfl, rfl⟩
      rw [hz]
      go_wp2
      refine bodyPost_ret (v := .agg #[.int .i64 6, .slice none 0 0]) (by simp [results, Try.results15, go_sem]) rfl ⟨_, rfl, Or.inl ⟨HC.out, rfl⟩, ?_⟩
      go_grown
    · have hz2 : Wv.bz g m = false := by simpa using hz
      rw [Wv.hf_no hp hz2]
      exact sHolo_ok s0.rd s1.rd hp hz2 (by omega) (by omega)
  · rw [Wv.hf_pf hp]
    have A : Hid (∀ w, Calls Try.prog 21 #[.slice (some ⟨b0, 0, none⟩) n n, .slice (some ⟨b1, 0, none⟩) m m] w fun e w' => e = .returned (.int .i64 (Wv.pf n m)) ∧ w = w') := fun w => sBoth_any _ _ n m _ _ w
    clear s0 s1
    generalize Wv.pf n m = c at *
    have hc : (c != 0) = true := by rw [bne_iff_ne]; exact hp
    have HC : Hid (c ≠ 0) := hp
    clear hp
    go_enter Try.func15, Try.ntmps15
    go_wp2_with fail
    refine (A.out _).mono ?_
    rintro e w1 ⟨rfl, rfl⟩
    go_wp2
    refine bodyPost_ret (v := .agg #[.int .i64 c, .slice none 0 0]) (by simp [results, Try.results15, go_sem]) rfl ⟨_, rfl, Or.inl ⟨HC.out, rfl⟩, ?_⟩
    go_grown
end Go.Proofs.Ytegieakbpbaciaa
