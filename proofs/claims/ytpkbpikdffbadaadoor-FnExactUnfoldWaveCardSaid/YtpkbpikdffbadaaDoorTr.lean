/- The program's transform by halves: contract, by recursion. -/
import Derived.Test.YtpkbpikdffbadaaDoorUp
import Derived.Deep.RegionHeld3
import Derived.Deep.DeepCutAuto
namespace Go.Proofs.YtpkbpikdffbadaaDoor
open Go.RowKit
set_option linter.unusedVariables false
theorem Seg.later {w w' : World} {b : Nat} {t : TypeId} {off n : Nat} {f : Nat → Value} (h : Seg w b t off n f) (hb : Below w.heap.size w w') : Seg w' b t off n f := h.of_block (hb.block _ h.lt)
/-- What transformed answers. -/
def TA (k : Nat) (f p : Nat → Int) (w : World) (e : Ending) (w' : World) : Prop :=
  ∃ g, e = .returned (.slice (some ⟨g, 0, none⟩) (2 ^ k) (2 ^ k)) ∧ w.heap.size ≤ g ∧ Seg w' g 40 0 (2 ^ k) (fun j => .int .i64 (Wv.tr k f p j)) ∧ Below w.heap.size w w'
def TC (k : Nat) : Prop := ∀ {w : World} {v vp : Value} {f p : Nat → Int}, RdRow w v (2 ^ k) f → RdRow w vp (2 ^ k) p → Calls Tryd.prog 32 #[v, vp] w (TA k f p w)
theorem trans_one : TC 0 := by
  intro w v vp f p hf hp
  obtain ⟨bf, of, capf, rfl, cf⟩ := hf.get (by decide)
  obtain ⟨bp, op, capp, rfl, cp⟩ := hp.get (by decide)
  have c0 : w.cell? ⟨bf, of, none⟩ = some (.int .i64 (f 0)) := cf 0 (by decide)
  clear cf cp hf hp
  unfold TA
  rw [show (2 : Nat) ^ 0 = 1 from rfl]
  go_enter Tryd.func32, Tryd.ntmps32
  go_wp2
  go_ret
  refine ⟨w.heap.size, rfl, Nat.le_refl _, ⟨_, heap_alloc_new _ _, fun i hi => ?_⟩, (Below.refl _ _).alloc (Nat.le_refl _) _⟩
  obtain rfl : i = 0 := by omega
  rfl
/-- What is summed, number by number. -/
def Fm (h : Nat) (E O p : Nat → Int) (i : Nat) : Int := if i < h then Rm.addM (E i) (Rm.mulM (p i) (O i)) else Rm.addM (E (i - h)) (Rm.mulM (p i) (O (i - h)))
set_option maxHeartbeats 4000000 in
theorem trans_step (k : Nat) (hk : k < 10) (ih : TC k) : TC (k + 1) := by
  intro w v vp f p hf hp
  obtain ⟨h, hh⟩ : ∃ h, h = 2 ^ k := ⟨_, rfl⟩
  obtain ⟨N, hN⟩ : ∃ N, N = 2 ^ (k + 1) := ⟨_, rfl⟩
  have hNh : N = 2 * h := by rw [hN, hh, Nat.pow_succ]; omega
  have hp1 := Wv.pow10 (k := k) (by omega)
  rw [← hh] at hp1
  obtain ⟨h0, h1⟩ := hp1
  obtain ⟨E, hE⟩ : ∃ E, E = Wv.tr k (fun i => f (2 * i)) (fun i => p (2 * i)) := ⟨_, rfl⟩
  obtain ⟨O, hO⟩ : ∃ O, O = Wv.tr k (fun i => f (2 * i + 1)) (fun i => p (2 * i)) := ⟨_, rfl⟩
  have HF : Hid (∀ i, Wv.tr (k + 1) f p i = Fm h E O p i) := fun i => by rw [hE, hO, hh]; rfl
  unfold TC TA at ih
  unfold TA
  rw [← hN] at hf hp ⊢
  have IE : Hid (∀ {w : World} {v vp : Value}, RdRow w v h (fun i => f (2 * i)) → RdRow w vp h (fun i => p (2 * i)) → Calls Tryd.prog 32 #[v, vp] w fun e w' => ∃ g, e = .returned (.slice (some ⟨g, 0, none⟩) h h) ∧ w.heap.size ≤ g ∧ Seg w' g 40 0 h (fun j => .int .i64 (E j)) ∧ Below w.heap.size w w') := by
    intro w v vp a b; rw [hE]; rw [hh] at a b ⊢; exact ih a b
  have IHo : Hid (∀ {w : World} {v vp : Value}, RdRow w v h (fun i => f (2 * i + 1)) → RdRow w vp h (fun i => p (2 * i)) → Calls Tryd.prog 32 #[v, vp] w fun e w' => ∃ g, e = .returned (.slice (some ⟨g, 0, none⟩) h h) ∧ w.heap.size ≤ g ∧ Seg w' g 40 0 h (fun j => .int .i64 (O j)) ∧ Below w.heap.size w w') := by
    intro w v vp a b; rw [hO]; rw [hh] at a b ⊢; exact ih a b
  have hNd : (N : Int) / 2 = (h : Int) := by omega
  have hN1 : ((N : Int) == 1) = false := by rw [beq_eq_false_iff_ne]; omega
  have hmk := run_make_row' (P := Tryd.prog) 36 40 (.int .i64 0) 8 Tryd.underlying36 info56 rfl .i64 .i64 N (by omega) (by omega)
  have RF : Hid (RdRow w v (2 * h) f) := by rw [← hNh]; exact hf
  have RP : Hid (RdRow w vp (2 * h) p) := by rw [← hNh]; exact hp
  obtain ⟨bf, of, capf, rfl, cf⟩ := hf.get (by omega)
  obtain ⟨bp, op, capp, rfl, cp⟩ := hp.get (by omega)
  have CP : Hid (∀ W, Below w.heap.size w W → ∀ i, i < N → W.cell? ⟨bp, op + i, none⟩ = some (.int .i64 (p i))) := fun W hb i hi => (hb.cell (World.block_lt_of_cell? _ _ (cp i hi))).trans (cp i hi)
  have LP : Hid (bp < w.heap.size) := World.block_lt_of_cell? _ _ (cp 0 (by omega))
  have HN : Hid (N = 2 * h) := hNh
  clear hf hp cf cp hE hO hh hN hNh ih hk
  go_enter Tryd.func32, Tryd.ntmps32
  go_wp2_with (simp only [hNd])
  clear hN1
  refine (second_any RP.out 0 (by omega) (by omega) (by omega)).mono ?_
  rintro e w1 ⟨rfl, hss, hbb, hzz⟩
  have B1 : Hid (Below w.heap.size w w1) := hbb
  have S1 : Hid (Seg w1 w.heap.size 40 0 h (fun i => .int .i64 (p (2 * i)))) := hss
  clear hss hbb hzz
  go_wp2_with fail
  refine (second_any (RF.out.later B1.out) 0 (by omega) (by omega) (by omega)).mono ?_
  rintro e w2 ⟨rfl, hss, hbb, hzz⟩
  have B2 : Hid (Below w.heap.size w w2) := B1.out.trans (hbb.mono B1.out.size)
  have S2 : Hid (Seg w2 w.heap.size 40 0 h (fun i => .int .i64 (p (2 * i)))) := S1.out.later hbb
  have A2 : Hid (Seg w2 w1.heap.size 40 0 h (fun i => .int .i64 (f (2 * i)))) := hss
  clear hss hbb hzz S1 B1
  go_wp2_with fail
  refine (IE.out A2.out.rd S2.out.rd).mono ?_
  rintro e w3 ⟨ge, rfl, hge, hss, hbb⟩
  have B3 : Hid (Below w.heap.size w w3) := B2.out.trans (hbb.mono B2.out.size)
  have S3 : Hid (Seg w3 w.heap.size 40 0 h (fun i => .int .i64 (p (2 * i)))) := S2.out.later hbb
  have E3 : Hid (Seg w3 ge 40 0 h (fun j => .int .i64 (E j))) := hss
  clear hss hbb hge S2 B2 A2 IE
  go_wp2_with fail
  refine (second_any (RF.out.later B3.out) 1 (by omega) (by omega) (by omega)).mono ?_
  rintro e w4 ⟨rfl, hss, hbb, hzz⟩
  have B4 : Hid (Below w.heap.size w w4) := B3.out.trans (hbb.mono B3.out.size)
  have S4 : Hid (Seg w4 w.heap.size 40 0 h (fun i => .int .i64 (p (2 * i)))) := S3.out.later hbb
  have E4 : Hid (Seg w4 ge 40 0 h (fun j => .int .i64 (E j))) := E3.out.later hbb
  have A4 : Hid (Seg w4 w3.heap.size 40 0 h (fun i => .int .i64 (f (2 * i + 1)))) := hss
  clear hss hbb hzz S3 B3 E3
  go_wp2_with fail
  refine (IHo.out A4.out.rd S4.out.rd).mono ?_
  rintro e w5 ⟨go, rfl, hgo, hss, hbb⟩
  have B5 : Hid (Below w.heap.size w w5) := B4.out.trans (hbb.mono B4.out.size)
  have E5 : Hid (Seg w5 ge 40 0 h (fun j => .int .i64 (E j))) := E4.out.later hbb
  have O5 : Hid (Seg w5 go 40 0 h (fun j => .int .i64 (O j))) := hss
  clear hss hbb hgo S4 B4 E4 A4 IHo RF RP
  have KE : Hid (∀ W, Below w5.heap.size w5 W → ∀ i, i < h → W.cell? ⟨ge, i, none⟩ = some (.int .i64 (E i))) := fun W hb i hi => by
    have := (E5.out.later hb).cell hi
    rwa [Nat.zero_add] at this
  have KO : Hid (∀ W, Below w5.heap.size w5 W → ∀ i, i < h → W.cell? ⟨go, i, none⟩ = some (.int .i64 (O i))) := fun W hb i hi => by
    have := (O5.out.later hb).cell hi
    rwa [Nat.zero_add] at this
  have KP : Hid (∀ W, Below w5.heap.size w5 W → ∀ i, i < N → W.cell? ⟨bp, op + i, none⟩ = some (.int .i64 (p i))) := fun W hb i hi => CP.out W (B5.out.trans (hb.mono B5.out.size)) i hi
  clear E5 O5 CP
  go_wp2_with fail
  clear hmk hNd
  go_loopw [35] (fun i wr => ∃ j : Nat, j ≤ h ∧ i = .int .i64 j ∧ Hid (Seg wr w5.heap.size 40 0 N (fun i => if i < j ∨ (h ≤ i ∧ i < h + j) then .int .i64 (Fm h E O p i) else .int .i64 0) ∧ Below w5.heap.size w5 wr)) (fun i _ => h - (intOf i).toNat)
  case atStart => exact ⟨0, Nat.zero_le _, rfl, (seg_made w5 _ N 40).congr (fun j _ => by rw [if_neg (by omega)]), (Below.refl _ _).alloc (Nat.le_refl _) _⟩
  case round =>
    obtain ⟨j, hj, rfl, HS⟩ := hrel
    by_cases hjh : j < h
    · obtain ⟨q, hq⟩ : ∃ q, q = j + h := ⟨_, rfl⟩
      have hqI : (j : Int) + (h : Int) = (q : Int) := by omega
      have hqN : q < N := by have := HN.out; omega
      have hjN : j < N := by omega
      have hqh : h ≤ q := by omega
      have hq1 : q < h + h := by omega
      have HQ : Hid (q = j + h) := hq
      have kE : ∀ W, Below w5.heap.size w5 W → W.cell? ⟨ge, j, none⟩ = some (.int .i64 (E j)) := fun W hb => KE.out W hb j hjh
      have kO : ∀ W, Below w5.heap.size w5 W → W.cell? ⟨go, j, none⟩ = some (.int .i64 (O j)) := fun W hb => KO.out W hb j hjh
      have kP : ∀ W, Below w5.heap.size w5 W → W.cell? ⟨bp, op + j, none⟩ = some (.int .i64 (p j)) := fun W hb => KP.out W hb j hjN
      have kQ : ∀ W, Below w5.heap.size w5 W → W.cell? ⟨bp, op + q, none⟩ = some (.int .i64 (p q)) := fun W hb => KP.out W hb q hqN
      have hb0 : Below w5.heap.size w5 wr := HS.out.2
      have g2 : wr.cell? ⟨w5.heap.size, j, none⟩ = some (.int .i64 0) := by
        have := HS.out.1.cell hjN
        rw [if_neg (by omega), Nat.zero_add] at this
        exact this
      have g3 : wr.frozen? ⟨w5.heap.size, j, none⟩ = false := HS.out.1.frozen j
      have hn1 := nil_times
      have hn2 := nil_plus
      have hm1 := mrun_times
      have hm2 := mrun_plus
      go_wp2
      go_region_held3 (fun W => Below w5.heap.size w5 W) (go_grown) (first | (go_at_call 45; refine (times_any _ _ _).mono ?_; rintro e w1 ⟨rfl, rfl⟩) | (go_at_call 74; refine (plus_any _ _ _).mono ?_; rintro e w1 ⟨rfl, rfl⟩))
      obtain ⟨wd, hwd⟩ : ∃ W, W = (wr.setCell ⟨w5.heap.size, j, none⟩ (.int .i64 (Rm.addM (E j) (Rm.mulM (p j) (O j))))).drew := ⟨_, rfl⟩
      rw [← hwd]
      have HD : Hid (Seg wd w5.heap.size 40 0 N (fun i => if i < j + 1 ∨ (h ≤ i ∧ i < h + j) then .int .i64 (Fm h E O p i) else .int .i64 0) ∧ Below w5.heap.size w5 wd) := by
        rw [hwd]
        refine ⟨Seg.drew ?_, (HS.out.2.setCell (Nat.le_refl _) _).drew⟩
        have := HS.out.1.set j hjN (.int .i64 (Rm.addM (E j) (Rm.mulM (p j) (O j))))
        rw [Nat.zero_add] at this
        refine this.congr fun i hi => ?_
        by_cases e : i = j
        · subst e
          rw [if_pos rfl, if_pos (by omega)]
          unfold Fm
          rw [if_pos hjh]
        · rw [if_neg e]
          by_cases e2 : i < j ∨ (h ≤ i ∧ i < h + j)
          · rw [if_pos e2, if_pos (by omega)]
          · rw [if_neg e2, if_neg (by omega)]
      have hb1 : Below w5.heap.size w5 wd := HD.out.2
      have y2 : wd.cell? ⟨w5.heap.size, q, none⟩ = some (.int .i64 0) := by
        have := HD.out.1.cell hqN
        rw [if_neg (by omega), Nat.zero_add] at this
        exact this
      have y3 : wd.frozen? ⟨w5.heap.size, q, none⟩ = false := HD.out.1.frozen q
      have hwq : IntKind.i64.wrap ((j : Int) + (h : Int)) = (q : Int) := by rw [hqI, IntKind.wrap_i64]; omega
      have hq0 : (0 : Int) ≤ (q : Int) := by omega
      have hqz : (q : Int) < (N : Int) := by omega
      have hwr : IntKind.i64.wrap (q : Int) = (q : Int) := by rw [IntKind.wrap_i64]; omega
      clear hwd g2 g3 hb0 kP hq
      go_wp2
      go_region_held3 (fun W => Below w5.heap.size w5 W) (go_grown) (first | (go_at_call 45; refine (times_any _ _ _).mono ?_; rintro e w1 ⟨rfl, rfl⟩) | (go_at_call 74; refine (plus_any _ _ _).mono ?_; rintro e w1 ⟨rfl, rfl⟩))
      clear hn1 hn2 hm1 hm2 kE kO kQ
      go_wp2
      go_roundw
      case rel =>
        refine ⟨j + 1, by omega, by simp, ?_⟩
        refine ⟨Seg.drew ?_, (HD.out.2.setCell (Nat.le_refl _) _).drew⟩
        have := HD.out.1.set q hqN (.int .i64 (Rm.addM (E j) (Rm.mulM (p q) (O j))))
        rw [Nat.zero_add] at this
        refine this.congr fun i hi => ?_
        by_cases e : i = q
        · subst e
          rw [if_pos rfl, if_pos (by have := HQ.out; omega)]
          unfold Fm
          rw [if_neg (by omega), show i - h = j by have := HQ.out; omega]
        · rw [if_neg e]
          by_cases e2 : i < j + 1 ∨ (h ≤ i ∧ i < h + j)
          · rw [if_pos e2, if_pos (by have := HQ.out; omega)]
          · rw [if_neg e2, if_neg (by have := HQ.out; omega)]
      case measure => simp [intOf]; omega
    · obtain rfl : j = h := by omega
      have HR : Hid (Seg wr w5.heap.size 40 0 N (fun i => .int .i64 (Wv.tr (k + 1) f p i)) ∧ Below w.heap.size w wr ∧ w.heap.size ≤ w5.heap.size) :=
        ⟨HS.out.1.congr fun i hi => by rw [if_pos (by have := HN.out; omega), HF.out], B5.out.trans (HS.out.2.mono B5.out.size), B5.out.size⟩
      clear HS KE KO KP
      go_wp2
      go_ret
      exact ⟨w5.heap.size, rfl, HR.out.2.2, HR.out.1, HR.out.2.1⟩
theorem trans_any : ∀ k, k ≤ 10 → TC k
  | 0, _ => trans_one
  | k + 1, h => trans_step k (by omega) (trans_any k (by omega))
end Go.Proofs.YtpkbpikdffbadaaDoor
