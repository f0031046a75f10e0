/- The specification's TopSlot and HolesOf. -/
import Derived.Test.YtinfbbbgfkaioaaTu
import Derived.Test.YtinfbbbgfkaioaaSm
namespace Go.Proofs.Ytinfbbbgfkaioaa
open Go.RowKit
set_option linter.unusedVariables false
set_option linter.unusedSimpArgs false
set_option maxRecDepth 20000 in
set_option maxHeartbeats 1600000 in
theorem sTop_any {w : World} {ao lo : Option Addr} {nf cp n cl : Nat} {nodes slots : Int} {F : Nat → Fb} {L : Nat → Li} (h : Rf w (.slice ao nf cp) nf F) (hl : RdL w (.slice lo n cl) n L) (hf : nf ≤ 1048576) (hw : LFew n L) :
    Calls Try.prog 39 #[.agg #[.int .i64 nodes, .int .i64 slots, .slice ao nf cp], .slice lo n cl] w fun e w' => e = .returned (.int .i64 (tC (Nt.lfault nodes slots nf F n L) (Nt.topM (fun f s => Nt.bk L n f s) slots.toNat nf))) ∧ Below w.heap.size w w' := by
  obtain ⟨X, hX⟩ : ∃ X, X = w.alloc (.cells #[.int .i64 nodes, .int .i64 slots, .slice ao nf cp] 37) := ⟨_, rfl⟩
  have BX : Hid (Blk X w.heap.size #[.int .i64 nodes, .int .i64 slots, .slice ao nf cp] 37 ∧ Below w.heap.size w X) := by rw [hX]; exact ⟨Blk.new rfl, (Below.refl _ _).alloc (Nat.le_refl _) _⟩
  have hXz : w.heap.size ≤ X.heap.size := Nat.le_of_lt BX.out.1.lt
  have H : ∀ W, Below X.heap.size X W → Hid (Rf W (.slice ao nf cp) nf F ∧ RdL W (.slice lo n cl) n L) := fun W hb => ⟨h.later (BX.out.2.trans (hb.mono hXz)), hl.later (BX.out.2.trans (hb.mono hXz))⟩
  have HW : Hid (LFew n L) := hw
  clear h hl hw
  obtain ⟨T, hT⟩ : ∃ T, T = tC (Nt.lfault nodes slots nf F n L) (Nt.topM (fun f s => Nt.bk L n f s) slots.toNat nf) := ⟨_, rfl⟩
  have HT : Hid (T = tC (Nt.lfault nodes slots nf F n L) (Nt.topM (fun f s => Nt.bk L n f s) slots.toNat nf)) := hT
  rw [← hT]
  clear hT
  have x0 := BX.out.1.cell (j := 0) rfl
  have x1 := BX.out.1.cell (j := 1) rfl
  have x2 := BX.out.1.cell (j := 2) rfl
  go_enter Try.func39, Try.ntmps39
  go_wp2_with fail
  rw [← hX]
  clear hX
  go_wp2_with fail
  refine (sLf_any (H _ (Below.refl _ _)).out.1 (H _ (Below.refl _ _)).out.2 hf HW.out).mono ?_
  rintro e w1 ⟨rfl, hb1⟩
  clear x0 x1 x2
  have HB : Hid (Below X.heap.size X w1) := hb1
  clear hb1
  obtain ⟨c, hc⟩ : ∃ c, c = Nt.lfault nodes slots nf F n L := ⟨_, rfl⟩
  rw [← hc]
  by_cases hz : c = 0
  · have hfl : Nt.lfault nodes slots nf F n L = 0 := by rw [← hc]; exact hz
    have HO : Hid (Nt.AllOk nodes slots nf F n L ∧ Nt.Good nodes slots nf F ∧ T = Nt.topL L n) := ⟨(lf_good hfl).2.2, (lf_good hfl).1, by rw [HT.out, hfl, tC_ok, Nt.top_same (lf_good hfl).2.2]⟩
    have hn40 := (lf_good hfl).2.1
    have hnI : (n : Int) ≤ 40 := by omega
    have hcb : (c != 0) = false := by simpa using hz
    subst hz
    clear hfl hc HT
    go_wp2_with fail
    go_loopw [5, 6] (fun t i wr => ∃ k : Nat, k ≤ n ∧ i = .int .i64 k ∧ t = .int .i64 (Nt.topL L k) ∧ Hid (Below X.heap.size X wr)) (fun _ i _ => n - (intOf i).toNat)
    case atStart => exact ⟨0, Nat.zero_le _, rfl, rfl, HB⟩
    case round =>
      obtain ⟨k, hk, rfl, rfl, HG⟩ := hrel
      by_cases hkn : k < n
      · obtain ⟨b, off, po, pc, rfl, hcell, _⟩ := (H wr HG.out).out.2.at hkn
        have hkI : (k : Int) < n := by omega
        have d4 := hcell 4 (by omega)
        have d5 := hcell 5 (by omega)
        simp only [lcell] at d4 d5
        have f0 := (HO.out.1.ok k hkn).f0
        have f1 := (HO.out.1.ok k hkn).w1
        have f2 := (HO.out.1.ok k hkn).top
        have f3 := HO.out.2.1.s64
        have HE : Hid (Nt.topL L (k + 1) = if Nt.topL L k < (L k).fi + (L k).wd then (L k).fi + (L k).wd else Nt.topL L k) := rfl
        obtain ⟨A, hA⟩ : ∃ A, A = Nt.topL L k := ⟨_, rfl⟩
        obtain ⟨fi, hfi⟩ : ∃ v, v = (L k).fi := ⟨_, rfl⟩
        obtain ⟨wd, hwd⟩ : ∃ v, v = (L k).wd := ⟨_, rfl⟩
        rw [← hA] at HE ⊢
        rw [← hfi] at HE d4 f0 f2
        rw [← hwd] at HE d5 f1 f2
        clear hA hfi hwd hcell
        have g1 : fi + wd ≤ 64 := by omega
        have g2 : 0 ≤ fi + wd := by omega
        clear f3 f2
        by_cases hlt : A < fi + wd
        · have hgt : decide (A < fi + wd) = true := by simpa using hlt
          have HE2 : Hid (Nt.topL L (k + 1) = fi + wd) := by show _ = _; rw [HE.out, if_pos hlt]
          clear hlt
          go_wp2_with fail
          go_quiet (fail)
          go_wp2
          go_quiet (fail)
          go_wp2
          go_roundw
          case rel => exact ⟨k + 1, by omega, by simp, by rw [HE2.out], below_drewN HG.out _⟩
          case measure => simp [intOf]; omega
        · have hgt : decide (A < fi + wd) = false := by simpa using hlt
          have HE2 : Hid (Nt.topL L (k + 1) = A) := by show _ = _; rw [HE.out, if_neg hlt]
          clear hlt
          go_wp2_with fail
          go_quiet (fail)
          go_wp2
          go_roundw
          case rel => exact ⟨k + 1, by omega, by simp, by rw [HE2.out], below_drewN HG.out _⟩
          case measure => simp [intOf]; omega
      · obtain rfl : k = n := by omega
        go_wp2
        go_ret
        exact ⟨by rw [HO.out.2.2]; rfl, BX.out.2.trans (HG.out.mono hXz)⟩
  · have hcb : (c != 0) = true := by simpa using hz
    have HZ : Hid (T = 0) := by show _ = _; rw [HT.out, ← hc, tC_no hz]
    clear hz hc
    go_wp2
    go_ret
    exact ⟨by rw [HZ.out]; rfl, BX.out.2.trans (HB.out.mono hXz)⟩
set_option maxRecDepth 20000 in
set_option maxHeartbeats 1600000 in
theorem sHol_any {w : World} {ao lo : Option Addr} {nf cp n cl : Nat} {nodes slots : Int} {F : Nat → Fb} {L : Nat → Li} (h : Rf w (.slice ao nf cp) nf F) (hl : RdL w (.slice lo n cl) n L) (hf : nf ≤ 1048576) (hw : LFew n L) :
    Calls Try.prog 41 #[.agg #[.int .i64 nodes, .int .i64 slots, .slice ao nf cp], .slice lo n cl] w fun e w' => e = .returned (.int .i64 (tC (Nt.lfault nodes slots nf F n L) (Nt.holM (fun f s => Nt.bk L n f s) slots.toNat nf))) ∧ Below w.heap.size w w' := by
  obtain ⟨X, hX⟩ : ∃ X, X = w.alloc (.cells #[.int .i64 nodes, .int .i64 slots, .slice ao nf cp] 37) := ⟨_, rfl⟩
  have BX : Hid (Blk X w.heap.size #[.int .i64 nodes, .int .i64 slots, .slice ao nf cp] 37 ∧ Below w.heap.size w X) := by rw [hX]; exact ⟨Blk.new rfl, (Below.refl _ _).alloc (Nat.le_refl _) _⟩
  have hXz : w.heap.size ≤ X.heap.size := Nat.le_of_lt BX.out.1.lt
  have H : ∀ W, Below X.heap.size X W → Hid (Rf W (.slice ao nf cp) nf F ∧ RdL W (.slice lo n cl) n L) := fun W hb => ⟨h.later (BX.out.2.trans (hb.mono hXz)), hl.later (BX.out.2.trans (hb.mono hXz))⟩
  have HW : Hid (LFew n L) := hw
  clear h hl hw
  obtain ⟨T, hT⟩ : ∃ T, T = tC (Nt.lfault nodes slots nf F n L) (Nt.holM (fun f s => Nt.bk L n f s) slots.toNat nf) := ⟨_, rfl⟩
  have HT : Hid (T = tC (Nt.lfault nodes slots nf F n L) (Nt.holM (fun f s => Nt.bk L n f s) slots.toNat nf)) := hT
  rw [← hT]
  clear hT
  have CX : ∀ W, Below X.heap.size X W → W.cell? ⟨w.heap.size, 0, none⟩ = some (.int .i64 nodes) ∧ W.cell? ⟨w.heap.size, 1, none⟩ = some (.int .i64 slots) ∧ W.cell? ⟨w.heap.size, 2, none⟩ = some (.slice ao nf cp) :=
    fun W h => ⟨(BX.out.1.old h).cell rfl, (BX.out.1.old h).cell rfl, (BX.out.1.old h).cell rfl⟩
  obtain ⟨x0, x1, x2⟩ := CX X (Below.refl _ _)
  go_enter Try.func41, Try.ntmps41
  go_wp2_with fail
  rw [← hX]
  clear hX
  go_wp2_with fail
  refine (sLf_any (H _ (Below.refl _ _)).out.1 (H _ (Below.refl _ _)).out.2 hf HW.out).mono ?_
  rintro e w1 ⟨rfl, hb1⟩
  clear x0 x1 x2
  have HB : Hid (Below X.heap.size X w1) := hb1
  obtain ⟨x0, x1, x2⟩ := CX w1 hb1
  clear hb1
  obtain ⟨c, hc⟩ : ∃ c, c = Nt.lfault nodes slots nf F n L := ⟨_, rfl⟩
  rw [← hc]
  by_cases hz : c = 0
  · have hfl : Nt.lfault nodes slots nf F n L = 0 := by rw [← hc]; exact hz
    have HO : Hid (Nt.AllOk nodes slots nf F n L ∧ Nt.Good nodes slots nf F) := ⟨(lf_good hfl).2.2, (lf_good hfl).1⟩
    have hn40 := (lf_good hfl).2.1
    have hS64 : slots.toNat ≤ 64 := by have := HO.out.2.s64; omega
    have hf14 : nf ≤ 14 := by have := HO.out.2.f14; omega
    have hfI : (nf : Int) ≤ 14 := by omega
    have HT2 : Hid (T = (Nt.holM (fun f s => Nt.bk L n f s) slots.toNat nf : Nat)) := by show _ = _; rw [HT.out, hfl, tC_ok]
    have hcb : (c != 0) = false := by simpa using hz
    subst hz
    clear hfl hc HT
    go_wp2_with fail
    refine (sMap_any (H _ HB.out).out.2 hn40 HO.out.2 HO.out.1).mono ?_
    rintro e w2 ⟨l, rfl, hos, hmat, hb2⟩
    clear x0 x1 x2
    obtain ⟨S, hS⟩ : ∃ S, S = slots.toNat := ⟨_, rfl⟩
    obtain ⟨R, hR⟩ : ∃ R : Nat → Nat → Int, R = fun (f s : Nat) => Nt.bk L n (f : Int) (s : Int) := ⟨_, rfl⟩
    rw [← hS, ← hR] at HT2 hmat
    rw [← hS] at hS64
    have HM : Hid ((∀ i, i < nf → l.os i = 0) ∧ Mat w1.heap.size w2.heap.size w2 l nf (fun _ => S) R ∧ Below w.heap.size w w2) := ⟨hos, hmat, BX.out.2.trans ((HB.out.trans (hb2.mono HB.out.size)).mono hXz)⟩
    clear hos hmat hb2 hS hR
    go_wp2_with fail
    go_loopw [6, 7] (fun t i wr => wr = w2 ∧ ∃ k : Nat, k ≤ nf ∧ i = .int .i64 k ∧ t = .int .i64 (Nt.holM R S k : Nat)) (fun _ i _ => nf - (intOf i).toNat)
    case atStart => exact ⟨rfl, 0, Nat.zero_le _, rfl, rfl⟩
    case round =>
      obtain ⟨hwr, k, hk, rfl, rfl⟩ := hrel
      obtain rfl := hwr.symm
      by_cases hkn : k < nf
      · have hkI : (k : Int) < nf := by omega
        have d0 : w2.cell? ⟨l.b, k, none⟩ = some (.slice (some ⟨l.bs k, 0, none⟩) S (l.cs k)) := by
          have a := HM.out.2.1.cellTop hkn
          simp only [Lie.row] at a
          rw [HM.out.1 k hkn] at a
          exact a
        have t1 := Nt.holM_le R S k
        have t3 : k * S ≤ 14 * 64 := Nat.mul_le_mul (by omega) hS64
        have t4 : Nt.holM R S k ≤ 896 := by omega
        have HE : Hid (Nt.holM R S (k + 1) = Nt.holM R S k + Nt.cntz (R k) (Nt.topR (R k) S)) := rfl
        obtain ⟨A, hA⟩ : ∃ A, A = Nt.holM R S k := ⟨_, rfl⟩
        rw [← hA] at t4 HE ⊢
        clear hA t1 t3
        have hSI : (S : Int) ≤ 64 := by omega
        go_wp2_with fail
        go_loopw [6, 8, 9] (fun t f i wr => wr = w2 ∧ ∃ j : Nat, j ≤ S ∧ i = .int .i64 j ∧ t = .int .i64 ((A + Nt.cntz (R k) (Nt.topR (R k) j) : Nat) : Int) ∧ f = .int .i64 (Nt.freeR (R k) j : Nat)) (fun _ _ i _ => S - (intOf i).toNat)
        case atStart => exact ⟨rfl, 0, Nat.zero_le _, rfl, rfl, rfl⟩
        case round =>
          obtain ⟨hwr, j, hj, rfl, rfl, rfl⟩ := hrel
          obtain rfl := hwr.symm
          by_cases hjS : j < S
          · have hjI : (j : Int) < S := by omega
            have d1 : w2.cell? ⟨l.bs k, j, none⟩ = some (.int .i64 (R k j)) := by
              have a := HM.out.2.1.cellAt hkn hjS
              rw [HM.out.1 k hkn, Nat.zero_add] at a
              exact a
            have t5 : Nt.freeR (R k) j ≤ 64 := by have := Nt.cntz_le (R k) j; unfold Nt.freeR; omega
            have t6 : Nt.cntz (R k) (Nt.topR (R k) j) ≤ 64 := by have := Nt.cntz_le (R k) (Nt.topR (R k) j); have := Nt.topR_le (R k) j; omega
            have HN := @Nt.free_next (R k) j
            have HD := @Nt.free_end (R k) j
            obtain ⟨B, hB⟩ : ∃ B, B = Nt.cntz (R k) (Nt.topR (R k) j) := ⟨_, rfl⟩
            obtain ⟨C, hC⟩ : ∃ C, C = Nt.freeR (R k) j := ⟨_, rfl⟩
            obtain ⟨v, hv⟩ : ∃ v, v = R k j := ⟨_, rfl⟩
            rw [← hv] at d1 HN HD
            have HB2 : Hid (B = Nt.cntz (R k) (Nt.topR (R k) j)) := hB
            rw [← hB] at t6 HD ⊢
            rw [← hC] at t5 HN HD ⊢
            clear hB hC hv
            by_cases hz : v = 0
            · have hb : (v == 0) = true := by simpa using hz
              have HJ : Hid (Nt.freeR (R k) (j + 1) = C + 1 ∧ Nt.cntz (R k) (Nt.topR (R k) (j + 1)) = B) := ⟨(HN hz).1, by rw [(HN hz).2, HB2.out]⟩
              clear hz HN HD
              go_wp2
              go_roundw
              case rel => exact ⟨by trivial, j + 1, by omega, by simp, by rw [HJ.out.2], by rw [HJ.out.1]; simp⟩
              case measure => simp [intOf]; omega
            · have hb : (v == 0) = false := by simpa using hz
              have HJ : Hid (Nt.freeR (R k) (j + 1) = 0 ∧ Nt.cntz (R k) (Nt.topR (R k) (j + 1)) = B + C) := HD hz
              clear hz HN HD
              go_wp2
              go_roundw
              case rel => exact ⟨by trivial, j + 1, by omega, by simp, by rw [HJ.out.2, ← Nat.add_assoc]; simp, by rw [HJ.out.1]; simp⟩
              case measure => simp [intOf]; omega
          · obtain rfl : S = j := by omega
            go_wp2
            go_roundw
            case rel => exact ⟨by trivial, k + 1, by omega, by simp, by rw [HE.out]⟩
            case measure => simp [intOf]; omega
      · obtain rfl : k = nf := by omega
        go_wp2
        go_ret
        exact ⟨by rw [HT2.out]; rfl, HM.out.2.2⟩
  · have hcb : (c != 0) = true := by simpa using hz
    have HZ : Hid (T = 0) := by show _ = _; rw [HT.out, ← hc, tC_no hz]
    clear hz hc
    go_wp2
    go_ret
    exact ⟨by rw [HZ.out]; rfl, BX.out.2.trans (HB.out.mono hXz)⟩
end Go.Proofs.Ytinfbbbgfkaioaa
