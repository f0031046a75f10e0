/- A row of slots of the program: its top and its holes; TopSlot and HolesOf of the program. -/
import Derived.Test.YtinfbbbgfkaioaaTa
import Derived.Test.YtinfbbbgfkaioaaNx
namespace Go.Proofs.Ytinfbbbgfkaioaa
open Go.RowKit
set_option linter.unusedVariables false
set_option linter.unusedSimpArgs false
/-- What is told with a code c: nought with a fault. -/
def tC (c : Int) (t : Nat) : Int := if c = 0 then (t : Int) else 0
theorem tC_no {c : Int} (h : c ≠ 0) (t : Nat) : tC c t = 0 := by unfold tC; rw [if_neg h]
theorem tC_ok (t : Nat) : tC 0 t = t := by unfold tC; rw [if_pos rfl]
theorem tC_nil (c : Int) : tC c 0 = 0 := by unfold tC; split <;> rfl
set_option maxHeartbeats 800000 in
theorem top_any {w : World} {b S : Nat} {f : Nat → Int} (h : ∀ j, j < S → w.cell? ⟨b, j, none⟩ = some (.int .i64 (f j))) (hS : S ≤ 1048576) :
    Calls Try.prog 79 #[.slice (some ⟨b, 0, none⟩) S S] w fun e w' => e = .returned (.int .i64 (Nt.topR f S : Nat)) ∧ w' = w := by
  have H : Hid (∀ j, j < S → w.cell? ⟨b, j, none⟩ = some (.int .i64 (f j))) := h
  clear h
  obtain ⟨C, hC⟩ : ∃ C, C = Nt.topR f S := ⟨_, rfl⟩
  have HC : Hid (C = Nt.topR f S) := hC
  rw [← hC]
  clear hC
  go_enter Try.func79, Try.ntmps79
  go_wp2_with fail
  go_loopw [4] (fun i wr => wr = w ∧ ∃ k : Nat, k ≤ S ∧ i = .int .i64 ((k : Int) - 1) ∧ Hid (∀ s, k ≤ s → s < S → f s = 0)) (fun i _ => (intOf i + 1).toNat)
  case atStart => exact ⟨rfl, S, Nat.le_refl _, rfl, fun s h1 h2 => by omega⟩
  case round =>
    obtain ⟨rfl, k, hk, rfl, HZ⟩ := hrel
    by_cases hk0 : k = 0
    · have hz : ¬ (0 : Int) ≤ (k : Int) - 1 := by omega
      go_wp2
      go_ret
      exact ⟨by rw [HC.out, Nt.topR_none fun s h => HZ.out s (by omega) h]; rfl, rfl⟩
    · obtain ⟨m, rfl⟩ : ∃ m, k = m + 1 := ⟨k - 1, by omega⟩
      have e : ((m + 1 : Nat) : Int) - 1 = (m : Int) := by omega
      rw [e]
      have d := H.out m (by omega)
      have hmI : (m : Int) < S := by omega
      obtain ⟨v, hv⟩ : ∃ v, v = f m := ⟨_, rfl⟩
      rw [← hv] at d
      have HV : Hid (v = f m) := hv
      clear hv e
      by_cases hz : v = 0
      · have HJ : Hid (∀ s, m ≤ s → s < S → f s = 0) := fun s h1 h2 => by
          by_cases e : s = m
          · rw [e, ← HV.out]; exact hz
          · exact HZ.out s (by omega) h2
        have hb : (v != 0) = false := by simpa using hz
        clear hz
        go_wp2
        go_roundw
        case rel => exact ⟨by trivial, m, by omega, by simp, HJ⟩
        case measure => first | (simp [intOf]; done) | (simp [intOf]; omega)
      · have hb : (v != 0) = true := by simpa using hz
        have HJ : Hid (Nt.topR f S = m + 1) := Nt.topR_stop (by rw [← HV.out]; exact hz) (by omega) fun s h1 h2 => HZ.out s (by omega) h2
        clear hz
        go_wp2
        go_ret
        exact ⟨by rw [HC.out, HJ.out]; simp, rfl⟩
set_option maxHeartbeats 800000 in
theorem holes_any {w : World} {b S : Nat} {f : Nat → Int} (h : ∀ j, j < S → w.cell? ⟨b, j, none⟩ = some (.int .i64 (f j))) (hS : S ≤ 1048576) :
    Calls Try.prog 81 #[.slice (some ⟨b, 0, none⟩) S S] w fun e w' => e = .returned (.int .i64 (Nt.cntz f (Nt.topR f S) : Nat)) ∧ w' = w := by
  have H : Hid (∀ j, j < S → w.cell? ⟨b, j, none⟩ = some (.int .i64 (f j))) := h
  clear h
  obtain ⟨T, hT⟩ : ∃ T, T = Nt.topR f S := ⟨_, rfl⟩
  have HT : Hid (T = Nt.topR f S) := hT
  have hTS : T ≤ S := by rw [hT]; exact Nt.topR_le f S
  have hTI : (T : Int) ≤ S := by omega
  have hT0 : (0 : Int) ≤ T := by omega
  rw [← hT]
  clear hT
  have hcall := top_any H.out hS
  rw [← HT.out] at hcall
  go_enter Try.func81, Try.ntmps81
  go_wp2_with (first | (refine hcall.mono ?_; rintro e w1 ⟨rfl, hw1⟩; obtain rfl := hw1.symm))
  go_loopw [4, 12] (fun c i wr => wr = w ∧ ∃ k : Nat, k ≤ T ∧ i = .int .i64 k ∧ c = .int .i64 (Nt.cntz f k : Nat)) (fun _ i _ => T - (intOf i).toNat)
  case atStart => exact ⟨rfl, 0, Nat.zero_le _, rfl, rfl⟩
  case round =>
    obtain ⟨rfl, k, hk, rfl, rfl⟩ := hrel
    by_cases hkn : k < T
    · have d := H.out k (by omega)
      have hkI : (k : Int) < T := by omega
      have hcn : Nt.cntz f k ≤ 1048576 := by have := Nt.cntz_le f k; omega
      obtain ⟨c, hc⟩ : ∃ c, c = Nt.cntz f k := ⟨_, rfl⟩
      rw [← hc] at hcn ⊢
      obtain ⟨v, hv⟩ : ∃ v, v = f k := ⟨_, rfl⟩
      rw [← hv] at d
      have HV : Hid (v = f k ∧ c = Nt.cntz f k) := ⟨hv, hc⟩
      clear hv hc
      by_cases hz : v = 0
      · have hb : (v == 0) = true := by simpa using hz
        have HJ : Hid (Nt.cntz f (k + 1) = c + 1) := by show Nt.cntz f k + (if f k = 0 then 1 else 0) = c + 1; rw [← HV.out.1, ← HV.out.2, if_pos hz]
        clear hz
        go_wp2
        go_roundw
        case rel => exact ⟨by trivial, k + 1, by omega, by simp, by rw [HJ.out]; simp⟩
        case measure => simp [intOf]; omega
      · have hb : (v == 0) = false := by simpa using hz
        have HJ : Hid (Nt.cntz f (k + 1) = c) := by show Nt.cntz f k + (if f k = 0 then 1 else 0) = c; rw [← HV.out.1, ← HV.out.2, if_neg hz]; rfl
        clear hz
        go_wp2
        go_roundw
        case rel => exact ⟨by trivial, k + 1, by omega, by simp, by rw [HJ.out]⟩
        case measure => simp [intOf]; omega
    · obtain rfl : k = T := by omega
      go_wp2
      go_ret
      exact ⟨rfl, rfl⟩
set_option maxRecDepth 20000 in
set_option maxHeartbeats 1600000 in
theorem iTop_any {w : World} {ao lo : Option Addr} {nf cp n cl : Nat} {nodes slots : Int} {F : Nat → Fb} {L : Nat → Li} (h : Rf w (.slice ao nf cp) nf F) (hl : RdL w (.slice lo n cl) n L) (hf : nf ≤ 1048576) (hw : LFew n L) (hcp : nf ≤ cp) (hd : LBd n L) :
    Calls Try.prog 40 #[.agg #[.int .i64 nodes, .int .i64 slots, .slice ao nf cp], .slice lo n cl] w fun e w' => e = .returned (.int .i64 (tC (Nt.lfault nodes slots nf F n L) (Nt.topM (fun f s => Nt.bk L n f s) slots.toNat nf))) ∧ Below w.heap.size w w' := by
  obtain ⟨X, hX⟩ : ∃ X, X = w.alloc (.cells #[.int .i64 nodes, .int .i64 slots, .slice ao nf cp] 37) := ⟨_, rfl⟩
  have BX : Hid (Blk X w.heap.size #[.int .i64 nodes, .int .i64 slots, .slice ao nf cp] 37 ∧ Below w.heap.size w X) := by rw [hX]; exact ⟨Blk.new rfl, (Below.refl _ _).alloc (Nat.le_refl _) _⟩
  have hXz : w.heap.size ≤ X.heap.size := Nat.le_of_lt BX.out.1.lt
  have H : Hid (Rf X (.slice ao nf cp) nf F ∧ RdL X (.slice lo n cl) n L ∧ LFew n L ∧ LBd n L) := ⟨h.later BX.out.2, hl.later BX.out.2, hw, hd⟩
  clear h hl hw hd
  have hcall := rowsOf_any (nodes := nodes) (slots := slots) H.out.1 H.out.2.1 hf H.out.2.2.1 hcp H.out.2.2.2
  have hsm : Nt.lfault nodes slots nf F n L = 0 → slots.toNat ≤ 64 ∧ nf ≤ 14 := fun hz => by
    have g := (lf_good hz).1
    have a := g.s64
    have b := g.f14
    omega
  obtain ⟨S, hS⟩ : ∃ S, S = slots.toNat := ⟨_, rfl⟩
  rw [← hS] at hcall hsm ⊢
  clear hS
  obtain ⟨c, hc⟩ : ∃ c, c = Nt.lfault nodes slots nf F n L := ⟨_, rfl⟩
  rw [← hc] at hcall hsm ⊢
  have HK : Hid ((c = 0 → S ≤ 64 ∧ nf ≤ 14) ∧ nf ≤ 1048576) := ⟨hsm, hf⟩
  clear hc hf hsm
  obtain ⟨R, hR⟩ : ∃ R : Nat → Nat → Int, R = fun (f s : Nat) => Nt.bk L n (f : Int) (s : Int) := ⟨_, rfl⟩
  rw [← hR] at hcall ⊢
  clear hR
  have x0 := BX.out.1.cell (j := 0) rfl
  have x1 := BX.out.1.cell (j := 1) rfl
  have x2 := BX.out.1.cell (j := 2) rfl
  go_enter Try.func40, Try.ntmps40
  go_wp2_with fail
  rw [← hX]
  clear hX
  go_wp2_with fail
  refine hcall.mono ?_
  rintro e w1 ⟨v, rfl, htab, hb1⟩
  clear x0 x1 x2 hcall
  have HT : Hid (Tab X.heap.size w1.heap.size w1 c v nf S R ∧ Below w.heap.size w w1) := ⟨htab, BX.out.2.trans (hb1.mono hXz)⟩
  clear hb1
  rcases htab with ⟨hz, rfl⟩ | ⟨hz, g, cap, bs, rfl, htb⟩
  · have HZ : Hid (c ≠ 0 ∨ nf = 0) := hz
    clear hz
    go_wp2_with fail
    go_loopw [7, 18] (fun v i wr => v = .int .i64 0 ∧ i = .int .i64 0 ∧ wr = w1) (fun _ _ _ => 0)
    case atStart => exact ⟨rfl, rfl, rfl⟩
    case round =>
      obtain ⟨rfl, rfl, hwr⟩ := hrel
      obtain rfl := hwr.symm
      go_wp2
      go_ret
      refine ⟨?_, HT.out.2⟩
      rcases HZ.out with hz | hz
      · rw [tC_no hz]
        rfl
      · rw [hz]
        first | (rw [show Nt.topM R S 0 = 0 from rfl, tC_nil]; rfl) | (rw [show Nt.holM R S 0 = 0 from rfl, tC_nil]; rfl)
  · have HZ : Hid ((c = 0 ∧ 0 < nf) ∧ Tb X.heap.size w1.heap.size w1 g bs nf S R) := ⟨hz, htb⟩
    have hS64 := (HK.out.1 hz.1).1
    have hf14 := (HK.out.1 hz.1).2
    have hfI : (nf : Int) ≤ 14 := by omega
    clear hz htb
    go_wp2_with fail
    go_loopw [7, 18] (fun v i wr => wr = w1 ∧ ∃ k : Nat, k ≤ nf ∧ i = .int .i64 k ∧ v = .int .i64 ((Nt.topM R S k : Nat) : Int)) (fun _ i _ => nf - (intOf i).toNat)
    case atStart => exact ⟨rfl, 0, Nat.zero_le _, rfl, rfl⟩
    case round =>
      obtain ⟨rfl, k, hk, rfl, rfl⟩ := hrel
      by_cases hkn : k < nf
      · have hkI : (k : Int) < nf := by omega
        have d := HZ.out.2.cellTop hkn
        have hcl := top_any (fun j hj => HZ.out.2.cellAt hkn hj) (show S ≤ 1048576 by omega)
        have t1 := Nt.topM_le R S k
        have t2 := Nt.topR_le (R k) S
        have HE : Hid (Nt.topM R S (k + 1) = max (Nt.topM R S k) (Nt.topR (R k) S)) := rfl
        obtain ⟨A, hA⟩ : ∃ A, A = Nt.topM R S k := ⟨_, rfl⟩
        obtain ⟨B, hB⟩ : ∃ B, B = Nt.topR (R k) S := ⟨_, rfl⟩
        rw [← hA] at t1 HE ⊢
        rw [← hB] at t2 HE hcl
        clear hA hB
        go_wp2_with (first | (refine hcl.mono ?_; rintro e w2 ⟨rfl, hw2⟩; obtain rfl := hw2.symm))
        go_roundw
        case rel => exact ⟨by trivial, k + 1, by omega, by simp, by rw [HE.out]; simp; try omega⟩
        case measure => simp [intOf]; omega
      · obtain rfl : k = nf := by omega
        go_wp2
        go_ret
        exact ⟨by rw [HZ.out.1.1, tC_ok]; rfl, HT.out.2⟩
set_option maxRecDepth 20000 in
set_option maxHeartbeats 1600000 in
theorem iHol_any {w : World} {ao lo : Option Addr} {nf cp n cl : Nat} {nodes slots : Int} {F : Nat → Fb} {L : Nat → Li} (h : Rf w (.slice ao nf cp) nf F) (hl : RdL w (.slice lo n cl) n L) (hf : nf ≤ 1048576) (hw : LFew n L) (hcp : nf ≤ cp) (hd : LBd n L) :
    Calls Try.prog 42 #[.agg #[.int .i64 nodes, .int .i64 slots, .slice ao nf cp], .slice lo n cl] w fun e w' => e = .returned (.int .i64 (tC (Nt.lfault nodes slots nf F n L) (Nt.holM (fun f s => Nt.bk L n f s) slots.toNat nf))) ∧ Below w.heap.size w w' := by
  obtain ⟨X, hX⟩ : ∃ X, X = w.alloc (.cells #[.int .i64 nodes, .int .i64 slots, .slice ao nf cp] 37) := ⟨_, rfl⟩
  have BX : Hid (Blk X w.heap.size #[.int .i64 nodes, .int .i64 slots, .slice ao nf cp] 37 ∧ Below w.heap.size w X) := by rw [hX]; exact ⟨Blk.new rfl, (Below.refl _ _).alloc (Nat.le_refl _) _⟩
  have hXz : w.heap.size ≤ X.heap.size := Nat.le_of_lt BX.out.1.lt
  have H : Hid (Rf X (.slice ao nf cp) nf F ∧ RdL X (.slice lo n cl) n L ∧ LFew n L ∧ LBd n L) := ⟨h.later BX.out.2, hl.later BX.out.2, hw, hd⟩
  clear h hl hw hd
  have hcall := rowsOf_any (nodes := nodes) (slots := slots) H.out.1 H.out.2.1 hf H.out.2.2.1 hcp H.out.2.2.2
  have hsm : Nt.lfault nodes slots nf F n L = 0 → slots.toNat ≤ 64 ∧ nf ≤ 14 := fun hz => by
    have g := (lf_good hz).1
    have a := g.s64
    have b := g.f14
    omega
  obtain ⟨S, hS⟩ : ∃ S, S = slots.toNat := ⟨_, rfl⟩
  rw [← hS] at hcall hsm ⊢
  clear hS
  obtain ⟨c, hc⟩ : ∃ c, c = Nt.lfault nodes slots nf F n L := ⟨_, rfl⟩
  rw [← hc] at hcall hsm ⊢
  have HK : Hid ((c = 0 → S ≤ 64 ∧ nf ≤ 14) ∧ nf ≤ 1048576) := ⟨hsm, hf⟩
  clear hc hf hsm
  obtain ⟨R, hR⟩ : ∃ R : Nat → Nat → Int, R = fun (f s : Nat) => Nt.bk L n (f : Int) (s : Int) := ⟨_, rfl⟩
  rw [← hR] at hcall ⊢
  clear hR
  have x0 := BX.out.1.cell (j := 0) rfl
  have x1 := BX.out.1.cell (j := 1) rfl
  have x2 := BX.out.1.cell (j := 2) rfl
  go_enter Try.func42, Try.ntmps42
  go_wp2_with fail
  rw [← hX]
  clear hX
  go_wp2_with fail
  refine hcall.mono ?_
  rintro e w1 ⟨v, rfl, htab, hb1⟩
  clear x0 x1 x2 hcall
  have HT : Hid (Tab X.heap.size w1.heap.size w1 c v nf S R ∧ Below w.heap.size w w1) := ⟨htab, BX.out.2.trans (hb1.mono hXz)⟩
  clear hb1
  rcases htab with ⟨hz, rfl⟩ | ⟨hz, g, cap, bs, rfl, htb⟩
  · have HZ : Hid (c ≠ 0 ∨ nf = 0) := hz
    clear hz
    go_wp2_with fail
    go_loopw [7, 18] (fun v i wr => v = .int .i64 0 ∧ i = .int .i64 0 ∧ wr = w1) (fun _ _ _ => 0)
    case atStart => exact ⟨rfl, rfl, rfl⟩
    case round =>
      obtain ⟨rfl, rfl, hwr⟩ := hrel
      obtain rfl := hwr.symm
      go_wp2
      go_ret
      refine ⟨?_, HT.out.2⟩
      rcases HZ.out with hz | hz
      · rw [tC_no hz]
        rfl
      · rw [hz]
        first | (rw [show Nt.topM R S 0 = 0 from rfl, tC_nil]; rfl) | (rw [show Nt.holM R S 0 = 0 from rfl, tC_nil]; rfl)
  · have HZ : Hid ((c = 0 ∧ 0 < nf) ∧ Tb X.heap.size w1.heap.size w1 g bs nf S R) := ⟨hz, htb⟩
    have hS64 := (HK.out.1 hz.1).1
    have hf14 := (HK.out.1 hz.1).2
    have hfI : (nf : Int) ≤ 14 := by omega
    clear hz htb
    go_wp2_with fail
    go_loopw [7, 18] (fun v i wr => wr = w1 ∧ ∃ k : Nat, k ≤ nf ∧ i = .int .i64 k ∧ v = .int .i64 ((Nt.holM R S k : Nat) : Int)) (fun _ i _ => nf - (intOf i).toNat)
    case atStart => exact ⟨rfl, 0, Nat.zero_le _, rfl, rfl⟩
    case round =>
      obtain ⟨rfl, k, hk, rfl, rfl⟩ := hrel
      by_cases hkn : k < nf
      · have hkI : (k : Int) < nf := by omega
        have d := HZ.out.2.cellTop hkn
        have hcl := holes_any (fun j hj => HZ.out.2.cellAt hkn hj) (show S ≤ 1048576 by omega)
        have t1 := Nt.holM_le R S k
        have t3 : k * S ≤ 14 * 64 := Nat.mul_le_mul (by omega) hS64
        have t2 : Nt.cntz (R k) (Nt.topR (R k) S) ≤ 64 := Nat.le_trans (Nt.cntz_le _ _) (Nat.le_trans (Nt.topR_le _ _) hS64)
        have t4 : Nt.holM R S k ≤ 896 := by omega
        have HE : Hid (Nt.holM R S (k + 1) = Nt.holM R S k + Nt.cntz (R k) (Nt.topR (R k) S)) := rfl
        obtain ⟨A, hA⟩ : ∃ A, A = Nt.holM R S k := ⟨_, rfl⟩
        obtain ⟨B, hB⟩ : ∃ B, B = Nt.cntz (R k) (Nt.topR (R k) S) := ⟨_, rfl⟩
        rw [← hA] at t4 HE ⊢
        rw [← hB] at t2 HE hcl
        clear hA hB t1 t3
        go_wp2_with (first | (refine hcl.mono ?_; rintro e w2 ⟨rfl, hw2⟩; obtain rfl := hw2.symm))
        go_roundw
        case rel => exact ⟨by trivial, k + 1, by omega, by simp, by rw [HE.out]; simp; try omega⟩
        case measure => simp [intOf]; omega
      · obtain rfl : k = nf := by omega
        go_wp2
        go_ret
        exact ⟨by rw [HZ.out.1.1, tC_ok]; rfl, HT.out.2⟩
end Go.Proofs.Ytinfbbbgfkaioaa
