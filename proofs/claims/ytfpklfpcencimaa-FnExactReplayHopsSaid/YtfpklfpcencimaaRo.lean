/- Routes: what is wrong with one, in both packages: contracts. -/
import Derived.Test.YtfpklfpcencimaaNe
import Derived.Test.YtfpklfpcencimaaNh
namespace Go.Proofs.Ytfpklfpcencimaa
open Go.RowKit
set_option linter.unusedVariables false
set_option linter.unusedSimpArgs false
set_option maxRecDepth 20000 in
set_option maxHeartbeats 1600000 in
theorem sFib_any (nodes slots v : Int) (ao : Option Addr) (nf cp : Nat) (w : World) : Calls Try.prog 37 #[.agg #[.int .i64 nodes, .int .i64 slots, .slice ao nf cp], .int .i64 v] w fun e w' => e = .returned (.bool (Nt.isFi nf v)) ∧ Below w.heap.size w w' := by
  unfold Nt.isFi
  by_cases h : 0 ≤ v
  · by_cases k : v < (nf : Int)
    · rw [decide_eq_true h, decide_eq_true k]
      go_enter Try.func37, Try.ntmps37
      go_wp2
      go_ret
      exact ⟨rfl, by go_grown⟩
    · rw [decide_eq_true h, decide_eq_false k]
      go_enter Try.func37, Try.ntmps37
      go_wp2
      go_ret
      exact ⟨rfl, by go_grown⟩
  · rw [decide_eq_false h]
    go_enter Try.func37, Try.ntmps37
    go_wp2
    go_ret
    exact ⟨rfl, by go_grown⟩
set_option maxRecDepth 20000 in
set_option maxHeartbeats 1600000 in
theorem iFib_any (nodes slots v : Int) (ao : Option Addr) (nf cp : Nat) (w : World) : Calls Try.prog 52 #[.agg #[.int .i64 nodes, .int .i64 slots, .slice ao nf cp], .int .i64 v] w fun e w' => e = .returned (.bool (Nt.isFi nf v)) ∧ Below w.heap.size w w' := by
  unfold Nt.isFi
  by_cases h : 0 ≤ v
  · by_cases k : v < (nf : Int)
    · rw [decide_eq_true h, decide_eq_true k]
      go_enter Try.func52, Try.ntmps52
      go_wp2
      go_ret
      exact ⟨rfl, by go_grown⟩
    · rw [decide_eq_true h, decide_eq_false k]
      go_enter Try.func52, Try.ntmps52
      go_wp2
      go_ret
      exact ⟨rfl, by go_grown⟩
  · rw [decide_eq_false h]
    go_enter Try.func52, Try.ntmps52
    go_wp2
    go_ret
    exact ⟨rfl, by go_grown⟩
set_option maxRecDepth 20000 in
set_option maxHeartbeats 1600000 in
theorem sOth_any (f : Fb) (v : Int) (w : World) : Calls Try.prog 38 #[.agg #[.int .i64 f.a, .int .i64 f.b, .int .i64 f.km], .int .i64 v] w fun e w' => e = .returned (.int .i64 (Nt.oth f v)) ∧ Below w.heap.size w w' := by
  unfold Nt.oth
  by_cases h : f.a = v
  · rw [if_pos h]
    have k0 : (f.a == v) = true := by simp [h]
    clear h
    go_enter Try.func38, Try.ntmps38
    go_wp2
    go_ret
    exact ⟨rfl, by go_grown⟩
  · rw [if_neg h]
    have k0 : (f.a == v) = false := by simp; omega
    clear h
    by_cases k : f.b = v
    · rw [if_pos k]
      have k1 : (f.b == v) = true := by simp [k]
      clear k
      go_enter Try.func38, Try.ntmps38
      go_wp2
      go_ret
      exact ⟨rfl, by go_grown⟩
    · rw [if_neg k]
      have k1 : (f.b == v) = false := by simp; omega
      clear k
      go_enter Try.func38, Try.ntmps38
      go_wp2
      go_ret
      exact ⟨rfl, by go_grown⟩
set_option maxRecDepth 20000 in
set_option maxHeartbeats 1600000 in
theorem iOth_any (f : Fb) (v : Int) (w : World) : Calls Try.prog 53 #[.agg #[.int .i64 f.a, .int .i64 f.b, .int .i64 f.km], .int .i64 v] w fun e w' => e = .returned (.int .i64 (Nt.oth f v)) ∧ Below w.heap.size w w' := by
  unfold Nt.oth
  by_cases h : f.a = v
  · rw [if_pos h]
    have k0 : (v == f.a) = true := by simp [h]
    clear h
    go_enter Try.func53, Try.ntmps53
    go_wp2
    go_ret
    exact ⟨rfl, by go_grown⟩
  · rw [if_neg h]
    have k0 : (v == f.a) = false := by simp; omega
    clear h
    by_cases k : f.b = v
    · rw [if_pos k]
      have k1 : (v == f.b) = true := by simp [k]
      clear k
      go_enter Try.func53, Try.ntmps53
      go_wp2
      go_ret
      exact ⟨rfl, by go_grown⟩
    · rw [if_neg k]
      have k1 : (v == f.b) = false := by simp; omega
      clear k
      go_enter Try.func53, Try.ntmps53
      go_wp2
      go_ret
      exact ⟨rfl, by go_grown⟩
set_option maxRecDepth 20000 in
set_option maxHeartbeats 1600000 in
theorem sHas_any {w : World} {ao : Option Addr} {n cap : Nat} {p : Nat → Int} (v : Int) (h : RdRow w (.slice ao n cap) n p) (hn : n ≤ 1048577) :
    Calls Try.prog 39 #[.slice ao n cap, .int .i64 v] w fun e w' => e = .returned (.bool (Nt.has p n v)) ∧ w' = w := by
  have hnI : (n : Int) ≤ 1048577 := by omega
  have H : Hid (RdRow w (.slice ao n cap) n p) := h
  clear h
  go_enter Try.func39, Try.ntmps39
  go_wp2_with fail
  go_loopw [5] (fun i wr => wr = w ∧ ∃ k : Nat, k ≤ n ∧ i = .int .i64 k ∧ Hid (Nt.any (fun k => p k == v) k = false)) (fun i _ => n - (intOf i).toNat)
  case atStart => exact ⟨rfl, 0, Nat.zero_le _, rfl, rfl⟩
  case round =>
    obtain ⟨rfl, k, hk, rfl, HF⟩ := hrel
    by_cases hkn : k < n
    · obtain ⟨b, off, rfl, hc⟩ := H.out.at hkn
      cases hq : (p k == v) with
      | true =>
        have HJ : Hid (Nt.has p n v = true) := Nt.any_hit (q := fun k => p k == v) hkn hq
        go_wp2
        go_ret
        exact ⟨by rw [HJ.out]; rfl, rfl⟩
      | false =>
        have HJ : Hid (Nt.any (fun k => p k == v) (k + 1) = false) := Nt.any_next HF.out hq
        go_wp2
        go_roundw
        case rel => exact ⟨by trivial, k + 1, by omega, by simp, HJ⟩
        case measure => simp [intOf]; omega
    · obtain rfl : k = n := by omega
      go_wp2
      go_ret
      exact ⟨by rw [show Nt.has p k v = false from HF.out]; rfl, rfl⟩
set_option maxRecDepth 20000 in
set_option maxHeartbeats 1600000 in
theorem iEnds_any (nodes slots fr tt : Int) (ao : Option Addr) (nf cp : Nat) (w : World) : Calls Try.prog 56 #[.agg #[.int .i64 nodes, .int .i64 slots, .slice ao nf cp], .int .i64 fr, .int .i64 tt] w fun e w' => e = .returned (.bool (Nt.ends nodes fr tt)) ∧ Below w.heap.size w w' := by
  obtain ⟨X, hX⟩ : ∃ X, X = (w.alloc (.cells #[.int .i64 nodes, .int .i64 slots, .slice ao nf cp] 32)) := ⟨_, rfl⟩
  have BX : Hid (Blk X w.heap.size #[.int .i64 nodes, .int .i64 slots, .slice ao nf cp] 32 ∧ Below w.heap.size w X) := by rw [hX]; exact ⟨Blk.new rfl, (Below.refl _ _).alloc (Nat.le_refl _) _⟩
  have CX : ∀ W, Below X.heap.size X W → W.cell? ⟨w.heap.size, 0, none⟩ = some (.int .i64 nodes) ∧ W.cell? ⟨w.heap.size, 1, none⟩ = some (.int .i64 slots) ∧ W.cell? ⟨w.heap.size, 2, none⟩ = some (.slice ao nf cp) :=
    fun W h => ⟨(BX.out.1.old h).cell rfl, (BX.out.1.old h).cell rfl, (BX.out.1.old h).cell rfl⟩
  have hXz : w.heap.size ≤ X.heap.size := Nat.le_of_lt BX.out.1.lt
  unfold Nt.ends
  cases h1 : Nt.isN nodes fr with
  | false =>
    rw [Bool.false_and, Bool.false_and]
    go_enter Try.func56, Try.ntmps56
    go_wp2_with fail
    rw [← hX]
    clear hX
    obtain ⟨x0, x1, x2⟩ := CX X (Below.refl _ _)
    go_wp2_with fail
    refine (iNode_any nodes slots fr ao nf cp _).mono ?_
    rintro e w1 ⟨rfl, hb1⟩
    rw [h1]
    clear x0 x1 x2
    go_wp2
    go_ret
    exact ⟨rfl, BX.out.2.trans (hb1.mono hXz)⟩
  | true =>
    cases h2 : Nt.isN nodes tt with
    | false =>
      rw [Bool.true_and, Bool.false_and]
      go_enter Try.func56, Try.ntmps56
      go_wp2_with fail
      rw [← hX]
      clear hX
      obtain ⟨x0, x1, x2⟩ := CX X (Below.refl _ _)
      go_wp2_with fail
      refine (iNode_any nodes slots fr ao nf cp _).mono ?_
      rintro e w1 ⟨rfl, hb1⟩
      rw [h1]
      clear x0 x1 x2
      obtain ⟨x0, x1, x2⟩ := CX w1 hb1
      go_wp2_with fail
      refine (iNode_any nodes slots tt ao nf cp _).mono ?_
      rintro e w2 ⟨rfl, hb2⟩
      rw [h2]
      clear x0 x1 x2
      go_wp2
      go_ret
      exact ⟨rfl, BX.out.2.trans ((hb1.trans (hb2.mono hb1.size)).mono hXz)⟩
    | true =>
      rw [Bool.true_and, Bool.true_and]
      go_enter Try.func56, Try.ntmps56
      go_wp2_with fail
      rw [← hX]
      clear hX
      obtain ⟨x0, x1, x2⟩ := CX X (Below.refl _ _)
      go_wp2_with fail
      refine (iNode_any nodes slots fr ao nf cp _).mono ?_
      rintro e w1 ⟨rfl, hb1⟩
      rw [h1]
      clear x0 x1 x2
      obtain ⟨x0, x1, x2⟩ := CX w1 hb1
      go_wp2_with fail
      refine (iNode_any nodes slots tt ao nf cp _).mono ?_
      rintro e w2 ⟨rfl, hb2⟩
      rw [h2]
      clear x0 x1 x2
      go_wp2
      go_ret
      exact ⟨rfl, BX.out.2.trans ((hb1.trans (hb2.mono hb1.size)).mono hXz)⟩
set_option maxRecDepth 20000 in
set_option maxHeartbeats 1600000 in
theorem iEf_any {w : World} {ao : Option Addr} {nf cp : Nat} {nodes slots : Int} {F : Nat → Fb} (fr tt : Int) (h : Rf w (.slice ao nf cp) nf F) (hcp : nf ≤ cp) (hn : nf ≤ 1048576) :
    Calls Try.prog 41 #[.agg #[.int .i64 nodes, .int .i64 slots, .slice ao nf cp], .int .i64 fr, .int .i64 tt] w fun e w' => e = .returned (.int .i64 (Nt.efault nodes slots nf F fr tt)) ∧ Below w.heap.size w w' := by
  obtain ⟨X, hX⟩ : ∃ X, X = (w.alloc (.cells #[.int .i64 nodes, .int .i64 slots, .slice ao nf cp] 32)) := ⟨_, rfl⟩
  have BX : Hid (Blk X w.heap.size #[.int .i64 nodes, .int .i64 slots, .slice ao nf cp] 32 ∧ Below w.heap.size w X) := by rw [hX]; exact ⟨Blk.new rfl, (Below.refl _ _).alloc (Nat.le_refl _) _⟩
  have CX : ∀ W, Below X.heap.size X W → W.cell? ⟨w.heap.size, 0, none⟩ = some (.int .i64 nodes) ∧ W.cell? ⟨w.heap.size, 1, none⟩ = some (.int .i64 slots) ∧ W.cell? ⟨w.heap.size, 2, none⟩ = some (.slice ao nf cp) :=
    fun W h => ⟨(BX.out.1.old h).cell rfl, (BX.out.1.old h).cell rfl, (BX.out.1.old h).cell rfl⟩
  have hXz : w.heap.size ≤ X.heap.size := Nat.le_of_lt BX.out.1.lt
  have H : Hid (Rf X (.slice ao nf cp) nf F) := h.later BX.out.2
  clear h
  obtain ⟨c, hc⟩ : ∃ c, c = Nt.nfault nodes slots nf F := ⟨_, rfl⟩
  have HC : Hid (c = Nt.nfault nodes slots nf F) := hc
  by_cases hz : c = 0
  · have hc0 : Nt.nfault nodes slots nf F = 0 := by rw [← hc]; exact hz
    cases he : Nt.ends nodes fr tt with
    | false =>
      rw [Nt.ef_one hc0 he]
      clear hc hc0
      go_enter Try.func41, Try.ntmps41
      go_wp2_with fail
      rw [← hX]
      clear hX
      obtain ⟨x0, x1, x2⟩ := CX X (Below.refl _ _)
      go_wp2_with fail
      refine (iNf_any H.out hcp hn).mono ?_
      rintro e w1 ⟨rfl, hb1⟩
      rw [← HC.out, hz]
      clear x0 x1 x2
      obtain ⟨x0, x1, x2⟩ := CX w1 hb1
      go_wp2_with fail
      refine (iEnds_any nodes slots fr tt ao nf cp _).mono ?_
      rintro e w2 ⟨rfl, hb2⟩
      rw [he]
      go_wp2
      go_ret
      exact ⟨rfl, BX.out.2.trans ((hb1.trans (hb2.mono hb1.size)).mono hXz)⟩
    | true =>
      rw [Nt.ef_nil hc0 he]
      clear hc hc0
      go_enter Try.func41, Try.ntmps41
      go_wp2_with fail
      rw [← hX]
      clear hX
      obtain ⟨x0, x1, x2⟩ := CX X (Below.refl _ _)
      go_wp2_with fail
      refine (iNf_any H.out hcp hn).mono ?_
      rintro e w1 ⟨rfl, hb1⟩
      rw [← HC.out, hz]
      clear x0 x1 x2
      obtain ⟨x0, x1, x2⟩ := CX w1 hb1
      go_wp2_with fail
      refine (iEnds_any nodes slots fr tt ao nf cp _).mono ?_
      rintro e w2 ⟨rfl, hb2⟩
      rw [he]
      go_wp2
      go_ret
      exact ⟨rfl, BX.out.2.trans ((hb1.trans (hb2.mono hb1.size)).mono hXz)⟩
  · have hz' : (c == 0) = false := by simpa using hz
    rw [Nt.ef_net (by rw [← hc]; exact hz), ← hc]
    clear hc hz
    go_enter Try.func41, Try.ntmps41
    go_wp2_with fail
    rw [← hX]
    clear hX
    obtain ⟨x0, x1, x2⟩ := CX X (Below.refl _ _)
    go_wp2_with fail
    refine (iNf_any H.out hcp hn).mono ?_
    rintro e w1 ⟨rfl, hb1⟩
    rw [← HC.out]
    clear x0 x1 x2
    go_wp2
    go_ret
    exact ⟨rfl, BX.out.2.trans (hb1.mono hXz)⟩
theorem been_next (F : Nat → Fb) (p : Nat → Int) (fr v : Int) (k : Nat) : Nt.been F p fr v (k + 1) = (Nt.been F p fr v k || (Nt.nd F p fr k == v)) := rfl
theorem way_stop {nf : Nat} {F : Nat → Fb} {p : Nat → Int} {fr tt : Int} {k n : Nat} (h : Nt.way nf F p fr k = 0) (hk : k < n) {c : Int} (hc : Nt.stp nf F p fr k = c) (h0 : c ≠ 0) : Nt.wend nf F fr tt n p = c := by
  have e : Nt.way nf F p fr n = c := by
    rw [← hc]
    exact Nt.fst_stop h (by rw [hc]; exact h0) hk
  unfold Nt.wend
  rw [if_neg (by rw [e]; exact h0), e]
theorem stp_three {nf : Nat} {F : Nat → Fb} {p : Nat → Int} {fr : Int} {k : Nat} (h : Nt.isFi nf (p k) = false) : Nt.stp nf F p fr k = 3 := by unfold Nt.stp; rw [if_pos h]
theorem stp_one {nf : Nat} {F : Nat → Fb} {p : Nat → Int} {fr : Int} {k : Nat} (h : Nt.isFi nf (p k) = true) (h2 : Nt.nd F p fr (k + 1) < 0 ∨ Nt.been F p fr (Nt.nd F p fr (k + 1)) (k + 1) = true) : Nt.stp nf F p fr k = 1 := by unfold Nt.stp; rw [if_neg (by rw [h]; simp), if_pos h2]
theorem stp_zero {nf : Nat} {F : Nat → Fb} {p : Nat → Int} {fr : Int} {k : Nat} (h : Nt.isFi nf (p k) = true) (h1 : 0 ≤ Nt.nd F p fr (k + 1)) (h2 : Nt.been F p fr (Nt.nd F p fr (k + 1)) (k + 1) = false) : Nt.stp nf F p fr k = 0 := by unfold Nt.stp; rw [if_neg (by rw [h]; simp), if_neg (by rw [h2]; simp; omega)]
end Go.Proofs.Ytfpklfpcencimaa
