/- Routes: what is wrong with one, in both packages: contracts. -/
import Derived.Test.YtinfbbbgfkaioaaNe
import Derived.Test.YtinfbbbgfkaioaaNh
namespace Go.Proofs.Ytinfbbbgfkaioaa
open Go.RowKit
set_option linter.unusedVariables false
set_option linter.unusedSimpArgs false
set_option maxRecDepth 20000 in
set_option maxHeartbeats 1600000 in
theorem sFib_any (nodes slots v : Int) (ao : Option Addr) (nf cp : Nat) (w : World) : Calls Try.prog 114 #[.agg #[.int .i64 nodes, .int .i64 slots, .slice ao nf cp], .int .i64 v] w fun e w' => e = .returned (.bool (Nt.isFi nf v)) ∧ Below w.heap.size w w' := by
  unfold Nt.isFi
  by_cases h : 0 ≤ v
  · by_cases k : v < (nf : Int)
    · rw [decide_eq_true h, decide_eq_true k]
      go_enter Try.func114, Try.ntmps114
      go_wp2
      go_ret
      exact ⟨rfl, by go_grown⟩
    · rw [decide_eq_true h, decide_eq_false k]
      go_enter Try.func114, Try.ntmps114
      go_wp2
      go_ret
      exact ⟨rfl, by go_grown⟩
  · rw [decide_eq_false h]
    go_enter Try.func114, Try.ntmps114
    go_wp2
    go_ret
    exact ⟨rfl, by go_grown⟩
set_option maxRecDepth 20000 in
set_option maxHeartbeats 1600000 in
theorem iFib_any (nodes slots v : Int) (ao : Option Addr) (nf cp : Nat) (w : World) : Calls Try.prog 134 #[.agg #[.int .i64 nodes, .int .i64 slots, .slice ao nf cp], .int .i64 v] w fun e w' => e = .returned (.bool (Nt.isFi nf v)) ∧ Below w.heap.size w w' := by
  unfold Nt.isFi
  by_cases h : 0 ≤ v
  · by_cases k : v < (nf : Int)
    · rw [decide_eq_true h, decide_eq_true k]
      go_enter Try.func134, Try.ntmps134
      go_wp2
      go_ret
      exact ⟨rfl, by go_grown⟩
    · rw [decide_eq_true h, decide_eq_false k]
      go_enter Try.func134, Try.ntmps134
      go_wp2
      go_ret
      exact ⟨rfl, by go_grown⟩
  · rw [decide_eq_false h]
    go_enter Try.func134, Try.ntmps134
    go_wp2
    go_ret
    exact ⟨rfl, by go_grown⟩
set_option maxRecDepth 20000 in
set_option maxHeartbeats 1600000 in
theorem sOth_any (f : Fb) (v : Int) (w : World) : Calls Try.prog 115 #[.agg #[.int .i64 f.a, .int .i64 f.b, .int .i64 f.km], .int .i64 v] w fun e w' => e = .returned (.int .i64 (Nt.oth f v)) ∧ Below w.heap.size w w' := by
  unfold Nt.oth
  by_cases h : f.a = v
  · rw [if_pos h]
    have k0 : (f.a == v) = true := by simp [h]
    clear h
    go_enter Try.func115, Try.ntmps115
    go_wp2
    go_ret
    exact ⟨rfl, by go_grown⟩
  · rw [if_neg h]
    have k0 : (f.a == v) = false := by simp; omega
    clear h
    by_cases k : f.b = v
    · rw [if_pos k]
      have k1 : (f.b == v) = true := by simp [k]
      clear k
      go_enter Try.func115, Try.ntmps115
      go_wp2
      go_ret
      exact ⟨rfl, by go_grown⟩
    · rw [if_neg k]
      have k1 : (f.b == v) = false := by simp; omega
      clear k
      go_enter Try.func115, Try.ntmps115
      go_wp2
      go_ret
      exact ⟨rfl, by go_grown⟩
set_option maxRecDepth 20000 in
set_option maxHeartbeats 1600000 in
theorem iOth_any (f : Fb) (v : Int) (w : World) : Calls Try.prog 135 #[.agg #[.int .i64 f.a, .int .i64 f.b, .int .i64 f.km], .int .i64 v] w fun e w' => e = .returned (.int .i64 (Nt.oth f v)) ∧ Below w.heap.size w w' := by
  unfold Nt.oth
  by_cases h : f.a = v
  · rw [if_pos h]
    have k0 : (v == f.a) = true := by simp [h]
    clear h
    go_enter Try.func135, Try.ntmps135
    go_wp2
    go_ret
    exact ⟨rfl, by go_grown⟩
  · rw [if_neg h]
    have k0 : (v == f.a) = false := by simp; omega
    clear h
    by_cases k : f.b = v
    · rw [if_pos k]
      have k1 : (v == f.b) = true := by simp [k]
      clear k
      go_enter Try.func135, Try.ntmps135
      go_wp2
      go_ret
      exact ⟨rfl, by go_grown⟩
    · rw [if_neg k]
      have k1 : (v == f.b) = false := by simp; omega
      clear k
      go_enter Try.func135, Try.ntmps135
      go_wp2
      go_ret
      exact ⟨rfl, by go_grown⟩
set_option maxRecDepth 20000 in
set_option maxHeartbeats 1600000 in
theorem sHas_any {w : World} {ao : Option Addr} {n cap : Nat} {p : Nat → Int} (v : Int) (h : RdRow w (.slice ao n cap) n p) (hn : n ≤ 1048577) :
    Calls Try.prog 102 #[.slice ao n cap, .int .i64 v] w fun e w' => e = .returned (.bool (Nt.has p n v)) ∧ w' = w := by
  have hnI : (n : Int) ≤ 1048577 := by omega
  have H : Hid (RdRow w (.slice ao n cap) n p) := h
  clear h
  go_enter Try.func102, Try.ntmps102
  go_wp2_with fail
  go_loopw [5] (fun i wr => wr = w ∧ ∃ k : Nat, k ≤ n ∧ i = .int .i64 k ∧ Hid (Nt.any (fun k => p k == v) k = false)) (fun i _ => n - (intOf i).toNat)
  case atStart => exact ⟨rfl, 0, Nat.zero_le _, rfl, rfl⟩
  case round =>
    obtain ⟨rfl, k, hk, rfl, HF⟩ := hrel
    by_cases hkn : k < n
    · obtain ⟨b, off, rfl, hc⟩ := H.out.at hkn
      cases hq : (p k == v) with
      | true =>
        have HJ : Hid (Nt.has p n v = true) := Nt.any_hit (q := fun k => p k == v) hkn hq
        go_wp2
        go_ret
        exact ⟨by rw [HJ.out]; rfl, rfl⟩
      | false =>
        have HJ : Hid (Nt.any (fun k => p k == v) (k + 1) = false) := Nt.any_next HF.out hq
        go_wp2
        go_roundw
        case rel => exact ⟨by trivial, k + 1, by omega, by simp, HJ⟩
        case measure => simp [intOf]; omega
    · obtain rfl : k = n := by omega
      go_wp2
      go_ret
      exact ⟨by rw [show Nt.has p k v = false from HF.out]; rfl, rfl⟩
set_option maxRecDepth 20000 in
set_option maxHeartbeats 1600000 in
theorem iEnds_any (nodes slots fr tt : Int) (ao : Option Addr) (nf cp : Nat) (w : World) : Calls Try.prog 133 #[.agg #[.int .i64 nodes, .int .i64 slots, .slice ao nf cp], .int .i64 fr, .int .i64 tt] w fun e w' => e = .returned (.bool (Nt.ends nodes fr tt)) ∧ Below w.heap.size w w' := by
  obtain ⟨X, hX⟩ : ∃ X, X = (w.alloc (.cells #[.int .i64 nodes, .int .i64 slots, .slice ao nf cp] 37)) := ⟨_, rfl⟩
  have BX : Hid (Blk X w.heap.size #[.int .i64 nodes, .int .i64 slots, .slice ao nf cp] 37 ∧ Below w.heap.size w X) := by rw [hX]; exact ⟨Blk.new rfl, (Below.refl _ _).alloc (Nat.le_refl _) _⟩
  have CX : ∀ W, Below X.heap.size X W → W.cell? ⟨w.heap.size, 0, none⟩ = some (.int .i64 nodes) ∧ W.cell? ⟨w.heap.size, 1, none⟩ = some (.int .i64 slots) ∧ W.cell? ⟨w.heap.size, 2, none⟩ = some (.slice ao nf cp) :=
    fun W h => ⟨(BX.out.1.old h).cell rfl, (BX.out.1.old h).cell rfl, (BX.out.1.old h).cell rfl⟩
  have hXz : w.heap.size ≤ X.heap.size := Nat.le_of_lt BX.out.1.lt
  unfold Nt.ends
  cases h1 : Nt.isN nodes fr with
  | false =>
    rw [Bool.false_and, Bool.false_and]
    go_enter Try.func133, Try.ntmps133
    go_wp2_with fail
    rw [← hX]
    clear hX
    obtain ⟨x0, x1, x2⟩ := CX X (Below.refl _ _)
    go_wp2_with fail
    refine (iNode_any nodes slots fr ao nf cp _).mono ?_
    rintro e w1 ⟨rfl, hb1⟩
    rw [h1]
    clear x0 x1 x2
    go_wp2
    go_ret
    exact ⟨rfl, BX.out.2.trans (hb1.mono hXz)⟩
  | true =>
    cases h2 : Nt.isN nodes tt with
    | false =>
      rw [Bool.true_and, Bool.false_and]
      go_enter Try.func133, Try.ntmps133
      go_wp2_with fail
      rw [← hX]
      clear hX
      obtain ⟨x0, x1, x2⟩ := CX X (Below.refl _ _)
      go_wp2_with fail
      refine (iNode_any nodes slots fr ao nf cp _).mono ?_
      rintro e w1 ⟨rfl, hb1⟩
      rw [h1]
      clear x0 x1 x2
      obtain ⟨x0, x1, x2⟩ := CX w1 hb1
      go_wp2_with fail
      refine (iNode_any nodes slots tt ao nf cp _).mono ?_
      rintro e w2 ⟨rfl, hb2⟩
      rw [h2]
      clear x0 x1 x2
      go_wp2
      go_ret
      exact ⟨rfl, BX.out.2.trans ((hb1.trans (hb2.mono hb1.size)).mono hXz)⟩
    | true =>
      rw [Bool.true_and, Bool.true_and]
      go_enter Try.func133, Try.ntmps133
      go_wp2_with fail
      rw [← hX]
      clear hX
      obtain ⟨x0, x1, x2⟩ := CX X (Below.refl _ _)
      go_wp2_with fail
      refine (iNode_any nodes slots fr ao nf cp _).mono ?_
      rintro e w1 ⟨rfl, hb1⟩
      rw [h1]
      clear x0 x1 x2
      obtain ⟨x0, x1, x2⟩ := CX w1 hb1
      go_wp2_with fail
      refine (iNode_any nodes slots tt ao nf cp _).mono ?_
      rintro e w2 ⟨rfl, hb2⟩
      rw [h2]
      clear x0 x1 x2
      go_wp2
      go_ret
      exact ⟨rfl, BX.out.2.trans ((hb1.trans (hb2.mono hb1.size)).mono hXz)⟩
set_option maxRecDepth 20000 in
set_option maxHeartbeats 1600000 in
theorem iEf_any {w : World} {ao : Option Addr} {nf cp : Nat} {nodes slots : Int} {F : Nat → Fb} (fr tt : Int) (h : Rf w (.slice ao nf cp) nf F) (hcp : nf ≤ cp) (hn : nf ≤ 1048576) :
    Calls Try.prog 128 #[.agg #[.int .i64 nodes, .int .i64 slots, .slice ao nf cp], .int .i64 fr, .int .i64 tt] w fun e w' => e = .returned (.int .i64 (Nt.efault nodes slots nf F fr tt)) ∧ Below w.heap.size w w' := by
  obtain ⟨X, hX⟩ : ∃ X, X = (w.alloc (.cells #[.int .i64 nodes, .int .i64 slots, .slice ao nf cp] 37)) := ⟨_, rfl⟩
  have BX : Hid (Blk X w.heap.size #[.int .i64 nodes, .int .i64 slots, .slice ao nf cp] 37 ∧ Below w.heap.size w X) := by rw [hX]; exact ⟨Blk.new rfl, (Below.refl _ _).alloc (Nat.le_refl _) _⟩
  have CX : ∀ W, Below X.heap.size X W → W.cell? ⟨w.heap.size, 0, none⟩ = some (.int .i64 nodes) ∧ W.cell? ⟨w.heap.size, 1, none⟩ = some (.int .i64 slots) ∧ W.cell? ⟨w.heap.size, 2, none⟩ = some (.slice ao nf cp) :=
    fun W h => ⟨(BX.out.1.old h).cell rfl, (BX.out.1.old h).cell rfl, (BX.out.1.old h).cell rfl⟩
  have hXz : w.heap.size ≤ X.heap.size := Nat.le_of_lt BX.out.1.lt
  have H : Hid (Rf X (.slice ao nf cp) nf F) := h.later BX.out.2
  clear h
  obtain ⟨c, hc⟩ : ∃ c, c = Nt.nfault nodes slots nf F := ⟨_, rfl⟩
  have HC : Hid (c = Nt.nfault nodes slots nf F) := hc
  by_cases hz : c = 0
  · have hc0 : Nt.nfault nodes slots nf F = 0 := by rw [← hc]; exact hz
    cases he : Nt.ends nodes fr tt with
    | false =>
      rw [Nt.ef_one hc0 he]
      clear hc hc0
      go_enter Try.func128, Try.ntmps128
      go_wp2_with fail
      rw [← hX]
      clear hX
      obtain ⟨x0, x1, x2⟩ := CX X (Below.refl _ _)
      go_wp2_with fail
      refine (iNf_any H.out hcp hn).mono ?_
      rintro e w1 ⟨rfl, hb1⟩
      rw [← HC.out, hz]
      clear x0 x1 x2
      obtain ⟨x0, x1, x2⟩ := CX w1 hb1
      go_wp2_with fail
      refine (iEnds_any nodes slots fr tt ao nf cp _).mono ?_
      rintro e w2 ⟨rfl, hb2⟩
      rw [he]
      go_wp2
      go_ret
      exact ⟨rfl, BX.out.2.trans ((hb1.trans (hb2.mono hb1.size)).mono hXz)⟩
    | true =>
      rw [Nt.ef_nil hc0 he]
      clear hc hc0
      go_enter Try.func128, Try.ntmps128
      go_wp2_with fail
      rw [← hX]
      clear hX
      obtain ⟨x0, x1, x2⟩ := CX X (Below.refl _ _)
      go_wp2_with fail
      refine (iNf_any H.out hcp hn).mono ?_
      rintro e w1 ⟨rfl, hb1⟩
      rw [← HC.out, hz]
      clear x0 x1 x2
      obtain ⟨x0, x1, x2⟩ := CX w1 hb1
      go_wp2_with fail
      refine (iEnds_any nodes slots fr tt ao nf cp _).mono ?_
      rintro e w2 ⟨rfl, hb2⟩
      rw [he]
      go_wp2
      go_ret
      exact ⟨rfl, BX.out.2.trans ((hb1.trans (hb2.mono hb1.size)).mono hXz)⟩
  · have hz' : (c == 0) = false := by simpa using hz
    rw [Nt.ef_net (by rw [← hc]; exact hz), ← hc]
    clear hc hz
    go_enter Try.func128, Try.ntmps128
    go_wp2_with fail
    rw [← hX]
    clear hX
    obtain ⟨x0, x1, x2⟩ := CX X (Below.refl _ _)
    go_wp2_with fail
    refine (iNf_any H.out hcp hn).mono ?_
    rintro e w1 ⟨rfl, hb1⟩
    rw [← HC.out]
    clear x0 x1 x2
    go_wp2
    go_ret
    exact ⟨rfl, BX.out.2.trans (hb1.mono hXz)⟩
theorem been_next (F : Nat → Fb) (p : Nat → Int) (fr v : Int) (k : Nat) : Nt.been F p fr v (k + 1) = (Nt.been F p fr v k || (Nt.nd F p fr k == v)) := rfl
theorem way_stop {nf : Nat} {F : Nat → Fb} {p : Nat → Int} {fr tt : Int} {k n : Nat} (h : Nt.way nf F p fr k = 0) (hk : k < n) {c : Int} (hc : Nt.stp nf F p fr k = c) (h0 : c ≠ 0) : Nt.wend nf F fr tt n p = c := by
  have e : Nt.way nf F p fr n = c := by
    rw [← hc]
    exact Nt.fst_stop h (by rw [hc]; exact h0) hk
  unfold Nt.wend
  rw [if_neg (by rw [e]; exact h0), e]
theorem stp_three {nf : Nat} {F : Nat → Fb} {p : Nat → Int} {fr : Int} {k : Nat} (h : Nt.isFi nf (p k) = false) : Nt.stp nf F p fr k = 3 := by unfold Nt.stp; rw [if_pos h]
theorem stp_one {nf : Nat} {F : Nat → Fb} {p : Nat → Int} {fr : Int} {k : Nat} (h : Nt.isFi nf (p k) = true) (h2 : Nt.nd F p fr (k + 1) < 0 ∨ Nt.been F p fr (Nt.nd F p fr (k + 1)) (k + 1) = true) : Nt.stp nf F p fr k = 1 := by unfold Nt.stp; rw [if_neg (by rw [h]; simp), if_pos h2]
theorem stp_zero {nf : Nat} {F : Nat → Fb} {p : Nat → Int} {fr : Int} {k : Nat} (h : Nt.isFi nf (p k) = true) (h1 : 0 ≤ Nt.nd F p fr (k + 1)) (h2 : Nt.been F p fr (Nt.nd F p fr (k + 1)) (k + 1) = false) : Nt.stp nf F p fr k = 0 := by unfold Nt.stp; rw [if_neg (by rw [h]; simp), if_neg (by rw [h2]; simp; omega)]
theorem seg_was (w : World) : Seg (w.alloc (.cells #[.bool false, .bool false, .bool false, .bool false, .bool false, .bool false, .bool false, .bool false] 162)) w.heap.size 162 0 8 (fun _ => .bool false) := by
  refine ⟨#[.bool false, .bool false, .bool false, .bool false, .bool false, .bool false, .bool false, .bool false], by show (w.heap.push _)[w.heap.size]? = _; simp, fun i hi => ?_⟩
  match i, hi with
  | 0, _ => rfl
  | 1, _ => rfl
  | 2, _ => rfl
  | 3, _ => rfl
  | 4, _ => rfl
  | 5, _ => rfl
  | 6, _ => rfl
  | 7, _ => rfl
set_option maxRecDepth 20000 in
set_option maxHeartbeats 1600000 in
theorem iWay_any {w : World} {ao bo : Option Addr} {nf cp np cq : Nat} {nodes slots : Int} {F : Nat → Fb} {p : Nat → Int} (fr tt : Int) (G : Nt.Good nodes slots nf F) (h0 : 0 ≤ fr) (h1 : fr < nodes) (h : Rf w (.slice ao nf cp) nf F) (hp : RdRow w (.slice bo np cq) np p) (hn : np ≤ 1048576) :
    Calls Try.prog 129 #[.agg #[.int .i64 nodes, .int .i64 slots, .slice ao nf cp], .int .i64 fr, .int .i64 tt, .slice bo np cq] w fun e w' => e = .returned (.int .i64 (Nt.wend nf F fr tt np p)) ∧ Below w.heap.size w w' := by
  have hnI : (np : Int) ≤ 1048576 := by omega
  have hfI : (nf : Int) ≤ 14 := by have := G.f14; omega
  obtain ⟨Z, hZ⟩ : ∃ Z, Z = ((w.alloc (.cells #[.int .i64 nodes, .int .i64 slots, .slice ao nf cp] 37)).alloc (.cells #[.bool false, .bool false, .bool false, .bool false, .bool false, .bool false, .bool false, .bool false] 162)) := ⟨_, rfl⟩
  have BZ : Hid (Blk Z w.heap.size #[.int .i64 nodes, .int .i64 slots, .slice ao nf cp] 37 ∧ Seg Z (w.heap.size + 1) 162 0 8 (fun j => .bool (Nt.been F p fr (j : Int) 0)) ∧ Below w.heap.size w Z ∧ Z.heap.size = w.heap.size + 1 + 1) := by
    rw [hZ]
    exact ⟨(Blk.new rfl).alloc _, by simpa [Nt.been, Nt.any] using seg_was (w.alloc (.cells #[.int .i64 nodes, .int .i64 slots, .slice ao nf cp] 37)), ((Below.refl _ _).alloc (Nat.le_refl _) _).alloc (by simp) _, by simp⟩
  have HM : ∀ W, Below (w.heap.size + 1) Z W → Hid (Rf W (.slice ao nf cp) nf F ∧ RdRow W (.slice bo np cq) np p ∧ w.heap.size + 1 < W.heap.size) := fun W hb => ⟨h.later (BZ.out.2.2.1.trans (hb.mono (Nat.le_succ _))), hp.later (BZ.out.2.2.1.trans (hb.mono (Nat.le_succ _))), by have := hb.size; have := BZ.out.2.2.2; omega⟩
  have HN : Hid ((∀ b off c, ao = some ⟨b, off, c⟩ → 0 < nf → b < w.heap.size) ∧ ∀ b off c, bo = some ⟨b, off, c⟩ → 0 < np → b < w.heap.size) := by
    refine ⟨fun b off c e hz => ?_, fun b off c e hz => ?_⟩
    · obtain ⟨b', o', e', hc⟩ := h.at hz
      rw [e] at e'
      simp only [Option.some.injEq, Addr.mk.injEq] at e'
      rw [e'.1]
      exact World.block_lt_of_cell? _ _ (hc 0 (by omega))
    · obtain ⟨b', o', e', hc⟩ := hp.at hz
      rw [e] at e'
      simp only [Option.some.injEq, Addr.mk.injEq] at e'
      rw [e'.1]
      exact World.block_lt_of_cell? _ _ hc
  clear h hp
  have CX : ∀ W, Below (w.heap.size + 1) Z W → W.cell? ⟨w.heap.size, 0, none⟩ = some (.int .i64 nodes) ∧ W.cell? ⟨w.heap.size, 1, none⟩ = some (.int .i64 slots) ∧ W.cell? ⟨w.heap.size, 2, none⟩ = some (.slice ao nf cp) := fun W hb => by
    have hB : Blk W w.heap.size #[.int .i64 nodes, .int .i64 slots, .slice ao nf cp] 37 := (hb.block _ (Nat.lt_succ_self _)).trans BZ.out.1
    exact ⟨hB.cell rfl, hB.cell rfl, hB.cell rfl⟩
  obtain ⟨m0, hm0⟩ : ∃ m : Nat, fr = (m : Int) := ⟨fr.toNat, by omega⟩
  have hm8 : m0 < 8 := by have := G.n8; omega
  have HF0 : Hid (fr = (m0 : Int)) := hm0
  have HE : Hid (∀ k, Nt.way nf F p fr k = 0 → ∀ i, i ≤ k → 0 ≤ Nt.nd F p fr i ∧ Nt.nd F p fr i < nodes) := fun k hk => Nt.nd_in G h0 h1 hk
  have HG : Hid (Nt.Good nodes slots nf F) := G
  clear h0 h1 G
  obtain ⟨C, hC⟩ : ∃ C, C = Nt.wend nf F fr tt np p := ⟨_, rfl⟩
  have HC : Hid (C = Nt.wend nf F fr tt np p) := hC
  rw [← hC, hm0]
  clear hC hm0
  go_enter Try.func129, Try.ntmps129
  go_wp2_with fail
  rw [← hZ]
  clear hZ
  go_loopw [10, 16] (fun u i wr => ∃ k m : Nat, k ≤ np ∧ m < 8 ∧ i = .int .i64 k ∧ u = .int .i64 m ∧ Hid (Below (w.heap.size + 1) Z wr) ∧ Hid (Seg wr (w.heap.size + 1) 162 0 8 (fun j => .bool (Nt.been F p fr (j : Int) k))) ∧ Hid (Nt.way nf F p fr k = 0 ∧ Nt.nd F p fr k = (m : Int))) (fun _ i _ => np - (intOf i).toNat)
  case atStart => exact ⟨0, m0, Nat.zero_le _, hm8, rfl, rfl, Below.refl _ _, BZ.out.2.1, rfl, HF0.out⟩
  case round =>
    obtain ⟨k, m, hk, hm, rfl, rfl, HB, HW, HK⟩ := hrel
    by_cases hkn : k < np
    · obtain ⟨b, off, rfl, hc⟩ := (HM wr HB.out).out.2.1.at hkn
      obtain ⟨x0, x1, x2⟩ := CX wr HB.out
      obtain ⟨v, hv⟩ : ∃ v, v = p k := ⟨_, rfl⟩
      rw [← hv] at hc
      have HV : Hid (v = p k) := hv
      clear hv
      go_wp2_with fail
      refine (iFib_any nodes slots v ao nf cp _).mono ?_
      rintro e w1 ⟨rfl, hb1⟩
      clear x0 x1 x2 hc
      have HB1 : Hid (Below (w.heap.size + 1) Z w1) := HB.out.trans (hb1.mono (by have := (HM wr HB.out).out.2.2; omega))
      have HW1 : Hid (Seg w1 (w.heap.size + 1) 162 0 8 (fun j => .bool (Nt.been F p fr (j : Int) k))) := HW.out.of_block (hb1.block _ (HM wr HB.out).out.2.2)
      clear hb1
      cases hfi : Nt.isFi nf v with
      | false =>
        have hs : Hid (C = 3) := by rw [HC.out]; exact way_stop HK.out.1 hkn (stp_three (by rw [← HV.out]; exact hfi)) (by omega)
        clear hfi
        go_wp2
        go_ret
        exact ⟨by rw [hs.out]; rfl, BZ.out.2.2.1.trans (HB1.out.mono (Nat.le_succ _))⟩
      | true =>
        obtain ⟨q, hq⟩ : ∃ q : Nat, v = (q : Int) := ⟨v.toNat, by have := Nt.isFi_iff.1 hfi; omega⟩
        have hqf : q < nf := by have := Nt.isFi_iff.1 hfi; omega
        have hqI : (q : Int) < nf := by omega
        obtain ⟨bf, of, haf, hcf⟩ := (HM w1 HB1.out).out.1.at hqf
        subst haf
        have hbf : bf < w.heap.size := HN.out.1 _ _ _ rfl (by omega)
        obtain ⟨f, hf⟩ : ∃ f, f = F q := ⟨_, rfl⟩
        have f0 : w1.cell? ⟨bf, of + q * 3, none⟩ = some (.int .i64 f.a) := by rw [hf]; exact hcf 0 (by omega)
        have f1 : w1.cell? ⟨bf, of + q * 3 + 1, none⟩ = some (.int .i64 f.b) := by rw [hf]; exact hcf 1 (by omega)
        have f2 : w1.cell? ⟨bf, of + q * 3 + 2, none⟩ = some (.int .i64 f.km) := by rw [hf]; exact hcf 2 (by omega)
        obtain ⟨x0, x1, x2⟩ := CX w1 HB1.out
        have a0 := HW1.out.cell hm
        have az := HW1.out.frozen m
        have al := HW1.out.lt
        rw [Nat.zero_add] at a0
        have HFI : Hid (Nt.isFi nf (p k) = true) := by rw [← HV.out]; exact hfi
        have HQ : Hid (Nt.nd F p fr (k + 1) = Nt.oth f (m : Int)) := by
          show Nt.oth (F (p k).toNat) (Nt.nd F p fr k) = _
          rw [HK.out.2, hf, ← HV.out, hq]; rfl
        have hne : bf ≠ w.heap.size + 1 := by omega
        have hne2 : w.heap.size ≠ w.heap.size + 1 := by omega
        subst hq
        clear hcf hf hfi HV
        obtain ⟨w2, hw2⟩ : ∃ W, W = w1.setCell ⟨w.heap.size + 1, m, none⟩ (.bool true) := ⟨_, rfl⟩
        have HB2 : Hid (Below (w.heap.size + 1) Z w2) := by rw [hw2]; exact HB1.out.setCell (by simp) _
        have HW2 : Hid (Seg w2 (w.heap.size + 1) 162 0 8 (fun j => .bool (Nt.been F p fr (j : Int) (k + 1)))) := by
          rw [hw2]
          have := HW1.out.set m hm (.bool true)
          rw [Nat.zero_add] at this
          refine this.congr fun j hj => ?_
          rw [been_next, HK.out.2]
          by_cases e : j = m
          · subst e; simp
          · have e2 : ((m : Int) == (j : Int)) = false := by simp; omega
            rw [if_neg e, e2, Bool.or_false]
        have hset : Below (w.heap.size + 1) w1 w2 := by rw [hw2]; exact (Below.refl _ _).setCell (by simp) _
        have g0 : w2.cell? ⟨bf, of + q * 3, none⟩ = some (.int .i64 f.a) := (hset.cell (p := ⟨bf, of + q * 3, none⟩) (by show bf < _; omega)).trans f0
        have g1 : w2.cell? ⟨bf, of + q * 3 + 1, none⟩ = some (.int .i64 f.b) := (hset.cell (p := ⟨bf, of + q * 3 + 1, none⟩) (by show bf < _; omega)).trans f1
        have g2 : w2.cell? ⟨bf, of + q * 3 + 2, none⟩ = some (.int .i64 f.km) := (hset.cell (p := ⟨bf, of + q * 3 + 2, none⟩) (by show bf < _; omega)).trans f2
        go_upto_region 9 with fail
        rw [← hw2]
        clear f0 f1 f2 x0 x1 x2 a0 az al hw2 hset
        obtain ⟨x0, x1, x2⟩ := CX w2 HB2.out
        go_wp2_with fail
        refine (iOth_any f (m : Int) _).mono ?_
        rintro e w3 ⟨rfl, hb3⟩
        clear g0 g1 g2 x0 x1 x2
        have hz2 := (HM w2 HB2.out).out.2.2
        have HB3 : Hid (Below (w.heap.size + 1) Z w3) := HB2.out.trans (hb3.mono (by omega))
        have HW3 : Hid (Seg w3 (w.heap.size + 1) 162 0 8 (fun j => .bool (Nt.been F p fr (j : Int) (k + 1)))) := HW2.out.of_block (hb3.block _ hz2)
        clear hb3 hz2
        obtain ⟨t, ht⟩ : ∃ t, t = Nt.oth f (m : Int) := ⟨_, rfl⟩
        rw [← ht] at HQ ⊢
        clear ht
        by_cases htn : t < 0
        · have hs : Hid (C = 1) := by rw [HC.out]; exact way_stop HK.out.1 hkn (stp_one HFI.out (Or.inl (by rw [HQ.out]; exact htn))) (by omega)
          go_wp2
          go_ret
          exact ⟨by rw [hs.out]; rfl, BZ.out.2.2.1.trans (HB3.out.mono (Nat.le_succ _))⟩
        · obtain ⟨r, hr⟩ : ∃ r : Nat, t = (r : Int) := ⟨t.toNat, by omega⟩
          subst hr
          cases hbn : Nt.been F p fr (r : Int) (k + 1) with
          | true =>
            have hs : Hid (C = 1) := by rw [HC.out]; exact way_stop HK.out.1 hkn (stp_one HFI.out (Or.inr (by rw [HQ.out]; exact hbn))) (by omega)
            have hr8 : r < 8 := by obtain ⟨j, hj, ej⟩ := Nt.any_iff.1 hbn; have e1 : Nt.nd F p fr j = (r : Int) := (by simpa using ej); have := HE.out k HK.out.1 j (by omega); rw [e1] at this; have := HG.out.n8; omega
            have a0 := HW3.out.cell hr8
            rw [Nat.zero_add, hbn] at a0
            clear htn hbn
            go_wp2
            go_ret
            exact ⟨by rw [hs.out]; rfl, BZ.out.2.2.1.trans (HB3.out.mono (Nat.le_succ _))⟩
          | false =>
            have hst : Nt.way nf F p fr (k + 1) = 0 := Nt.fst_next HK.out.1 (stp_zero HFI.out (by rw [HQ.out]; omega) (by rw [HQ.out]; exact hbn))
            have hr8 : r < 8 := by have := HE.out (k + 1) hst (k + 1) (Nat.le_refl _); rw [HQ.out] at this; have := HG.out.n8; omega
            have a0 := HW3.out.cell hr8
            rw [Nat.zero_add, hbn] at a0
            have HS : Hid (Nt.way nf F p fr (k + 1) = 0 ∧ Nt.nd F p fr (k + 1) = (r : Int)) := ⟨hst, HQ.out⟩
            clear htn hbn hst
            go_wp2
            go_roundw
            case rel => exact ⟨k + 1, r, by omega, hr8, by simp, rfl, HB3, HW3, HS⟩
            case measure => simp [intOf]; omega
    · obtain rfl : k = np := by omega
      by_cases hto : (m : Int) = tt
      · have hs : Hid (C = 0) := by show C = 0; rw [HC.out]; unfold Nt.wend; rw [if_pos HK.out.1, if_pos (by rw [HK.out.2]; exact hto)]
        have hb : ((m : Int) == tt) = true := by simpa using hto
        clear hto
        go_wp2
        go_ret
        exact ⟨by rw [hs.out]; rfl, BZ.out.2.2.1.trans (HB.out.mono (Nat.le_succ _))⟩
      · have hs : Hid (C = 1) := by show C = 1; rw [HC.out]; unfold Nt.wend; rw [if_pos HK.out.1, if_neg (by rw [HK.out.2]; exact hto)]
        have hb : ((m : Int) == tt) = false := by simpa using hto
        clear hto
        go_wp2
        go_ret
        exact ⟨by rw [hs.out]; rfl, BZ.out.2.2.1.trans (HB.out.mono (Nat.le_succ _))⟩
end Go.Proofs.Ytinfbbbgfkaioaa
