/- How long a route is, in both packages: contracts. -/
import Derived.Test.YtnkjieindcdimaaRo
namespace Go.Proofs.Ytnkjieindcdimaa
open Go.RowKit
set_option linter.unusedVariables false
set_option linter.unusedSimpArgs false
set_option maxRecDepth 20000 in
set_option maxHeartbeats 1600000 in
theorem fcl_any (nodes slots v : Int) (ao : Option Addr) (nf cp q : Nat) (w : World) (h0 : w.cell? ⟨q, 0, none⟩ = some (.int .i64 nodes)) (h1 : w.cell? ⟨q, 1, none⟩ = some (.int .i64 slots)) (h2 : w.cell? ⟨q, 2, none⟩ = some (.slice ao nf cp)) : Calls Try.prog 108 #[.int .i64 v, .pointer (some ⟨q, 0, none⟩)] w fun e w' => e = .returned (.bool (!Nt.isFi nf v)) ∧ Below w.heap.size w w' := by
  have hlt := World.block_lt_of_cell? _ _ h0
  go_enter Try.func108, Try.ntmps108
  go_wp2_with fail
  refine (iFib_any nodes slots v ao nf cp _).mono ?_
  rintro e w1 ⟨rfl, hb⟩
  have HB : Hid (Below w.heap.size w w1) := hb
  clear hb h0 h1 h2
  go_wp2
  go_ret
  exact ⟨rfl, HB.out⟩
set_option maxRecDepth 20000 in
set_option maxHeartbeats 1600000 in
theorem fix_any {w : World} {bo ao : Option Addr} {n cap nf cp q : Nat} {nodes slots : Int} {p : Nat → Int} (h : RdRow w (.slice bo n cap) n p) (hn : n ≤ 1048576) (h0 : w.cell? ⟨q, 0, none⟩ = some (.int .i64 nodes)) (h1 : w.cell? ⟨q, 1, none⟩ = some (.int .i64 slots)) (h2 : w.cell? ⟨q, 2, none⟩ = some (.slice ao nf cp)) :
    Calls Try.prog 126 #[.slice bo n cap, .func (.func 108) #[] #[.pointer (some ⟨q, 0, none⟩)]] w fun e w' => ∃ r : Int, e = .returned (.int .i64 r) ∧ decide (0 ≤ r) = Nt.any (fun k => !Nt.isFi nf (p k)) n ∧ Below w.heap.size w w' := by
  have HR : ∀ W, Below w.heap.size w W → Hid (RdRow W (.slice bo n cap) n p ∧ W.cell? ⟨q, 0, none⟩ = some (.int .i64 nodes) ∧ W.cell? ⟨q, 1, none⟩ = some (.int .i64 slots) ∧ W.cell? ⟨q, 2, none⟩ = some (.slice ao nf cp)) := fun W hb => ⟨h.later hb, kold hb h0, kold hb h1, kold hb h2⟩
  clear h h0 h1 h2
  have hnI : (n : Int) ≤ 1048576 := by omega
  go_enter Try.func126, Try.ntmps126
  go_wp2_with fail
  go_loopw [8] (fun i wr => ∃ k : Nat, k ≤ n ∧ i = .int .i64 k ∧ Hid (Below w.heap.size w wr) ∧ Hid (Nt.any (fun k => !Nt.isFi nf (p k)) k = false)) (fun i _ => n - (intOf i).toNat)
  case atStart => exact ⟨0, Nat.zero_le _, rfl, Below.refl _ _, rfl⟩
  case round =>
    obtain ⟨k, hk, rfl, HB, HF⟩ := hrel
    by_cases hkn : k < n
    · obtain ⟨b, off, rfl, hc⟩ := (HR wr HB.out).out.1.at hkn
      obtain ⟨e0, e1, e2⟩ := (HR wr HB.out).out.2
      have HC : ∀ v, Calls Try.prog 108 #[.int .i64 v, .pointer (some ⟨q, 0, none⟩)] wr fun e w' => e = .returned (.bool (!Nt.isFi nf v)) ∧ Below wr.heap.size wr w' := fun v => fcl_any nodes slots v ao nf cp q wr e0 e1 e2
      clear HR e0 e1 e2
      obtain ⟨v, hv⟩ : ∃ v, v = p k := ⟨_, rfl⟩
      rw [← hv] at hc
      have HV : Hid (v = p k) := hv
      clear hv
      cases hj : (!Nt.isFi nf v) with
      | true =>
        have HJ : Hid (Nt.any (fun k => !Nt.isFi nf (p k)) n = true) := Nt.any_hit hkn (by rw [← HV.out]; exact hj)
        go_wp2_with (first | (go_at_call 108; refine (HC v).mono ?_; rintro e w1 ⟨rfl, hb1⟩; rw [hj]))
        go_ret
        exact ⟨_, rfl, by rw [HJ.out]; simp, HB.out.trans (hb1.mono HB.out.size)⟩
      | false =>
        have HJ : Hid (Nt.any (fun k => !Nt.isFi nf (p k)) (k + 1) = false) := Nt.any_next HF.out (by rw [← HV.out]; exact hj)
        go_wp2_with (first | (go_at_call 108; refine (HC v).mono ?_; rintro e w1 ⟨rfl, hb1⟩; rw [hj]))
        go_roundw
        case rel => exact ⟨k + 1, by omega, by simp, HB.out.trans (hb1.mono HB.out.size), HJ⟩
        case measure => simp [intOf]; omega
    · obtain rfl : k = n := by omega
      clear HR
      go_wp2
      go_ret
      exact ⟨_, rfl, by rw [HF.out]; simp, HB.out⟩
set_option maxRecDepth 20000 in
set_option maxHeartbeats 1600000 in
theorem fct_any {w : World} {bo ao : Option Addr} {n cap nf cp q : Nat} {nodes slots : Int} {p : Nat → Int} (h : RdRow w (.slice bo n cap) n p) (hn : n ≤ 1048576) (h0 : w.cell? ⟨q, 0, none⟩ = some (.int .i64 nodes)) (h1 : w.cell? ⟨q, 1, none⟩ = some (.int .i64 slots)) (h2 : w.cell? ⟨q, 2, none⟩ = some (.slice ao nf cp)) :
    Calls Try.prog 107 #[.slice bo n cap, .func (.func 108) #[] #[.pointer (some ⟨q, 0, none⟩)]] w fun e w' => e = .returned (.bool (Nt.any (fun k => !Nt.isFi nf (p k)) n)) ∧ Below w.heap.size w w' := by
  have HH : Hid (RdRow w (.slice bo n cap) n p) := h
  have H0 : Hid (w.cell? ⟨q, 0, none⟩ = some (.int .i64 nodes) ∧ w.cell? ⟨q, 1, none⟩ = some (.int .i64 slots) ∧ w.cell? ⟨q, 2, none⟩ = some (.slice ao nf cp)) := ⟨h0, h1, h2⟩
  clear h h0 h1 h2
  go_enter Try.func107, Try.ntmps107
  go_wp2_with fail
  refine (fix_any HH.out hn H0.out.1 H0.out.2.1 H0.out.2.2).mono ?_
  rintro e w1 ⟨r, rfl, hr, hb⟩
  have HD : Hid (decide (0 ≤ r) = Nt.any (fun k => !Nt.isFi nf (p k)) n) := hr
  have HB : Hid (Below w.heap.size w w1) := hb
  clear hb hr
  go_wp2
  go_ret
  exact ⟨by rw [← HD.out]; rfl, HB.out⟩
set_option maxRecDepth 20000 in
set_option maxHeartbeats 1600000 in
theorem iAre_any {w : World} {bo ao : Option Addr} {n cap nf cp : Nat} {nodes slots : Int} {p : Nat → Int} (h : RdRow w (.slice bo n cap) n p) (hn : n ≤ 1048576) :
    Calls Try.prog 64 #[.agg #[.int .i64 nodes, .int .i64 slots, .slice ao nf cp], .slice bo n cap] w fun e w' => e = .returned (.bool (Nt.allF nf p n)) ∧ Below w.heap.size w w' := by
  obtain ⟨X, hX⟩ : ∃ X, X = (w.alloc (.cells #[.int .i64 nodes, .int .i64 slots, .slice ao nf cp] 29)) := ⟨_, rfl⟩
  have BX : Hid (Blk X w.heap.size #[.int .i64 nodes, .int .i64 slots, .slice ao nf cp] 29 ∧ Below w.heap.size w X) := by rw [hX]; exact ⟨Blk.new rfl, (Below.refl _ _).alloc (Nat.le_refl _) _⟩
  have CX : ∀ W, Below X.heap.size X W → W.cell? ⟨w.heap.size, 0, none⟩ = some (.int .i64 nodes) ∧ W.cell? ⟨w.heap.size, 1, none⟩ = some (.int .i64 slots) ∧ W.cell? ⟨w.heap.size, 2, none⟩ = some (.slice ao nf cp) :=
    fun W h => ⟨(BX.out.1.old h).cell rfl, (BX.out.1.old h).cell rfl, (BX.out.1.old h).cell rfl⟩
  have hXz : w.heap.size ≤ X.heap.size := Nat.le_of_lt BX.out.1.lt
  have H : Hid (RdRow X (.slice bo n cap) n p) := h.later BX.out.2
  clear h
  go_enter Try.func64, Try.ntmps64
  go_wp2_with fail
  rw [← hX]
  clear hX
  obtain ⟨x0, x1, x2⟩ := CX X (Below.refl _ _)
  go_wp2_with fail
  refine (fct_any H.out hn x0 x1 x2).mono ?_
  rintro e w1 ⟨rfl, hb⟩
  clear x0 x1 x2
  go_wp2
  go_ret
  exact ⟨rfl, BX.out.2.trans (hb.mono hXz)⟩
set_option maxRecDepth 20000 in
set_option maxHeartbeats 1600000 in
theorem iKm_any {w : World} {ao bo : Option Addr} {nf cp np cq : Nat} {nodes slots : Int} {F : Nat → Fb} {p : Nat → Int} (G : Nt.Good nodes slots nf F) (ha : ∀ i, i < np → 0 ≤ p i ∧ p i < (nf : Int)) (h : Rf w (.slice ao nf cp) nf F) (hp : RdRow w (.slice bo np cq) np p) (hn : np ≤ 1048576) :
    Calls Try.prog 65 #[.agg #[.int .i64 nodes, .int .i64 slots, .slice ao nf cp], .slice bo np cq] w fun e w' => e = .returned (.int .i64 (Nt.kms F p np)) ∧ Below w.heap.size w w' := by
  have hnI : (np : Int) ≤ 1048576 := by omega
  have hfI : (nf : Int) ≤ 14 := by have := G.f14; omega
  have HG : Hid (Nt.Good nodes slots nf F ∧ ∀ i, i < np → 0 ≤ p i ∧ p i < (nf : Int)) := ⟨G, ha⟩
  clear G ha
  obtain ⟨X, hX⟩ : ∃ X, X = (w.alloc (.cells #[.int .i64 nodes, .int .i64 slots, .slice ao nf cp] 29)) := ⟨_, rfl⟩
  have BX : Hid (Blk X w.heap.size #[.int .i64 nodes, .int .i64 slots, .slice ao nf cp] 29 ∧ Below w.heap.size w X) := by rw [hX]; exact ⟨Blk.new rfl, (Below.refl _ _).alloc (Nat.le_refl _) _⟩
  have CX : ∀ W, Below X.heap.size X W → W.cell? ⟨w.heap.size, 0, none⟩ = some (.int .i64 nodes) ∧ W.cell? ⟨w.heap.size, 1, none⟩ = some (.int .i64 slots) ∧ W.cell? ⟨w.heap.size, 2, none⟩ = some (.slice ao nf cp) :=
    fun W h => ⟨(BX.out.1.old h).cell rfl, (BX.out.1.old h).cell rfl, (BX.out.1.old h).cell rfl⟩
  have hXz : w.heap.size ≤ X.heap.size := Nat.le_of_lt BX.out.1.lt
  have H : ∀ W, Below X.heap.size X W → Hid (Rf W (.slice ao nf cp) nf F ∧ RdRow W (.slice bo np cq) np p) := fun W hb => ⟨h.later (BX.out.2.trans (hb.mono hXz)), hp.later (BX.out.2.trans (hb.mono hXz))⟩
  clear h hp
  go_enter Try.func65, Try.ntmps65
  go_wp2_with fail
  rw [← hX]
  clear hX
  go_loopw [5, 10] (fun u i wr => wr = X ∧ ∃ k : Nat, k ≤ np ∧ i = .int .i64 k ∧ u = .int .i64 (Nt.kms F p k)) (fun _ i _ => np - (intOf i).toNat)
  case atStart => exact ⟨rfl, 0, Nat.zero_le _, rfl, rfl⟩
  case round =>
    obtain ⟨rfl, k, hk, rfl, rfl⟩ := hrel
    obtain ⟨s, hs⟩ : ∃ s, s = Nt.kms F p k := ⟨_, rfl⟩
    by_cases hkn : k < np
    · obtain ⟨b, off, rfl, hc⟩ := (H wr (Below.refl _ _)).out.2.at hkn
      have hpk := HG.out.2 k hkn
      obtain ⟨q, hq⟩ : ∃ q : Nat, p k = (q : Int) := ⟨(p k).toNat, by omega⟩
      have hqf : q < nf := by omega
      have hqI : (q : Int) < nf := by omega
      obtain ⟨bf, of, haf, hcf⟩ := (H wr (Below.refl _ _)).out.1.at hqf
      subst haf
      obtain ⟨km, hkm⟩ : ∃ km, km = (F q).km := ⟨_, rfl⟩
      have g2 : wr.cell? ⟨bf, of + q * 3 + 2, none⟩ = some (.int .i64 km) := by rw [hkm]; exact hcf 2 (by omega)
      have hok := Nt.okF_all (HG.out.1.ok q hqf)
      have hk1 : 1 ≤ km := by rw [hkm]; omega
      have hk2 : km ≤ 100000 := by rw [hkm]; omega
      have hb := Nt.kms_bound HG.out.1 (n := k) fun i hi => HG.out.2 i (by omega)
      have hs0 : 0 ≤ s := by rw [hs]; exact hb.1
      have hs1 : s ≤ 104857600000 := by rw [hs]; have := hb.2; omega
      have HN : Hid (Nt.kms F p (k + 1) = s + km) := by show Nt.kms F p k + (F (p k).toNat).km = _; rw [← hs, hq, hkm]; rfl
      rw [hq] at hc
      rw [← hs]
      obtain ⟨x0, x1, x2⟩ := CX wr (Below.refl _ _)
      clear hcf hok hb hkm hs hpk hq
      go_wp2
      go_roundw
      case rel => exact ⟨by trivial, k + 1, by omega, by simp, by rw [HN.out]⟩
      case measure => simp [intOf]; omega
    · obtain rfl : k = np := by omega
      go_wp2
      go_ret
      exact ⟨rfl, BX.out.2⟩
theorem rkm_no {nodes slots : Int} {nf : Nat} {F : Nat → Fb} {np : Nat} {p : Nat → Int} (h : Nt.nfault nodes slots nf F ≠ 0 ∨ Nt.allF nf p np = false) : Nt.rkm nodes slots nf F np p = 0 := by
  unfold Nt.rkm
  rw [if_neg]
  rintro ⟨a, b⟩
  rcases h with h | h
  · exact h a
  · rw [b] at h; cases h
theorem rkm_is {nodes slots : Int} {nf : Nat} {F : Nat → Fb} {np : Nat} {p : Nat → Int} (h : Nt.nfault nodes slots nf F = 0) (k : Nt.allF nf p np = true) : Nt.rkm nodes slots nf F np p = Nt.kms F p np := by
  unfold Nt.rkm
  rw [if_pos ⟨h, k⟩]
set_option maxRecDepth 20000 in
set_option maxHeartbeats 1600000 in
theorem iRkm_any {w : World} {ao bo : Option Addr} {nf cp np cq : Nat} {nodes slots : Int} {F : Nat → Fb} {p : Nat → Int} (h : Rf w (.slice ao nf cp) nf F) (hp : RdRow w (.slice bo np cq) np p) (hcp : nf ≤ cp) (hf : nf ≤ 1048576) (hn : np ≤ 1048576) :
    Calls Try.prog 22 #[.agg #[.int .i64 nodes, .int .i64 slots, .slice ao nf cp], .slice bo np cq] w fun e w' => e = .returned (.int .i64 (Nt.rkm nodes slots nf F np p)) ∧ Below w.heap.size w w' := by
  obtain ⟨X, hX⟩ : ∃ X, X = (w.alloc (.cells #[.int .i64 nodes, .int .i64 slots, .slice ao nf cp] 29)) := ⟨_, rfl⟩
  have BX : Hid (Blk X w.heap.size #[.int .i64 nodes, .int .i64 slots, .slice ao nf cp] 29 ∧ Below w.heap.size w X) := by rw [hX]; exact ⟨Blk.new rfl, (Below.refl _ _).alloc (Nat.le_refl _) _⟩
  have CX : ∀ W, Below X.heap.size X W → W.cell? ⟨w.heap.size, 0, none⟩ = some (.int .i64 nodes) ∧ W.cell? ⟨w.heap.size, 1, none⟩ = some (.int .i64 slots) ∧ W.cell? ⟨w.heap.size, 2, none⟩ = some (.slice ao nf cp) :=
    fun W h => ⟨(BX.out.1.old h).cell rfl, (BX.out.1.old h).cell rfl, (BX.out.1.old h).cell rfl⟩
  have hXz : w.heap.size ≤ X.heap.size := Nat.le_of_lt BX.out.1.lt
  have H : ∀ W, Below X.heap.size X W → Hid (Rf W (.slice ao nf cp) nf F ∧ RdRow W (.slice bo np cq) np p) := fun W hb => ⟨h.later (BX.out.2.trans (hb.mono hXz)), hp.later (BX.out.2.trans (hb.mono hXz))⟩
  clear h hp
  obtain ⟨c, hc⟩ : ∃ c, c = Nt.nfault nodes slots nf F := ⟨_, rfl⟩
  have HC : Hid (c = Nt.nfault nodes slots nf F) := hc
  by_cases hz : c = 0
  · have hc0 : Nt.nfault nodes slots nf F = 0 := by rw [← hc]; exact hz
    cases hal : Nt.allF nf p np with
    | false =>
      rw [rkm_no (Or.inr hal)]
      clear hc hc0
      go_enter Try.func22, Try.ntmps22
      go_wp2_with fail
      rw [← hX]
      clear hX
      obtain ⟨x0, x1, x2⟩ := CX X (Below.refl _ _)
      go_wp2_with fail
      refine (iNf_any (H _ (Below.refl _ _)).out.1 hcp hf).mono ?_
      rintro e w1 ⟨rfl, hb1⟩
      rw [← HC.out, hz]
      clear x0 x1 x2
      obtain ⟨x0, x1, x2⟩ := CX w1 hb1
      go_wp2_with fail
      refine (iAre_any (H _ hb1).out.2 hn).mono ?_
      rintro e w2 ⟨rfl, hb2⟩
      rw [hal]
      clear x0 x1 x2
      go_wp2
      go_ret
      exact ⟨rfl, BX.out.2.trans ((hb1.trans (hb2.mono hb1.size)).mono hXz)⟩
    | true =>
      rw [rkm_is hc0 hal]
      have HG : Hid (Nt.Good nodes slots nf F ∧ ∀ i, i < np → 0 ≤ p i ∧ p i < (nf : Int)) := ⟨Nt.nf_good hc0, Nt.allF_iff.1 hal⟩
      clear hc hc0
      go_enter Try.func22, Try.ntmps22
      go_wp2_with fail
      rw [← hX]
      clear hX
      obtain ⟨x0, x1, x2⟩ := CX X (Below.refl _ _)
      go_wp2_with fail
      refine (iNf_any (H _ (Below.refl _ _)).out.1 hcp hf).mono ?_
      rintro e w1 ⟨rfl, hb1⟩
      rw [← HC.out, hz]
      clear x0 x1 x2
      obtain ⟨x0, x1, x2⟩ := CX w1 hb1
      go_wp2_with fail
      refine (iAre_any (H _ hb1).out.2 hn).mono ?_
      rintro e w2 ⟨rfl, hb2⟩
      rw [hal]
      clear x0 x1 x2
      have hb12 := hb1.trans (hb2.mono hb1.size)
      obtain ⟨x0, x1, x2⟩ := CX w2 hb12
      go_wp2_with fail
      refine (iKm_any HG.out.1 HG.out.2 (H _ hb12).out.1 (H _ hb12).out.2 hn).mono ?_
      rintro e w3 ⟨rfl, hb3⟩
      clear x0 x1 x2
      go_wp2
      go_ret
      exact ⟨rfl, BX.out.2.trans ((hb12.trans (hb3.mono hb12.size)).mono hXz)⟩
  · have hz' : (c == 0) = false := by simpa using hz
    have hz2 : (c != 0) = true := by simpa using hz
    rw [rkm_no (Or.inl (by rw [← hc]; exact hz))]
    clear hc hz
    go_enter Try.func22, Try.ntmps22
    go_wp2_with fail
    rw [← hX]
    clear hX
    obtain ⟨x0, x1, x2⟩ := CX X (Below.refl _ _)
    go_wp2_with fail
    refine (iNf_any (H _ (Below.refl _ _)).out.1 hcp hf).mono ?_
    rintro e w1 ⟨rfl, hb1⟩
    rw [← HC.out]
    clear x0 x1 x2
    go_wp2
    go_ret
    exact ⟨rfl, BX.out.2.trans (hb1.mono hXz)⟩
set_option maxRecDepth 20000 in
set_option maxHeartbeats 1600000 in
theorem sRkm_any {w : World} {ao bo : Option Addr} {nf cp np cq : Nat} {nodes slots : Int} {F : Nat → Fb} {p : Nat → Int} (h : Rf w (.slice ao nf cp) nf F) (hp : RdRow w (.slice bo np cq) np p) (hf : nf ≤ 1048576) (hn : np ≤ 1048576) :
    Calls Try.prog 21 #[.agg #[.int .i64 nodes, .int .i64 slots, .slice ao nf cp], .slice bo np cq] w fun e w' => e = .returned (.int .i64 (Nt.rkm nodes slots nf F np p)) ∧ Below w.heap.size w w' := by
  obtain ⟨X, hX⟩ : ∃ X, X = (w.alloc (.cells #[.int .i64 nodes, .int .i64 slots, .slice ao nf cp] 29)) := ⟨_, rfl⟩
  have BX : Hid (Blk X w.heap.size #[.int .i64 nodes, .int .i64 slots, .slice ao nf cp] 29 ∧ Below w.heap.size w X) := by rw [hX]; exact ⟨Blk.new rfl, (Below.refl _ _).alloc (Nat.le_refl _) _⟩
  have CX : ∀ W, Below X.heap.size X W → W.cell? ⟨w.heap.size, 0, none⟩ = some (.int .i64 nodes) ∧ W.cell? ⟨w.heap.size, 1, none⟩ = some (.int .i64 slots) ∧ W.cell? ⟨w.heap.size, 2, none⟩ = some (.slice ao nf cp) :=
    fun W h => ⟨(BX.out.1.old h).cell rfl, (BX.out.1.old h).cell rfl, (BX.out.1.old h).cell rfl⟩
  have hXz : w.heap.size ≤ X.heap.size := Nat.le_of_lt BX.out.1.lt
  have H : ∀ W, Below X.heap.size X W → Hid (Rf W (.slice ao nf cp) nf F ∧ RdRow W (.slice bo np cq) np p) := fun W hb => ⟨h.later (BX.out.2.trans (hb.mono hXz)), hp.later (BX.out.2.trans (hb.mono hXz))⟩
  clear h hp
  obtain ⟨c, hc⟩ : ∃ c, c = Nt.nfault nodes slots nf F := ⟨_, rfl⟩
  have HC : Hid (c = Nt.nfault nodes slots nf F) := hc
  by_cases hz : c = 0
  · have hc0 : Nt.nfault nodes slots nf F = 0 := by rw [← hc]; exact hz
    have HG : Hid (Nt.Good nodes slots nf F ∧ Nt.nfault nodes slots nf F = 0) := ⟨Nt.nf_good hc0, hc0⟩
    have hnI : (np : Int) ≤ 1048576 := by omega
    have hfI : (nf : Int) ≤ 14 := by have := HG.out.1.f14; omega
    obtain ⟨C, hC⟩ : ∃ C, C = Nt.rkm nodes slots nf F np p := ⟨_, rfl⟩
    have HR : Hid (C = Nt.rkm nodes slots nf F np p) := hC
    rw [← hC]
    clear hc hc0 hC
    go_enter Try.func21, Try.ntmps21
    go_wp2_with fail
    rw [← hX]
    clear hX
    obtain ⟨x0, x1, x2⟩ := CX X (Below.refl _ _)
    go_wp2_with fail
    refine (sNf_any (H _ (Below.refl _ _)).out.1 hf).mono ?_
    rintro e w1 ⟨rfl, hb1⟩
    rw [← HC.out, hz]
    clear x0 x1 x2
    have HB1 : Hid (Below X.heap.size X w1) := hb1
    clear hb1
    go_wp2_with fail
    go_loopw [5, 6] (fun u i wr => ∃ k : Nat, k ≤ np ∧ i = .int .i64 k ∧ u = .int .i64 (Nt.kms F p k) ∧ Hid (Below X.heap.size X wr) ∧ Hid (∀ i, i < k → 0 ≤ p i ∧ p i < (nf : Int))) (fun _ i _ => np - (intOf i).toNat)
    case atStart => exact ⟨0, Nat.zero_le _, rfl, rfl, HB1.out, fun i hi => absurd hi (Nat.not_lt_zero _)⟩
    case round =>
      obtain ⟨k, hk, rfl, rfl, HB, HA⟩ := hrel
      obtain ⟨s, hs⟩ : ∃ s, s = Nt.kms F p k := ⟨_, rfl⟩
      by_cases hkn : k < np
      · obtain ⟨b, off, rfl, hcp⟩ := (H wr HB.out).out.2.at hkn
        obtain ⟨v, hv⟩ : ∃ v, v = p k := ⟨_, rfl⟩
        rw [← hv] at hcp
        have HV : Hid (v = p k) := hv
        have HS : Hid (s = Nt.kms F p k) := hs
        rw [← hs]
        clear hv hs
        have KN0 : ∀ x : Kept wr.heap.size wr, x.w.cell? ⟨w.heap.size, 0, none⟩ = some (.int .i64 nodes) := fun x => kold x.h (CX wr HB.out).1
        have KN1 : ∀ x : Kept wr.heap.size wr, x.w.cell? ⟨w.heap.size, 1, none⟩ = some (.int .i64 slots) := fun x => kold x.h (CX wr HB.out).2.1
        have KN2 : ∀ x : Kept wr.heap.size wr, x.w.cell? ⟨w.heap.size, 2, none⟩ = some (.slice ao nf cp) := fun x => kold x.h (CX wr HB.out).2.2
        have KP : ∀ x : Kept wr.heap.size wr, x.w.cell? ⟨b, off + k, none⟩ = some (.int .i64 v) := fun x => kold x.h hcp
        have hkI : (k : Int) < np := by omega
        clear hcp
        cases hfi : Nt.isFi nf v with
        | false =>
          have hr : Hid (C = 0) := by
            show C = 0
            rw [HR.out]
            refine rkm_no (Or.inr ?_)
            cases e : Nt.allF nf p np with
            | false => rfl
            | true =>
              have := Nt.isFi_iff.2 (Nt.allF_iff.1 e k hkn)
              rw [← HV.out, hfi] at this
              cases this
          have HRt : ∀ W, Calls Try.prog 59 #[.agg #[.int .i64 nodes, .int .i64 slots, .slice ao nf cp], .int .i64 v] W fun e w' => e = .returned (.bool false) ∧ Below W.heap.size W w' := fun W => by have := sFib_any nodes slots v ao nf cp W; rwa [hfi] at this
          clear hfi
          go_upto_region 7 with fail
          refine wp_region_kept wr.heap.size (by kernel_rfl) (by kernel_rfl) ?_
          intro hne
          repeat (go_big_quiet_step (first | (go_at_call 59; exact Calls.kept_of (Nat.le_refl _) (HRt _))))
          refine wpQuiet_nil ?_
          rintro u7 ⟨xk, hxk⟩
          have hR1 := xk.h
          rw [← hxk] at hR1
          clear hxk xk hne KN0 KN1 KN2 KP
          go_wp2
          go_ret
          exact ⟨by rw [hr.out]; rfl, BX.out.2.trans ((HB.out.trans (hR1.mono HB.out.size)).mono hXz)⟩
        | true =>
          have HRt : ∀ W, Calls Try.prog 59 #[.agg #[.int .i64 nodes, .int .i64 slots, .slice ao nf cp], .int .i64 v] W fun e w' => e = .returned (.bool true) ∧ Below W.heap.size W w' := fun W => by have := sFib_any nodes slots v ao nf cp W; rwa [hfi] at this
          obtain ⟨q, hq⟩ : ∃ q : Nat, v = (q : Int) := ⟨v.toNat, by have := Nt.isFi_iff.1 hfi; omega⟩
          have hqf : q < nf := by have := Nt.isFi_iff.1 hfi; omega
          have hqI : (q : Int) < nf := by omega
          have HPK : Hid (p k = (q : Int)) := by rw [← HV.out]; exact hq
          subst hq
          clear hfi HV
          go_upto_region 7 with fail
          refine wp_region_kept wr.heap.size (by kernel_rfl) (by kernel_rfl) ?_
          intro hne
          repeat (go_big_quiet_step (first | (go_at_call 59; exact Calls.kept_of (Nat.le_refl _) (HRt _))))
          refine wpQuiet_nil ?_
          rintro u7 ⟨xk, hxk⟩
          have hR1 := xk.h
          rw [← hxk] at hR1
          clear hxk xk hne KN0 KN1 KN2
          have HB2 : Hid (Below X.heap.size X u7) := HB.out.trans (hR1.mono HB.out.size)
          have hp1 : u7.cell? ⟨b, off + k, none⟩ = some (.int .i64 (q : Int)) := KP ⟨u7, hR1⟩
          clear hR1 KP HRt HB
          obtain ⟨bf, of, haf, hcf⟩ := (H u7 HB2.out).out.1.at hqf
          subst haf
          obtain ⟨km, hkm⟩ : ∃ km, km = (F q).km := ⟨_, rfl⟩
          have KN2 : ∀ x : Kept u7.heap.size u7, x.w.cell? ⟨w.heap.size, 2, none⟩ = some (.slice (some ⟨bf, of, none⟩) nf cp) := fun x => kold x.h (CX u7 HB2.out).2.2
          have KP : ∀ x : Kept u7.heap.size u7, x.w.cell? ⟨b, off + k, none⟩ = some (.int .i64 (q : Int)) := fun x => kold x.h hp1
          have KF2 : ∀ x : Kept u7.heap.size u7, x.w.cell? ⟨bf, of + q * 3 + 2, none⟩ = some (.int .i64 km) := fun x => kold x.h (by rw [hkm]; exact hcf 2 (by omega))
          have hok := Nt.okF_all (HG.out.1.ok q hqf)
          have hk1 : 1 ≤ km := by rw [hkm]; omega
          have hk2 : km ≤ 100000 := by rw [hkm]; omega
          have hb := Nt.kms_bound HG.out.1 HA.out
          have hs0 : 0 ≤ s := by rw [HS.out]; exact hb.1
          have hs1 : s ≤ 104857600000 := by rw [HS.out]; have := hb.2; omega
          have HN : Hid (Nt.kms F p (k + 1) = s + km) := by show Nt.kms F p k + (F (p k).toNat).km = _; rw [← HS.out, HPK.out, hkm]; rfl
          have HA2 : Hid (∀ i, i < k + 1 → 0 ≤ p i ∧ p i < (nf : Int)) := fun i hi => by
            by_cases e : i = k
            · subst e; rw [HPK.out]; omega
            · exact HA.out i (by omega)
          clear hcf hok hb hkm hp1
          go_upto_region 9 with fail
          refine wp_region_kept u7.heap.size (by kernel_rfl) (by kernel_rfl) ?_
          intro hne
          repeat (go_big_quiet_step (fail))
          refine wpQuiet_nil ?_
          rintro u8 ⟨xk, hxk⟩
          have hR1 := xk.h
          rw [← hxk] at hR1
          clear hxk xk hne KN2 KP KF2
          have HB3 : Hid (Below X.heap.size X u8) := HB2.out.trans (hR1.mono HB2.out.size)
          clear hR1
          go_wp2
          go_roundw
          case rel => exact ⟨k + 1, by omega, by simp, by rw [HN.out], HB3, HA2⟩
          case measure => simp [intOf]; omega
      · obtain rfl : k = np := by omega
        have hr : Hid (C = s) := by
          show C = s
          rw [HR.out, rkm_is HG.out.2 (Nt.allF_iff.2 HA.out), hs]
        rw [← hs]
        clear hs
        go_wp2
        go_ret
        exact ⟨by rw [hr.out]; rfl, BX.out.2.trans (HB.out.mono hXz)⟩
  · have hz' : (c == 0) = false := by simpa using hz
    have hz2 : (c != 0) = true := by simpa using hz
    rw [rkm_no (Or.inl (by rw [← hc]; exact hz))]
    clear hc hz
    go_enter Try.func21, Try.ntmps21
    go_wp2_with fail
    rw [← hX]
    clear hX
    obtain ⟨x0, x1, x2⟩ := CX X (Below.refl _ _)
    go_wp2_with fail
    refine (sNf_any (H _ (Below.refl _ _)).out.1 hf).mono ?_
    rintro e w1 ⟨rfl, hb1⟩
    rw [← HC.out]
    clear x0 x1 x2
    go_wp2
    go_ret
    exact ⟨rfl, BX.out.2.trans (hb1.mono hXz)⟩
end Go.Proofs.Ytnkjieindcdimaa
