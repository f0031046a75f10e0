/- Routes: what is wrong with one, whole, in both packages: contracts. -/
import Derived.Test.YtinfbbbgfkaioaaRo
import Derived.Test.YtinfbbbgfkaioaaAp
namespace Go.Proofs.Ytinfbbbgfkaioaa
open Go.RowKit
set_option linter.unusedVariables false
set_option linter.unusedSimpArgs false
set_option maxRecDepth 20000 in
set_option maxHeartbeats 1600000 in
theorem iRf_any {w : World} {ao bo : Option Addr} {nf cp np cq : Nat} {nodes slots : Int} {F : Nat → Fb} {p : Nat → Int} (fr tt : Int) (h : Rf w (.slice ao nf cp) nf F) (hp : RdRow w (.slice bo np cq) np p) (hcp : nf ≤ cp) (hf : nf ≤ 1048576) (hn : np ≤ 1048576) :
    Calls Try.prog 118 #[.agg #[.int .i64 nodes, .int .i64 slots, .slice ao nf cp], .int .i64 fr, .int .i64 tt, .slice bo np cq] w fun e w' => e = .returned (.int .i64 (Nt.rfault nodes slots nf F fr tt np p)) ∧ Below w.heap.size w w' := by
  obtain ⟨X, hX⟩ : ∃ X, X = (w.alloc (.cells #[.int .i64 nodes, .int .i64 slots, .slice ao nf cp] 37)) := ⟨_, rfl⟩
  have BX : Hid (Blk X w.heap.size #[.int .i64 nodes, .int .i64 slots, .slice ao nf cp] 37 ∧ Below w.heap.size w X) := by rw [hX]; exact ⟨Blk.new rfl, (Below.refl _ _).alloc (Nat.le_refl _) _⟩
  have CX : ∀ W, Below X.heap.size X W → W.cell? ⟨w.heap.size, 0, none⟩ = some (.int .i64 nodes) ∧ W.cell? ⟨w.heap.size, 1, none⟩ = some (.int .i64 slots) ∧ W.cell? ⟨w.heap.size, 2, none⟩ = some (.slice ao nf cp) :=
    fun W h => ⟨(BX.out.1.old h).cell rfl, (BX.out.1.old h).cell rfl, (BX.out.1.old h).cell rfl⟩
  have hXz : w.heap.size ≤ X.heap.size := Nat.le_of_lt BX.out.1.lt
  have H : ∀ W, Below X.heap.size X W → Hid (Rf W (.slice ao nf cp) nf F ∧ RdRow W (.slice bo np cq) np p) := fun W hb => ⟨h.later (BX.out.2.trans (hb.mono hXz)), hp.later (BX.out.2.trans (hb.mono hXz))⟩
  clear h hp
  obtain ⟨c, hc⟩ : ∃ c, c = Nt.efault nodes slots nf F fr tt := ⟨_, rfl⟩
  have HC : Hid (c = Nt.efault nodes slots nf F fr tt) := hc
  by_cases hz : c = 0
  · have hc0 : Nt.efault nodes slots nf F fr tt = 0 := by rw [← hc]; exact hz
    have hg := Nt.ef_good hc0
    have he := Nt.ends_iff.1 hg.2
    have HG : Hid (Nt.Good nodes slots nf F ∧ 0 ≤ fr ∧ fr < nodes) := ⟨Nt.nf_good hg.1, he.1, he.2.1⟩
    rw [Nt.rf_way hc0]
    clear hc hc0 hg he
    go_enter Try.func118, Try.ntmps118
    go_wp2_with fail
    rw [← hX]
    clear hX
    obtain ⟨x0, x1, x2⟩ := CX X (Below.refl _ _)
    go_wp2_with fail
    refine (iEf_any fr tt (H _ (Below.refl _ _)).out.1 hcp hf).mono ?_
    rintro e w1 ⟨rfl, hb1⟩
    rw [← HC.out, hz]
    clear x0 x1 x2
    obtain ⟨x0, x1, x2⟩ := CX w1 hb1
    go_wp2_with fail
    refine (iWay_any fr tt HG.out.1 HG.out.2.1 HG.out.2.2 (H _ hb1).out.1 (H _ hb1).out.2 hn).mono ?_
    rintro e w2 ⟨rfl, hb2⟩
    clear x0 x1 x2
    go_wp2
    go_ret
    exact ⟨rfl, BX.out.2.trans ((hb1.trans (hb2.mono hb1.size)).mono hXz)⟩
  · have hz' : (c == 0) = false := by simpa using hz
    rw [Nt.rf_ends (by rw [← hc]; exact hz), ← hc]
    clear hc hz
    go_enter Try.func118, Try.ntmps118
    go_wp2_with fail
    rw [← hX]
    clear hX
    obtain ⟨x0, x1, x2⟩ := CX X (Below.refl _ _)
    go_wp2_with fail
    refine (iEf_any fr tt (H _ (Below.refl _ _)).out.1 hcp hf).mono ?_
    rintro e w1 ⟨rfl, hb1⟩
    rw [← HC.out]
    clear x0 x1 x2
    go_wp2
    go_ret
    exact ⟨rfl, BX.out.2.trans (hb1.mono hXz)⟩
set_option maxRecDepth 20000 in
set_option maxHeartbeats 1600000 in
theorem sRf_early {w : World} {ao bo : Option Addr} {nf cp np cq : Nat} {nodes slots : Int} {F : Nat → Fb} {p : Nat → Int} (fr tt : Int) (h : Rf w (.slice ao nf cp) nf F) (hp : RdRow w (.slice bo np cq) np p) (hf : nf ≤ 1048576) (hn : np ≤ 1048576) (hq : Nt.efault nodes slots nf F fr tt ≠ 0 ∨ np = 0) :
    Calls Try.prog 106 #[.agg #[.int .i64 nodes, .int .i64 slots, .slice ao nf cp], .int .i64 fr, .int .i64 tt, .slice bo np cq] w fun e w' => e = .returned (.int .i64 (Nt.rfault nodes slots nf F fr tt np p)) ∧ Below w.heap.size w w' := by
  obtain ⟨X, hX⟩ : ∃ X, X = (w.alloc (.cells #[.int .i64 nodes, .int .i64 slots, .slice ao nf cp] 37)) := ⟨_, rfl⟩
  have BX : Hid (Blk X w.heap.size #[.int .i64 nodes, .int .i64 slots, .slice ao nf cp] 37 ∧ Below w.heap.size w X) := by rw [hX]; exact ⟨Blk.new rfl, (Below.refl _ _).alloc (Nat.le_refl _) _⟩
  have CX : ∀ W, Below X.heap.size X W → W.cell? ⟨w.heap.size, 0, none⟩ = some (.int .i64 nodes) ∧ W.cell? ⟨w.heap.size, 1, none⟩ = some (.int .i64 slots) ∧ W.cell? ⟨w.heap.size, 2, none⟩ = some (.slice ao nf cp) :=
    fun W h => ⟨(BX.out.1.old h).cell rfl, (BX.out.1.old h).cell rfl, (BX.out.1.old h).cell rfl⟩
  have hXz : w.heap.size ≤ X.heap.size := Nat.le_of_lt BX.out.1.lt
  have H : ∀ W, Below X.heap.size X W → Hid (Rf W (.slice ao nf cp) nf F ∧ RdRow W (.slice bo np cq) np p) := fun W hb => ⟨h.later (BX.out.2.trans (hb.mono hXz)), hp.later (BX.out.2.trans (hb.mono hXz))⟩
  clear h hp
  by_cases hz : Nt.nfault nodes slots nf F = 0
  · have HC0 : Hid (Nt.nfault nodes slots nf F = 0) := hz
    cases h1 : Nt.isN nodes fr with
    | false =>
      have hv : Nt.rfault nodes slots nf F fr tt np p = 1 := by
        have e1 : Nt.efault nodes slots nf F fr tt = 1 := Nt.ef_one hz (by unfold Nt.ends; rw [h1]; rfl)
        rw [Nt.rf_ends (by rw [e1]; omega), e1]
      rw [hv]
      clear hz hq hv
      go_enter Try.func106, Try.ntmps106
      go_wp2_with fail
      rw [← hX]
      clear hX
      obtain ⟨x0, x1, x2⟩ := CX X (Below.refl _ _)
      go_wp2_with fail
      refine (sNf_any (H _ (Below.refl _ _)).out.1 hf).mono ?_
      rintro e w1 ⟨rfl, hb1⟩
      rw [HC0.out]
      clear x0 x1 x2
      obtain ⟨x0, x1, x2⟩ := CX w1 hb1
      go_wp2_with fail
      refine (sNode_any nodes slots fr ao nf cp _).mono ?_
      rintro e w2 ⟨rfl, hb2⟩
      rw [h1]
      clear x0 x1 x2
      have hb12 := hb1.trans (hb2.mono hb1.size)
      clear hb1 hb2
      go_wp2
      go_ret
      exact ⟨rfl, BX.out.2.trans (hb12.mono hXz)⟩
    | true =>
      cases h2 : Nt.isN nodes tt with
      | false =>
        have hv : Nt.rfault nodes slots nf F fr tt np p = 1 := by
          have e1 : Nt.efault nodes slots nf F fr tt = 1 := Nt.ef_one hz (by unfold Nt.ends; rw [h2]; simp)
          rw [Nt.rf_ends (by rw [e1]; omega), e1]
        rw [hv]
        clear hz hq hv
        go_enter Try.func106, Try.ntmps106
        go_wp2_with fail
        rw [← hX]
        clear hX
        obtain ⟨x0, x1, x2⟩ := CX X (Below.refl _ _)
        go_wp2_with fail
        refine (sNf_any (H _ (Below.refl _ _)).out.1 hf).mono ?_
        rintro e w1 ⟨rfl, hb1⟩
        rw [HC0.out]
        clear x0 x1 x2
        obtain ⟨x0, x1, x2⟩ := CX w1 hb1
        go_wp2_with fail
        refine (sNode_any nodes slots fr ao nf cp _).mono ?_
        rintro e w2 ⟨rfl, hb2⟩
        rw [h1]
        clear x0 x1 x2
        have hb12 := hb1.trans (hb2.mono hb1.size)
        clear hb1 hb2
        obtain ⟨x0, x1, x2⟩ := CX w2 hb12
        go_wp2_with fail
        refine (sNode_any nodes slots tt ao nf cp _).mono ?_
        rintro e w3 ⟨rfl, hb3⟩
        rw [h2]
        clear x0 x1 x2
        have hb13 := hb12.trans (hb3.mono hb12.size)
        clear hb12 hb3
        go_wp2
        go_ret
        exact ⟨rfl, BX.out.2.trans (hb13.mono hXz)⟩
      | true =>
        by_cases h3 : fr = tt
        · have hv : Nt.rfault nodes slots nf F fr tt np p = 1 := by
            have e1 : Nt.efault nodes slots nf F fr tt = 1 := Nt.ef_one hz (by unfold Nt.ends; rw [h3]; simp)
            rw [Nt.rf_ends (by rw [e1]; omega), e1]
          rw [hv]
          have h3' : (fr == tt) = true := by simpa using h3
          clear hz hq hv h3
          go_enter Try.func106, Try.ntmps106
          go_wp2_with fail
          rw [← hX]
          clear hX
          obtain ⟨x0, x1, x2⟩ := CX X (Below.refl _ _)
          go_wp2_with fail
          refine (sNf_any (H _ (Below.refl _ _)).out.1 hf).mono ?_
          rintro e w1 ⟨rfl, hb1⟩
          rw [HC0.out]
          clear x0 x1 x2
          obtain ⟨x0, x1, x2⟩ := CX w1 hb1
          go_wp2_with fail
          refine (sNode_any nodes slots fr ao nf cp _).mono ?_
          rintro e w2 ⟨rfl, hb2⟩
          rw [h1]
          clear x0 x1 x2
          have hb12 := hb1.trans (hb2.mono hb1.size)
          clear hb1 hb2
          obtain ⟨x0, x1, x2⟩ := CX w2 hb12
          go_wp2_with fail
          refine (sNode_any nodes slots tt ao nf cp _).mono ?_
          rintro e w3 ⟨rfl, hb3⟩
          rw [h2]
          clear x0 x1 x2
          have hb13 := hb12.trans (hb3.mono hb12.size)
          clear hb12 hb3
          go_wp2
          go_ret
          exact ⟨rfl, BX.out.2.trans (hb13.mono hXz)⟩
        · have e0 : Nt.efault nodes slots nf F fr tt = 0 := Nt.ef_nil hz (by unfold Nt.ends; rw [h1, h2]; simpa using h3)
          obtain rfl : np = 0 := by exact hq.resolve_left (fun k => k e0)
          rw [Nt.rf_empty e0]
          have h3' : (fr == tt) = false := by simpa using h3
          clear hz hq e0 h3
          go_enter Try.func106, Try.ntmps106
          go_wp2_with fail
          rw [← hX]
          clear hX
          obtain ⟨x0, x1, x2⟩ := CX X (Below.refl _ _)
          go_wp2_with fail
          refine (sNf_any (H _ (Below.refl _ _)).out.1 hf).mono ?_
          rintro e w1 ⟨rfl, hb1⟩
          rw [HC0.out]
          clear x0 x1 x2
          obtain ⟨x0, x1, x2⟩ := CX w1 hb1
          go_wp2_with fail
          refine (sNode_any nodes slots fr ao nf cp _).mono ?_
          rintro e w2 ⟨rfl, hb2⟩
          rw [h1]
          clear x0 x1 x2
          have hb12 := hb1.trans (hb2.mono hb1.size)
          clear hb1 hb2
          obtain ⟨x0, x1, x2⟩ := CX w2 hb12
          go_wp2_with fail
          refine (sNode_any nodes slots tt ao nf cp _).mono ?_
          rintro e w3 ⟨rfl, hb3⟩
          rw [h2]
          clear x0 x1 x2
          have hb13 := hb12.trans (hb3.mono hb12.size)
          clear hb12 hb3
          go_wp2
          go_ret
          exact ⟨rfl, BX.out.2.trans (hb13.mono hXz)⟩
  · obtain ⟨c, hc⟩ : ∃ c, c = Nt.nfault nodes slots nf F := ⟨_, rfl⟩
    have HC : Hid (c = Nt.nfault nodes slots nf F) := hc
    rw [← hc] at hz
    have hz' : (c == 0) = false := by simpa using hz
    have hv : Nt.rfault nodes slots nf F fr tt np p = c := by
      have e1 : Nt.efault nodes slots nf F fr tt = c := by rw [hc]; exact Nt.ef_net (by rw [← hc]; exact hz)
      rw [Nt.rf_ends (by rw [e1]; exact hz), e1]
    rw [hv]
    clear hv hz hc hq
    go_enter Try.func106, Try.ntmps106
    go_wp2_with fail
    rw [← hX]
    clear hX
    obtain ⟨x0, x1, x2⟩ := CX X (Below.refl _ _)
    go_wp2_with fail
    refine (sNf_any (H _ (Below.refl _ _)).out.1 hf).mono ?_
    rintro e w1 ⟨rfl, hb1⟩
    rw [← HC.out]
    clear x0 x1 x2
    go_wp2
    go_ret
    exact ⟨rfl, BX.out.2.trans (hb1.mono hXz)⟩
set_option maxRecDepth 20000 in
set_option maxHeartbeats 3200000 in
theorem sRf_go {w : World} {ao bo : Option Addr} {nf cp np cq : Nat} {nodes slots : Int} {F : Nat → Fb} {p : Nat → Int} (fr tt : Int) (h : Rf w (.slice ao nf cp) nf F) (hp : RdRow w (.slice bo np cq) np p) (hf : nf ≤ 1048576) (hn : np ≤ 1048576) (he : Nt.efault nodes slots nf F fr tt = 0) (h0 : 0 < np) :
    Calls Try.prog 106 #[.agg #[.int .i64 nodes, .int .i64 slots, .slice ao nf cp], .int .i64 fr, .int .i64 tt, .slice bo np cq] w fun e w' => e = .returned (.int .i64 (Nt.rfault nodes slots nf F fr tt np p)) ∧ Below w.heap.size w w' := by
  obtain ⟨X, hX⟩ : ∃ X, X = (w.alloc (.cells #[.int .i64 nodes, .int .i64 slots, .slice ao nf cp] 37)) := ⟨_, rfl⟩
  have BX : Hid (Blk X w.heap.size #[.int .i64 nodes, .int .i64 slots, .slice ao nf cp] 37 ∧ Below w.heap.size w X) := by rw [hX]; exact ⟨Blk.new rfl, (Below.refl _ _).alloc (Nat.le_refl _) _⟩
  have CX : ∀ W, Below X.heap.size X W → W.cell? ⟨w.heap.size, 0, none⟩ = some (.int .i64 nodes) ∧ W.cell? ⟨w.heap.size, 1, none⟩ = some (.int .i64 slots) ∧ W.cell? ⟨w.heap.size, 2, none⟩ = some (.slice ao nf cp) :=
    fun W h => ⟨(BX.out.1.old h).cell rfl, (BX.out.1.old h).cell rfl, (BX.out.1.old h).cell rfl⟩
  have hXz : w.heap.size ≤ X.heap.size := Nat.le_of_lt BX.out.1.lt
  have H : ∀ W, Below X.heap.size X W → Hid (Rf W (.slice ao nf cp) nf F ∧ RdRow W (.slice bo np cq) np p) := fun W hb => ⟨h.later (BX.out.2.trans (hb.mono hXz)), hp.later (BX.out.2.trans (hb.mono hXz))⟩
  clear h hp
  have hnI : (np : Int) ≤ 1048576 := by omega
  have h0I : ((np : Int) == 0) = false := by simp; omega
  have hg := Nt.ef_good he
  have he2 := Nt.ends_iff.1 hg.2
  have HC0 : Hid (Nt.nfault nodes slots nf F = 0) := hg.1
  have G := Nt.nf_good hg.1
  have hfI : (nf : Int) ≤ 14 := by have := G.f14; omega
  have h1 : Nt.isN nodes fr = true := by unfold Nt.isN; simp; omega
  have h2 : Nt.isN nodes tt = true := by unfold Nt.isN; simp; omega
  have h3 : (fr == tt) = false := by simp; exact he2.2.2.2.2
  obtain ⟨C, hC⟩ : ∃ C, C = Nt.wend nf F fr tt np p := ⟨_, rfl⟩
  have HC : Hid (C = Nt.wend nf F fr tt np p) := hC
  rw [Nt.rf_way he, ← hC]
  clear hC hg he2 G he
  go_enter Try.func106, Try.ntmps106
  go_wp2_with fail
  rw [← hX]
  clear hX
  obtain ⟨x0, x1, x2⟩ := CX X (Below.refl _ _)
  go_wp2_with fail
  refine (sNf_any (H _ (Below.refl _ _)).out.1 hf).mono ?_
  rintro e w1 ⟨rfl, hb1⟩
  rw [HC0.out]
  clear x0 x1 x2
  obtain ⟨x0, x1, x2⟩ := CX w1 hb1
  go_wp2_with fail
  refine (sNode_any nodes slots fr ao nf cp _).mono ?_
  rintro e w2 ⟨rfl, hb2⟩
  rw [h1]
  clear x0 x1 x2
  have hb12 := hb1.trans (hb2.mono hb1.size)
  clear hb1 hb2
  obtain ⟨x0, x1, x2⟩ := CX w2 hb12
  go_wp2_with fail
  refine (sNode_any nodes slots tt ao nf cp _).mono ?_
  rintro e w3 ⟨rfl, hb3⟩
  rw [h2]
  clear x0 x1 x2
  have hb13 := hb12.trans (hb3.mono hb12.size)
  clear hb12 hb3
  clear h1 h2
  go_upto_region 6 with fail
  go_wp2_with fail
  obtain ⟨Y, hY⟩ : ∃ Y, Y = w3.alloc (.cells #[.int .i64 fr] 2) := ⟨_, rfl⟩
  have HY : Hid (Y.ownsRow X.heap.size 2 1 (.slice (some ⟨w3.heap.size, 0, none⟩) 1 1) (0 + 1) ((List.range (0 + 1)).map fun j => .int .i64 (Nt.nd F p fr j)) ∧ Below X.heap.size X Y) := by
    rw [hY]
    exact ⟨⟨rfl, Or.inr ⟨w3.heap.size, 1, #[.int .i64 fr], rfl, hb13.size, heap_alloc_new _ _, Nat.le_refl _, by decide, rfl, rfl⟩⟩, hb13.alloc hb13.size _⟩
  rw [← hY]
  clear hY hb13 h3 h0I
  go_loopw [10, 11, 12] (fun v u i wr => ∃ k : Nat, k ≤ np ∧ i = .int .i64 k ∧ u = .int .i64 (Nt.nd F p fr k) ∧ Hid (wr.ownsRow X.heap.size 2 1 v (k + 1) ((List.range (k + 1)).map fun j => .int .i64 (Nt.nd F p fr j)) ∧ Below X.heap.size X wr) ∧ Hid (Nt.way nf F p fr k = 0)) (fun _ _ i _ => np - (intOf i).toNat)
  case atStart => exact ⟨0, Nat.zero_le _, rfl, rfl, HY.out, rfl⟩
  case round =>
    obtain ⟨k, hk, rfl, rfl, HB, HK⟩ := hrel
    obtain ⟨at0, hat⟩ : ∃ a, a = Nt.nd F p fr k := ⟨_, rfl⟩
    have HA : Hid (at0 = Nt.nd F p fr k) := hat
    rw [← hat]
    clear hat
    by_cases hkn : k < np
    · obtain ⟨b, off, rfl, hc⟩ := (H wr HB.out.2).out.2.at hkn
      obtain ⟨v, hv⟩ : ∃ v, v = p k := ⟨_, rfl⟩
      rw [← hv] at hc
      have HV : Hid (v = p k) := hv
      clear hv
      have KN0 : ∀ x : Kept wr.heap.size wr, x.w.cell? ⟨w.heap.size, 0, none⟩ = some (.int .i64 nodes) := fun x => kold x.h (CX wr HB.out.2).1
      have KN1 : ∀ x : Kept wr.heap.size wr, x.w.cell? ⟨w.heap.size, 1, none⟩ = some (.int .i64 slots) := fun x => kold x.h (CX wr HB.out.2).2.1
      have KN2 : ∀ x : Kept wr.heap.size wr, x.w.cell? ⟨w.heap.size, 2, none⟩ = some (.slice ao nf cp) := fun x => kold x.h (CX wr HB.out.2).2.2
      have KP : ∀ x : Kept wr.heap.size wr, x.w.cell? ⟨b, off + k, none⟩ = some (.int .i64 v) := fun x => kold x.h hc
      have hkI : (k : Int) < np := by omega
      clear hc
      cases hfi : Nt.isFi nf v with
      | false =>
        have hs : Hid (C = 3) := by rw [HC.out]; exact way_stop HK.out hkn (stp_three (by rw [← HV.out]; exact hfi)) (by omega)
        have HRt : ∀ W, Calls Try.prog 114 #[.agg #[.int .i64 nodes, .int .i64 slots, .slice ao nf cp], .int .i64 v] W fun e w' => e = .returned (.bool false) ∧ Below W.heap.size W w' := fun W => by have := sFib_any nodes slots v ao nf cp W; rwa [hfi] at this
        clear hfi
        go_upto_region 11 with fail
        refine wp_region_kept wr.heap.size (by kernel_rfl) (by kernel_rfl) ?_
        intro hne
        repeat (go_big_quiet_step (first | (go_at_call 114; exact Calls.kept_of (Nat.le_refl _) (HRt _))))
        refine wpQuiet_nil ?_
        rintro u7 ⟨xk, hxk⟩
        have hR1 := xk.h
        rw [← hxk] at hR1
        clear hxk xk hne KN0 KN1 KN2 KP
        go_wp2
        go_ret
        exact ⟨by rw [hs.out]; rfl, BX.out.2.trans ((HB.out.2.trans (hR1.mono HB.out.2.size)).mono hXz)⟩
      | true =>
        have HRt : ∀ W, Calls Try.prog 114 #[.agg #[.int .i64 nodes, .int .i64 slots, .slice ao nf cp], .int .i64 v] W fun e w' => e = .returned (.bool true) ∧ Below W.heap.size W w' := fun W => by have := sFib_any nodes slots v ao nf cp W; rwa [hfi] at this
        obtain ⟨q, hq⟩ : ∃ q : Nat, v = (q : Int) := ⟨v.toNat, by have := Nt.isFi_iff.1 hfi; omega⟩
        have hqf : q < nf := by have := Nt.isFi_iff.1 hfi; omega
        have hqI : (q : Int) < nf := by omega
        have HFI : Hid (Nt.isFi nf (p k) = true) := by rw [← HV.out]; exact hfi
        have HPK : Hid (p k = (q : Int)) := by rw [← HV.out]; exact hq
        subst hq
        clear hfi HV
        go_upto_region 11 with fail
        refine wp_region_kept wr.heap.size (by kernel_rfl) (by kernel_rfl) ?_
        intro hne
        repeat (go_big_quiet_step (first | (go_at_call 114; exact Calls.kept_of (Nat.le_refl _) (HRt _))))
        refine wpQuiet_nil ?_
        rintro u7 ⟨xk, hxk⟩
        have hR1 := xk.h
        rw [← hxk] at hR1
        clear hxk xk hne KN0 KN1 KN2
        have HB1 : Hid (u7.ownsRow X.heap.size 2 1 u10 (k + 1) ((List.range (k + 1)).map fun j => .int .i64 (Nt.nd F p fr j)) ∧ Below X.heap.size X u7) := ⟨owns_later HB.out.1 hR1, HB.out.2.trans (hR1.mono HB.out.2.size)⟩
        have hp1 : u7.cell? ⟨b, off + k, none⟩ = some (.int .i64 (q : Int)) := KP ⟨u7, hR1⟩
        clear hR1 KP HRt HB
        obtain ⟨bf, of, haf, hcf⟩ := (H u7 HB1.out.2).out.1.at hqf
        subst haf
        obtain ⟨f, hf⟩ : ∃ f, f = F q := ⟨_, rfl⟩
        have HQ : Hid (Nt.nd F p fr (k + 1) = Nt.oth f at0) := by
          show Nt.oth (F (p k).toNat) (Nt.nd F p fr k) = _
          rw [← HA.out, hf, HPK.out]; rfl
        have KN2 : ∀ x : Kept u7.heap.size u7, x.w.cell? ⟨w.heap.size, 2, none⟩ = some (.slice (some ⟨bf, of, none⟩) nf cp) := fun x => kold x.h (CX u7 HB1.out.2).2.2
        have KP : ∀ x : Kept u7.heap.size u7, x.w.cell? ⟨b, off + k, none⟩ = some (.int .i64 (q : Int)) := fun x => kold x.h hp1
        have KF0 : ∀ x : Kept u7.heap.size u7, x.w.cell? ⟨bf, of + q * 3, none⟩ = some (.int .i64 f.a) := fun x => kold x.h (by rw [hf]; exact hcf 0 (by omega))
        have KF1 : ∀ x : Kept u7.heap.size u7, x.w.cell? ⟨bf, of + q * 3 + 1, none⟩ = some (.int .i64 f.b) := fun x => kold x.h (by rw [hf]; exact hcf 1 (by omega))
        have KF2 : ∀ x : Kept u7.heap.size u7, x.w.cell? ⟨bf, of + q * 3 + 2, none⟩ = some (.int .i64 f.km) := fun x => kold x.h (by rw [hf]; exact hcf 2 (by omega))
        obtain ⟨t, ht⟩ : ∃ t, t = Nt.oth f at0 := ⟨_, rfl⟩
        have HOt : ∀ W, Calls Try.prog 115 #[.agg #[.int .i64 f.a, .int .i64 f.b, .int .i64 f.km], .int .i64 at0] W fun e w' => e = .returned (.int .i64 t) ∧ Below W.heap.size W w' := fun W => by rw [ht]; exact sOth_any f at0 W
        rw [← ht] at HQ
        clear hcf hf ht hp1
        go_upto_region 13 with fail
        refine wp_region_kept u7.heap.size (by kernel_rfl) (by kernel_rfl) ?_
        intro hne
        repeat (go_big_quiet_step (first | (go_at_call 115; exact Calls.kept_of (Nat.le_refl _) (HOt _))))
        refine wpQuiet_nil ?_
        rintro u8 ⟨xk, hxk⟩
        have hR1 := xk.h
        rw [← hxk] at hR1
        clear hxk xk hne KN2 KP KF0 KF1 KF2 HOt
        have HB2 : Hid (u8.ownsRow X.heap.size 2 1 u10 (k + 1) ((List.range (k + 1)).map fun j => .int .i64 (Nt.nd F p fr j)) ∧ Below X.heap.size X u8) := ⟨owns_later HB1.out.1 hR1, HB1.out.2.trans (hR1.mono HB1.out.2.size)⟩
        clear hR1 HB1
        by_cases htn : t < 0
        · have hs : Hid (C = 1) := by rw [HC.out]; exact way_stop HK.out hkn (stp_one HFI.out (Or.inl (by rw [HQ.out]; exact htn))) (by omega)
          go_wp2
          go_ret
          exact ⟨by rw [hs.out]; rfl, BX.out.2.trans (HB2.out.2.mono hXz)⟩
        · obtain ⟨g, cg, hvg, hgb, hcg, hsg⟩ := owned_seg2 HB2.out.1 (Nat.succ_pos _)
          have hrd : Hid (RdRow u8 (.slice (some ⟨g, 0, none⟩) (k + 1) cg) (k + 1) (fun j => Nt.nd F p fr j)) := hsg.rd
          subst hvg
          clear hgb hcg hsg
          cases hbn : Nt.has (fun j => Nt.nd F p fr j) (k + 1) t with
          | true =>
            have hs : Hid (C = 1) := by rw [HC.out]; exact way_stop HK.out hkn (stp_one HFI.out (Or.inr (by rw [HQ.out]; exact hbn))) (by omega)
            go_wp2_with (first | (go_at_call 102; refine (sHas_any t hrd.out (by omega)).mono ?_; rintro e w9 ⟨rfl, rfl⟩; rw [hbn]))
            go_ret
            exact ⟨by rw [hs.out]; rfl, BX.out.2.trans (HB2.out.2.mono hXz)⟩
          | false =>
            have HS : Hid (Nt.way nf F p fr (k + 1) = 0) := Nt.fst_next HK.out (stp_zero HFI.out (by rw [HQ.out]; omega) (by rw [HQ.out]; exact hbn))
            have hxs := HB2.out.2.size
            have HB3 : Hid (u8.ownsRow X.heap.size 2 1 (.slice (some ⟨g, 0, none⟩) (k + 1) cg) (k + 1) ((List.range (k + 1)).map fun j => .int .i64 (Nt.nd F p fr j)) ∧ Below X.heap.size X u8) := HB2
            clear HB2
            go_wp2_with (first | (go_at_call 102; refine (sHas_any t hrd.out (by omega)).mono ?_; rintro e w9 ⟨rfl, rfl⟩; rw [hbn]) | (at_builtin; refine push_law rfl (.tmp 71) (.tmp 73) 72 rfl 2 (.int .i64 0) 8 Try.underlying72 info2 rfl (by decide) _ (.int .i64 t) rfl X.heap.size _ (k + 1) _ rfl HB3.out.1 1 rfl (by omega) hxs ?_; intro v1 w10 own1 grow1))
            have HN : Hid (w10.ownsRow X.heap.size 2 1 v1 ((k + 1) + 1) ((List.range ((k + 1) + 1)).map fun j => .int .i64 (Nt.nd F p fr j)) ∧ Below X.heap.size X w10) := by
              refine ⟨?_, push_below HB3.out.1 grow1 HB3.out.2 hxs⟩
              rw [← range_push, HQ.out]
              exact own1
            rw [← HQ.out]
            clear own1 grow1
            go_wp2
            go_roundw
            case rel => exact ⟨k + 1, by omega, by simp, rfl, HN, HS⟩
            case measure => simp [intOf]; omega
    · obtain rfl : k = np := by omega
      by_cases hto : at0 = tt
      · have hs : Hid (C = 0) := by show C = 0; rw [HC.out]; unfold Nt.wend; rw [if_pos HK.out, if_pos (by rw [← HA.out]; exact hto)]
        have hb : (at0 == tt) = true := by simpa using hto
        clear hto
        go_wp2
        go_ret
        exact ⟨by rw [hs.out]; rfl, BX.out.2.trans (HB.out.2.mono hXz)⟩
      · have hs : Hid (C = 1) := by show C = 1; rw [HC.out]; unfold Nt.wend; rw [if_pos HK.out, if_neg (by rw [← HA.out]; exact hto)]
        have hb : (at0 == tt) = false := by simpa using hto
        clear hto
        go_wp2
        go_ret
        exact ⟨by rw [hs.out]; rfl, BX.out.2.trans (HB.out.2.mono hXz)⟩
theorem sRf_any {w : World} {ao bo : Option Addr} {nf cp np cq : Nat} {nodes slots : Int} {F : Nat → Fb} {p : Nat → Int} (fr tt : Int) (h : Rf w (.slice ao nf cp) nf F) (hp : RdRow w (.slice bo np cq) np p) (hf : nf ≤ 1048576) (hn : np ≤ 1048576) :
    Calls Try.prog 106 #[.agg #[.int .i64 nodes, .int .i64 slots, .slice ao nf cp], .int .i64 fr, .int .i64 tt, .slice bo np cq] w fun e w' => e = .returned (.int .i64 (Nt.rfault nodes slots nf F fr tt np p)) ∧ Below w.heap.size w w' := by
  by_cases hq : Nt.efault nodes slots nf F fr tt ≠ 0 ∨ np = 0
  · exact sRf_early fr tt h hp hf hn hq
  · exact sRf_go fr tt h hp hf hn (by cases Classical.em (Nt.efault nodes slots nf F fr tt = 0) with | inl e => exact e | inr e => exact absurd (Or.inl e) hq) (by omega)
end Go.Proofs.Ytinfbbbgfkaioaa
