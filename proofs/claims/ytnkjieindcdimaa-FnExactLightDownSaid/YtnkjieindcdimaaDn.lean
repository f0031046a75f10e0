/- LightDown's code; the specification's LightDown: contract. -/
import Derived.Test.YtnkjieindcdimaaOt
import Derived.Test.YtnkjieindcdimaaLr
import Derived.Test.YtnkjieindcdimaaSm
import Derived.Test.YtnkjieindcdimaaSx
namespace Go.Proofs.Ytnkjieindcdimaa
open Go.RowKit Go.Maps
set_option linter.unusedVariables false
set_option linter.unusedSimpArgs false
/-- LightDown's code. -/
def dcode (nodes slots : Int) (nf : Nat) (F : Nat → Fb) (n : Nat) (L : Nat → Li) (id : Int) : Int :=
  if Nt.lfault nodes slots nf F n L = 0 then (if fnd L id n = -1 then 4 else 0) else Nt.lfault nodes slots nf F n L
theorem dn_net {nodes slots id : Int} {nf : Nat} {F : Nat → Fb} {n : Nat} {L : Nat → Li} (h : Nt.lfault nodes slots nf F n L ≠ 0) : dcode nodes slots nf F n L id = Nt.lfault nodes slots nf F n L := by unfold dcode; rw [if_neg h]
theorem dn_none {nodes slots id : Int} {nf : Nat} {F : Nat → Fb} {n : Nat} {L : Nat → Li} (h : Nt.lfault nodes slots nf F n L = 0) (k : fnd L id n = -1) : dcode nodes slots nf F n L id = 4 := by unfold dcode; rw [if_pos h, if_pos k]
theorem dn_ok {nodes slots id : Int} {nf : Nat} {F : Nat → Fb} {n : Nat} {L : Nat → Li} (h : Nt.lfault nodes slots nf F n L = 0) (k : fnd L id n ≠ -1) : dcode nodes slots nf F n L id = 0 := by unfold dcode; rw [if_pos h, if_neg k]
theorem dn_zero {nodes slots id : Int} {nf : Nat} {F : Nat → Fb} {n : Nat} {L : Nat → Li} (h : dcode nodes slots nf F n L id = 0) : Nt.lfault nodes slots nf F n L = 0 ∧ fnd L id n ≠ -1 := by
  unfold dcode at h
  by_cases z : Nt.lfault nodes slots nf F n L = 0
  · rw [if_pos z] at h
    refine ⟨z, fun e => ?_⟩
    rw [if_pos e] at h
    omega
  · rw [if_neg z] at h; exact absurd h z
theorem few_less {N t : Nat} {L : Nat → Li} (h : ∀ i, i < N + 1 → (L i).np ≤ 8) (hN : N + 1 ≤ 40) (ht : t < N + 1) : LFew N (fun i => L (sk t i)) := by
  refine ⟨by omega, ?_⟩
  have key : ∀ k, k ≤ N → Sm (fun i => (L (sk t i)).np) k ≤ 8 * k := by
    intro k
    induction k with
    | zero => intro _; simp [Sm]
    | succ k ih =>
      intro hk
      have h1 := ih (by omega)
      have h2 : (L (sk t k)).np ≤ 8 := h _ (by unfold sk; split <;> omega)
      show Sm (fun i => (L (sk t i)).np) k + (L (sk t k)).np ≤ _
      omega
  have := key N (Nat.le_refl _)
  show Sm (fun i => (L (sk t i)).np) N ≤ 1048576
  omega
/-- The light that is found, and the others. -/
theorem found {nodes slots id : Int} {nf : Nat} {F : Nat → Fb} {n : Nat} {L : Nat → Li} (h : Nt.AllOk nodes slots nf F n L) (k : fnd L id n ≠ -1) : ∃ N t : Nat, n = N + 1 ∧ t < N + 1 ∧ fnd L id n = (t : Int) ∧ (∀ j, j < N + 1 → ((L j).id != id) = !decide (j = t)) := by
  obtain ⟨t, h1, h2, h3⟩ := fnd_is k
  refine ⟨n - 1, t, by omega, by omega, h2, fun j hj => ?_⟩
  by_cases e : j = t
  · subst e
    simp [h3]
  · have : (L j).id ≠ id := fun e2 => e (h.id_one (by omega) h1 (by rw [e2, h3]))
    simp [e, this]
theorem ok_np {nodes slots : Int} {nf : Nat} {F : Nat → Fb} {n : Nat} {L : Nat → Li} (G : Nt.Good nodes slots nf F) (h : Nt.AllOk nodes slots nf F n L) {i : Nat} (hi : i < n) (hd : (L i).id ≤ 9223372036854775807) : Fine (L i) (L i).np := fine_of (h.ok i hi) rfl hd
set_option maxRecDepth 20000 in
set_option maxHeartbeats 3200000 in
theorem sDn_any {w : World} {ao lo : Option Addr} {nf cp n cl : Nat} {nodes slots id : Int} {F : Nat → Fb} {L : Nat → Li} {C : Int} (hC : C = dcode nodes slots nf F n L id) (h : Rf w (.slice ao nf cp) nf F) (hl : RdL w (.slice lo n cl) n L) (hf : nf ≤ 1048576) (hw : LFew n L) (hd : LBd n L) :
    Calls Try.prog 48 #[.agg #[.int .i64 nodes, .int .i64 slots, .slice ao nf cp], .slice lo n cl, .int .i64 id] w fun e w' => ∃ v, e = .returned (.agg #[.int .i64 C, v]) ∧ OutQ w' C v (n - 1) (fun i => L (sk (fnd L id n).toNat i)) ∧ Below w.heap.size w w' := by
  obtain ⟨X, hX⟩ : ∃ X, X = ((w.alloc (.cells #[.int .i64 nodes, .int .i64 slots, .slice ao nf cp] 29)).alloc (.cells #[.int .i64 0, .slice none 0 0] 71)) := ⟨_, rfl⟩
  have BX : Hid (Blk X w.heap.size #[.int .i64 nodes, .int .i64 slots, .slice ao nf cp] 29 ∧ Blk X (w.heap.size + 1) #[.int .i64 0, .slice none 0 0] 71 ∧ Below w.heap.size w X) := by rw [hX]; exact ⟨(Blk.new rfl).alloc _, Blk.new (by simp), ((Below.refl _ _).alloc (Nat.le_refl _) _).alloc (by simp) _⟩
  have CX : ∀ W, Below X.heap.size X W → W.cell? ⟨w.heap.size, 0, none⟩ = some (.int .i64 nodes) ∧ W.cell? ⟨w.heap.size, 1, none⟩ = some (.int .i64 slots) ∧ W.cell? ⟨w.heap.size, 2, none⟩ = some (.slice ao nf cp) :=
    fun W h => ⟨(BX.out.1.old h).cell rfl, (BX.out.1.old h).cell rfl, (BX.out.1.old h).cell rfl⟩
  have hXz : w.heap.size ≤ X.heap.size := Nat.le_of_lt BX.out.1.lt
  have H : ∀ W, Below X.heap.size X W → Hid (Rf W (.slice ao nf cp) nf F ∧ RdL W (.slice lo n cl) n L ∧ LFew n L) := fun W hb => ⟨h.later (BX.out.2.2.trans (hb.mono hXz)), hl.later (BX.out.2.2.trans (hb.mono hXz)), hw⟩
  have hn20 : n ≤ 1048576 := hw.cn
  clear h hl hw
  obtain ⟨c, hc⟩ : ∃ c, c = Nt.lfault nodes slots nf F n L := ⟨_, rfl⟩
  have HC : Hid (c = Nt.lfault nodes slots nf F n L) := hc
  have HCC : Hid (C = dcode nodes slots nf F n L id) := hC
  clear hc hC
  have HD : Hid (LBd n L) := hd
  clear hd
  go_enter Try.func48, Try.ntmps48
  go_wp2_with fail
  rw [← hX]
  clear hX
  obtain ⟨x0, x1, x2⟩ := CX X (Below.refl _ _)
  go_wp2_with fail
  refine (sLf_any (H _ (Below.refl _ _)).out.1 (H _ (Below.refl _ _)).out.2.1 hf (H _ (Below.refl _ _)).out.2.2).mono ?_
  rintro e w1 ⟨rfl, hb1⟩
  rw [← HC.out]
  clear x0 x1 x2
  by_cases hz : c = 0
  · have hzb : (c != 0) = false := by simp [hz]
    have hlf : Nt.lfault nodes slots nf F n L = 0 := by rw [← HC.out]; exact hz
    have hgood := lf_good hlf
    have HG : Hid (Nt.Good nodes slots nf F ∧ n ≤ 40 ∧ Nt.AllOk nodes slots nf F n L ∧ Nt.lfault nodes slots nf F n L = 0) := ⟨hgood.1, hgood.2.1, hgood.2.2, hlf⟩
    have HB1 : Hid (Below X.heap.size X w1) := hb1
    clear hgood hz hb1 hlf
    go_wp2_with fail
    refine (sFind_any id (H _ HB1.out).out.2.1 hn20).mono ?_
    rintro e w2 ⟨rfl, rfl⟩
    by_cases hk : fnd L id n = -1
    · rw [hk]
      have HCv : Hid (C = 4) := by show C = 4; rw [HCC.out]; exact dn_none HG.out.2.2.2 hk
      have HCn : Hid (C ≠ 0) := by rw [HCv.out]; show (4 : Int) ≠ 0; omega
      have hbu : Below X.heap.size X w2 := HB1.out
      have hB := BX.out.2.1.old hbu
      have y0 := hB.cell (j := 0) rfl
      have y1 := hB.cell (j := 1) rfl
      have f0 := hB.frozen
      have HB : Hid (Below X.heap.size X w2) := hbu
      clear hB hbu hk
      go_wp2
      refine bodyPost_ret (v := .agg #[.int .i64 4, .slice none 0 0]) (by simp [results, Try.results48, go_sem, y0, y1]) rfl ⟨_, by rw [HCv.out], Or.inl ⟨HCn.out, rfl⟩, ?_⟩
      exact BX.out.2.2.trans (Below.setCell (Below.setCell (HB.out.mono hXz) (by simp) _) (by simp) _)
    · obtain ⟨N, t, rfl, ht, hft, hid⟩ := found HG.out.2.2.1 hk
      have HC0 : Hid (C = 0) := by show C = 0; rw [HCC.out]; exact dn_ok HG.out.2.2.2 hk
      have HT : Hid (fnd L id (N + 1) = (t : Int)) := hft
      have HI : Hid ((∀ j, j < N + 1 → ((L j).id != id) = !decide (j = t)) ∧ ∀ i, i < N + 1 → 0 < (L i).np) := ⟨hid, fun i hi => (ok_np HG.out.1 HG.out.2.2.1 hi (HD.out i hi).2.2.2.2.2).m1⟩
      rw [hft]
      have ht0 : decide ((t : Int) < 0) = false := by simp
      clear hk hft hid
      go_wp2_with fail
      refine (sOut_any id (H _ HB1.out).out.2.1 (H _ HB1.out).out.2.2 HI.out.2 ht HI.out.1).mono ?_
      rintro e w3 ⟨v, rfl, hv, hb3⟩
      obtain ⟨va, vc, rfl⟩ := (hv w3 (fun _ _ => rfl)).shape
      have hw2 : w.heap.size + 1 < w2.heap.size := by have := (BX.out.2.1.old HB1.out).lt; exact this
      have hb13 := HB1.out.trans (hb3.mono HB1.out.size)
      have hB := BX.out.2.1.old hb13
      have y0 := hB.cell (j := 0) rfl
      have y1 := hB.cell (j := 1) rfl
      have f0 := hB.frozen
      have hlt := hB.lt
      have HM : Hid ((∀ W, (∀ k, w2.heap.size ≤ k → W.heap[k]? = w3.heap[k]?) → RdL W (.slice va N vc) N (fun i => L (sk t i))) ∧ Below X.heap.size X w3) := ⟨hv, hb13⟩
      clear hv hb3 hb13 hB
      go_wp2
      have hT : (fnd L id (N + 1)).toNat = t := by rw [HT.out]; simp
      refine bodyPost_ret (v := .agg #[.int .i64 0, .slice va N vc]) (by simp [results, Try.results48, go_sem, y0, y1]) rfl ⟨_, by rw [HC0.out], Or.inr ⟨HC0.out, ?_⟩, ?_⟩
      · rw [hT]
        exact HM.out.1 _ fun k hk => (Below.heap_setCell _ _ _ _ (by show k ≠ w.heap.size + 1; omega)).trans (Below.heap_setCell _ _ _ _ (by show k ≠ w.heap.size + 1; omega))
      · exact BX.out.2.2.trans (Below.setCell (Below.setCell (HM.out.2.mono hXz) (by simp) _) (by simp) _)
  · have hzb : (c != 0) = true := by simpa using hz
    have HCv : Hid (C = c) := by show C = c; rw [HCC.out, dn_net (by rw [← HC.out]; exact hz), HC.out]
    have HCn : Hid (C ≠ 0) := by rw [HCv.out]; exact hz
    have hbu : Below X.heap.size X w1 := hb1
    have hB := BX.out.2.1.old hbu
    have y0 := hB.cell (j := 0) rfl
    have y1 := hB.cell (j := 1) rfl
    have f0 := hB.frozen
    have HB : Hid (Below X.heap.size X w1) := hbu
    clear hB hbu hz
    go_wp2
    refine bodyPost_ret (v := .agg #[.int .i64 c, .slice none 0 0]) (by simp [results, Try.results48, go_sem, y0, y1]) rfl ⟨_, by rw [HCv.out], Or.inl ⟨HCn.out, rfl⟩, ?_⟩
    exact BX.out.2.2.trans (Below.setCell (Below.setCell (HB.out.mono hXz) (by simp) _) (by simp) _)
end Go.Proofs.Ytnkjieindcdimaa
