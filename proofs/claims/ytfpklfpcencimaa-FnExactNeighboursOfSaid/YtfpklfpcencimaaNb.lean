/- The first neighbour from a place on: contract. -/
import Derived.Test.YtfpklfpcencimaaNg
import Derived.Test.YtfpklfpcencimaaRo
namespace Go.Proofs.Ytfpklfpcencimaa
open Go.RowKit
set_option linter.unusedVariables false
set_option linter.unusedSimpArgs false
set_option maxRecDepth 20000 in
set_option maxHeartbeats 1600000 in
theorem nb_any {w : World} {ao : Option Addr} {nf cp : Nat} {nodes slots : Int} {F : Nat → Fb} (v : Int) (p : Nat) (h : Rf w (.slice ao nf cp) nf F) (hf : nf ≤ 1048576) (hp : p ≤ nf) :
    Calls Try.prog 31 #[.agg #[.int .i64 nodes, .int .i64 slots, .slice ao nf cp], .int .i64 v, .int .i64 p] w fun e w' => e = .returned (.tuple #[.agg #[.int .i64 (Nt.nbN F v nf (Nt.nx F v nf p)), .int .i64 (Nt.nbF nf (Nt.nx F v nf p))], .bool (decide (Nt.nx F v nf p < nf))]) ∧ Below w.heap.size w w' := by
  obtain ⟨X, hX⟩ : ∃ X, X = (w.alloc (.cells #[.int .i64 nodes, .int .i64 slots, .slice ao nf cp] 32)).alloc (.cells #[.int .i64 0, .int .i64 0] 62) := ⟨_, rfl⟩
  have BX : Hid (Blk X w.heap.size #[.int .i64 nodes, .int .i64 slots, .slice ao nf cp] 32 ∧ Blk X (w.heap.size + 1) #[.int .i64 0, .int .i64 0] 62 ∧ Below w.heap.size w X) := by
    rw [hX]
    exact ⟨(Blk.new rfl).alloc _, Blk.new (by simp), ((Below.refl _ _).alloc (Nat.le_refl _) _).alloc (by simp) _⟩
  have hXz : w.heap.size + 1 < X.heap.size := BX.out.2.1.lt
  have H : ∀ W, Below X.heap.size X W → Hid (Rf W (.slice ao nf cp) nf F) := fun W hb => h.later (BX.out.2.2.trans (hb.mono (by omega)))
  have HM : Hid (nf ≤ 1048576 ∧ p ≤ nf) := ⟨hf, hp⟩
  have hfI : (nf : Int) ≤ 1048576 := by omega
  clear h
  obtain ⟨k0, hk0⟩ : ∃ k, k = Nt.nx F v nf p := ⟨_, rfl⟩
  have HK0 : Hid (k0 = Nt.nx F v nf p) := hk0
  rw [← hk0]
  clear hk0
  have x0 := BX.out.2.1.cell (j := 0) rfl
  have x1 := BX.out.2.1.cell (j := 1) rfl
  have y0 := BX.out.1.cell (j := 0) rfl
  have y1 := BX.out.1.cell (j := 1) rfl
  have y2 := BX.out.1.cell (j := 2) rfl
  go_enter Try.func31, Try.ntmps31
  go_wp2_with fail
  rw [← hX]
  clear hX
  clear x0 x1 y0 y1 y2
  go_loopw [8] (fun i wr => ∃ k : Nat, k ≤ nf ∧ i = .int .i64 k ∧ Hid (Nt.nx F v nf k = k0 ∧ Below X.heap.size X wr)) (fun i _ => nf - (intOf i).toNat)
  case atStart => exact ⟨p, hp, rfl, HK0.out.symm, Below.refl _ _⟩
  case round =>
    obtain ⟨k, hk, rfl, HG⟩ := hrel
    have y0 := (BX.out.1.old HG.out.2).cell (j := 0) rfl
    have y1 := (BX.out.1.old HG.out.2).cell (j := 1) rfl
    have y2 := (BX.out.1.old HG.out.2).cell (j := 2) rfl
    have hkI : (k : Int) ≤ nf := by omega
    go_wp2_with fail
    refine (iFib_any _ _ _ _ _ _ _).mono ?_
    rintro e w1 ⟨rfl, hb1⟩
    have H1 : Hid (Below X.heap.size X w1) := box_step HG.out.2 hb1 (Nat.le_refl _)
    clear hb1 y0 y1 y2
    have y2 := (BX.out.1.old H1.out).cell (j := 2) rfl
    by_cases hkn : k < nf
    · have hfi : Nt.isFi nf (k : Int) = true := Nt.isFi_iff.2 ⟨by omega, by omega⟩
      obtain ⟨b, off, rfl, hc⟩ := (H w1 H1.out).out.at hkn
      have f0 : w1.cell? ⟨b, off + k * 3, none⟩ = some (.int .i64 (F k).a) := hc 0 (by omega)
      have f1 : w1.cell? ⟨b, off + k * 3 + 1, none⟩ = some (.int .i64 (F k).b) := hc 1 (by omega)
      have f2 : w1.cell? ⟨b, off + k * 3 + 2, none⟩ = some (.int .i64 (F k).km) := hc 2 (by omega)
      have hkJ : (k : Int) < nf := by omega
      clear hc
      rw [hfi]
      go_wp2_with fail
      refine (iOth_any (F k) v w1).mono ?_
      rintro e w2 ⟨rfl, hb2⟩
      have H2 : Hid (Below X.heap.size X w2) := box_step H1.out hb2 (Nat.le_refl _)
      clear hb2 y2 f0 f1 f2
      obtain ⟨o, ho⟩ : ∃ o, o = Nt.oth (F k) v := ⟨_, rfl⟩
      have HO : Hid (o = Nt.oth (F k) v) := ho
      rw [← ho]
      clear ho
      by_cases h0 : 0 ≤ o
      · have hd : decide (0 ≤ o) = true := by simpa using h0
        have E : Hid (k0 = k ∧ Nt.nbN F v nf k0 = o ∧ Nt.nbF nf k0 = k ∧ decide (k0 < nf) = true) := by
          have e := Nt.nx_hit (F := F) (v := v) hkn (HO.out ▸ h0)
          rw [HG.out.1] at e
          subst e
          exact ⟨rfl, by rw [Nt.nbN_is hkn]; exact HO.out.symm, Nt.nbF_is hkn, by simpa using hkn⟩
        have x0 := (BX.out.2.1.old H2.out).cell (j := 0) rfl
        have x1 := (BX.out.2.1.old H2.out).cell (j := 1) rfl
        have fz := (BX.out.2.1.old H2.out).frozen
        have HB : Hid (Blk ((w2.setCell ⟨w.heap.size + 1, 0, none⟩ (.int .i64 o)).setCell ⟨w.heap.size + 1, 1, none⟩ (.int .i64 k)) (w.heap.size + 1) #[.int .i64 o, .int .i64 k] 62 ∧ Below w.heap.size w ((w2.setCell ⟨w.heap.size + 1, 0, none⟩ (.int .i64 o)).setCell ⟨w.heap.size + 1, 1, none⟩ (.int .i64 k))) :=
          ⟨(((BX.out.2.1.old H2.out).set 0 _ rfl).set 1 _ rfl), ((BX.out.2.2.trans (H2.out.mono (by omega))).setCell (by simp) _).setCell (by simp) _⟩
        clear h0 HO HG H1 H2 H
        go_wp2_with fail
        obtain ⟨u1, u2, u3, u4⟩ := E.out
        rw [u2, u3, u4]
        have r0 := HB.out.1.cell (j := 0) rfl
        have r1 := HB.out.1.cell (j := 1) rfl
        refine bodyPost_ret (v := .tuple #[.agg #[.int .i64 o, .int .i64 k], .bool true]) ?_ rfl ⟨rfl, HB.out.2⟩
        simp [results, Try.results31, go_sem, r0, r1]
      · have hd : decide (0 ≤ o) = false := by simpa using h0
        have E : Hid (Nt.nx F v nf (k + 1) = k0) := by show _ = _; rw [Nt.nx_skip hkn (HO.out ▸ h0)]; exact HG.out.1
        clear h0 HO
        go_wp2
        go_roundw
        case rel => exact ⟨k + 1, by omega, by simp, E.out, H2.out⟩
        case measure => simp [intOf]; omega
    · obtain rfl : k = nf := by omega
      have hfi : Nt.isFi k (k : Int) = false := Nt.isFi_no (by omega)
      have E : Hid (Nt.nbN F v k k0 = 0 ∧ Nt.nbF k k0 = 0 ∧ decide (k0 < k) = false) := by
        have e := Nt.nx_end (F := F) (v := v) (nf := k)
        rw [HG.out.1] at e
        subst e
        exact ⟨Nt.nbN_no (by omega), Nt.nbF_no (by omega), by simp⟩
      have x0 := (BX.out.2.1.old H1.out).cell (j := 0) rfl
      have x1 := (BX.out.2.1.old H1.out).cell (j := 1) rfl
      have fz := (BX.out.2.1.old H1.out).frozen
      have HB : Hid (Blk ((w1.setCell ⟨w.heap.size + 1, 0, none⟩ (.int .i64 0)).setCell ⟨w.heap.size + 1, 1, none⟩ (.int .i64 0)) (w.heap.size + 1) #[.int .i64 0, .int .i64 0] 62 ∧ Below w.heap.size w ((w1.setCell ⟨w.heap.size + 1, 0, none⟩ (.int .i64 0)).setCell ⟨w.heap.size + 1, 1, none⟩ (.int .i64 0))) :=
        ⟨(((BX.out.2.1.old H1.out).set 0 _ rfl).set 1 _ rfl), ((BX.out.2.2.trans (H1.out.mono (by omega))).setCell (by simp) _).setCell (by simp) _⟩
      rw [hfi]
      clear HG H1 H y2
      go_wp2_with fail
      obtain ⟨u2, u3, u4⟩ := E.out
      rw [u2, u3, u4]
      have r0 := HB.out.1.cell (j := 0) rfl
      have r1 := HB.out.1.cell (j := 1) rfl
      refine bodyPost_ret (v := .tuple #[.agg #[.int .i64 0, .int .i64 0], .bool false]) ?_ rfl ⟨rfl, HB.out.2⟩
      simp [results, Try.results31, go_sem, r0, r1]
end Go.Proofs.Ytfpklfpcencimaa
