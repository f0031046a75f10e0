/- LowestSlide of both packages. -/
import Derived.Test.YtinfbbbgfkaioaaTw
import Derived.Test.YtinfbbbgfkaioaaLd
import Derived.Test.YtinfbbbgfkaioaaSm
namespace Go.Proofs.Ytinfbbbgfkaioaa
open Go.RowKit
set_option linter.unusedVariables false
set_option linter.unusedSimpArgs false
/-- What LowestSlide answers. -/
def lslide (nodes slots : Int) (nf : Nat) (F : Nat → Fb) (n : Nat) (L : Nat → Li) (id : Int) : Int :=
  if Nt.lfault nodes slots nf F n L = 0 then (if fnd L id n = -1 then -1 else ((Nt.lowS L n (L (fnd L id n).toNat) (L (fnd L id n).toNat).fi.toNat : Nat) : Int)) else -1
theorem ls_bad {nodes slots : Int} {nf : Nat} {F : Nat → Fb} {n : Nat} {L : Nat → Li} {id : Int} (h : Nt.lfault nodes slots nf F n L ≠ 0) : lslide nodes slots nf F n L id = -1 := by
  unfold lslide; rw [if_neg h]
theorem ls_none {nodes slots : Int} {nf : Nat} {F : Nat → Fb} {n : Nat} {L : Nat → Li} {id : Int} (h : fnd L id n = -1) : lslide nodes slots nf F n L id = -1 := by
  unfold lslide; rw [if_pos h]; split <;> rfl
theorem ls_is {nodes slots : Int} {nf : Nat} {F : Nat → Fb} {n : Nat} {L : Nat → Li} {id : Int} {k : Nat} (h : Nt.lfault nodes slots nf F n L = 0) (hk : fnd L id n = (k : Int)) : lslide nodes slots nf F n L id = ((Nt.lowS L n (L k) (L k).fi.toNat : Nat) : Int) := by
  unfold lslide
  rw [if_pos h, hk, if_neg (by omega)]
  rfl
set_option maxRecDepth 20000 in
set_option maxHeartbeats 1600000 in
theorem iLow_any {w : World} {ao lo : Option Addr} {nf cp n cl : Nat} {nodes slots : Int} {F : Nat → Fb} {L : Nat → Li} (id : Int) (h : Rf w (.slice ao nf cp) nf F) (hl : RdL w (.slice lo n cl) n L) (hf : nf ≤ 1048576) (hw : LFew n L) (hcp : nf ≤ cp) (hd : LBd n L) (hn : n ≤ 1048576) :
    Calls Try.prog 33 #[.agg #[.int .i64 nodes, .int .i64 slots, .slice ao nf cp], .slice lo n cl, .int .i64 id] w fun e w' => e = .returned (.int .i64 (lslide nodes slots nf F n L id)) ∧ Below w.heap.size w w' := by
  obtain ⟨X, hX⟩ : ∃ X, X = w.alloc (.cells #[.int .i64 nodes, .int .i64 slots, .slice ao nf cp] 37) := ⟨_, rfl⟩
  have BX : Hid (Blk X w.heap.size #[.int .i64 nodes, .int .i64 slots, .slice ao nf cp] 37 ∧ Below w.heap.size w X) := by rw [hX]; exact ⟨Blk.new rfl, (Below.refl _ _).alloc (Nat.le_refl _) _⟩
  have hXz : w.heap.size ≤ X.heap.size := Nat.le_of_lt BX.out.1.lt
  have H : ∀ W, Below X.heap.size X W → Hid (Rf W (.slice ao nf cp) nf F ∧ RdL W (.slice lo n cl) n L) := fun W hb => ⟨h.later (BX.out.2.trans (hb.mono hXz)), hl.later (BX.out.2.trans (hb.mono hXz))⟩
  have hcall := rowsOf_any (nodes := nodes) (slots := slots) (H _ (Below.refl _ _)).out.1 (H _ (Below.refl _ _)).out.2 hf hw hcp hd
  clear h hl hw hd
  obtain ⟨T, hT⟩ : ∃ T, T = lslide nodes slots nf F n L id := ⟨_, rfl⟩
  have HT : Hid (T = lslide nodes slots nf F n L id) := hT
  rw [← hT]
  clear hT
  have x0 := BX.out.1.cell (j := 0) rfl
  have x1 := BX.out.1.cell (j := 1) rfl
  have x2 := BX.out.1.cell (j := 2) rfl
  go_enter Try.func33, Try.ntmps33
  go_wp2_with fail
  rw [← hX]
  clear hX
  go_wp2_with fail
  refine hcall.mono ?_
  rintro e w1 ⟨v, rfl, htab, hb1⟩
  clear x0 x1 x2 hcall
  have HTb : Hid (Tab X.heap.size w1.heap.size w1 (Nt.lfault nodes slots nf F n L) v nf slots.toNat (fun f s => Nt.bk L n f s)) := htab
  have HB1 : Hid (Below X.heap.size X w1) := hb1
  clear htab hb1
  obtain ⟨c, hc⟩ : ∃ c, c = Nt.lfault nodes slots nf F n L := ⟨_, rfl⟩
  have HC : Hid (c = Nt.lfault nodes slots nf F n L) := hc
  rw [← hc]
  clear hc
  go_wp2_with fail
  refine (iAt_any id (H _ HB1.out).out.2 hn).mono ?_
  rintro e w2 ⟨rfl, hb2⟩
  have HB2 : Hid (Below w1.heap.size w1 w2 ∧ Below X.heap.size X w2) := ⟨hb2, HB1.out.trans (hb2.mono HB1.out.size)⟩
  clear hb2
  obtain ⟨f, hf0⟩ : ∃ f, f = fnd L id n := ⟨_, rfl⟩
  have HF : Hid (f = fnd L id n) := hf0
  rw [← hf0]
  clear hf0
  by_cases hz : c = 0
  · have hb : (c != 0) = false := by simpa using hz
    have hfl : Nt.lfault nodes slots nf F n L = 0 := by rw [← HC.out]; exact hz
    by_cases hm : f = -1
    · subst hm
      have HZ : Hid (T = -1) := by show _ = _; rw [HT.out]; exact ls_none HF.out.symm
      clear hz hfl
      go_wp2
      go_ret
      exact ⟨by rw [HZ.out]; rfl, BX.out.2.trans (HB2.out.2.mono hXz)⟩
    · obtain ⟨k, hkn, hk, hid⟩ := fnd_is (by rw [← HF.out]; exact hm)
      obtain ⟨G, hn40, hO⟩ := lf_good hfl
      have hok := hO.ok k hkn
      have HZ : Hid (T = ((Nt.lowR (fun f s => Nt.bk L n f s) (L k).p (L k).np (L k).id (L k).fi.toNat : Nat) : Int)) := by show _ = _; rw [HT.out, ls_is hfl hk, Nt.low_same hO hkn]
      have hnf : 0 < nf := by have := hok.fib hok.one; omega
      obtain ⟨g, cap, bs, rfl, htb⟩ : ∃ g cap bs, v = .slice (some ⟨g, 0, none⟩) nf cap ∧ Tb X.heap.size w1.heap.size w1 g bs nf slots.toNat (fun f s => Nt.bk L n f s) := by
        rcases HTb.out with ⟨a | a, _⟩ | ⟨_, a⟩
        · exact absurd hfl a
        · omega
        · exact a
      have htb2 := htb.later HB2.out.1
      clear htb
      have hfk : f = (k : Int) := by rw [HF.out]; exact hk
      subst hfk
      obtain ⟨b, off, qo, qc, rfl, hcell, hrow⟩ := (H w2 HB2.out.2).out.2.at hkn
      have d0 := hcell 0 (by omega)
      have d1 := hcell 1 (by omega)
      have d2 := hcell 2 (by omega)
      have d3 := hcell 3 (by omega)
      have d4 := hcell 4 (by omega)
      have d5 := hcell 5 (by omega)
      simp only [lcell, Nat.add_zero] at d0 d1 d2 d3 d4 d5
      have s64 := G.s64
      have f14 := G.f14
      have ot := hok.top
      have of0 := hok.f0
      have ow := hok.w1
      have hcl := lowest_any (cap := cap) htb2 (L k) (L k).fi.toNat (by omega) hrow (fun j hj => hok.fib hj) (by omega) (by omega) (by have := hok.few; omega) (by omega)
      have hkI : (k : Int) < n := by omega
      have hk0 : ¬ (k : Int) < 0 := by omega
      obtain ⟨x, hx⟩ : ∃ x, x = L k := ⟨_, rfl⟩
      rw [← hx] at d0 d1 d2 d3 d4 d5 hcl
      have HZ2 : Hid (T = ((Nt.lowR (fun f s => Nt.bk L n f s) x.p x.np x.id x.fi.toNat : Nat) : Int)) := by rw [hx]; exact HZ.out
      clear hx hcell hrow htb2 HZ hok hO G hk hid s64 f14 ot of0 ow hfl hz hm
      go_wp2_with (first | (refine hcl.mono ?_; rintro e w3 ⟨rfl, hb3⟩))
      go_ret
      exact ⟨by rw [HZ2.out]; rfl, BX.out.2.trans ((HB2.out.2.trans (hb3.mono HB2.out.2.size)).mono hXz)⟩
  · have hb : (c != 0) = true := by simpa using hz
    have HZ : Hid (T = -1) := by show _ = _; rw [HT.out]; exact ls_bad (by rw [← HC.out]; exact hz)
    clear hz
    go_wp2
    go_ret
    exact ⟨by rw [HZ.out]; rfl, BX.out.2.trans (HB2.out.2.mono hXz)⟩
set_option maxRecDepth 20000 in
set_option maxHeartbeats 1600000 in
theorem sLow_any {w : World} {ao lo : Option Addr} {nf cp n cl : Nat} {nodes slots : Int} {F : Nat → Fb} {L : Nat → Li} (id : Int) (h : Rf w (.slice ao nf cp) nf F) (hl : RdL w (.slice lo n cl) n L) (hf : nf ≤ 1048576) (hw : LFew n L) (hn : n ≤ 1048576) :
    Calls Try.prog 32 #[.agg #[.int .i64 nodes, .int .i64 slots, .slice ao nf cp], .slice lo n cl, .int .i64 id] w fun e w' => e = .returned (.int .i64 (lslide nodes slots nf F n L id)) ∧ Below w.heap.size w w' := by
  obtain ⟨X, hX⟩ : ∃ X, X = w.alloc (.cells #[.int .i64 nodes, .int .i64 slots, .slice ao nf cp] 37) := ⟨_, rfl⟩
  have BX : Hid (Blk X w.heap.size #[.int .i64 nodes, .int .i64 slots, .slice ao nf cp] 37 ∧ Below w.heap.size w X) := by rw [hX]; exact ⟨Blk.new rfl, (Below.refl _ _).alloc (Nat.le_refl _) _⟩
  have hXz : w.heap.size ≤ X.heap.size := Nat.le_of_lt BX.out.1.lt
  have H : ∀ W, Below X.heap.size X W → Hid (Rf W (.slice ao nf cp) nf F ∧ RdL W (.slice lo n cl) n L) := fun W hb => ⟨h.later (BX.out.2.trans (hb.mono hXz)), hl.later (BX.out.2.trans (hb.mono hXz))⟩
  have hcall := sLf_any (nodes := nodes) (slots := slots) (H _ (Below.refl _ _)).out.1 (H _ (Below.refl _ _)).out.2 hf hw
  clear h hl hw
  obtain ⟨T, hT⟩ : ∃ T, T = lslide nodes slots nf F n L id := ⟨_, rfl⟩
  have HT : Hid (T = lslide nodes slots nf F n L id) := hT
  rw [← hT]
  clear hT
  have x0 := BX.out.1.cell (j := 0) rfl
  have x1 := BX.out.1.cell (j := 1) rfl
  have x2 := BX.out.1.cell (j := 2) rfl
  go_enter Try.func32, Try.ntmps32
  go_wp2_with fail
  rw [← hX]
  clear hX
  go_wp2_with fail
  refine hcall.mono ?_
  rintro e w1 ⟨rfl, hb1⟩
  clear x0 x1 x2 hcall
  have HB1 : Hid (Below X.heap.size X w1) := hb1
  clear hb1
  obtain ⟨c, hc⟩ : ∃ c, c = Nt.lfault nodes slots nf F n L := ⟨_, rfl⟩
  have HC : Hid (c = Nt.lfault nodes slots nf F n L) := hc
  rw [← hc]
  clear hc
  by_cases hz : c = 0
  · have hb : (c != 0) = false := by simpa using hz
    have hfl : Nt.lfault nodes slots nf F n L = 0 := by rw [← HC.out]; exact hz
    subst hz
    go_wp2_with fail
    refine (sFind_any id (H _ HB1.out).out.2 hn).mono ?_
    rintro e w2 ⟨rfl, hw2⟩
    obtain rfl := hw2.symm
    obtain ⟨f, hf0⟩ : ∃ f, f = fnd L id n := ⟨_, rfl⟩
    have HF : Hid (f = fnd L id n) := hf0
    rw [← hf0]
    clear hf0 hw2
    by_cases hm : f = -1
    · subst hm
      have HZ : Hid (T = -1) := by show _ = _; rw [HT.out]; exact ls_none HF.out.symm
      clear hfl
      go_wp2
      go_ret
      exact ⟨by rw [HZ.out]; rfl, BX.out.2.trans (HB1.out.mono hXz)⟩
    · obtain ⟨k, hkn, hk, hid⟩ := fnd_is (by rw [← HF.out]; exact hm)
      obtain ⟨G, hn40, hO⟩ := lf_good hfl
      have hok := hO.ok k hkn
      have HZ : Hid (T = ((Nt.lowS L n (L k) (L k).fi.toNat : Nat) : Int)) := by show _ = _; rw [HT.out, ls_is hfl hk]
      have hfk : f = (k : Int) := by rw [HF.out]; exact hk
      subst hfk
      have s64 := G.s64
      have HBd : Hid (∀ i, i < n → 0 ≤ (L i).fi ∧ 1 ≤ (L i).wd ∧ (L i).fi + (L i).wd ≤ 64 ∧ (L i).np ≤ 1048576) := fun i hi => by
        have o := hO.ok i hi
        have a1 := o.f0
        have a2 := o.w1
        have a3 := o.top
        have a4 := o.few
        exact ⟨a1, a2, by omega, by omega⟩
      obtain ⟨b, off, qo, qc, rfl, hcell, hrow⟩ := (H w1 HB1.out).out.2.at hkn
      have d0 := hcell 0 (by omega)
      have d1 := hcell 1 (by omega)
      have d2 := hcell 2 (by omega)
      have d3 := hcell 3 (by omega)
      have d4 := hcell 4 (by omega)
      have d5 := hcell 5 (by omega)
      simp only [lcell, Nat.add_zero] at d0 d1 d2 d3 d4 d5
      have hxb := HBd.out k hkn
      have hkI : (k : Int) < n := by omega
      have hk0 : ¬ (k : Int) < 0 := by omega
      obtain ⟨x, hx⟩ : ∃ x, x = L k := ⟨_, rfl⟩
      rw [← hx] at d0 d1 d2 d3 d4 d5 hrow hxb
      have HZ2 : Hid (T = ((Nt.lowS L n x x.fi.toNat : Nat) : Int)) := by rw [hx]; exact HZ.out
      clear hx hcell HZ hok hO G hk hid s64 hfl hm
      obtain ⟨t, ht⟩ : ∃ t : Nat, x.fi = (t : Int) := ⟨x.fi.toNat, by omega⟩
      have HTt : Hid (x.fi = (t : Int) ∧ x.fi.toNat = t) := ⟨ht, by omega⟩
      obtain ⟨Y, hY⟩ : ∃ Y, Y = w1.alloc (.cells #[.int .i64 x.id, .int .i64 x.fr, .int .i64 x.tt, .slice qo x.np qc, .int .i64 x.fi, .int .i64 x.wd] 80) := ⟨_, rfl⟩
      have BY : Hid (Blk Y w1.heap.size #[.int .i64 x.id, .int .i64 x.fr, .int .i64 x.tt, .slice qo x.np qc, .int .i64 x.fi, .int .i64 x.wd] 80 ∧ Below w1.heap.size w1 Y) := by rw [hY]; exact ⟨Blk.new rfl, (Below.refl _ _).alloc (Nat.le_refl _) _⟩
      have HXY : Hid (Below X.heap.size X Y) := HB1.out.trans (BY.out.2.mono HB1.out.size)
      have HR : ∀ W, Below Y.heap.size Y W → Hid (RdL W (.slice (some ⟨b, off, none⟩) n cl) n L ∧ RdRow W (.slice qo x.np qc) x.np x.p) := fun W hw => ⟨(H W (HXY.out.trans (hw.mono HXY.out.size))).out.2, hrow.later (BY.out.2.trans (hw.mono (Nat.le_of_lt BY.out.1.lt)))⟩
      obtain ⟨g1, g2, g3, g4⟩ := hxb
      have HE : Hid (x.fi + x.wd ≤ 64 ∧ 0 ≤ x.fi + x.wd) := ⟨by omega, by omega⟩
      obtain ⟨e, he⟩ : ∃ e, e = x.fi + x.wd := ⟨_, rfl⟩
      have HEE : Hid (e = x.fi + x.wd) := he
      have ht64 : t ≤ 64 := by omega
      clear hrow ht he
      go_upto_region 7 with fail
      rw [← hY]
      clear hY d0 d1 d2 d3 d4 d5
      have y4 := BY.out.1.cell (j := 4) (v := .int .i64 x.fi) rfl
      go_wp2_with fail
      rw [HTt.out.1]
      clear y4
      go_loopw [9] (fun i wr => ∃ u : Nat, u ≤ t ∧ i = .int .i64 u ∧ Hid (T = ((Nt.lowS L n x u : Nat) : Int) ∧ Below Y.heap.size Y wr)) (fun i _ => (intOf i).toNat)
      case atStart => exact ⟨t, Nat.le_refl _, rfl, by rw [HZ2.out, HTt.out.2], Below.refl _ _⟩
      case round =>
        obtain ⟨u, hu, rfl, HU⟩ := hrel
        by_cases hu0 : u = 0
        · have hz : ¬ (0 : Int) < (u : Int) := by omega
          have HK : Hid (T = u) := by show _ = _; rw [HU.out.1, hu0]; rfl
          clear hu0
          go_wp2
          go_ret
          exact ⟨by rw [HK.out]; rfl, BX.out.2.trans ((HXY.out.trans (HU.out.2.mono HXY.out.size)).mono hXz)⟩
        · obtain ⟨m, rfl⟩ : ∃ m, u = m + 1 := ⟨u - 1, by omega⟩
          have hz : (0 : Int) < ((m + 1 : Nat) : Int) := by omega
          have hmi : ((m + 1 : Nat) : Int) - 1 = (m : Int) := by omega
          have hm := sBlk_any x m (x.fi + x.wd) (HR wr HU.out.2).out.1 (HR wr HU.out.2).out.2 hn40 g4 HBd.out
          have YB := BY.out.1.old HU.out.2
          have y0 := YB.cell (j := 0) (v := .int .i64 x.id) rfl
          have y1 := YB.cell (j := 1) (v := .int .i64 x.fr) rfl
          have y2 := YB.cell (j := 2) (v := .int .i64 x.tt) rfl
          have y3 := YB.cell (j := 3) (v := .slice qo x.np qc) rfl
          have y4 := YB.cell (j := 4) (v := .int .i64 x.fi) rfl
          have y5 := YB.cell (j := 5) (v := .int .i64 x.wd) rfl
          clear YB
          obtain ⟨B, hB⟩ : ∃ B, B = Nt.blocked L n x m (x.fi + x.wd) := ⟨_, rfl⟩
          rw [← hB] at hm
          have HBB : Hid (B = Nt.blocked L n x m (x.fi + x.wd)) := hB
          clear hB
          obtain ⟨M, hM⟩ : ∃ M, M = m + 1 := ⟨_, rfl⟩
          have HMM : Hid (M = m + 1) := hM
          rw [← hM] at hmi hz hu ⊢
          have hM64 : M ≤ 64 := by omega
          clear hM
          have q1 : x.fi + x.wd ≤ 64 := HE.out.1
          have q2 : 0 ≤ x.fi + x.wd := HE.out.2
          cases B with
          | false =>
            have HN : Hid (T = ((Nt.lowS L n x m : Nat) : Int)) := by show _ = _; rw [HU.out.1]; exact congrArg _ (Nt.lowS_down HBB.out.symm)
            go_wp2_with (first | (refine hm.mono ?_; rintro e w2 ⟨rfl, hb2⟩))
            go_roundw
            case rel => exact ⟨m, by have := HMM.out; omega, by simp, HN.out, HU.out.2.trans (hb2.mono HU.out.2.size)⟩
            case measure => have := HMM.out; simp [intOf]; omega
          | true =>
            have HN : Hid (T = M) := by show _ = _; rw [HU.out.1, HMM.out]; exact congrArg _ (Nt.lowS_stay HBB.out.symm)
            go_wp2_with (first | (refine hm.mono ?_; rintro e w2 ⟨rfl, hb2⟩))
            go_ret
            exact ⟨by rw [HN.out]; rfl, BX.out.2.trans ((HXY.out.trans ((HU.out.2.trans (hb2.mono HU.out.2.size)).mono HXY.out.size)).mono hXz)⟩
  · have hb : (c != 0) = true := by simpa using hz
    have HZ : Hid (T = -1) := by show _ = _; rw [HT.out]; exact ls_bad (by rw [← HC.out]; exact hz)
    clear hz
    go_wp2
    go_ret
    exact ⟨by rw [HZ.out]; rfl, BX.out.2.trans (HB1.out.mono hXz)⟩
end Go.Proofs.Ytinfbbbgfkaioaa
