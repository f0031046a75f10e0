/- Slots that are open: areOpen and lowestOf of the program, l20Blocked of the specification. -/
import Derived.Test.YtinfbbbgfkaioaaTa
import Derived.Test.YtinfbbbgfkaioaaNy
import Derived.Test.YtinfbbbgfkaioaaGd
namespace Go.Proofs.Ytinfbbbgfkaioaa
open Go.RowKit
set_option linter.unusedVariables false
set_option linter.unusedSimpArgs false
set_option maxRecDepth 20000 in
set_option maxHeartbeats 1600000 in
theorem open_any {w : World} {lo hi g n S : Nat} {bs : Nat → Nat} {R : Rm.Mx} (h : Tb lo hi w g bs n S R) {po : Option Addr} {np pc cap : Nat} {p : Nat → Int} (hp : RdRow w (.slice po np pc) np p) (hin : ∀ k, k < np → 0 ≤ p k ∧ p k < (n : Int)) (a m : Nat) (ham : a + m ≤ S) (hm : 0 < m) (hS : S ≤ 64) (hnp : np ≤ 1048576) (hn : n ≤ 1048576) (id : Int) :
    Calls Try.prog 73 #[.slice (some ⟨g, 0, none⟩) n cap, .slice po np pc, .int .i64 a, .int .i64 ((a + m : Nat) : Int), .int .i64 id] w fun e w' => e = .returned (.bool (Nt.opn R p np a m id)) ∧ w = w' := by
  have H : Hid (Tb lo hi w g bs n S R ∧ RdRow w (.slice po np pc) np p ∧ ∀ k, k < np → 0 ≤ p k ∧ p k < (n : Int)) := ⟨h, hp, hin⟩
  clear h hp hin
  obtain ⟨A, hA⟩ : ∃ A, A = a + m := ⟨_, rfl⟩
  rw [← hA] at ham ⊢
  have HA : Hid (A = a + m) := hA
  have q1 : (0 : Int) ≤ a := by omega
  have q2 : (a : Int) ≤ A := by omega
  have q3 : (A : Int) ≤ S := by omega
  have q4 : A - a = m := by omega
  have q5 : a ≤ A := by omega
  have q6 : A ≤ S := by omega
  have q7 : a ≠ S := by omega
  have q8 : S ≠ a := by omega
  have q9 : S - a ≠ 0 := by omega
  clear hA
  obtain ⟨C, hC⟩ : ∃ C, C = Nt.opn R p np a m id := ⟨_, rfl⟩
  have HC : Hid (C = Nt.opn R p np a m id) := hC
  rw [← hC]
  clear hC
  have hnI : (np : Int) ≤ 1048576 := by omega
  go_enter Try.func73, Try.ntmps73
  go_wp2_with fail
  go_loopw [18] (fun i wr => wr = w ∧ ∃ k : Nat, k ≤ np ∧ i = .int .i64 k ∧ Hid (Nt.any (fun k => Nt.any (fun j => Nt.bad R id (p k).toNat (a + j)) m) k = false)) (fun i _ => np - (intOf i).toNat)
  case atStart => exact ⟨rfl, 0, Nat.zero_le _, rfl, rfl⟩
  case round =>
    obtain ⟨hwr, k, hk, rfl, HF⟩ := hrel
    obtain rfl := hwr.symm
    by_cases hkn : k < np
    · obtain ⟨b, off, rfl, hc⟩ := H.out.2.1.at hkn
      have hkI : (k : Int) < np := by omega
      obtain ⟨hq0, hq1⟩ := H.out.2.2 k hkn
      obtain ⟨q, hq⟩ : ∃ q : Nat, p k = (q : Int) := ⟨(p k).toNat, by omega⟩
      have hqn : q < n := by omega
      have hqI : (q : Int) < n := by omega
      have HQ : Hid ((p k).toNat = q) := by show _ = _; omega
      rw [hq] at hc
      clear hq hq0 hq1
      have d := H.out.1.cellTop hqn
      go_wp2_with fail
      clear hc d
      go_loopw [30] (fun i wr => wr = w ∧ ∃ j : Nat, j ≤ m ∧ i = .int .i64 j ∧ Hid (Nt.any (fun j => Nt.bad R id q (a + j)) j = false)) (fun i _ => m - (intOf i).toNat)
      case atStart => exact ⟨rfl, 0, Nat.zero_le _, rfl, rfl⟩
      case round =>
        obtain ⟨hwr, j, hj, rfl, HJ⟩ := hrel
        obtain rfl := hwr.symm
        by_cases hjm : j < m
        · have hjI : (j : Int) < m := by omega
          have e := H.out.1.cellAt hqn (show a + j < S by omega)
          obtain ⟨v, hv⟩ : ∃ v, v = R q (a + j) := ⟨_, rfl⟩
          rw [← hv] at e
          have HB : Hid (Nt.bad R id q (a + j) = (v != 0 && v != id)) := by show _ = _; rw [hv]; rfl
          clear hv
          by_cases hz : v = 0
          · have hb : (v != 0) = false := by simpa using hz
            have HN : Hid (Nt.any (fun j => Nt.bad R id q (a + j)) (j + 1) = false) := Nt.any_next HJ.out (by rw [HB.out, hb]; rfl)
            clear hz
            go_wp2
            go_roundw
            case rel => exact ⟨by trivial, j + 1, by omega, by simp, HN⟩
            case measure => simp [intOf]; omega
          · have hb : (v != 0) = true := by simpa using hz
            clear hz
            by_cases hi : v = id
            · have hb2 : (v != id) = false := by simpa using hi
              have HN : Hid (Nt.any (fun j => Nt.bad R id q (a + j)) (j + 1) = false) := Nt.any_next HJ.out (by rw [HB.out, hb, hb2]; rfl)
              clear hi
              go_wp2
              go_roundw
              case rel => exact ⟨by trivial, j + 1, by omega, by simp, HN⟩
              case measure => simp [intOf]; omega
            · have hb2 : (v != id) = true := by simpa using hi
              have HN : Hid (C = false) := by
                show _ = _
                rw [HC.out]
                unfold Nt.opn
                rw [Nt.any_hit hkn (by rw [HQ.out]; exact Nt.any_hit hjm (by rw [HB.out, hb, hb2]; rfl))]
                rfl
              clear hi
              go_wp2
              go_ret
              exact ⟨by rw [HN.out]; rfl, rfl⟩
        · obtain rfl : m = j := by omega
          have HN : Hid (Nt.any (fun k => Nt.any (fun j => Nt.bad R id (p k).toNat (a + j)) m) (k + 1) = false) := Nt.any_next HF.out (by rw [HQ.out]; exact HJ.out)
          go_wp2
          go_roundw
          case rel => exact ⟨by trivial, k + 1, by omega, by simp, HN⟩
          case measure => simp [intOf]; omega
    · obtain rfl : np = k := by omega
      go_wp2
      go_ret
      exact ⟨by rw [HC.out]; unfold Nt.opn; rw [HF.out]; rfl, rfl⟩
set_option maxRecDepth 20000 in
set_option maxHeartbeats 1600000 in
theorem lowest_any {w : World} {lo hi g n S : Nat} {bs : Nat → Nat} {R : Rm.Mx} (h : Tb lo hi w g bs n S R) {po : Option Addr} {pc cap : Nat} (x : Li) (t : Nat) (ht : x.fi = t) (hp : RdRow w (.slice po x.np pc) x.np x.p) (hin : ∀ k, k < x.np → 0 ≤ x.p k ∧ x.p k < (n : Int)) (htS : t ≤ S) (hS : S ≤ 64) (hnp : x.np ≤ 1048576) (hn : n ≤ 1048576) :
    Calls Try.prog 74 #[.slice (some ⟨g, 0, none⟩) n cap, .agg #[.int .i64 x.id, .int .i64 x.fr, .int .i64 x.tt, .slice po x.np pc, .int .i64 x.fi, .int .i64 x.wd]] w fun e w' => e = .returned (.int .i64 (Nt.lowR R x.p x.np x.id t : Nat)) ∧ Below w.heap.size w w' := by
  obtain ⟨X, hX⟩ : ∃ X, X = w.alloc (.cells #[.int .i64 x.id, .int .i64 x.fr, .int .i64 x.tt, .slice po x.np pc, .int .i64 x.fi, .int .i64 x.wd] 80) := ⟨_, rfl⟩
  have BX : Hid (Blk X w.heap.size #[.int .i64 x.id, .int .i64 x.fr, .int .i64 x.tt, .slice po x.np pc, .int .i64 x.fi, .int .i64 x.wd] 80 ∧ Below w.heap.size w X) := by rw [hX]; exact ⟨Blk.new rfl, (Below.refl _ _).alloc (Nat.le_refl _) _⟩
  have H : Hid (Tb lo hi X g bs n S R ∧ RdRow X (.slice po x.np pc) x.np x.p ∧ ∀ k, k < x.np → 0 ≤ x.p k ∧ x.p k < (n : Int)) := ⟨h.later BX.out.2, hp.later BX.out.2, hin⟩
  clear h hp hin
  obtain ⟨T, hT⟩ : ∃ T, T = Nt.lowR R x.p x.np x.id t := ⟨_, rfl⟩
  have HT : Hid (T = Nt.lowR R x.p x.np x.id t) := hT
  rw [← hT]
  clear hT
  have x0 := BX.out.1.cell (j := 0) (v := .int .i64 x.id) rfl
  have x3 := BX.out.1.cell (j := 3) (v := .slice po x.np pc) rfl
  have x4 := BX.out.1.cell (j := 4) (v := .int .i64 t) (by rw [← ht]; rfl)
  have HTT : Hid (x.fi = t) := ht
  clear ht
  have hO : ∀ u : Nat, u < S → Hid (Calls Try.prog 73 #[.slice (some ⟨g, 0, none⟩) n cap, .slice po x.np pc, .int .i64 u, .int .i64 ((u + 1 : Nat) : Int), .int .i64 x.id] X fun e w' => e = .returned (.bool (Nt.opn R x.p x.np u 1 x.id)) ∧ X = w') := fun u hu => open_any H.out.1 H.out.2.1 H.out.2.2 u 1 (by omega) (by omega) hS hnp hn x.id
  go_enter Try.func74, Try.ntmps74
  go_wp2_with fail
  rw [← hX]
  clear hX
  go_wp2_with fail
  go_loopw [5] (fun i wr => wr = X ∧ ∃ u : Nat, u ≤ t ∧ i = .int .i64 u ∧ Hid (T = Nt.lowR R x.p x.np x.id u)) (fun i _ => (intOf i).toNat)
  case atStart => exact ⟨rfl, t, Nat.le_refl _, by rw [HTT.out], HT⟩
  case round =>
    obtain ⟨hwr, u, hu, rfl, HU⟩ := hrel
    obtain rfl := hwr.symm
    by_cases hu0 : u = 0
    · have hz : ¬ (0 : Int) < (u : Int) := by omega
      have HZ : Hid (T = u) := by show _ = _; rw [HU.out, hu0]; rfl
      clear hu0
      go_wp2
      go_ret
      exact ⟨by rw [HZ.out]; rfl, BX.out.2⟩
    · obtain ⟨m, rfl⟩ : ∃ m, u = m + 1 := ⟨u - 1, by omega⟩
      have hz : (0 : Int) < ((m + 1 : Nat) : Int) := by omega
      have e : ((m + 1 : Nat) : Int) - 1 = (m : Int) := by omega
      have hm := hO m (by omega)
      obtain ⟨B, hB⟩ : ∃ B, B = Nt.opn R x.p x.np m 1 x.id := ⟨_, rfl⟩
      rw [← hB] at hm
      have HBB : Hid (B = Nt.opn R x.p x.np m 1 x.id) := hB
      clear hB
      obtain ⟨M, hM⟩ : ∃ M, M = m + 1 := ⟨_, rfl⟩
      have HMM : Hid (M = m + 1) := hM
      rw [← hM] at hm e hz hu ⊢
      have hM64 : M ≤ 64 := by omega
      clear hM
      cases B with
      | true =>
        have HN : Hid (T = Nt.lowR R x.p x.np x.id m) := by show _ = _; rw [HU.out]; exact Nt.lowR_down HBB.out.symm
        go_wp2_with (first | (refine hm.out.mono ?_; rintro e w2 ⟨rfl, hw2⟩; obtain rfl := hw2.symm))
        go_roundw
        case rel => exact ⟨by trivial, m, by have := HMM.out; omega, by simp, HN⟩
        case measure => have := HMM.out; simp [intOf]; omega
      | false =>
        have HN : Hid (T = M) := by show _ = _; rw [HU.out, HMM.out]; exact Nt.lowR_stay HBB.out.symm
        go_wp2_with (first | (refine hm.out.mono ?_; rintro e w2 ⟨rfl, hw2⟩; obtain rfl := hw2.symm))
        go_ret
        exact ⟨by rw [HN.out]; rfl, BX.out.2⟩
set_option maxRecDepth 20000 in
set_option maxHeartbeats 1600000 in
theorem sBlk_any {w : World} {lo po : Option Addr} {n cl pc : Nat} {L : Nat → Li} (x : Li) (low high : Int) (hl : RdL w (.slice lo n cl) n L) (hp : RdRow w (.slice po x.np pc) x.np x.p) (hn : n ≤ 40) (hnp : x.np ≤ 1048576) (hb : ∀ i, i < n → 0 ≤ (L i).fi ∧ 1 ≤ (L i).wd ∧ (L i).fi + (L i).wd ≤ 64 ∧ (L i).np ≤ 1048576) :
    Calls Try.prog 69 #[.slice lo n cl, .agg #[.int .i64 x.id, .int .i64 x.fr, .int .i64 x.tt, .slice po x.np pc, .int .i64 x.fi, .int .i64 x.wd], .int .i64 low, .int .i64 high] w fun e w' => e = .returned (.bool (Nt.blocked L n x low high)) ∧ Below w.heap.size w w' := by
  obtain ⟨X, hX⟩ : ∃ X, X = w.alloc (.cells #[.int .i64 x.id, .int .i64 x.fr, .int .i64 x.tt, .slice po x.np pc, .int .i64 x.fi, .int .i64 x.wd] 80) := ⟨_, rfl⟩
  have BX : Hid (Blk X w.heap.size #[.int .i64 x.id, .int .i64 x.fr, .int .i64 x.tt, .slice po x.np pc, .int .i64 x.fi, .int .i64 x.wd] 80 ∧ Below w.heap.size w X) := by rw [hX]; exact ⟨Blk.new rfl, (Below.refl _ _).alloc (Nat.le_refl _) _⟩
  have hXz : w.heap.size ≤ X.heap.size := Nat.le_of_lt BX.out.1.lt
  have H : ∀ W, Below X.heap.size X W → Hid (RdL W (.slice lo n cl) n L ∧ RdRow W (.slice po x.np pc) x.np x.p) := fun W h => ⟨hl.later (BX.out.2.trans (h.mono hXz)), hp.later (BX.out.2.trans (h.mono hXz))⟩
  have HB : Hid (∀ i, i < n → 0 ≤ (L i).fi ∧ 1 ≤ (L i).wd ∧ (L i).fi + (L i).wd ≤ 64 ∧ (L i).np ≤ 1048576) := hb
  clear hl hp hb
  obtain ⟨C, hC⟩ : ∃ C, C = Nt.blocked L n x low high := ⟨_, rfl⟩
  have HC : Hid (C = Nt.blocked L n x low high) := hC
  rw [← hC]
  clear hC
  have hnI : (n : Int) ≤ 40 := by omega
  go_enter Try.func69, Try.ntmps69
  go_wp2_with fail
  rw [← hX]
  clear hX
  go_loopw [9] (fun i wr => ∃ k : Nat, k ≤ n ∧ i = .int .i64 k ∧ Hid (Nt.any (fun i => !Nt.away x (L i) low high && Nt.share x (L i)) k = false ∧ Below X.heap.size X wr)) (fun i _ => n - (intOf i).toNat)
  case atStart => exact ⟨0, Nat.zero_le _, rfl, rfl, Below.refl _ _⟩
  case round =>
    obtain ⟨k, hk, rfl, HF⟩ := hrel
    by_cases hkn : k < n
    · obtain ⟨b, off, qo, qc, rfl, hcell, hrow⟩ := (H wr HF.out.2).out.1.at hkn
      have hkI : (k : Int) < n := by omega
      have d0 := hcell 0 (by omega)
      have d1 := hcell 1 (by omega)
      have d2 := hcell 2 (by omega)
      have d3 := hcell 3 (by omega)
      have d4 := hcell 4 (by omega)
      have d5 := hcell 5 (by omega)
      simp only [lcell, Nat.add_zero] at d0 d1 d2 d3 d4 d5
      obtain ⟨f0, f1, f2, f3⟩ := HB.out k hkn
      have HN := fun (h : (!Nt.away x (L k) low high && Nt.share x (L k)) = false) => Nt.any_next HF.out.1 h
      have HY0 := fun (h : (!Nt.away x (L k) low high && Nt.share x (L k)) = true) => Nt.any_hit (q := fun i => !Nt.away x (L i) low high && Nt.share x (L i)) hkn h
      obtain ⟨o, ho⟩ : ∃ o, o = L k := ⟨_, rfl⟩
      rw [← ho] at d0 d1 d2 d3 d4 d5 f0 f1 f2 f3 HN HY0 hrow
      clear ho hcell
      obtain ⟨Y, hY⟩ : ∃ Y, Y = wr.alloc (.cells #[.int .i64 o.id, .int .i64 o.fr, .int .i64 o.tt, .slice qo o.np qc, .int .i64 o.fi, .int .i64 o.wd] 80) := ⟨_, rfl⟩
      have BY : Hid (Blk Y wr.heap.size #[.int .i64 o.id, .int .i64 o.fr, .int .i64 o.tt, .slice qo o.np qc, .int .i64 o.fi, .int .i64 o.wd] 80 ∧ Below wr.heap.size wr Y) := by rw [hY]; exact ⟨Blk.new rfl, (Below.refl _ _).alloc (Nat.le_refl _) _⟩
      have HXY : Hid (Below X.heap.size X Y) := HF.out.2.trans (BY.out.2.mono HF.out.2.size)
      have HR : Hid (RdRow Y (.slice po x.np pc) x.np x.p ∧ RdRow Y (.slice qo o.np qc) o.np o.p) := ⟨(H Y HXY.out).out.2, hrow.later BY.out.2⟩
      clear hrow
      have HSh := sApart_any HR.out.1 HR.out.2 hnp f3
      have y0 := BY.out.1.cell (j := 0) (v := .int .i64 o.id) rfl
      have y3 := BY.out.1.cell (j := 3) (v := .slice qo o.np qc) rfl
      have y4 := BY.out.1.cell (j := 4) (v := .int .i64 o.fi) rfl
      have y5 := BY.out.1.cell (j := 5) (v := .int .i64 o.wd) rfl
      have z0 := (BX.out.1.old HXY.out).cell (j := 0) (v := .int .i64 x.id) rfl
      have z3 := (BX.out.1.old HXY.out).cell (j := 3) (v := .slice po x.np pc) rfl
      have HZ : Hid (o.fi + o.wd ≤ 64 ∧ 0 ≤ o.fi + o.wd) := ⟨by omega, by omega⟩
      go_upto_region 5 with fail
      rw [← hY]
      clear hY d0 d1 d2 d3 d4 d5
      have HG : Hid (Below X.heap.size X Y ∧ Below w.heap.size w Y) := ⟨HXY.out, BX.out.2.trans (HXY.out.mono hXz)⟩
      by_cases c1 : o.id = x.id
      · have b1 : (o.id == x.id) = true := by simpa using c1
        have HK := HN (by unfold Nt.away; rw [b1]; rfl)
        clear c1 HN HY0 HSh
        go_wp2
        go_roundw
        case rel => exact ⟨k + 1, by omega, by simp, HK, HG.out.1⟩
        case measure => simp [intOf]; omega
      · have b1 : (o.id == x.id) = false := by simpa using c1
        clear c1
        by_cases c2 : o.fi + o.wd ≤ low
        · have HK := HN (by unfold Nt.away; rw [b1, show decide (o.fi + o.wd ≤ low) = true by simpa using c2]; rfl)
          clear HN HY0 HSh
          go_wp2
          go_roundw
          case rel => exact ⟨k + 1, by omega, by simp, HK, HG.out.1⟩
          case measure => simp [intOf]; omega
        · by_cases c3 : high ≤ o.fi
          · have HK := HN (by unfold Nt.away; rw [b1, show decide (high ≤ o.fi) = true by simpa using c3]; simp)
            clear HN HY0 HSh
            go_wp2
            go_roundw
            case rel => exact ⟨k + 1, by omega, by simp, HK, HG.out.1⟩
            case measure => simp [intOf]; omega
          · have ha : Nt.away x o low high = false := by unfold Nt.away; rw [b1, show decide (o.fi + o.wd ≤ low) = false by simpa using c2, show decide (high ≤ o.fi) = false by simpa using c3]; rfl
            rw [ha] at HN HY0
            obtain ⟨B, hB⟩ : ∃ B, B = Nt.share x o := ⟨_, rfl⟩
            have hS2 : com x.p x.np o.p o.np = B := hB.symm
            rw [hS2] at HSh
            rw [← hB] at HN HY0
            clear hB hS2 ha
            cases B with
            | true =>
              have HK : Hid (C = true) := by show _ = _; rw [HC.out]; unfold Nt.blocked; exact HY0 rfl
              clear HN HY0
              go_wp2_with (first | (refine HSh.mono ?_; rintro e w2 ⟨rfl, hw2⟩; obtain rfl := hw2))
              go_ret
              exact ⟨by rw [HK.out]; rfl, HG.out.2⟩
            | false =>
              have HK := HN rfl
              clear HN HY0
              go_wp2_with (first | (refine HSh.mono ?_; rintro e w2 ⟨rfl, hw2⟩; obtain rfl := hw2))
              go_roundw
              case rel => exact ⟨k + 1, by omega, by simp, HK, HG.out.1⟩
              case measure => simp [intOf]; omega
    · obtain rfl : n = k := by omega
      go_wp2
      go_ret
      exact ⟨by rw [HC.out]; unfold Nt.blocked; rw [HF.out.1]; rfl, BX.out.2.trans (HF.out.2.mono hXz)⟩
end Go.Proofs.Ytinfbbbgfkaioaa
