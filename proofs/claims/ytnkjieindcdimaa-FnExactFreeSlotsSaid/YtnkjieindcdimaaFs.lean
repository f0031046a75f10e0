/- The free slots on a path, in both packages: contracts. -/
import Derived.Test.YtnkjieindcdimaaFo
import Derived.Test.YtnkjieindcdimaaRk
namespace Go.Proofs.Ytnkjieindcdimaa
open Go.RowKit Go.Maps
set_option linter.unusedVariables false
set_option linter.unusedSimpArgs false
set_option maxRecDepth 20000 in
set_option maxHeartbeats 3200000 in
theorem sFree_any {w : World} {ao lo bo : Option Addr} {nf cp n cl np cq S : Nat} {nodes : Int} {F : Nat → Fb} {L : Nat → Li} {p : Nat → Int} (hl : RdL w (.slice lo n cl) n L) (hn40 : n ≤ 40) (G : Nt.Good nodes S nf F) (hO : Nt.AllOk nodes S nf F n L) (hp : RdRow w (.slice bo np cq) np p) (hpf : ∀ i, i < np → 0 ≤ p i ∧ p i < (nf : Int)) (hnp : np ≤ 1048576) :
    Calls Try.prog 85 #[.agg #[.int .i64 nodes, .int .i64 S, .slice ao nf cp], .slice lo n cl, .slice bo np cq] w fun e w' => ∃ g cap, e = .returned (.slice (some ⟨g, 0, none⟩) S cap) ∧ w.heap.size ≤ g ∧ Seg w' g 2 0 S (fun s => .int .i64 (fre (Nt.bk L n) p np s)) ∧ Below w.heap.size w w' := by
  have hS1 : 1 ≤ S := by have := G.s1; omega
  have hS64 : S ≤ 64 := by have := G.s64; omega
  have hnI : (np : Int) ≤ 1048576 := by omega
  have hfI : (nf : Int) ≤ 14 := by have := G.f14; omega
  obtain ⟨X, hX⟩ : ∃ X, X = (w.alloc (.cells #[.int .i64 nodes, .int .i64 S, .slice ao nf cp] 29)) := ⟨_, rfl⟩
  have BX : Hid (Blk X w.heap.size #[.int .i64 nodes, .int .i64 S, .slice ao nf cp] 29 ∧ Below w.heap.size w X) := by rw [hX]; exact ⟨Blk.new rfl, (Below.refl _ _).alloc (Nat.le_refl _) _⟩
  have CX : ∀ W, Below X.heap.size X W → W.cell? ⟨w.heap.size, 0, none⟩ = some (.int .i64 nodes) ∧ W.cell? ⟨w.heap.size, 1, none⟩ = some (.int .i64 S) ∧ W.cell? ⟨w.heap.size, 2, none⟩ = some (.slice ao nf cp) :=
    fun W h => ⟨(BX.out.1.old h).cell rfl, (BX.out.1.old h).cell rfl, (BX.out.1.old h).cell rfl⟩
  have hXz : w.heap.size ≤ X.heap.size := Nat.le_of_lt BX.out.1.lt
  have H : ∀ W, Below X.heap.size X W → Hid (RdL W (.slice lo n cl) n L ∧ RdRow W (.slice bo np cq) np p) := fun W hb => ⟨hl.later (BX.out.2.trans (hb.mono hXz)), hp.later (BX.out.2.trans (hb.mono hXz))⟩
  have HG : Hid (Nt.Good nodes S nf F ∧ Nt.AllOk nodes S nf F n L ∧ ∀ i, i < np → 0 ≤ p i ∧ p i < (nf : Int)) := ⟨G, hO, hpf⟩
  clear hl hp G hO hpf
  go_enter Try.func85, Try.ntmps85
  go_wp2_with fail
  rw [← hX]
  clear hX
  obtain ⟨x0, x1, x2⟩ := CX X (Below.refl _ _)
  go_wp2_with fail
  refine (sMap_any (cp := cp) (ao := ao) (H _ (Below.refl _ _)).out.1 hn40 HG.out.1 HG.out.2.1).mono ?_
  rintro e w1 ⟨l, rfl, hos, hmat, hb1⟩
  clear x0 x1 x2
  obtain ⟨Y, hY⟩ : ∃ Y, Y = w1.alloc (.cells #[] 2) := ⟨_, rfl⟩
  have H1 : Hid (Mat X.heap.size w1.heap.size w1 l nf (fun _ => S) (fun f s => Nt.bk L n f s) ∧ Below X.heap.size X w1 ∧ Y.ownsRow w1.heap.size 2 1 (.slice (some ⟨w1.heap.size, 0, none⟩) 0 0) 0 ((List.range 0).map (fun s => .int .i64 (fre (Nt.bk L n) p np s))) ∧ Below w1.heap.size w1 Y) := by
    rw [hY]
    refine ⟨by simpa using hmat, hb1, owns_empty w1 2, (Below.refl _ _).alloc (Nat.le_refl _) _⟩
  clear hmat hb1 hos
  go_wp2_with fail
  rw [← hY]
  clear hY
  go_loopw [8, 9] (fun v i wr => ∃ s : Nat, s ≤ S ∧ i = .int .i64 s ∧ Hid (wr.ownsRow w1.heap.size 2 1 v s ((List.range s).map (fun s => .int .i64 (fre (Nt.bk L n) p np s))) ∧ Below w1.heap.size w1 wr)) (fun _ i _ => S - (intOf i).toNat)
  case atStart => exact ⟨0, Nat.zero_le _, rfl, H1.out.2.2.1, H1.out.2.2.2⟩
  case round =>
    obtain ⟨s, hs, rfl, HI⟩ := hrel
    obtain ⟨wo, hwo⟩ : ∃ wo, wo = wr := ⟨_, rfl⟩
    subst hwo
    have HXo : Hid (Below X.heap.size X wo) := H1.out.2.1.trans (HI.out.2.mono H1.out.2.1.size)
    obtain ⟨x0, x1, x2⟩ := CX wo HXo.out
    by_cases hsS : s < S
    · go_wp2_with fail
      clear x0 x1 x2
      have hsI : (s : Int) < S := by omega
      go_loopw [10, 11] (fun u i wr => wr = wo ∧ ∃ k : Nat, k ≤ np ∧ i = .int .i64 k ∧ u = .int .i64 (fre (Nt.bk L n) p k s)) (fun _ i _ => np - (intOf i).toNat)
      case atStart => exact ⟨rfl, 0, Nat.zero_le _, rfl, rfl⟩
      case round =>
        obtain ⟨rfl, k, hk, rfl, rfl⟩ := hrel
        by_cases hkn : k < np
        · obtain ⟨pb, pf, hpo, hpc⟩ := (H wr HXo.out).out.2.at hkn
          subst hpo
          have hpk := HG.out.2.2 k hkn
          obtain ⟨q, hq⟩ : ∃ q : Nat, p k = (q : Int) := ⟨(p k).toNat, by omega⟩
          have hqf : q < nf := by omega
          have hqI : (q : Int) < nf := by omega
          rw [hq] at hpc
          have m1 : wr.cell? ⟨l.b, q, none⟩ = some (.slice (some ⟨l.bs q, l.os q, none⟩) S (l.cs q)) := kold HI.out.2 (H1.out.1.cellTop hqf)
          obtain ⟨c, hc⟩ : ∃ c, c = Nt.bk L n q s := ⟨_, rfl⟩
          have m2 : wr.cell? ⟨l.bs q, l.os q + s, none⟩ = some (.int .i64 c) := by rw [hc]; exact kold HI.out.2 (H1.out.1.cellAt hqf hsS)
          have HCq : Hid (c = Nt.bk L n (p k) s) := by show c = _; rw [hc, hq]
          have hkI : (k : Int) < np := by omega
          clear hc hq hpk
          by_cases hz : c = 0
          · have hzb : (c != 0) = false := by simp [hz]
            have HN : Hid (fre (Nt.bk L n) p (k + 1) s = fre (Nt.bk L n) p k s) := by
              show (if Nt.any (fun k => Nt.bk L n (p k) s != 0) (k + 1) = true then (0 : Int) else 1) = _
              have e : Nt.any (fun k => Nt.bk L n (p k) (s : Int) != 0) (k + 1) = (Nt.any (fun k => Nt.bk L n (p k) (s : Int) != 0) k || (Nt.bk L n (p k) (s : Int) != 0)) := rfl
              rw [e, ← HCq.out, hzb, Bool.or_false]
              rfl
            clear hz
            go_wp2
            go_roundw
            case rel => exact ⟨by trivial, k + 1, by omega, by simp, by rw [HN.out]⟩
            case measure => simp [intOf]; omega
          · have hzb : (c != 0) = true := by simpa using hz
            have HN : Hid (fre (Nt.bk L n) p (k + 1) s = 0) := by
              show (if Nt.any (fun k => Nt.bk L n (p k) s != 0) (k + 1) = true then (0 : Int) else 1) = _
              rw [if_pos (Nt.any_hit (q := fun k => Nt.bk L n (p k) (s : Int) != 0) (Nat.lt_succ_self k) (by rw [← HCq.out]; exact hzb))]
            clear hz
            go_wp2
            go_roundw
            case rel => exact ⟨by trivial, k + 1, by omega, by simp, by rw [HN.out]⟩
            case measure => simp [intOf]; omega
        · obtain rfl : np = k := by omega
          have hxs := HI.out.2.size
          obtain ⟨fv, hfv⟩ : ∃ fv, fv = fre (Nt.bk L n) p np s := ⟨_, rfl⟩
          have HFV : Hid (fv = fre (Nt.bk L n) p np s) := hfv
          rw [← hfv]
          clear hfv
          go_wp2_with (first | (at_builtin; refine push_law rfl (.tmp 39) (.tmp 41) 33 rfl 2 (.int .i64 0) 8 Try.underlying33 info2 rfl (by decide) _ (.int .i64 fv) rfl w1.heap.size _ s _ rfl HI.out.1 1 rfl (by omega) hxs ?_; intro v1 w10 own1 grow1))
          have HN : Hid (w10.ownsRow w1.heap.size 2 1 v1 (s + 1) ((List.range (s + 1)).map (fun s => .int .i64 (fre (Nt.bk L n) p np s))) ∧ Below w1.heap.size w1 w10) := by
            refine ⟨?_, push_below HI.out.1 grow1 HI.out.2 hxs⟩
            rw [← range_push, ← HFV.out]
            exact own1
          clear own1 grow1
          go_wp2
          go_roundw
          case rel => exact ⟨s + 1, by omega, by simp, HN⟩
          case measure => simp [intOf]; omega
    · obtain rfl : S = s := by omega
      obtain ⟨g, cg, hv, hgb, hcg, hsg⟩ := owned_seg2 HI.out.1 (by omega)
      subst hv
      have HF : Hid (Seg wo g 2 0 S (fun s => .int .i64 (fre (Nt.bk L n) p np s)) ∧ Below w.heap.size w wo ∧ w.heap.size ≤ g) := ⟨hsg, BX.out.2.trans (HXo.out.mono hXz), by have := H1.out.2.1.size; omega⟩
      clear hsg hgb hcg
      go_wp2
      go_ret
      exact ⟨g, cg, rfl, HF.out.2.2, HF.out.1, HF.out.2.1⟩
/-- The code of FreeSlots. -/
def fscode (nodes slots : Int) (nf : Nat) (F : Nat → Fb) (n : Nat) (L : Nat → Li) (np : Nat) (p : Nat → Int) : Int :=
  if Nt.lfault nodes slots nf F n L = 0 then (if Nt.allF nf p np = true then 0 else 3) else Nt.lfault nodes slots nf F n L
theorem fs_net {nodes slots : Int} {nf : Nat} {F : Nat → Fb} {n : Nat} {L : Nat → Li} {np : Nat} {p : Nat → Int} (h : Nt.lfault nodes slots nf F n L ≠ 0) : fscode nodes slots nf F n L np p = Nt.lfault nodes slots nf F n L := by unfold fscode; rw [if_neg h]
theorem fs_three {nodes slots : Int} {nf : Nat} {F : Nat → Fb} {n : Nat} {L : Nat → Li} {np : Nat} {p : Nat → Int} (h : Nt.lfault nodes slots nf F n L = 0) (k : Nt.allF nf p np = false) : fscode nodes slots nf F n L np p = 3 := by unfold fscode; rw [if_pos h, k]; simp
theorem fs_nil {nodes slots : Int} {nf : Nat} {F : Nat → Fb} {n : Nat} {L : Nat → Li} {np : Nat} {p : Nat → Int} (h : Nt.lfault nodes slots nf F n L = 0) (k : Nt.allF nf p np = true) : fscode nodes slots nf F n L np p = 0 := by unfold fscode; rw [if_pos h, k]; simp
theorem fs_good {nodes slots : Int} {nf : Nat} {F : Nat → Fb} {n : Nat} {L : Nat → Li} {np : Nat} {p : Nat → Int} (h : fscode nodes slots nf F n L np p = 0) : Nt.lfault nodes slots nf F n L = 0 ∧ Nt.allF nf p np = true := by
  unfold fscode at h
  by_cases z : Nt.lfault nodes slots nf F n L = 0
  · rw [if_pos z] at h
    cases e : Nt.allF nf p np with
    | true => exact ⟨z, rfl⟩
    | false => rw [e] at h; simp at h
  · rw [if_neg z] at h; exact absurd h z
theorem OutL.shape {w : World} {c : Int} {v : Value} {n : Nat} {f : Nat → Int} (h : OutL w c v n f) : ∃ ao k cap, v = .slice ao k cap := by
  rcases h with ⟨_, rfl⟩ | ⟨_, h⟩
  · exact ⟨none, 0, 0, rfl⟩
  · obtain ⟨ao, cap, e⟩ := h.shape
    exact ⟨ao, n, cap, e⟩
set_option maxRecDepth 20000 in
set_option maxHeartbeats 3200000 in
theorem sFs_any {w : World} {ao lo bo : Option Addr} {nf cp n cl np cq : Nat} {nodes slots : Int} {F : Nat → Fb} {L : Nat → Li} {p : Nat → Int} {C : Int} (hC : C = fscode nodes slots nf F n L np p) (h : Rf w (.slice ao nf cp) nf F) (hl : RdL w (.slice lo n cl) n L) (hp : RdRow w (.slice bo np cq) np p) (hf : nf ≤ 1048576) (hw : LFew n L) (hnp : np ≤ 1048576) :
    Calls Try.prog 40 #[.agg #[.int .i64 nodes, .int .i64 slots, .slice ao nf cp], .slice lo n cl, .slice bo np cq] w fun e w' => ∃ v, e = .returned (.agg #[.int .i64 C, v]) ∧ OutL w' C v slots.toNat (fun s => fre (Nt.bk L n) p np s) ∧ Below w.heap.size w w' := by
  obtain ⟨X, hX⟩ : ∃ X, X = ((w.alloc (.cells #[.int .i64 nodes, .int .i64 slots, .slice ao nf cp] 29)).alloc (.cells #[.int .i64 0, .slice none 0 0] 62)) := ⟨_, rfl⟩
  have BX : Hid (Blk X w.heap.size #[.int .i64 nodes, .int .i64 slots, .slice ao nf cp] 29 ∧ Blk X (w.heap.size + 1) #[.int .i64 0, .slice none 0 0] 62 ∧ Below w.heap.size w X) := by rw [hX]; exact ⟨(Blk.new rfl).alloc _, Blk.new (by simp), ((Below.refl _ _).alloc (Nat.le_refl _) _).alloc (by simp) _⟩
  have CX : ∀ W, Below X.heap.size X W → W.cell? ⟨w.heap.size, 0, none⟩ = some (.int .i64 nodes) ∧ W.cell? ⟨w.heap.size, 1, none⟩ = some (.int .i64 slots) ∧ W.cell? ⟨w.heap.size, 2, none⟩ = some (.slice ao nf cp) :=
    fun W h => ⟨(BX.out.1.old h).cell rfl, (BX.out.1.old h).cell rfl, (BX.out.1.old h).cell rfl⟩
  have hXz : w.heap.size ≤ X.heap.size := Nat.le_of_lt BX.out.1.lt
  have H : ∀ W, Below X.heap.size X W → Hid (Rf W (.slice ao nf cp) nf F ∧ RdL W (.slice lo n cl) n L ∧ LFew n L ∧ RdRow W (.slice bo np cq) np p) := fun W hb => ⟨h.later (BX.out.2.2.trans (hb.mono hXz)), hl.later (BX.out.2.2.trans (hb.mono hXz)), hw, hp.later (BX.out.2.2.trans (hb.mono hXz))⟩
  clear h hl hw hp
  have hnI : (np : Int) ≤ 1048576 := by omega
  obtain ⟨c, hc⟩ : ∃ c, c = Nt.lfault nodes slots nf F n L := ⟨_, rfl⟩
  have HC : Hid (c = Nt.lfault nodes slots nf F n L) := hc
  have HCC : Hid (C = fscode nodes slots nf F n L np p) := hC
  clear hc hC
  go_enter Try.func40, Try.ntmps40
  go_wp2_with fail
  rw [← hX]
  clear hX
  obtain ⟨x0, x1, x2⟩ := CX X (Below.refl _ _)
  go_wp2_with fail
  refine (sLf_any (H _ (Below.refl _ _)).out.1 (H _ (Below.refl _ _)).out.2.1 hf (H _ (Below.refl _ _)).out.2.2.1).mono ?_
  rintro e w1 ⟨rfl, hb1⟩
  rw [← HC.out]
  clear x0 x1 x2
  by_cases hz : c = 0
  · have hzb : (c != 0) = false := by simp [hz]
    have hgood := lf_good (nodes := nodes) (slots := slots) (nf := nf) (F := F) (nl := n) (L := L) (by rw [← HC.out]; exact hz)
    have HG : Hid (Nt.Good nodes slots nf F ∧ n ≤ 40 ∧ Nt.AllOk nodes slots nf F n L ∧ Nt.lfault nodes slots nf F n L = 0) := ⟨hgood.1, hgood.2.1, hgood.2.2, by rw [← HC.out]; exact hz⟩
    have hfI : (nf : Int) ≤ 14 := by have := HG.out.1.f14; omega
    have HB1 : Hid (Below X.heap.size X w1) := hb1
    clear hgood hz hb1
    go_wp2_with fail
    go_loopw [8] (fun i wr => ∃ k : Nat, k ≤ np ∧ i = .int .i64 k ∧ Hid (Below X.heap.size X wr) ∧ Hid (∀ i, i < k → 0 ≤ p i ∧ p i < (nf : Int))) (fun i _ => np - (intOf i).toNat)
    case atStart => exact ⟨0, Nat.zero_le _, rfl, HB1.out, fun i hi => absurd hi (Nat.not_lt_zero _)⟩
    case round =>
      obtain ⟨k, hk, rfl, HB, HA⟩ := hrel
      by_cases hkn : k < np
      · obtain ⟨pb, pf, hpo, hpc⟩ := (H wr HB.out).out.2.2.2.at hkn
        subst hpo
        obtain ⟨v, hv⟩ : ∃ v, v = p k := ⟨_, rfl⟩
        rw [← hv] at hpc
        have HV : Hid (v = p k) := hv
        clear hv
        have KN0 : ∀ x : Kept wr.heap.size wr, x.w.cell? ⟨w.heap.size, 0, none⟩ = some (.int .i64 nodes) := fun x => kold x.h (CX wr HB.out).1
        have KN1 : ∀ x : Kept wr.heap.size wr, x.w.cell? ⟨w.heap.size, 1, none⟩ = some (.int .i64 slots) := fun x => kold x.h (CX wr HB.out).2.1
        have KN2 : ∀ x : Kept wr.heap.size wr, x.w.cell? ⟨w.heap.size, 2, none⟩ = some (.slice ao nf cp) := fun x => kold x.h (CX wr HB.out).2.2
        have KP : ∀ x : Kept wr.heap.size wr, x.w.cell? ⟨pb, pf + k, none⟩ = some (.int .i64 v) := fun x => kold x.h hpc
        have hkI : (k : Int) < np := by omega
        clear hpc
        cases hfi : Nt.isFi nf v with
        | false =>
          have hC3 : C = 3 := by
            rw [HCC.out]
            refine fs_three HG.out.2.2.2 ?_
            cases e : Nt.allF nf p np with
            | false => rfl
            | true =>
              have := Nt.isFi_iff.2 (Nt.allF_iff.1 e k hkn)
              rw [← HV.out, hfi] at this
              cases this
          have HCv : Hid (C = 3) := hC3
          have HCn : Hid (C ≠ 0) := by rw [hC3]; show (3 : Int) ≠ 0; omega
          have HRt : ∀ W, Calls Try.prog 59 #[.agg #[.int .i64 nodes, .int .i64 slots, .slice ao nf cp], .int .i64 v] W fun e w' => e = .returned (.bool false) ∧ Below W.heap.size W w' := fun W => by have := sFib_any nodes slots v ao nf cp W; rwa [hfi] at this
          clear hfi hC3
          go_upto_region 7 with fail
          refine wp_region_kept wr.heap.size (by kernel_rfl) (by kernel_rfl) ?_
          intro hne
          repeat (go_big_quiet_step (first | (go_at_call 59; exact Calls.kept_of (Nat.le_refl _) (HRt _))))
          refine wpQuiet_nil ?_
          rintro u7 ⟨xk, hxk⟩
          have hR1 := xk.h
          rw [← hxk] at hR1
          clear hxk xk hne KN0 KN1 KN2 KP HRt
          have hbu : Below X.heap.size X u7 := HB.out.trans (hR1.mono HB.out.size)
          clear hR1
          have hB := BX.out.2.1.old hbu
          have y0 := hB.cell (j := 0) rfl
          have y1 := hB.cell (j := 1) rfl
          have f0 := hB.frozen
          have HB : Hid (Below X.heap.size X u7) := hbu
          clear hB hbu
          go_wp2
          refine bodyPost_ret (v := .agg #[.int .i64 3, .slice none 0 0]) (by simp [results, Try.results40, go_sem, y0, y1]) rfl ⟨_, by rw [HCv.out], Or.inl ⟨HCn.out, rfl⟩, ?_⟩
          exact BX.out.2.2.trans (Below.setCell (Below.setCell (HB.out.mono hXz) (by simp) _) (by simp) _)
        | true =>
          have HRt : ∀ W, Calls Try.prog 59 #[.agg #[.int .i64 nodes, .int .i64 slots, .slice ao nf cp], .int .i64 v] W fun e w' => e = .returned (.bool true) ∧ Below W.heap.size W w' := fun W => by have := sFib_any nodes slots v ao nf cp W; rwa [hfi] at this
          have HA2 : Hid (∀ i, i < k + 1 → 0 ≤ p i ∧ p i < (nf : Int)) := fun i hi => by
            by_cases e : i = k
            · subst e; rw [← HV.out]; exact Nt.isFi_iff.1 hfi
            · exact HA.out i (by omega)
          clear hfi
          go_upto_region 7 with fail
          refine wp_region_kept wr.heap.size (by kernel_rfl) (by kernel_rfl) ?_
          intro hne
          repeat (go_big_quiet_step (first | (go_at_call 59; exact Calls.kept_of (Nat.le_refl _) (HRt _))))
          refine wpQuiet_nil ?_
          rintro u7 ⟨xk, hxk⟩
          have hR1 := xk.h
          rw [← hxk] at hR1
          clear hxk xk hne KN0 KN1 KN2 KP HRt
          have HBu : Hid (Below X.heap.size X u7) := HB.out.trans (hR1.mono HB.out.size)
          clear hR1
          go_wp2
          go_roundw
          case rel => exact ⟨k + 1, by omega, by simp, HBu, HA2⟩
          case measure => simp [intOf]; omega
      · obtain rfl : np = k := by omega
        have hC0 : C = 0 := by rw [HCC.out]; exact fs_nil HG.out.2.2.2 (Nt.allF_iff.2 HA.out)
        have HC0 : Hid (C = 0) := hC0
        clear hC0
        have g1 := HG.out.1.s1
        obtain ⟨S, hS⟩ : ∃ S : Nat, slots = (S : Int) := ⟨slots.toNat, by omega⟩
        subst hS
        obtain ⟨x0, x1, x2⟩ := CX wr HB.out
        clear g1
        go_wp2_with fail
        refine (sFree_any (cp := cp) (ao := ao) (H _ HB.out).out.2.1 HG.out.2.1 HG.out.1 HG.out.2.2.1 (H _ HB.out).out.2.2.2 HA.out hnp).mono ?_
        rintro e w2 ⟨g, cg, rfl, hg0, hsg, hb2⟩
        clear x0 x1 x2
        have hb12 := HB.out.trans (hb2.mono HB.out.size)
        have hB := BX.out.2.1.old hb12
        have y0 := hB.cell (j := 0) rfl
        have y1 := hB.cell (j := 1) rfl
        have f0 := hB.frozen
        have hlt := hB.lt
        have hgw : w.heap.size + 1 < g := by have := (BX.out.2.1.old HB.out).lt; omega
        have HM : Hid (Seg w2 g 2 0 S (fun s => .int .i64 (fre (Nt.bk L n) p np s)) ∧ Below X.heap.size X w2) := ⟨hsg, hb12⟩
        clear hsg hb2 hb12 hB hg0
        go_wp2
        refine bodyPost_ret (v := .agg #[.int .i64 0, .slice (some ⟨g, 0, none⟩) S cg]) (by simp [results, Try.results40, go_sem, y0, y1]) rfl ⟨_, by rw [HC0.out], Or.inr ⟨HC0.out, ?_⟩, ?_⟩
        · rw [show ((S : Int)).toNat = S by omega]
          exact ((HM.out.1.setOther (by show g ≠ w.heap.size + 1; omega) _).setOther (by show g ≠ w.heap.size + 1; omega) _).rd
        · exact BX.out.2.2.trans (Below.setCell (Below.setCell (HM.out.2.mono hXz) (by simp) _) (by simp) _)
  · have hzb : (c != 0) = true := by simpa using hz
    have HCv : Hid (C = c) := by show C = c; rw [HCC.out, fs_net (by rw [← HC.out]; exact hz), HC.out]
    have HCn : Hid (C ≠ 0) := by rw [HCv.out]; exact hz
    clear hz
    have hB := BX.out.2.1.old hb1
    have y0 := hB.cell (j := 0) rfl
    have y1 := hB.cell (j := 1) rfl
    have f0 := hB.frozen
    have HB : Hid (Below X.heap.size X w1) := hb1
    clear hB hb1
    go_wp2
    refine bodyPost_ret (v := .agg #[.int .i64 c, .slice none 0 0]) (by simp [results, Try.results40, go_sem, y0, y1]) rfl ⟨_, by rw [HCv.out], Or.inl ⟨HCn.out, rfl⟩, ?_⟩
    exact BX.out.2.2.trans (Below.setCell (Below.setCell (HB.out.mono hXz) (by simp) _) (by simp) _)
set_option maxRecDepth 20000 in
set_option maxHeartbeats 3200000 in
theorem iFs_any {w : World} {ao lo bo : Option Addr} {nf cp n cl np cq : Nat} {nodes slots : Int} {F : Nat → Fb} {L : Nat → Li} {p : Nat → Int} {C : Int} (hC : C = fscode nodes slots nf F n L np p) (h : Rf w (.slice ao nf cp) nf F) (hl : RdL w (.slice lo n cl) n L) (hp : RdRow w (.slice bo np cq) np p) (hf : nf ≤ 1048576) (hw : LFew n L) (hnp : np ≤ 1048576) (hcp : nf ≤ cp) (hd : LBd n L) :
    Calls Try.prog 41 #[.agg #[.int .i64 nodes, .int .i64 slots, .slice ao nf cp], .slice lo n cl, .slice bo np cq] w fun e w' => ∃ v, e = .returned (.agg #[.int .i64 C, v]) ∧ OwnL w.heap.size w'.heap.size w' C v slots.toNat (fun s => fre (Nt.bk L n) p np s) ∧ Below w.heap.size w w' := by
  obtain ⟨X, hX⟩ : ∃ X, X = ((w.alloc (.cells #[.int .i64 nodes, .int .i64 slots, .slice ao nf cp] 29)).alloc (.cells #[.int .i64 0, .slice none 0 0] 62)) := ⟨_, rfl⟩
  have BX : Hid (Blk X w.heap.size #[.int .i64 nodes, .int .i64 slots, .slice ao nf cp] 29 ∧ Blk X (w.heap.size + 1) #[.int .i64 0, .slice none 0 0] 62 ∧ Below w.heap.size w X) := by rw [hX]; exact ⟨(Blk.new rfl).alloc _, Blk.new (by simp), ((Below.refl _ _).alloc (Nat.le_refl _) _).alloc (by simp) _⟩
  have CX : ∀ W, Below X.heap.size X W → W.cell? ⟨w.heap.size, 0, none⟩ = some (.int .i64 nodes) ∧ W.cell? ⟨w.heap.size, 1, none⟩ = some (.int .i64 slots) ∧ W.cell? ⟨w.heap.size, 2, none⟩ = some (.slice ao nf cp) :=
    fun W h => ⟨(BX.out.1.old h).cell rfl, (BX.out.1.old h).cell rfl, (BX.out.1.old h).cell rfl⟩
  have hXz : w.heap.size ≤ X.heap.size := Nat.le_of_lt BX.out.1.lt
  have H : ∀ W, Below X.heap.size X W → Hid (Rf W (.slice ao nf cp) nf F ∧ RdL W (.slice lo n cl) n L ∧ LFew n L ∧ RdRow W (.slice bo np cq) np p) := fun W hb => ⟨h.later (BX.out.2.2.trans (hb.mono hXz)), hl.later (BX.out.2.2.trans (hb.mono hXz)), hw, hp.later (BX.out.2.2.trans (hb.mono hXz))⟩
  clear h hl hw hp
  have HD : Hid (LBd n L) := hd
  obtain ⟨c, hc⟩ : ∃ c, c = Nt.lfault nodes slots nf F n L := ⟨_, rfl⟩
  have HC : Hid (c = Nt.lfault nodes slots nf F n L) := hc
  have HCC : Hid (C = fscode nodes slots nf F n L np p) := hC
  clear hc hC hd
  go_enter Try.func41, Try.ntmps41
  go_wp2_with fail
  rw [← hX]
  clear hX
  obtain ⟨x0, x1, x2⟩ := CX X (Below.refl _ _)
  go_wp2_with fail
  refine (iBook_any (H _ (Below.refl _ _)).out.1 (H _ (Below.refl _ _)).out.2.1 hcp hf (H _ (Below.refl _ _)).out.2.2.1 HD.out).mono ?_
  rintro e w1 ⟨hr, hb1⟩
  rw [← HC.out] at hr
  clear x0 x1 x2
  rcases hr with ⟨hz, rfl⟩ | ⟨hz, b, q, rfl, hb0, hq, hbk⟩
  · have hzb : (c != 0) = true := by simpa using hz
    have HCv : Hid (C = c) := by show C = c; rw [HCC.out, fs_net (by rw [← HC.out]; exact hz), HC.out]
    have HCn : Hid (C ≠ 0) := by rw [HCv.out]; exact hz
    clear hz
    have hB := BX.out.2.1.old hb1
    have y0 := hB.cell (j := 0) rfl
    have y1 := hB.cell (j := 1) rfl
    have f0 := hB.frozen
    have HB : Hid (Below X.heap.size X w1) := hb1
    clear hB hb1
    go_wp2
    refine bodyPost_ret (v := .agg #[.int .i64 c, .slice none 0 0]) (by simp [results, Try.results41, go_sem, y0, y1]) rfl ⟨_, by rw [HCv.out], Or.inl ⟨HCn.out, rfl⟩, ?_⟩
    exact BX.out.2.2.trans (Below.setCell (Below.setCell (HB.out.mono hXz) (by simp) _) (by simp) _)
  · have hz0 : Nt.lfault nodes slots nf F n L = 0 := by rw [← HC.out]; exact hz
    have hgood := lf_good hz0
    have HG : Hid (Nt.Good nodes slots nf F ∧ n ≤ 40 ∧ Nt.AllOk nodes slots nf F n L ∧ Nt.lfault nodes slots nf F n L = 0) := ⟨hgood.1, hgood.2.1, hgood.2.2, hz0⟩
    have H1 : Hid (Book w1 b q (Nt.bk L n) ∧ Below X.heap.size X w1) := ⟨hbk, hb1⟩
    clear hgood hz0 hz hb0 hq hbk hb1
    obtain ⟨x0, x1, x2⟩ := CX w1 H1.out.2
    go_wp2_with fail
    refine (iAre_any (H _ H1.out.2).out.2.2.2 hnp).mono ?_
    rintro e w2 ⟨rfl, hb2⟩
    clear x0 x1 x2
    have H2 : Hid (Book w2 b q (Nt.bk L n) ∧ Below X.heap.size X w2) := ⟨H1.out.1.later hb2, H1.out.2.trans (hb2.mono H1.out.2.size)⟩
    clear hb2
    cases hal : Nt.allF nf p np with
    | false =>
      have hC3 : C = 3 := by rw [HCC.out]; exact fs_three HG.out.2.2.2 hal
      have HCv : Hid (C = 3) := hC3
      have HCn : Hid (C ≠ 0) := by rw [hC3]; show (3 : Int) ≠ 0; omega
      have hbu : Below X.heap.size X w2 := H2.out.2
      clear hC3
      have hB := BX.out.2.1.old hbu
      have y0 := hB.cell (j := 0) rfl
      have y1 := hB.cell (j := 1) rfl
      have f0 := hB.frozen
      have HB : Hid (Below X.heap.size X w2) := hbu
      clear hB hbu
      go_wp2
      refine bodyPost_ret (v := .agg #[.int .i64 3, .slice none 0 0]) (by simp [results, Try.results41, go_sem, y0, y1]) rfl ⟨_, by rw [HCv.out], Or.inl ⟨HCn.out, rfl⟩, ?_⟩
      exact BX.out.2.2.trans (Below.setCell (Below.setCell (HB.out.mono hXz) (by simp) _) (by simp) _)
    | true =>
      have hC0 : C = 0 := by rw [HCC.out]; exact fs_nil HG.out.2.2.2 hal
      have HC0 : Hid (C = 0) := hC0
      have HAL : Hid (∀ i, i < np → 0 ≤ p i ∧ p i < (nf : Int)) := Nt.allF_iff.1 hal
      clear hC0
      have g1 := HG.out.1.s1
      have g2 := HG.out.1.s64
      have g3 := HG.out.1.f14
      obtain ⟨S, hS⟩ : ∃ S : Nat, slots = (S : Int) := ⟨slots.toNat, by omega⟩
      subst hS
      have hS1 : 1 ≤ S := by omega
      have hS64 : S ≤ 64 := by omega
      have HBd : Hid (∀ f s, Nt.bk L n f s ≠ 0 → 0 ≤ f ∧ f < 14 ∧ 0 ≤ s ∧ s < (S : Int)) := fun f s hb => by
        obtain ⟨i, hi, hh⟩ := HG.out.2.2.1.bk_pos.1 hb
        obtain ⟨⟨k, hk, rfl⟩, a1, a2⟩ := Nt.hasS_iff.1 hh
        have hok := HG.out.2.2.1.ok i hi
        have h1 := hok.fib hk
        have h2 := hok.f0
        have h3 := hok.top
        omega
      obtain ⟨x0, x1, x2⟩ := CX w2 H2.out.2
      clear g1 g2
      go_wp2_with fail
      refine (freeOn_any (nf := nf) (cp := cp) (ao := ao) (nodes := nodes) H2.out.1 HBd.out (H _ H2.out.2).out.2.2.2 (fun i hi => by have := HAL.out i hi; omega) hnp hS1 hS64).mono ?_
      rintro e w3 ⟨g, rfl, hg0, hg1, hsg, hb3⟩
      clear x0 x1 x2
      have hb13 := H2.out.2.trans (hb3.mono H2.out.2.size)
      have hB := BX.out.2.1.old hb13
      have y0 := hB.cell (j := 0) rfl
      have y1 := hB.cell (j := 1) rfl
      have f0 := hB.frozen
      have hlt := hB.lt
      have hgw : w.heap.size + 1 < g := by have := (BX.out.2.1.old H2.out.2).lt; omega
      have HM : Hid (Seg w3 g 2 0 S (fun s => .int .i64 (fre (Nt.bk L n) p np s)) ∧ Below X.heap.size X w3 ∧ g < w3.heap.size) := ⟨hsg, hb13, hg1⟩
      clear hsg hb3 hb13 hB hg0 hg1
      go_wp2
      refine bodyPost_ret (v := .agg #[.int .i64 0, .slice (some ⟨g, 0, none⟩) S S]) (by simp [results, Try.results41, go_sem, y0, y1]) rfl ⟨_, by rw [HC0.out], Or.inr ⟨HC0.out, g, S, by rw [show ((S : Int)).toNat = S by omega], by omega, by simpa using HM.out.2.2, ?_⟩, ?_⟩
      · rw [show ((S : Int)).toNat = S by omega]
        exact (HM.out.1.setOther (by show g ≠ w.heap.size + 1; omega) _).setOther (by show g ≠ w.heap.size + 1; omega) _
      · exact BX.out.2.2.trans (Below.setCell (Below.setCell (HM.out.2.1.mono hXz) (by simp) _) (by simp) _)
end Go.Proofs.Ytnkjieindcdimaa
