/- The margin of a chain, in both packages; answers of two numbers: compared. Contracts. -/
import Derived.Test.YtelejihgechmgaaCs
import Derived.Test.YtelejihgechmgaaCi
import Derived.Test.YtelejihgechmgaaSf
namespace Go.Proofs.Ytelejihgechmgaa
open Go.RowKit
set_option linter.unusedVariables false
set_option linter.unusedSimpArgs false
set_option maxRecDepth 20000 in
set_option maxHeartbeats 1600000 in
theorem eqMerit_same (c m : Int) (w : World) : Calls Try.prog 24 #[.agg #[.int .i64 c, .int .i64 m], .agg #[.int .i64 c, .int .i64 m]] w fun e w' => e = .returned (.bool true) ∧ Below w.heap.size w w' := by
  go_enter Try.func24, Try.ntmps24
  go_wp2
  go_ret
  exact ⟨rfl, by go_grown⟩
set_option maxRecDepth 20000 in
set_option maxHeartbeats 6400000 in
theorem sMargin_any {w : World} {ao : Option Addr} {n cap : Nat} {S : Nat → Mt.Sp} {start fl q m : Int} (hq : q = Mt.mcode S n start fl) (hm : m = Mt.margin S n start fl) (h : RdV w (.slice ao n cap) n 4 (fun i j => scell (S i) j)) (hn : n ≤ 1048576) :
    Calls Try.prog 22 #[.slice ao n cap, .int .i64 start, .int .i64 fl] w fun e w' => e = .returned (.agg #[.int .i64 q, .int .i64 m]) ∧ Below w.heap.size w w' := by
  obtain ⟨X, hX⟩ : ∃ X, X = w.alloc (.cells #[.int .i64 0, .int .i64 0] 36) := ⟨_, rfl⟩
  have BX : Hid (Blk X w.heap.size #[.int .i64 0, .int .i64 0] 36 ∧ Below w.heap.size w X) := by rw [hX]; exact ⟨Blk.new rfl, (Below.refl _ _).alloc (Nat.le_refl _) _⟩
  have hX1 : w.heap.size < X.heap.size := BX.out.1.lt
  obtain ⟨c, hc⟩ : ∃ c, c = Mt.ccode S n start := ⟨_, rfl⟩
  obtain ⟨l, hl⟩ : ∃ c, c = Mt.cl S n start := ⟨_, rfl⟩
  obtain ⟨t, ht⟩ : ∃ c, c = Mt.ct S n start := ⟨_, rfl⟩
  have HCl := sChain_any hc hl ht (h.later BX.out.2) hn
  have hC3 : c ≠ 0 → q = c ∧ m = 0 := fun hz => by
    have e : Mt.mcode S n start fl = c := by unfold Mt.mcode; rw [if_neg (by rw [← hc]; exact hz), hc]
    exact ⟨hq.trans e, by rw [hm]; unfold Mt.margin; rw [if_neg (by rw [e]; exact hz)]⟩
  have hC1 : c = 0 → Mt.inR fl (-1000000000) 1000000000 = false → q = 3 ∧ m = 0 := fun hz hr => by
    have e : Mt.mcode S n start fl = 3 := by unfold Mt.mcode; rw [if_pos (by rw [← hc]; exact hz), hr]; rfl
    exact ⟨hq.trans e, by rw [hm]; unfold Mt.margin; rw [if_neg (by rw [e]; decide)]⟩
  have hC2 : c = 0 → Mt.inR fl (-1000000000) 1000000000 = true → q = 0 ∧ m = l - fl ∧ wrap64 (l - fl) = m := fun hz hr => by
    have e : Mt.mcode S n start fl = 0 := by unfold Mt.mcode; rw [if_pos (by rw [← hc]; exact hz), hr]; rfl
    have hG := Mt.good (hc.symm.trans hz)
    have hb := Mt.ls_b hG (Nat.le_refl n)
    have hn100 := hG.n100
    have e2 : l = Mt.ls S start n := by rw [hl]; unfold Mt.cl; rw [if_pos (hc.symm.trans hz)]
    have e3 : m = l - fl := by rw [hm, e2]; unfold Mt.margin; rw [if_pos e]
    have hr2 := Mt.inR_iff.1 hr
    refine ⟨hq.trans e, e3, ?_⟩
    rw [e3, e2]
    unfold wrap64
    omega
  have hqf : q = (if c = 0 then (if Mt.inR fl (-1000000000) 1000000000 then 0 else 3) else c) := by rw [hq, hc]; rfl
  replace hC1 : Hid _ := hC1
  replace hC2 : Hid _ := hC2
  replace hC3 : Hid _ := hC3
  replace hqf : Hid _ := hqf
  clear hc hl ht h hq hm
  go_enter Try.func22, Try.ntmps22
  go_wp2_with fail
  rw [← hX]
  clear hX
  by_cases hz : c = 0
  case neg =>
    obtain ⟨rfl, rfl⟩ := hC3.out hz
    have hzb : (q != 0) = true := by simpa using hz
    go_upto_region 2 with (first | (go_at_call 14; refine HCl.mono ?_; rintro e w1 ⟨v, rfl, ho, hb1⟩; obtain ⟨va, vk, vc, rfl⟩ := OutI.shape ho.rd; clear ho))
    obtain ⟨Y, hY⟩ : ∃ Y, Y = w1.alloc (.cells #[.int .i64 q, .slice va vk vc, .int .i64 l, .int .i64 t] 26) := ⟨_, rfl⟩
    obtain ⟨pb, hpb⟩ : ∃ p, p = w1.heap.size := ⟨_, rfl⟩
    have BY : Hid (Blk Y pb #[.int .i64 q, .slice va vk vc, .int .i64 l, .int .i64 t] 26 ∧ Below X.heap.size X Y) := by
      rw [hY, hpb]
      exact ⟨Blk.new rfl, hb1.alloc hb1.size _⟩
    have hne : w.heap.size ≠ pb := by have := hb1.size; omega
    rw [← hY, ← hpb]
    clear hY hpb hb1
    have e0 := BY.out.1.cell (j := 0) (v := .int .i64 q) rfl
    have e2 := BY.out.1.cell (j := 2) (v := .int .i64 l) rfl
    have r0 := (BX.out.1.old BY.out.2).cell (j := 0) (v := .int .i64 0) rfl
    have r1 := (BX.out.1.old BY.out.2).cell (j := 1) (v := .int .i64 0) rfl
    have rf := (BX.out.1.old BY.out.2).frozen
    have HBR : Hid (Blk ((Y.setCell ⟨w.heap.size, 0, none⟩ (.int .i64 q)).setCell ⟨w.heap.size, 1, none⟩ (.int .i64 0)) w.heap.size #[.int .i64 q, .int .i64 0] 36 ∧ Below w.heap.size w ((Y.setCell ⟨w.heap.size, 0, none⟩ (.int .i64 q)).setCell ⟨w.heap.size, 1, none⟩ (.int .i64 0))) := ⟨((BX.out.1.old BY.out.2).set 0 _ rfl).set 1 _ rfl, ((BX.out.2.trans (BY.out.2.mono (Nat.le_of_lt hX1))).setCell (Nat.le_refl _) _).setCell (Nat.le_refl _) _⟩
    go_wp2_with fail
    have s0 := HBR.out.1.cell (j := 0) (v := .int .i64 q) rfl
    have s1 := HBR.out.1.cell (j := 1) (v := .int .i64 0) rfl
    refine bodyPost_ret (v := .agg #[.int .i64 q, .int .i64 0]) ?_ rfl ⟨rfl, HBR.out.2⟩
    simp [results, Try.results22, go_sem, s0, s1]
  case pos =>
    subst hz
    cases hj : Mt.inR fl (-1000000000) 1000000000 with
    | false =>
      obtain ⟨rfl, rfl⟩ := hC1.out rfl hj
      go_upto_region 2 with (first | (go_at_call 14; refine HCl.mono ?_; rintro e w1 ⟨v, rfl, ho, hb1⟩; obtain ⟨va, vk, vc, rfl⟩ := OutI.shape ho.rd; clear ho))
      obtain ⟨Y, hY⟩ : ∃ Y, Y = w1.alloc (.cells #[.int .i64 0, .slice va vk vc, .int .i64 l, .int .i64 t] 26) := ⟨_, rfl⟩
      obtain ⟨pb, hpb⟩ : ∃ p, p = w1.heap.size := ⟨_, rfl⟩
      have BY : Hid (Blk Y pb #[.int .i64 0, .slice va vk vc, .int .i64 l, .int .i64 t] 26 ∧ Below X.heap.size X Y) := by
        rw [hY, hpb]
        exact ⟨Blk.new rfl, hb1.alloc hb1.size _⟩
      have hne : w.heap.size ≠ pb := by have := hb1.size; omega
      rw [← hY, ← hpb]
      clear hY hpb hb1
      have e0 := BY.out.1.cell (j := 0) (v := .int .i64 0) rfl
      have e2 := BY.out.1.cell (j := 2) (v := .int .i64 l) rfl
      go_upto_region 5 with (first | (go_at_call 55; refine (sIn_any fl (-1000000000) 1000000000 _).mono ?_; rintro e w2 ⟨rfl, rfl⟩; rw [hj]))
      have r0 := (BX.out.1.old BY.out.2).cell (j := 0) (v := .int .i64 0) rfl
      have r1 := (BX.out.1.old BY.out.2).cell (j := 1) (v := .int .i64 0) rfl
      have rf := (BX.out.1.old BY.out.2).frozen
      have HBR : Hid (Blk ((Y.setCell ⟨w.heap.size, 0, none⟩ (.int .i64 3)).setCell ⟨w.heap.size, 1, none⟩ (.int .i64 0)) w.heap.size #[.int .i64 3, .int .i64 0] 36 ∧ Below w.heap.size w ((Y.setCell ⟨w.heap.size, 0, none⟩ (.int .i64 3)).setCell ⟨w.heap.size, 1, none⟩ (.int .i64 0))) := ⟨((BX.out.1.old BY.out.2).set 0 _ rfl).set 1 _ rfl, ((BX.out.2.trans (BY.out.2.mono (Nat.le_of_lt hX1))).setCell (Nat.le_refl _) _).setCell (Nat.le_refl _) _⟩
      go_wp2_with fail
      have s0 := HBR.out.1.cell (j := 0) (v := .int .i64 3) rfl
      have s1 := HBR.out.1.cell (j := 1) (v := .int .i64 0) rfl
      refine bodyPost_ret (v := .agg #[.int .i64 3, .int .i64 0]) ?_ rfl ⟨rfl, HBR.out.2⟩
      simp [results, Try.results22, go_sem, s0, s1]
    | true =>
      obtain ⟨rfl, -, hwr⟩ := hC2.out rfl hj
      go_upto_region 2 with (first | (go_at_call 14; refine HCl.mono ?_; rintro e w1 ⟨v, rfl, ho, hb1⟩; obtain ⟨va, vk, vc, rfl⟩ := OutI.shape ho.rd; clear ho))
      obtain ⟨Y, hY⟩ : ∃ Y, Y = w1.alloc (.cells #[.int .i64 0, .slice va vk vc, .int .i64 l, .int .i64 t] 26) := ⟨_, rfl⟩
      obtain ⟨pb, hpb⟩ : ∃ p, p = w1.heap.size := ⟨_, rfl⟩
      have BY : Hid (Blk Y pb #[.int .i64 0, .slice va vk vc, .int .i64 l, .int .i64 t] 26 ∧ Below X.heap.size X Y) := by
        rw [hY, hpb]
        exact ⟨Blk.new rfl, hb1.alloc hb1.size _⟩
      have hne : w.heap.size ≠ pb := by have := hb1.size; omega
      rw [← hY, ← hpb]
      clear hY hpb hb1
      have e0 := BY.out.1.cell (j := 0) (v := .int .i64 0) rfl
      have e2 := BY.out.1.cell (j := 2) (v := .int .i64 l) rfl
      go_upto_region 6 with (first | (go_at_call 55; refine (sIn_any fl (-1000000000) 1000000000 _).mono ?_; rintro e w2 ⟨rfl, rfl⟩; rw [hj]))
      have r0 := (BX.out.1.old BY.out.2).cell (j := 0) (v := .int .i64 0) rfl
      have r1 := (BX.out.1.old BY.out.2).cell (j := 1) (v := .int .i64 0) rfl
      have rf := (BX.out.1.old BY.out.2).frozen
      have HBR : Hid (Blk ((Y.setCell ⟨w.heap.size, 0, none⟩ (.int .i64 0)).setCell ⟨w.heap.size, 1, none⟩ (.int .i64 m)) w.heap.size #[.int .i64 0, .int .i64 m] 36 ∧ Below w.heap.size w ((Y.setCell ⟨w.heap.size, 0, none⟩ (.int .i64 0)).setCell ⟨w.heap.size, 1, none⟩ (.int .i64 m))) := ⟨((BX.out.1.old BY.out.2).set 0 _ rfl).set 1 _ rfl, ((BX.out.2.trans (BY.out.2.mono (Nat.le_of_lt hX1))).setCell (Nat.le_refl _) _).setCell (Nat.le_refl _) _⟩
      go_wp2_with fail
      have s0 := HBR.out.1.cell (j := 0) (v := .int .i64 0) rfl
      have s1 := HBR.out.1.cell (j := 1) (v := .int .i64 m) rfl
      refine bodyPost_ret (v := .agg #[.int .i64 0, .int .i64 m]) ?_ rfl ⟨rfl, HBR.out.2⟩
      simp [results, Try.results22, go_sem, s0, s1]
set_option maxRecDepth 20000 in
set_option maxHeartbeats 6400000 in
theorem iMargin_any {w : World} {ao : Option Addr} {n cap : Nat} {S : Nat → Mt.Sp} {start fl q m : Int} (hq : q = Mt.mcode S n start fl) (hm : m = Mt.margin S n start fl) (h : RdV w (.slice ao n cap) n 4 (fun i j => scell (S i) j)) (hn : n ≤ 1048576) :
    Calls Try.prog 23 #[.slice ao n cap, .int .i64 start, .int .i64 fl] w fun e w' => e = .returned (.agg #[.int .i64 q, .int .i64 m]) ∧ Below w.heap.size w w' := by
  obtain ⟨X, hX⟩ : ∃ X, X = w.alloc (.cells #[.int .i64 0, .int .i64 0] 36) := ⟨_, rfl⟩
  have BX : Hid (Blk X w.heap.size #[.int .i64 0, .int .i64 0] 36 ∧ Below w.heap.size w X) := by rw [hX]; exact ⟨Blk.new rfl, (Below.refl _ _).alloc (Nat.le_refl _) _⟩
  have hX1 : w.heap.size < X.heap.size := BX.out.1.lt
  obtain ⟨c, hc⟩ : ∃ c, c = Mt.ccode S n start := ⟨_, rfl⟩
  obtain ⟨l, hl⟩ : ∃ c, c = Mt.cl S n start := ⟨_, rfl⟩
  obtain ⟨t, ht⟩ : ∃ c, c = Mt.ct S n start := ⟨_, rfl⟩
  have HCl := iChain_any hc hl ht (h.later BX.out.2) hn
  have hC3 : c ≠ 0 → q = c ∧ m = 0 := fun hz => by
    have e : Mt.mcode S n start fl = c := by unfold Mt.mcode; rw [if_neg (by rw [← hc]; exact hz), hc]
    exact ⟨hq.trans e, by rw [hm]; unfold Mt.margin; rw [if_neg (by rw [e]; exact hz)]⟩
  have hC1 : c = 0 → Mt.inR fl (-1000000000) 1000000000 = false → q = 3 ∧ m = 0 := fun hz hr => by
    have e : Mt.mcode S n start fl = 3 := by unfold Mt.mcode; rw [if_pos (by rw [← hc]; exact hz), hr]; rfl
    exact ⟨hq.trans e, by rw [hm]; unfold Mt.margin; rw [if_neg (by rw [e]; decide)]⟩
  have hC2 : c = 0 → Mt.inR fl (-1000000000) 1000000000 = true → q = 0 ∧ m = l - fl ∧ wrap64 (l - fl) = m := fun hz hr => by
    have e : Mt.mcode S n start fl = 0 := by unfold Mt.mcode; rw [if_pos (by rw [← hc]; exact hz), hr]; rfl
    have hG := Mt.good (hc.symm.trans hz)
    have hb := Mt.ls_b hG (Nat.le_refl n)
    have hn100 := hG.n100
    have e2 : l = Mt.ls S start n := by rw [hl]; unfold Mt.cl; rw [if_pos (hc.symm.trans hz)]
    have e3 : m = l - fl := by rw [hm, e2]; unfold Mt.margin; rw [if_pos e]
    have hr2 := Mt.inR_iff.1 hr
    refine ⟨hq.trans e, e3, ?_⟩
    rw [e3, e2]
    unfold wrap64
    omega
  have hqf : q = (if c = 0 then (if Mt.inR fl (-1000000000) 1000000000 then 0 else 3) else c) := by rw [hq, hc]; rfl
  replace hC1 : Hid _ := hC1
  replace hC2 : Hid _ := hC2
  replace hC3 : Hid _ := hC3
  replace hqf : Hid _ := hqf
  clear hc hl ht h hq hm
  have HE : Hid (Mt.fst (Mt.at4 c (if Mt.all (fun k => Mt.inR fl (-1000000000) 1000000000) 1 then 0 else 3) 0 0) 2 = q) := by
    show _ = q
    rw [hqf.out, Mt.fst2]
    rfl
  clear hqf
  go_enter Try.func23, Try.ntmps23
  go_wp2_with fail
  rw [← hX]
  clear hX
  go_upto_region 2 with (first | (go_at_call 16; refine HCl.mono ?_; rintro e w1 ⟨v, rfl, ho, hb1⟩; obtain ⟨va, vk, vc, rfl⟩ := OutI.shape ho.rd; clear ho))
  obtain ⟨Y, hY⟩ : ∃ Y, Y = w1.alloc (.cells #[.int .i64 c, .slice va vk vc, .int .i64 l, .int .i64 t] 26) := ⟨_, rfl⟩
  obtain ⟨pb, hpb⟩ : ∃ p, p = w1.heap.size := ⟨_, rfl⟩
  have BY : Hid (Blk Y pb #[.int .i64 c, .slice va vk vc, .int .i64 l, .int .i64 t] 26 ∧ Below X.heap.size X Y) := by
    rw [hY, hpb]
    exact ⟨Blk.new rfl, hb1.alloc hb1.size _⟩
  have hne : w.heap.size ≠ pb := by have := hb1.size; omega
  rw [← hY, ← hpb]
  clear hY hpb hb1
  refine wp_region_pr (by kernel_rfl) [12, 13, 14, 15, 16, 17, 18, 19, 8] (fun i v W => match i with
    | 0 => v = .pointer (some ⟨pb, 0, none⟩)
    | 1 => v = .int .i64 c
    | 2 => Bnd W v (-1000000000) (1000000000) 3
    | 3 => v = .int .i64 fl
    | 4 => Lst W v 1 (fun _ => fl)
    | 5 => v = .int .i64 ((if Mt.all (fun k => Mt.inR fl (-1000000000) 1000000000) 1 then 0 else 3))
    | 6 => Lst W v 2 (Mt.at4 c (if Mt.all (fun k => Mt.inR fl (-1000000000) 1000000000) 1 then 0 else 3) 0 0)
    | 7 => v = .int .i64 (Mt.fst (Mt.at4 c (if Mt.all (fun k => Mt.inR fl (-1000000000) 1000000000) 1 then 0 else 3) 0 0) 2)
    | 8 => v = .int .i64 (Mt.fst (Mt.at4 c (if Mt.all (fun k => Mt.inR fl (-1000000000) 1000000000) 1 then 0 else 3) 0 0) 2)
    | _ => True) (reg_ok (n := 29) (by decide +kernel)) ?_ ?_ ?_
  · intro i v W W2 h hb
    rcases (show i = 0 ∨ i = 1 ∨ i = 2 ∨ i = 3 ∨ i = 4 ∨ i = 5 ∨ i = 6 ∨ i = 7 ∨ i = 8 ∨ 9 ≤ i by omega) with rfl | rfl | rfl | rfl | rfl | rfl | rfl | rfl | rfl | hbig
    · exact h
    · exact h
    · exact Bnd.later h hb
    · exact h
    · exact Lst.later h hb
    · exact h
    · exact Lst.later h hb
    · exact h
    · exact h
    · match i, hbig with | k + 9, _ => exact trivial
  · intro i o ho b W hB hbase hdep K hK
    replace hK : Hid _ := hK
    have hlt : i < 9 := by have := (List.getElem?_eq_some_iff.1 ho).1; simpa using this
    have n7 : b.tmps[7]?.getD undef = .pointer (some ⟨pb, 0, none⟩) := (hbase 7 (by decide)).trans rfl
    have n2 : b.tmps[2]?.getD undef = .int .i64 fl := (hbase 2 (by decide)).trans rfl
    clear hbase
    rcases (show i = 0 ∨ i = 1 ∨ i = 2 ∨ i = 3 ∨ i = 4 ∨ i = 5 ∨ i = 6 ∨ i = 7 ∨ i = 8 by omega) with rfl | rfl | rfl | rfl | rfl | rfl | rfl | rfl | rfl
    · simp at ho
      subst ho
      clear hdep
      go_simp
      exact hK.out _ _ (Below.refl _ _) rfl
    · simp at ho
      subst ho
      have d0 := hdep ⟨0, .data⟩ (by simp) (by decide)
      replace d0 : (fun (v : Value) (W : World) => v = .pointer (some ⟨pb, 0, none⟩)) (b.tmps[12]?.getD undef) W := d0
      dsimp only at d0
      clear hdep
      have hc : W.cell? ⟨pb, 0, none⟩ = some (.int .i64 c) := (BY.out.1.old hB).cell rfl
      go_simp
      exact hK.out _ _ (Below.refl _ _) rfl
    · simp at ho
      subst ho
      clear hdep
      go_simp
      go_at_call 62
      refine (either_any (1000000000) (by omega) (by omega) _).mono ?_
      rintro e W2 ⟨v, rfl, hv, hb⟩
      exact hK.out _ _ hb hv
    · simp at ho
      subst ho
      clear hdep
      go_simp
      exact hK.out _ _ (Below.refl _ _) rfl
    · simp at ho
      subst ho
      have d3 := hdep ⟨3, .data⟩ (by simp) (by decide)
      replace d3 : (fun (v : Value) (W : World) => v = .int .i64 fl) (b.tmps[15]?.getD undef) W := d3
      dsimp only at d3
      clear hdep
      go_simp
      refine hK.out _ _ ((Below.refl _ _).alloc (Nat.le_refl _) _) ⟨_, rfl, fun i hi => ?_⟩
      rcases (show i = 0 by omega) with rfl <;> (go_simp; try rfl)
    · simp at ho
      subst ho
      have d2 := hdep ⟨2, .data⟩ (by simp) (by decide)
      replace d2 : (fun (v : Value) (W : World) => Bnd W v (-1000000000) (1000000000) 3) (b.tmps[14]?.getD undef) W := d2
      dsimp only at d2
      have d4 := hdep ⟨4, .data⟩ (by simp) (by decide)
      replace d4 : (fun (v : Value) (W : World) => Lst W v 1 (fun _ => fl)) (b.tmps[16]?.getD undef) W := d4
      dsimp only at d4
      clear hdep
      obtain ⟨lb, el, hl⟩ := d4
      have hr : RdRow W (.slice (some ⟨lb, 0, none⟩) 1 1) 1 (fun _ => fl) := Lst.rd ⟨lb, rfl, hl⟩
      clear hl
      obtain ⟨bv, hbv⟩ : ∃ v, v = b.tmps[14]?.getD undef := ⟨_, rfl⟩
      rw [← hbv] at d2
      replace hbv := hbv.symm
      go_simp
      go_at_call 63
      refine (fault_any d2 hr (by omega)).mono ?_
      rintro e W2 ⟨rfl, hb⟩
      exact hK.out _ _ hb rfl
    · simp at ho
      subst ho
      have d1 := hdep ⟨1, .data⟩ (by simp) (by decide)
      replace d1 : (fun (v : Value) (W : World) => v = .int .i64 c) (b.tmps[13]?.getD undef) W := d1
      dsimp only at d1
      have d5 := hdep ⟨5, .data⟩ (by simp) (by decide)
      replace d5 : (fun (v : Value) (W : World) => v = .int .i64 ((if Mt.all (fun k => Mt.inR fl (-1000000000) 1000000000) 1 then 0 else 3))) (b.tmps[17]?.getD undef) W := d5
      dsimp only at d5
      clear hdep
      go_simp
      refine hK.out _ _ ((Below.refl _ _).alloc (Nat.le_refl _) _) ⟨_, rfl, fun i hi => ?_⟩
      rcases (show i = 0 ∨ i = 1 by omega) with rfl | rfl <;> (go_simp; try rfl)
    · simp at ho
      subst ho
      have d6 := hdep ⟨6, .data⟩ (by simp) (by decide)
      replace d6 : (fun (v : Value) (W : World) => Lst W v 2 (Mt.at4 c (if Mt.all (fun k => Mt.inR fl (-1000000000) 1000000000) 1 then 0 else 3) 0 0)) (b.tmps[18]?.getD undef) W := d6
      dsimp only at d6
      clear hdep
      obtain ⟨lb, el, hl⟩ := d6
      have hr : RdRow W (.slice (some ⟨lb, 0, none⟩) 2 2) 2 (Mt.at4 c (if Mt.all (fun k => Mt.inR fl (-1000000000) 1000000000) 1 then 0 else 3) 0 0) := Lst.rd ⟨lb, rfl, hl⟩
      clear hl
      go_simp
      go_at_call 61
      refine (or_any hr (by omega)).mono ?_
      rintro e W2 ⟨rfl, hb⟩
      exact hK.out _ _ hb rfl
    · simp at ho
      subst ho
      have d7 := hdep ⟨7, .data⟩ (by simp) (by decide)
      replace d7 : (fun (v : Value) (W : World) => v = .int .i64 (Mt.fst (Mt.at4 c (if Mt.all (fun k => Mt.inR fl (-1000000000) 1000000000) 1 then 0 else 3) 0 0) 2)) (b.tmps[19]?.getD undef) W := d7
      dsimp only at d7
      clear hdep
      go_simp
      exact hK.out _ _ (Below.refl _ _) rfl
  · intro vs W hB hP
    have v8 := hP 8 (by decide)
    replace v8 : (fun (v : Value) (W : World) => v = .int .i64 (Mt.fst (Mt.at4 c (if Mt.all (fun k => Mt.inR fl (-1000000000) 1000000000) 1 then 0 else 3) 0 0) 2)) (vs 8) W := v8
    dsimp only at v8
    clear hP
    simp only [putD, Act.put, List.setIfInBounds_toArray, List.set_cons_succ, List.set_cons_zero, Nat.reduceAdd]
    rw [v8, HE.out]
    clear v8 HE
    have HB : Hid (Below X.heap.size X W ∧ Blk W pb #[.int .i64 c, .slice va vk vc, .int .i64 l, .int .i64 t] 26) := ⟨BY.out.2.trans (hB.mono BY.out.2.size), BY.out.1.old hB⟩
    clear hB
    by_cases hz : c = 0
    case neg =>
      obtain ⟨rfl, rfl⟩ := hC3.out hz
      have hzb : (q != 0) = true := by simpa using hz
      go_upto_region 4 with fail
      have r0 := (BX.out.1.old HB.out.1).cell (j := 0) (v := .int .i64 0) rfl
      have r1 := (BX.out.1.old HB.out.1).cell (j := 1) (v := .int .i64 0) rfl
      have rf := (BX.out.1.old HB.out.1).frozen
      have HBR : Hid (Blk ((W.setCell ⟨w.heap.size, 0, none⟩ (.int .i64 q)).setCell ⟨w.heap.size, 1, none⟩ (.int .i64 0)) w.heap.size #[.int .i64 q, .int .i64 0] 36 ∧ Below w.heap.size w ((W.setCell ⟨w.heap.size, 0, none⟩ (.int .i64 q)).setCell ⟨w.heap.size, 1, none⟩ (.int .i64 0))) := ⟨((BX.out.1.old HB.out.1).set 0 _ rfl).set 1 _ rfl, ((BX.out.2.trans (HB.out.1.mono (Nat.le_of_lt hX1))).setCell (Nat.le_refl _) _).setCell (Nat.le_refl _) _⟩
      go_wp2_with fail
      have s0 := HBR.out.1.cell (j := 0) (v := .int .i64 q) rfl
      have s1 := HBR.out.1.cell (j := 1) (v := .int .i64 0) rfl
      refine bodyPost_ret (v := .agg #[.int .i64 q, .int .i64 0]) ?_ rfl ⟨rfl, HBR.out.2⟩
      simp [results, Try.results23, go_sem, s0, s1]
    case pos =>
      subst hz
      cases hj : Mt.inR fl (-1000000000) 1000000000 with
      | false =>
        obtain ⟨rfl, rfl⟩ := hC1.out rfl hj
        go_upto_region 4 with fail
        have r0 := (BX.out.1.old HB.out.1).cell (j := 0) (v := .int .i64 0) rfl
        have r1 := (BX.out.1.old HB.out.1).cell (j := 1) (v := .int .i64 0) rfl
        have rf := (BX.out.1.old HB.out.1).frozen
        have HBR : Hid (Blk ((W.setCell ⟨w.heap.size, 0, none⟩ (.int .i64 3)).setCell ⟨w.heap.size, 1, none⟩ (.int .i64 0)) w.heap.size #[.int .i64 3, .int .i64 0] 36 ∧ Below w.heap.size w ((W.setCell ⟨w.heap.size, 0, none⟩ (.int .i64 3)).setCell ⟨w.heap.size, 1, none⟩ (.int .i64 0))) := ⟨((BX.out.1.old HB.out.1).set 0 _ rfl).set 1 _ rfl, ((BX.out.2.trans (HB.out.1.mono (Nat.le_of_lt hX1))).setCell (Nat.le_refl _) _).setCell (Nat.le_refl _) _⟩
        go_wp2_with fail
        have s0 := HBR.out.1.cell (j := 0) (v := .int .i64 3) rfl
        have s1 := HBR.out.1.cell (j := 1) (v := .int .i64 0) rfl
        refine bodyPost_ret (v := .agg #[.int .i64 3, .int .i64 0]) ?_ rfl ⟨rfl, HBR.out.2⟩
        simp [results, Try.results23, go_sem, s0, s1]
      | true =>
        obtain ⟨rfl, -, hwr⟩ := hC2.out rfl hj
        have e2 := HB.out.2.cell (j := 2) (v := .int .i64 l) rfl
        go_upto_region 5 with fail
        have r0 := (BX.out.1.old HB.out.1).cell (j := 0) (v := .int .i64 0) rfl
        have r1 := (BX.out.1.old HB.out.1).cell (j := 1) (v := .int .i64 0) rfl
        have rf := (BX.out.1.old HB.out.1).frozen
        have HBR : Hid (Blk ((W.setCell ⟨w.heap.size, 0, none⟩ (.int .i64 0)).setCell ⟨w.heap.size, 1, none⟩ (.int .i64 m)) w.heap.size #[.int .i64 0, .int .i64 m] 36 ∧ Below w.heap.size w ((W.setCell ⟨w.heap.size, 0, none⟩ (.int .i64 0)).setCell ⟨w.heap.size, 1, none⟩ (.int .i64 m))) := ⟨((BX.out.1.old HB.out.1).set 0 _ rfl).set 1 _ rfl, ((BX.out.2.trans (HB.out.1.mono (Nat.le_of_lt hX1))).setCell (Nat.le_refl _) _).setCell (Nat.le_refl _) _⟩
        go_wp2_with fail
        have s0 := HBR.out.1.cell (j := 0) (v := .int .i64 0) rfl
        have s1 := HBR.out.1.cell (j := 1) (v := .int .i64 m) rfl
        refine bodyPost_ret (v := .agg #[.int .i64 0, .int .i64 m]) ?_ rfl ⟨rfl, HBR.out.2⟩
        simp [results, Try.results23, go_sem, s0, s1]
end Go.Proofs.Ytelejihgechmgaa
