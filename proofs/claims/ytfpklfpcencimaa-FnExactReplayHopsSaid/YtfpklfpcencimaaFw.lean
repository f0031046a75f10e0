/- Where a hop that goes back leads: contract. -/
import Derived.Test.YtfpklfpcencimaaFq
namespace Go.Proofs.Ytfpklfpcencimaa
open Go.RowKit Go.Conc
set_option linter.unusedVariables false
set_option linter.unusedSimpArgs false
set_option maxRecDepth 100000 in
set_option maxHeartbeats 3200000 in
theorem follow_back {w : World} {lo wb : Nat} {nodes slots : Int} {ao : Option Addr} {nf cp cn cq gn gp : Nat} {x y : Int} {c0 c1 c2 : Nat} {ns ps : List Int} {F : Nat → Fb} (n : Int) (i : Nat) (hi : i ≤ 1000000000) (hnl : ns.length ≤ 1048576) (hpl : ps.length ≤ 1048576) (hcn : ns.length + 1 ≤ cn) (hcq : ps.length + 1 ≤ cq) (h : Wb w lo wb nodes slots ao nf cp (.slice (some ⟨gn, 0, none⟩) (ns.length + 1) cn) (.slice (some ⟨gp, 0, none⟩) (ps.length + 1) cq) c0 c1 c2 (ns ++ [x]) (ps ++ [y])) (hlo : lo ≤ w.heap.size) :
    Calls Try.prog 44 #[.pointer (some ⟨wb, 0, none⟩), .agg #[.int .i64 5, .int .i64 n, .int .i64 i]] w fun e w' => e = .returned (.int .i64 ((i : Int) + 1)) ∧ (∃ va vb, Wb w' lo wb nodes slots ao nf cp va vb c0 c1 c2 ns ps) ∧ Below lo w w' := by
  obtain ⟨X, hX⟩ : ∃ X, X = w.alloc (.cells #[.int .i64 5, .int .i64 n, .int .i64 i] 70) := ⟨_, rfl⟩
  have BX : Hid (Blk X w.heap.size #[.int .i64 5, .int .i64 n, .int .i64 i] 70 ∧ Below w.heap.size w X) := by rw [hX]; exact ⟨Blk.new rfl, (Below.refl _ _).alloc (Nat.le_refl _) _⟩
  have hXz : w.heap.size < X.heap.size := BX.out.1.lt
  have HW : Hid (Wb X lo wb nodes slots ao nf cp (.slice (some ⟨gn, 0, none⟩) (ns.length + 1) cn) (.slice (some ⟨gp, 0, none⟩) (ps.length + 1) cq) c0 c1 c2 (ns ++ [x]) (ps ++ [y])) := h.later BX.out.2
  refine calls_of_loneTo fun cs => ?_
  have e : Frame.enter Try.prog 44 #[.pointer (some ⟨wb, 0, none⟩), .agg #[.int .i64 5, .int .i64 n, .int .i64 i]] .normal = (base 44).at ⟨#[.pointer (some ⟨wb, 0, none⟩), .agg #[.int .i64 5, .int .i64 n, .int .i64 i], undef, undef, undef, undef, undef, undef, undef, undef, undef, undef, undef, undef, undef, undef, undef, undef, undef, undef, undef, undef, undef, undef, undef, undef, undef, undef, undef, undef, undef, undef, undef, undef, undef, undef, undef, undef, undef, undef, undef, undef, undef, undef, undef, undef, undef, undef, undef, undef, undef, undef, undef, undef, undef, undef, undef, undef, undef, undef, undef, undef, undef, undef, undef, undef, undef, undef, undef, undef, undef, undef, undef, undef, undef, undef, undef, undef, undef, undef, undef, undef, undef, undef, undef, undef, undef, undef, undef, undef, undef, undef, undef, undef, undef, undef, undef, undef, undef, undef, undef, undef, undef], []⟩ [.code (Try.f44.body.getD .skip)] := by
    simp [Frame.enter, Frame.at, Try.func44, base, Try.f44]
    try rfl
  rw [e]
  clear e
  simp only [Try.f44, Option.getD_some]
  refine lone_seq ?_
  go_wp2_with fail
  rw [← hX]
  clear hX

  have z5 := HW.out.blk.cell (j := 5) (v := .chan (some c0)) rfl
  have z6 := HW.out.blk.cell (j := 6) (v := .chan (some c1)) rfl
  have z7 := HW.out.blk.cell (j := 7) (v := .chan (some c2)) rfl
  have y0 := BX.out.1.cell (j := 0) (v := .int .i64 5) rfl
  have y1 := BX.out.1.cell (j := 1) (v := .int .i64 n) rfl
  have y2 := BX.out.1.cell (j := 2) (v := .int .i64 i) rfl
  refine lone_seq ?_
  have HK : Hid (Chn X.drew c2) := by have h := HW.out.k2; exact h
  go_region_law (first | (go_simp; go_at_call 60; refine Calls.mono (put_back n i HK.out) ?_; rintro e w1 ⟨rfl, hS⟩))
  all_goals
    have hO := hS.okc
    obtain ⟨s0, r0, hcc⟩ := hS.chan
    have HO : Hid (Okc X w1 c2) := ⟨hO.os, hO.tape, hO.output, hO.size, hO.block⟩
    have hx1 : X.heap.size ≤ w1.heap.size := hO.size
    have BW : Hid (Blk w1 wb #[.int .i64 nodes, .int .i64 slots, .slice ao nf cp, .slice (some ⟨gn, 0, none⟩) (ns.length + 1) cn, .slice (some ⟨gp, 0, none⟩) (ps.length + 1) cq, .chan (some c0), .chan (some c1), .chan (some c2)] 82) := HO.out.blk HW.out.blk (HW.out.blk.chanNe HW.out.k2)
    have z5 := BW.out.cell (j := 5) (v := .chan (some c0)) rfl
    have z6 := BW.out.cell (j := 6) (v := .chan (some c1)) rfl
    have z7 := BW.out.cell (j := 7) (v := .chan (some c2)) rfl
    have q0 : Chn w1 c0 := HO.out.chn HW.out.k0 HW.out.d02
    have q1 : Chn w1 c1 := HO.out.chn HW.out.k1 HW.out.d12
    obtain ⟨sa, ra, ha⟩ := q0
    obtain ⟨sb, rb, hb⟩ := q1
    have HE : Hid (w1.heap[c2]? = some (.chan 1 #[.agg #[.int .i64 5, .int .i64 n, .int .i64 i]] false s0 r0 false) ∧ w1.heap[c0]? = some (.chan 1 #[] false sa ra false) ∧ w1.heap[c1]? = some (.chan 1 #[] false sb rb false)) := ⟨hcc, ha, hb⟩
    clear hcc ha hb hO hS HK y0 y1 y2
    simp only [Exit.then]
    refine lone_seq ?_
    go_wp2_with fail
    refine LoneTo.goes (n := 20) ?_
    s_c stepG_seq
    s_reg
    s_stop
    refine LoneTo.step (sel3_2 (stepG_comm (cases := #[rcase c0 (.agg #[.int .i64 0, .int .i64 0, .int .i64 0]), rcase c1 (.agg #[.int .i64 0, .int .i64 0, .int .i64 0]), rcase c2 (.agg #[.int .i64 0, .int .i64 0, .int .i64 0])]) (blocking := true) (shape := .select) (w' := w1) rfl rfl (by decide) (by simp [go_sem, execOp, rcase, Act.eval])) HE.out.2.1 HE.out.2.2 HE.out.1) ?_
    rw [Frame.finish_at]
    walk_nrm
    refine LoneTo.goes (n := 10) ?_
    s_op
    s_op
    s_op
    s_op
    s_c stepG_region_end
    s_stop
    refine loneTo_wp Try.func44 rfl rfl (by rintro w' ⟨h, _⟩; cases h) ?_ cs
    obtain ⟨w2, hw2⟩ : ∃ W, W = w1.setChan c2 1 #[] false s0 (r0 + 1) false := ⟨_, rfl⟩
    have HO2 : Hid (Okc X w2 c2 ∧ Chn w2 c2) := by
      rw [hw2]
      exact ⟨HO.out.set, _, _, heap_setChan _ _ _ _ _ _ _ _ (Array.getElem?_eq_some_iff.1 HE.out.1).1⟩
    have HW2 : Hid (Wb w2 lo wb nodes slots ao nf cp (.slice (some ⟨gn, 0, none⟩) (ns.length + 1) cn) (.slice (some ⟨gp, 0, none⟩) (ps.length + 1) cq) c0 c1 c2 (ns ++ [x]) (ps ++ [y]) ∧ Below lo w w2 ∧ Below w.heap.size w w2 = Below w.heap.size w w2) := by
      have hc := HW.out.k2
      refine ⟨{ HW.out with blk := HO2.out.1.blk HW.out.blk (HW.out.blk.chanNe hc), nl := HO2.out.1.ol HW.out.nl hc, pl := HO2.out.1.ol HW.out.pl hc, k2 := HO2.out.2, k0 := HO2.out.1.chn HW.out.k0 HW.out.d02, k1 := HO2.out.1.chn HW.out.k1 HW.out.d12 }, (BX.out.2.mono hlo).trans (HO2.out.1.below HW.out.l2 (by omega)), rfl⟩
    have hx2 : X.heap.size ≤ w2.heap.size := HO2.out.1.size
    first | rw [← hw2] | simp only [← hw2]
    clear hw2 z5 z6 z7
    go_upto_region 13 with fail
    obtain ⟨X7, hX7⟩ : ∃ W, W = w2.alloc (.cells #[.int .i64 5, .int .i64 n, .int .i64 i] 70) := ⟨_, rfl⟩
    have H7 : Hid (Wb X7.drew lo wb nodes slots ao nf cp (.slice (some ⟨gn, 0, none⟩) (ns.length + 1) cn) (.slice (some ⟨gp, 0, none⟩) (ps.length + 1) cq) c0 c1 c2 (ns ++ [x]) (ps ++ [y]) ∧ Below lo w X7.drew ∧ Blk X7.drew w2.heap.size #[.int .i64 5, .int .i64 n, .int .i64 i] 70) := by
      rw [hX7]
      exact ⟨HW2.out.1.later ((Below.refl _ _).alloc (Nat.le_refl _) _).drew, (HW2.out.2.1.alloc (by omega) _).drew, (Blk.new rfl).drew⟩
    have h27 : w2.heap.size < X7.heap.size := H7.out.2.2.lt
    rw [← hX7]
    clear hX7
    have p3 : X7.cell? ⟨wb, 3, none⟩ = some (.slice (some ⟨gn, 0, none⟩) (ns.length + 1) cn) := H7.out.1.blk.cell (j := 3) rfl
    have pf : ∀ j, X7.frozen? ⟨wb, j, none⟩ = false := H7.out.1.blk.frozen
    have wbl : wb < X7.heap.size := H7.out.1.blk.lt
    have hne : w2.heap.size ≠ wb := by
      intro e
      have h1 := HW2.out.1.blk.lt
      omega
    have hnI : (ns.length : Int) ≤ 1048576 := by omega
    have hpI : (ps.length : Int) ≤ 1048576 := by omega
    clear z5 z6 z7
    go_cut [83] (fun v wx => v = .slice (some ⟨gn, 0, none⟩) ns.length cn ∧ Hid (Wb wx lo wb nodes slots ao nf cp (.slice (some ⟨gn, 0, none⟩) ns.length cn) (.slice (some ⟨gp, 0, none⟩) (ps.length + 1) cq) c0 c1 c2 ns (ps ++ [y]) ∧ Below lo w wx ∧ Blk wx w2.heap.size #[.int .i64 5, .int .i64 n, .int .i64 i] 70))
    case first =>
      have hpn := pop_nodes H7.out.1
      have HZ : Hid (Wb (X7.drew.setCell ⟨wb, 3, none⟩ (.slice (some ⟨gn, 0, none⟩) ns.length cn)) lo wb nodes slots ao nf cp (.slice (some ⟨gn, 0, none⟩) ns.length cn) (.slice (some ⟨gp, 0, none⟩) (ps.length + 1) cq) c0 c1 c2 ns (ps ++ [y]) ∧ Below lo w (X7.drew.setCell ⟨wb, 3, none⟩ (.slice (some ⟨gn, 0, none⟩) ns.length cn)) ∧ Blk (X7.drew.setCell ⟨wb, 3, none⟩ (.slice (some ⟨gn, 0, none⟩) ns.length cn)) w2.heap.size #[.int .i64 5, .int .i64 n, .int .i64 i] 70) := ⟨hpn.1, H7.out.2.1.trans hpn.2.1, hpn.2.2 _ _ _ hne H7.out.2.2⟩
      clear hpn
      go_region
      all_goals
        go_wp2_with fail
        go_meet
        case rel => exact ⟨rfl, HZ⟩
    case rest =>
      obtain ⟨rfl, H8⟩ := hcut
      have H8d : Hid (Wb wc.drew lo wb nodes slots ao nf cp (.slice (some ⟨gn, 0, none⟩) ns.length cn) (.slice (some ⟨gp, 0, none⟩) (ps.length + 1) cq) c0 c1 c2 ns (ps ++ [y]) ∧ Below lo w wc.drew ∧ Blk wc.drew w2.heap.size #[.int .i64 5, .int .i64 n, .int .i64 i] 70) := ⟨H8.out.1.later (Below.refl _ _).drew, H8.out.2.1.drew, H8.out.2.2.drew⟩
      have p4 : wc.cell? ⟨wb, 4, none⟩ = some (.slice (some ⟨gp, 0, none⟩) (ps.length + 1) cq) := H8.out.1.blk.cell (j := 4) rfl
      have pf : ∀ j, wc.frozen? ⟨wb, j, none⟩ = false := H8.out.1.blk.frozen
      have wbl : wb < wc.heap.size := H8.out.1.blk.lt
      go_upto_region 14 with fail
      go_cut [97] (fun v wx => v = .slice (some ⟨gp, 0, none⟩) ps.length cq ∧ Hid (Wb wx lo wb nodes slots ao nf cp (.slice (some ⟨gn, 0, none⟩) ns.length cn) (.slice (some ⟨gp, 0, none⟩) ps.length cq) c0 c1 c2 ns ps ∧ Below lo w wx ∧ Blk wx w2.heap.size #[.int .i64 5, .int .i64 n, .int .i64 i] 70))
      case first =>
        have hpn := pop_path H8d.out.1
        have HZ : Hid (Wb (wc.drew.setCell ⟨wb, 4, none⟩ (.slice (some ⟨gp, 0, none⟩) ps.length cq)) lo wb nodes slots ao nf cp (.slice (some ⟨gn, 0, none⟩) ns.length cn) (.slice (some ⟨gp, 0, none⟩) ps.length cq) c0 c1 c2 ns ps ∧ Below lo w (wc.drew.setCell ⟨wb, 4, none⟩ (.slice (some ⟨gp, 0, none⟩) ps.length cq)) ∧ Blk (wc.drew.setCell ⟨wb, 4, none⟩ (.slice (some ⟨gp, 0, none⟩) ps.length cq)) w2.heap.size #[.int .i64 5, .int .i64 n, .int .i64 i] 70) := ⟨hpn.1, H8d.out.2.1.trans hpn.2.1, hpn.2.2 _ _ _ hne H8d.out.2.2⟩
        clear hpn
        go_region
        all_goals
          go_wp2_with fail
          go_meet
          case rel => exact ⟨rfl, HZ⟩
      case rest =>
        obtain ⟨rfl, H9⟩ := hcut
        have y2 := H9.out.2.2.cell (j := 2) (v := .int .i64 i) rfl
        have hiI : (i : Int) ≤ 1000000000 := by omega
        clear p4 pf wbl p3
        go_wp2
        go_ret
        exact ⟨rfl, ⟨_, _, H9.out.1⟩, H9.out.2.1⟩
end Go.Proofs.Ytfpklfpcencimaa
