/- Where a hop that goes on leads: contract. -/
import Derived.Test.YtfpklfpcencimaaFq
import Derived.Test.YtfpklfpcencimaaLq
namespace Go.Proofs.Ytfpklfpcencimaa
open Go.RowKit Go.Conc
set_option linter.unusedVariables false
set_option linter.unusedSimpArgs false
/-- What a world keeps while a list grows: all old blocks but the list's own. -/
structure Sg (X : World) (vn : Value) (W : World) : Prop where
  size : X.heap.size ≤ W.heap.size
  block : ∀ k, k < X.heap.size → vn.ownBlock ≠ some k → W.heap[k]? = X.heap[k]?
theorem Sg.start (X : World) (vn : Value) : Sg X vn X := ⟨Nat.le_refl _, fun _ _ _ => rfl⟩
theorem Sg.drew {X W : World} {vn : Value} (h : Sg X vn W) : Sg X vn W.drew := ⟨h.size, h.block⟩
theorem Sg.call {X W W' : World} {vn : Value} (h : Sg X vn W) (hb : Below W.heap.size W W') : Sg X vn W' :=
  ⟨Nat.le_trans h.size hb.size, fun k h1 h3 => (hb.block k (Nat.lt_of_lt_of_le h1 h.size)).trans (h.block k h1 h3)⟩
theorem Sg.alloc {X W : World} {vn : Value} (h : Sg X vn W) (o : Obj) : Sg X vn (W.alloc o) := h.call ((Below.refl _ _).alloc (Nat.le_refl _) o)
theorem Sg.grown {X W W' : World} {vn : Value} {o : Obj} (h : Sg X vn W) (hg : (W.alloc o).grownBy W' vn.ownBlock) : Sg X vn W' := by
  have h1 := h.alloc o
  have hs := h1.size
  exact ⟨Nat.le_trans hs hg.size, fun k a c => (hg.block k (Nat.lt_of_lt_of_le a hs) (Ne.symm c)).trans (h1.block k a c)⟩
theorem Sg.cell {X W : World} {vn : Value} (h : Sg X vn W) {p : Addr} {v : Value} (hv : X.cell? p = some v) (h2 : vn.ownBlock ≠ some p.block) : W.cell? p = some v := by
  have hl := World.block_lt_of_cell? _ _ hv
  unfold World.cell? at hv ⊢
  rw [h.block _ hl h2]
  exact hv
set_option maxRecDepth 100000 in
set_option maxHeartbeats 32000000 in
theorem follow_go {w : World} {lo wb : Nat} {nodes slots : Int} {ao an ap : Option Addr} {nf cp cn cq : Nat} {c0 c1 c2 : Nat} {ns ps : List Int} {F : Nat → Fb} (n : Int) (i : Nat) (hR : ∀ W, Below lo w W → Rf W (.slice ao nf cp) nf F) (hnet : ∀ b off, 0 < nf → ao = some ⟨b, off, none⟩ → b < lo) (hin : i < nf) (hnl : ns.length ≤ 1048576) (hpl : ps.length ≤ 1048576) (h : Wb w lo wb nodes slots ao nf cp (.slice an ns.length cn) (.slice ap ps.length cq) c0 c1 c2 ns ps) (hlo : lo ≤ w.heap.size) :
    Calls Try.prog 44 #[.pointer (some ⟨wb, 0, none⟩), .agg #[.int .i64 1, .int .i64 n, .int .i64 i]] w fun e w' => e = .returned (.int .i64 0) ∧ (∃ vn vp, Wb w' lo wb nodes slots ao nf cp vn vp c0 c1 c2 (ns ++ [Nt.oth (F i) n]) (ps ++ [(i : Int)])) ∧ Below lo w w' := by
  obtain ⟨X, hX⟩ : ∃ X, X = w.alloc (.cells #[.int .i64 1, .int .i64 n, .int .i64 i] 70) := ⟨_, rfl⟩
  have BX : Hid (Blk X w.heap.size #[.int .i64 1, .int .i64 n, .int .i64 i] 70 ∧ Below w.heap.size w X) := by rw [hX]; exact ⟨Blk.new rfl, (Below.refl _ _).alloc (Nat.le_refl _) _⟩
  have hXz : w.heap.size < X.heap.size := BX.out.1.lt
  have HW : Hid (Wb X lo wb nodes slots ao nf cp (.slice an ns.length cn) (.slice ap ps.length cq) c0 c1 c2 ns ps) := h.later BX.out.2
  refine calls_of_loneTo fun cs => ?_
  have e : Frame.enter Try.prog 44 #[.pointer (some ⟨wb, 0, none⟩), .agg #[.int .i64 1, .int .i64 n, .int .i64 i]] .normal = (base 44).at ⟨#[.pointer (some ⟨wb, 0, none⟩), .agg #[.int .i64 1, .int .i64 n, .int .i64 i], undef, undef, undef, undef, undef, undef, undef, undef, undef, undef, undef, undef, undef, undef, undef, undef, undef, undef, undef, undef, undef, undef, undef, undef, undef, undef, undef, undef, undef, undef, undef, undef, undef, undef, undef, undef, undef, undef, undef, undef, undef, undef, undef, undef, undef, undef, undef, undef, undef, undef, undef, undef, undef, undef, undef, undef, undef, undef, undef, undef, undef, undef, undef, undef, undef, undef, undef, undef, undef, undef, undef, undef, undef, undef, undef, undef, undef, undef, undef, undef, undef, undef, undef, undef, undef, undef, undef, undef, undef, undef, undef, undef, undef, undef, undef, undef, undef, undef, undef, undef, undef], []⟩ [.code (Try.f44.body.getD .skip)] := by
    simp [Frame.enter, Frame.at, Try.func44, base, Try.f44]
    try rfl
  rw [e]
  clear e
  simp only [Try.f44, Option.getD_some]
  refine lone_seq ?_
  go_wp2_with fail
  rw [← hX]
  clear hX

  have z5 := HW.out.blk.cell (j := 5) (v := .chan (some c0)) rfl
  have z6 := HW.out.blk.cell (j := 6) (v := .chan (some c1)) rfl
  have z7 := HW.out.blk.cell (j := 7) (v := .chan (some c2)) rfl
  have y0 := BX.out.1.cell (j := 0) (v := .int .i64 1) rfl
  have y1 := BX.out.1.cell (j := 1) (v := .int .i64 n) rfl
  have y2 := BX.out.1.cell (j := 2) (v := .int .i64 i) rfl
  refine lone_seq ?_
  have HK : Hid (Chn X.drew c0) := by have h := HW.out.k0; exact h
  go_region_law (first | (go_simp; go_at_call 60; refine Calls.mono (put_go n i HK.out) ?_; rintro e w1 ⟨rfl, hS⟩))
  all_goals
    have hO := hS.okc
    obtain ⟨s0, r0, hcc⟩ := hS.chan
    have HO : Hid (Okc X w1 c0) := ⟨hO.os, hO.tape, hO.output, hO.size, hO.block⟩
    have hx1 : X.heap.size ≤ w1.heap.size := hO.size
    have BW : Hid (Blk w1 wb #[.int .i64 nodes, .int .i64 slots, .slice ao nf cp, .slice an ns.length cn, .slice ap ps.length cq, .chan (some c0), .chan (some c1), .chan (some c2)] 82) := HO.out.blk HW.out.blk (HW.out.blk.chanNe HW.out.k0)
    have z5 := BW.out.cell (j := 5) (v := .chan (some c0)) rfl
    have z6 := BW.out.cell (j := 6) (v := .chan (some c1)) rfl
    have z7 := BW.out.cell (j := 7) (v := .chan (some c2)) rfl
    have q1 : Chn w1 c1 := HO.out.chn HW.out.k1 (Ne.symm HW.out.d01)
    have q2 : Chn w1 c2 := HO.out.chn HW.out.k2 (Ne.symm HW.out.d02)
    obtain ⟨sa, ra, ha⟩ := q1
    obtain ⟨sb, rb, hb⟩ := q2
    have HE : Hid (w1.heap[c0]? = some (.chan 1 #[.agg #[.int .i64 1, .int .i64 n, .int .i64 i]] false s0 r0 false) ∧ w1.heap[c1]? = some (.chan 1 #[] false sa ra false) ∧ w1.heap[c2]? = some (.chan 1 #[] false sb rb false)) := ⟨hcc, ha, hb⟩
    clear hcc ha hb hO hS HK y0 y1 y2
    simp only [Exit.then]
    refine lone_seq ?_
    go_wp2_with fail
    refine LoneTo.goes (n := 20) ?_
    s_c stepG_seq
    s_reg
    s_stop
    refine LoneTo.step (sel3_0 (stepG_comm (cases := #[rcase c0 (.agg #[.int .i64 0, .int .i64 0, .int .i64 0]), rcase c1 (.agg #[.int .i64 0, .int .i64 0, .int .i64 0]), rcase c2 (.agg #[.int .i64 0, .int .i64 0, .int .i64 0])]) (blocking := true) (shape := .select) (w' := w1) rfl rfl (by decide) (by simp [go_sem, execOp, rcase, Act.eval])) HE.out.1 HE.out.2.1 HE.out.2.2) ?_
    rw [Frame.finish_at]
    walk_nrm
    refine LoneTo.goes (n := 10) ?_
    s_op
    s_op
    s_op
    s_op
    s_c stepG_region_end
    s_stop
    refine loneTo_wp Try.func44 rfl rfl (by rintro w' ⟨h, _⟩; cases h) ?_ cs
    obtain ⟨w2, hw2⟩ : ∃ W, W = w1.setChan c0 1 #[] false s0 (r0 + 1) false := ⟨_, rfl⟩
    have HO2 : Hid (Okc X w2 c0 ∧ Chn w2 c0) := by
      rw [hw2]
      exact ⟨HO.out.set, _, _, heap_setChan _ _ _ _ _ _ _ _ (Array.getElem?_eq_some_iff.1 HE.out.1).1⟩
    have HW2 : Hid (Wb w2 lo wb nodes slots ao nf cp (.slice an ns.length cn) (.slice ap ps.length cq) c0 c1 c2 ns ps ∧ Below lo w w2 ∧ Below w.heap.size w w2 = Below w.heap.size w w2) := by
      have hc := HW.out.k0
      refine ⟨{ HW.out with blk := HO2.out.1.blk HW.out.blk (HW.out.blk.chanNe hc), nl := HO2.out.1.ol HW.out.nl hc, pl := HO2.out.1.ol HW.out.pl hc, k0 := HO2.out.2, k1 := HO2.out.1.chn HW.out.k1 (Ne.symm HW.out.d01), k2 := HO2.out.1.chn HW.out.k2 (Ne.symm HW.out.d02) }, (BX.out.2.mono hlo).trans (HO2.out.1.below HW.out.l0 (by omega)), rfl⟩
    have hx2 : X.heap.size ≤ w2.heap.size := HO2.out.1.size
    first | rw [← hw2] | simp only [← hw2]
    clear hw2 z5 z6 z7
    go_upto_region 7 with fail
    obtain ⟨X7, hX7⟩ : ∃ W, W = w2.alloc (.cells #[.int .i64 1, .int .i64 n, .int .i64 i] 70) := ⟨_, rfl⟩
    have H7 : Hid (Wb X7 lo wb nodes slots ao nf cp (.slice an ns.length cn) (.slice ap ps.length cq) c0 c1 c2 ns ps ∧ Below lo w X7 ∧ Blk X7 w2.heap.size #[.int .i64 1, .int .i64 n, .int .i64 i] 70) := by
      rw [hX7]
      exact ⟨HW2.out.1.later ((Below.refl _ _).alloc (Nat.le_refl _) _), HW2.out.2.1.alloc (by omega) _, Blk.new rfl⟩
    have h27 : w2.heap.size < X7.heap.size := H7.out.2.2.lt
    rw [← hX7]
    clear hX7
    obtain ⟨b, off, rfl, hc⟩ := (hR X7 H7.out.2.1).at hin
    have HBN : Hid ((Value.slice an ns.length cn).ownBlock ≠ some b) := fun e => by have h1 := (H7.out.1.nl.lt b e).1; have h2 := hnet b off (by omega) rfl; omega
    obtain ⟨g, hg⟩ : ∃ g, g = F i := ⟨_, rfl⟩
    rw [← hg] at hc
    have f0 : X7.cell? ⟨b, off + i * 3, none⟩ = some (.int .i64 g.a) := hc 0 (by omega)
    have f1 : X7.cell? ⟨b, off + i * 3 + 1, none⟩ = some (.int .i64 g.b) := hc 1 (by omega)
    have f2 : X7.cell? ⟨b, off + i * 3 + 2, none⟩ = some (.int .i64 g.km) := hc 2 (by omega)
    have p2 := H7.out.1.blk.cell (j := 2) (v := .slice (some ⟨b, off, none⟩) nf cp) rfl
    have p3 := H7.out.1.blk.cell (j := 3) (v := .slice an ns.length cn) rfl
    have y1 := H7.out.2.2.cell (j := 1) (v := .int .i64 n) rfl
    have y2 := H7.out.2.2.cell (j := 2) (v := .int .i64 i) rfl
    have hne : w2.heap.size ≠ wb := by
      intro e
      have h1 := HW2.out.1.blk.lt
      omega
    clear hc
    obtain ⟨o, ho⟩ : ∃ o, o = Nt.oth g n := ⟨_, rfl⟩
    have HOO : Hid (o = Nt.oth (F i) n) := by rw [ho, hg]; rfl
    have HC53 : ∀ W, Calls Try.prog 53 #[.agg #[.int .i64 g.a, .int .i64 g.b, .int .i64 g.km], .int .i64 n] W fun e w' => e = .returned (.int .i64 o) ∧ Below W.heap.size W w' := fun W => by rw [ho]; exact iOth_any g n W
    clear ho hg
    have hlo7 : lo ≤ X7.heap.size := by have h1 := H7.out.2.1.size; omega
    clear z5 z6 z7
    go_cut [53] (fun v wx => ∃ an2 cn2, v = .slice an2 (ns.length + 1) cn2 ∧ Hid (Wb wx lo wb nodes slots (some ⟨b, off, none⟩) nf cp (.slice an2 (ns.length + 1) cn2) (.slice ap ps.length cq) c0 c1 c2 (ns ++ [o]) ps ∧ Below lo w wx ∧ Blk wx w2.heap.size #[.int .i64 1, .int .i64 n, .int .i64 i] 70))
    case first =>
      clear h HW HO BW HE HO2 HW2 BX hXz hx1 hx2 hR h27 hpl hlo HOO hnet
      have hgh : (Value.slice an ns.length cn).ownBlock ≠ some w2.heap.size := fun e => H7.out.1.nl.blkNe H7.out.2.2 (by decide) _ e rfl
      have hgw : (Value.slice an ns.length cn).ownBlock ≠ some wb := fun e => H7.out.1.nl.blkNe H7.out.1.blk (by decide) _ e rfl
      have F0 : ∀ W, Sg X7 (.slice an ns.length cn) W → W.cell? ⟨b, off + i * 3, none⟩ = some (.int .i64 g.a) := fun W h => h.cell f0 HBN.out
      have F1 : ∀ W, Sg X7 (.slice an ns.length cn) W → W.cell? ⟨b, off + i * 3 + 1, none⟩ = some (.int .i64 g.b) := fun W h => h.cell f1 HBN.out
      have F2 : ∀ W, Sg X7 (.slice an ns.length cn) W → W.cell? ⟨b, off + i * 3 + 2, none⟩ = some (.int .i64 g.km) := fun W h => h.cell f2 HBN.out
      have P2 : ∀ W, Sg X7 (.slice an ns.length cn) W → W.cell? ⟨wb, 2, none⟩ = some (.slice (some ⟨b, off, none⟩) nf cp) := fun W h => h.cell p2 hgw
      have P3 : ∀ W, Sg X7 (.slice an ns.length cn) W → W.cell? ⟨wb, 3, none⟩ = some (.slice an ns.length cn) := fun W h => h.cell p3 hgw
      have Y1 : ∀ W, Sg X7 (.slice an ns.length cn) W → W.cell? ⟨w2.heap.size, 1, none⟩ = some (.int .i64 n) := fun W h => h.cell y1 hgh
      have Y2 : ∀ W, Sg X7 (.slice an ns.length cn) W → W.cell? ⟨w2.heap.size, 2, none⟩ = some (.int .i64 i) := fun W h => h.cell y2 hgh
      have S1 : Sg X7 (.slice an ns.length cn) X7.drew := (Sg.start _ _).drew
      have hinI : (i : Int) < nf := by omega
      clear f0 f1 f2 p2 p3 y1 y2 hin
      refine wp_region_lastH (S := fun W => Sg X7 (.slice an ns.length cn) W) (by kernel_rfl) rfl rfl (lastC_of 3 (by kernel_rfl)) S1 (fun hH => ?_)
      refine wpAnyH_take (i := 0) (v := ?_) rfl (by kernel_rfl) (by kernel_rfl) (by kernel_rfl) (fun _ _ _ h => h) (Or.inl ⟨by rfl, ?_⟩) (by assumption) ?_
      rotate_left 1
      · intro W hSw
        (try dsimp only at hSw)
        go_simp
        all_goals (try with_reducible rfl)
      try simp only [Act.put, List.setIfInBounds_toArray, List.set_cons_zero, List.set_cons_succ]
      refine wpAnyH_take (i := 1) (v := ?_) rfl (by kernel_rfl) (by kernel_rfl) (by kernel_rfl) (fun _ _ _ h => h) (Or.inl ⟨by rfl, ?_⟩) (by assumption) ?_
      rotate_left 1
      · intro W hSw
        (try dsimp only at hSw)
        go_simp
        all_goals (try with_reducible rfl)
      try simp only [Act.put, List.setIfInBounds_toArray, List.set_cons_zero, List.set_cons_succ]
      refine wpAnyH_take (i := 2) (v := ?_) rfl (by kernel_rfl) (by kernel_rfl) (by kernel_rfl) (fun _ _ _ h => h) (Or.inl ⟨by rfl, ?_⟩) (by assumption) ?_
      rotate_left 1
      · intro W hSw
        (try dsimp only at hSw)
        go_simp
        all_goals (try with_reducible rfl)
      try simp only [Act.put, List.setIfInBounds_toArray, List.set_cons_zero, List.set_cons_succ]
      refine wpAnyH_take (i := 3) (v := ?_) rfl (by kernel_rfl) (by kernel_rfl) (by kernel_rfl) (fun _ _ _ h => h) (Or.inl ⟨by rfl, ?_⟩) (by assumption) ?_
      rotate_left 1
      · intro W hSw
        (try dsimp only at hSw)
        go_simp
        all_goals (try with_reducible rfl)
      try simp only [Act.put, List.setIfInBounds_toArray, List.set_cons_zero, List.set_cons_succ]
      refine wpAnyH_take (i := 4) (v := ?_) rfl (by kernel_rfl) (by kernel_rfl) (by kernel_rfl) (fun _ _ _ h => h) (Or.inl ⟨by rfl, ?_⟩) (by assumption) ?_
      rotate_left 1
      · intro W hSw
        (try dsimp only at hSw)
        go_simp
        all_goals (try with_reducible rfl)
      try simp only [Act.put, List.setIfInBounds_toArray, List.set_cons_zero, List.set_cons_succ]
      refine wpAnyH_take (i := 5) (v := ?_) rfl (by kernel_rfl) (by kernel_rfl) (by kernel_rfl) (fun _ _ _ h => h) (Or.inl ⟨by rfl, ?_⟩) (by assumption) ?_
      rotate_left 1
      · intro W hSw
        (try dsimp only at hSw)
        go_simp
        all_goals (try with_reducible rfl)
      try simp only [Act.put, List.setIfInBounds_toArray, List.set_cons_zero, List.set_cons_succ]
      refine wpAnyH_take (i := 6) (v := ?_) rfl (by kernel_rfl) (by kernel_rfl) (by kernel_rfl) (fun _ _ _ h => h) (Or.inl ⟨by rfl, ?_⟩) (by assumption) ?_
      rotate_left 1
      · intro W hSw
        (try dsimp only at hSw)
        go_simp
        all_goals (try with_reducible rfl)
      try simp only [Act.put, List.setIfInBounds_toArray, List.set_cons_zero, List.set_cons_succ]
      refine wpAnyH_take (i := 7) (v := ?_) rfl (by kernel_rfl) (by kernel_rfl) (by kernel_rfl) (fun _ _ _ h => h) (Or.inl ⟨by rfl, ?_⟩) (by assumption) ?_
      rotate_left 1
      · intro W hSw
        (try dsimp only at hSw)
        go_simp
        all_goals (try with_reducible rfl)
      try simp only [Act.put, List.setIfInBounds_toArray, List.set_cons_zero, List.set_cons_succ]
      refine wpAnyH_take (i := 8) (v := ?_) rfl (by kernel_rfl) (by kernel_rfl) (by kernel_rfl) (fun _ _ _ h => h) (Or.inl ⟨by rfl, ?_⟩) (by assumption) ?_
      rotate_left 1
      · intro W hSw
        (try dsimp only at hSw)
        go_simp
        all_goals (try with_reducible rfl)
      try simp only [Act.put, List.setIfInBounds_toArray, List.set_cons_zero, List.set_cons_succ]
      refine wpAnyH_take (i := 9) (v := ?_) rfl (by kernel_rfl) (by kernel_rfl) (by kernel_rfl) (fun _ _ _ h => h) (Or.inl ⟨by rfl, ?_⟩) (by assumption) ?_
      rotate_left 1
      · intro W hSw
        (try dsimp only at hSw)
        go_simp
        all_goals (try with_reducible rfl)
      try simp only [Act.put, List.setIfInBounds_toArray, List.set_cons_zero, List.set_cons_succ]
      refine wpAnyH_take (i := 10) (v := ?_) rfl (by kernel_rfl) (by kernel_rfl) (by kernel_rfl) (fun _ _ _ h => h) (Or.inl ⟨by rfl, ?_⟩) (by assumption) ?_
      rotate_left 1
      · intro W hSw
        (try dsimp only at hSw)
        go_simp
        all_goals (try with_reducible rfl)
      try simp only [Act.put, List.setIfInBounds_toArray, List.set_cons_zero, List.set_cons_succ]
      refine wpAnyH_take (i := 11) (v := ?_) rfl (by kernel_rfl) (by kernel_rfl) (by kernel_rfl) (fun _ _ _ h => h) (Or.inl ⟨by rfl, ?_⟩) (by assumption) ?_
      rotate_left 1
      · intro W hSw
        (try dsimp only at hSw)
        go_simp
        all_goals (try with_reducible rfl)
      try simp only [Act.put, List.setIfInBounds_toArray, List.set_cons_zero, List.set_cons_succ]
      refine wpAnyH_take (i := 12) (v := ?_) rfl (by kernel_rfl) (by kernel_rfl) (by kernel_rfl) (fun _ _ _ h => h) (Or.inl ⟨by rfl, ?_⟩) (by assumption) ?_
      rotate_left 1
      · intro W hSw
        (try dsimp only at hSw)
        go_simp
        all_goals (try with_reducible rfl)
      try simp only [Act.put, List.setIfInBounds_toArray, List.set_cons_zero, List.set_cons_succ]
      refine wpAnyH_take (i := 13) (v := ?_) rfl (by kernel_rfl) (by kernel_rfl) (by kernel_rfl) (fun _ _ _ h => h) (Or.inl ⟨by rfl, ?_⟩) (by assumption) ?_
      rotate_left 1
      · intro W hSw
        (try dsimp only at hSw)
        go_simp
        all_goals (try with_reducible rfl)
      try simp only [Act.put, List.setIfInBounds_toArray, List.set_cons_zero, List.set_cons_succ]
      refine wpAnyH_take (i := 14) (v := ?_) rfl (by kernel_rfl) (by kernel_rfl) (by kernel_rfl) (fun _ _ _ h => h) (Or.inl ⟨by rfl, ?_⟩) (by assumption) ?_
      rotate_left 1
      · intro W hSw
        (try dsimp only at hSw)
        go_simp
        all_goals (try with_reducible rfl)
      try simp only [Act.put, List.setIfInBounds_toArray, List.set_cons_zero, List.set_cons_succ]
      refine wpAnyH_take (i := 15) (v := ?_) rfl (by kernel_rfl) (by kernel_rfl) (by kernel_rfl) (fun _ _ _ h => h) (Or.inl ⟨by rfl, ?_⟩) (by assumption) ?_
      rotate_left 1
      · intro W hSw
        (try dsimp only at hSw)
        go_simp
        all_goals (try with_reducible rfl)
      try simp only [Act.put, List.setIfInBounds_toArray, List.set_cons_zero, List.set_cons_succ]
      refine wpAnyH_ready (rs := [16]) (by kernel_rfl) (by simp) ?_
      refine AllReadyH.cons rfl (fun K hK => ?_) AllReadyH.nil
      go_simp
      go_at_call 53
      refine Calls.mono (HC53 _) ?_
      rintro e wy ⟨rfl, hby⟩
      have hb7 : Below X7.heap.size X7 wy := (Below.refl _ X7).drew.trans hby
      have HY : Hid (Wb wy lo wb nodes slots (some ⟨b, off, none⟩) nf cp (.slice an ns.length cn) (.slice ap ps.length cq) c0 c1 c2 ns ps ∧ Below lo w wy ∧ Blk wy w2.heap.size #[.int .i64 1, .int .i64 n, .int .i64 i] 70) := ⟨H7.out.1.later hb7, H7.out.2.1.trans (hb7.mono hlo7), H7.out.2.2.old hb7⟩
      have hS1 : Sg X7 (.slice an ns.length cn) wy := (Sg.start _ _).call hb7
      have hly : lo ≤ wy.heap.size := Nat.le_trans hlo7 hb7.size
      clear hb7 hby
      go_wp2_with fail
      refine hK.out _ _ hS1 (fun hH2 => ?_)
      clear hK K
      try simp only [Act.put, List.setIfInBounds_toArray, List.set_cons_zero, List.set_cons_succ]
      refine wpAnyH_ready (rs := [17]) (by kernel_rfl) (by simp) ?_
      refine AllReadyH.cons rfl (fun K hK => ?_) AllReadyH.nil
      go_simp
      refine hK.out _ _ (Sg.alloc hS1 _) (fun hH3 => ?_)
      clear hK K
      try simp only [Act.put, List.setIfInBounds_toArray, List.set_cons_zero, List.set_cons_succ]
      refine wpAnyH_ready (rs := [18]) (by kernel_rfl) (by simp) ?_
      refine AllReadyH.cons rfl (fun K hK => ?_) AllReadyH.nil
      refine step_pushAt rfl (.tmp 39) (.tmp 52) 43 rfl Try.underlying43 wy o rfl lo (.slice an ns.length cn) ns (by simp [Act.eval]) HY.out.1.nl 1 (by simp [Act.eval]) (Nat.le_trans hnl (by decide)) hly ?_
      intro a4 c4 w4 ho4 hg4 hp4
      have hpn := push_nodes HY.out.1 hly ho4 hg4 hp4
      have HZ : Hid (Wb (w4.setCell ⟨wb, 3, none⟩ (.slice a4 (ns.length + 1) c4)) lo wb nodes slots (some ⟨b, off, none⟩) nf cp (.slice a4 (ns.length + 1) c4) (.slice ap ps.length cq) c0 c1 c2 (ns ++ [o]) ps ∧ Below lo w (w4.setCell ⟨wb, 3, none⟩ (.slice a4 (ns.length + 1) c4)) ∧ Blk (w4.setCell ⟨wb, 3, none⟩ (.slice a4 (ns.length + 1) c4)) w2.heap.size #[.int .i64 1, .int .i64 n, .int .i64 i] 70) := ⟨hpn.2.1, HY.out.2.1.trans hpn.2.2.1, hpn.2.2.2.1 _ _ _ (by decide) hne HY.out.2.2⟩
      have p3z := hpn.1.cell (j := 3) (v := (.slice an ns.length cn)) rfl
      have pf := hpn.1.frozen
      refine hK.out _ _ (Sg.grown hS1 hg4) (fun hH4 => ?_)
      clear hK K hpn ho4 hg4 hp4
      try simp only [Act.put, List.setIfInBounds_toArray, List.set_cons_zero, List.set_cons_succ]
      refine wpAnyH_take (i := 19) (v := ?_) rfl (by kernel_rfl) (by kernel_rfl) (by kernel_rfl) (fun _ _ _ h => h) (Or.inl ⟨by rfl, ?_⟩) (by assumption) ?_
      rotate_left 1
      · intro W hSw
        (try dsimp only at hSw)
        go_simp
        all_goals (try with_reducible rfl)
      try simp only [Act.put, List.setIfInBounds_toArray, List.set_cons_zero, List.set_cons_succ]
      refine wpAnyH_take (i := 20) (v := ?_) rfl (by kernel_rfl) (by kernel_rfl) (by kernel_rfl) (fun _ _ _ h => h) (Or.inl ⟨by rfl, ?_⟩) (by assumption) ?_
      rotate_left 1
      · intro W hSw
        (try dsimp only at hSw)
        go_simp
        all_goals (try with_reducible rfl)
      try simp only [Act.put, List.setIfInBounds_toArray, List.set_cons_zero, List.set_cons_succ]
      refine wpAnyH_done (by kernel_rfl) ?_ _
      simp only [Exit.then]
      go_wp2_with fail
      go_meet
      case rel => exact ⟨_, _, rfl, HZ⟩
    case rest =>
      obtain ⟨an2, cn2, rfl, H8⟩ := hcut
      have p4 := H8.out.1.blk.cell (j := 4) (v := .slice ap ps.length cq) rfl
      have y2 := H8.out.2.2.cell (j := 2) (v := .int .i64 i) rfl
      have wbl := H8.out.1.blk.lt
      have hl8 : lo ≤ wc.heap.size := by have h1 := H8.out.2.1.size; omega
      have HD8 : Hid (Wb wc.drew lo wb nodes slots (some ⟨b, off, none⟩) nf cp (.slice an2 (ns.length + 1) cn2) (.slice ap ps.length cq) c0 c1 c2 (ns ++ [o]) ps ∧ Below lo w wc.drew ∧ lo ≤ wc.drew.heap.size) := ⟨H8.out.1.later ((Below.refl _ _).drew), H8.out.2.1.drew, hl8⟩
      clear f0 f1 f2 p2 p3 y1
      go_upto_region 8 with fail
      go_cut [64] (fun v wx => ∃ ap2 cq2, v = .slice ap2 (ps.length + 1) cq2 ∧ Hid (Wb wx lo wb nodes slots (some ⟨b, off, none⟩) nf cp (.slice an2 (ns.length + 1) cn2) (.slice ap2 (ps.length + 1) cq2) c0 c1 c2 (ns ++ [o]) (ps ++ [(i : Int)]) ∧ Below lo w wx))
      case first =>
        go_region_law (first | (refine step_pushAt rfl (.tmp 60) (.tmp 63) 43 rfl Try.underlying43 wc.drew i rfl lo (.slice ap ps.length cq) ps (by simp [Act.eval]) H8.out.1.pl 1 (by simp [Act.eval]) (Nat.le_trans hpl (by decide)) hl8 ?_; intro a4 c4 w4 ho4 hg4 hp4; have hpn := push_path HD8.out.1 HD8.out.2.2 ho4 hg4 hp4; have HZ : Hid (Wb (w4.setCell ⟨wb, 4, none⟩ (.slice a4 (ps.length + 1) c4)) lo wb nodes slots (some ⟨b, off, none⟩) nf cp (.slice an2 (ns.length + 1) cn2) (.slice a4 (ps.length + 1) c4) c0 c1 c2 (ns ++ [o]) (ps ++ [(i : Int)]) ∧ Below lo w (w4.setCell ⟨wb, 4, none⟩ (.slice a4 (ps.length + 1) c4))) := ⟨hpn.2.1, HD8.out.2.1.trans hpn.2.2.1⟩; have p4 := hpn.1.cell (j := 4) (v := .slice ap ps.length cq) rfl; have pf := hpn.1.frozen; clear hpn ho4 hg4 hp4))
        all_goals
          go_wp2_with fail
          go_meet
          case rel => exact ⟨_, _, rfl, HZ⟩
      case rest =>
        obtain ⟨ap2, cq2, rfl, H9⟩ := hcut
        go_wp2
        go_ret
        exact ⟨rfl, ⟨_, _, by rw [← HOO.out]; exact H9.out.1⟩, H9.out.2⟩
end Go.Proofs.Ytfpklfpcencimaa
