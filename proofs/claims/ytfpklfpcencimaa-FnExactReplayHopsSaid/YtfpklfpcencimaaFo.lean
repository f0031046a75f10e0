/- Where a hop leads: contracts. -/
import Derived.Test.YtfpklfpcencimaaWl
import Derived.Deep.RegionLaw
import Derived.Maps.AppendAt
import Derived.Deep.DeepCutAuto
namespace Go.Proofs.Ytfpklfpcencimaa
open Go.RowKit Go.Conc
set_option linter.unusedVariables false
set_option linter.unusedSimpArgs false
/-- A statement is walked in the plain way, the next one stands behind it. -/
theorem lone_seq {P : Program} {Q : Goroutine → World → Prop} {A B : Code} {b : Frame} {a : Act} {k : List Item} {cs : List Frame} {w : World}
    (h : A.wp P (Exit.then (fun a' w' => LoneTo P Q (G (b.at a' (.code B :: k)) cs) w') (fun _ _ _ => False)) a w) : LoneTo P Q (G (b.at a (.code (.seq A B) :: k)) cs) w := by
  obtain ⟨e, a', w', hq, harr⟩ := h b (.code B :: k) cs
  cases e with
  | normal => ?_
  | exit id => exact hq.elim
  | goto l => exact hq.elim
  | ret => exact hq.elim
  | panic c => exact hq.elim
  | outgrown => exact hq.elim
  obtain ⟨g', w'', hs, hq⟩ := hq
  exact LoneTo.step (step_solo_go rfl stepG_seq) ⟨g', w'', Steps.trans harr hs, hq⟩
theorem Blk.grownBy {w w' : World} {b : Nat} {cs : Array Value} {t : TypeId} {row : Option Nat} (h : Blk w b cs t) (hg : w.grownBy w' row) (hr : ∀ g, row = some g → g ≠ b) : Blk w' b cs t :=
  (hg.block b h.lt fun e => hr b e.symm rfl).trans h
theorem Ol.blkNe {w : World} {lo b : Nat} {v : Value} {xs : List Int} {cs : Array Value} {t : TypeId} (h : Ol w lo v xs) (hb : Blk w b cs t) (ht : t ≠ 2) : ∀ g, v.ownBlock = some g → g ≠ b := by
  intro g hg
  obtain ⟨_, ⟨rfl, _⟩ | ⟨g', cap, cur, rfl, _, hh, _⟩⟩ := h
  · simp [Value.ownBlock] at hg
  · simp [Value.ownBlock] at hg
    subst hg
    rintro rfl
    unfold Blk at hb
    rw [hh] at hb
    simp at hb
    exact ht hb.2.symm
/-- 'append(row, x)' as one step of a region that draws its order; the place of the new row is told, too. -/
theorem step_pushAt {ops : Array Oper} {o : Oper} {a : Act} {K : Act → World → Prop} {Q : Exit → Act → World → Prop} {E : Prop} (hg : o.guard = none) (s x : Operand) (t : TypeId)
    (hop : o.op = Op.call { callee := Callee.builtin Builtin.append, args := #[s, x], argTypes := #[t, t] }) (ht : Try.prog.underlying t = some (.slice 2)) {W : World} (w : World) (u : Int) (hW : W = w.alloc (.cells #[.int .i64 u] 2))
    (lo : Nat) (v : Value) (xs : List Int) (hs : a.eval s = v) (hown : Ol w lo v xs) (c : Nat) (hx : a.eval x = .slice (some ⟨w.heap.size, 0, none⟩) 1 c) (hn : xs.length ≤ 2000000) (hbase : lo ≤ w.heap.size)
    (hK : ∀ ao cap w', Ol w' lo (.slice ao (xs.length + 1) cap) (xs ++ [u]) → (w.alloc (.cells #[.int .i64 u] 2)).grownBy w' v.ownBlock → ((Value.slice ao (xs.length + 1) cap).ownBlock = v.ownBlock ∨ (Value.slice ao (xs.length + 1) cap).ownBlock = some (w.heap.size + 1)) → K (a.put o.dst (.slice ao (xs.length + 1) cap)) w') :
    if Region.wanted o (yielded ops a.tmps) = true then Oper.wp Try.prog o a W K Q else E := by
  subst hW
  have hw : Region.wanted o (yielded ops a.tmps) = true := by simp [Region.wanted, hg]
  rw [if_pos hw]
  obtain ⟨i, h1, h2, h3, h4⟩ := info_parts info2
  obtain ⟨v', w', hrun, r1, r2, _, r4⟩ := run_append_own_at (P := Try.prog) (w.alloc (.cells #[.int .i64 u] 2)) lo t o.type 2 i (.int .i64 0) 1 8 ht h1 h2 h3 h4 rfl (by decide) v xs.length (ints xs) (hown.alloc _) ⟨w.heap.size, 0, none⟩ 1 c [.int .i64 u] rfl (cell_one_new w (.int .i64 u) 2)
    (by intro y hy; simp at hy; subst hy; rfl) (by unfold maxLen; omega) (by omega) (by simp; omega)
  have e : Ol w' lo v' (xs ++ [u]) := by show w'.ownsRow lo 2 1 v' (xs ++ [u]).length (ints (xs ++ [u])); rw [ints_snoc, List.length_append]; exact r1
  obtain ⟨ao, cap, rfl, _⟩ := e.form
  unfold Oper.wp
  simp [execOp, hop, resolve, invoke, builtin, hs, hx, hrun, Result.andThen]
  have hl : (xs ++ [u]).length = xs.length + 1 := by simp
  rw [hl] at e r4 hrun
  refine hK ao cap w' e r2 ?_
  rcases r4 with h | h
  · exact Or.inl h
  · exact Or.inr (by rw [h]; simp)
theorem setChan_other {w : World} {c k cap : Nat} {buf : Array Value} {cl tm : Bool} {s r : Nat} (h : k ≠ c) : (w.setChan c cap buf cl s r tm).heap[k]? = w.heap[k]? := by
  simp only [World.setChan]
  rw [Array.getElem?_setIfInBounds_ne (by omega)]
theorem Blk.chanNe {w : World} {b c : Nat} {cs : Array Value} {t : TypeId} (h : Blk w b cs t) (hc : Chn w c) : b ≠ c := by
  obtain ⟨s, r, hc⟩ := hc
  rintro rfl
  unfold Blk at h
  rw [h] at hc
  simp at hc
theorem Ol.ownNe {w : World} {lo c : Nat} {v : Value} {xs : List Int} (h : Ol w lo v xs) (hc : Chn w c) : ∀ g, v.ownBlock = some g → g ≠ c := by
  intro g hg
  obtain ⟨s, r, hc⟩ := hc
  obtain ⟨_, ⟨rfl, _⟩ | ⟨g', cap, cur, rfl, _, hh, _⟩⟩ := h
  · simp [Value.ownBlock] at hg
  · simp [Value.ownBlock] at hg
    subst hg
    rintro rfl
    rw [hh] at hc
    simp at hc
/-- All but the channel c is as it was, and what is new. -/
structure Okc (w w' : World) (c : Nat) : Prop where
  os : w'.os = w.os
  tape : w'.tape = w.tape
  output : w'.output = w.output
  size : w.heap.size ≤ w'.heap.size
  block : ∀ k, k < w.heap.size → k ≠ c → w'.heap[k]? = w.heap[k]?
theorem Sent.okc {w w' : World} {c : Nat} {v : Value} (h : Sent w w' c v) : Okc w w' c := by
  obtain ⟨W, s, r, hb, hc, rfl⟩ := h
  exact ⟨hb.os, hb.tape, hb.output, by rw [size_setChan]; exact hb.size, fun k hk hn => by rw [setChan_other hn]; exact hb.block k hk⟩
theorem Sent.chan {w w' : World} {c : Nat} {v : Value} (h : Sent w w' c v) : ∃ s r, w'.heap[c]? = some (.chan 1 #[v] false s r false) := by
  obtain ⟨W, s, r, hb, hc, rfl⟩ := h
  exact ⟨_, _, heap_setChan _ _ _ _ _ _ _ _ (Array.getElem?_eq_some_iff.1 hc).1⟩
theorem Okc.set {w w' : World} {c cap : Nat} {buf : Array Value} {cl tm : Bool} {s r : Nat} (h : Okc w w' c) : Okc w (w'.setChan c cap buf cl s r tm) c :=
  ⟨h.os, h.tape, h.output, by rw [size_setChan]; exact h.size, fun k hk hn => by rw [setChan_other hn]; exact h.block k hk hn⟩
theorem Okc.blk {w w' : World} {b c : Nat} {cs : Array Value} {t : TypeId} (h : Okc w w' c) (hb : Blk w b cs t) (hn : b ≠ c) : Blk w' b cs t := (h.block b hb.lt hn).trans hb
theorem Okc.chn {w w' : World} {c d : Nat} (h : Okc w w' c) (hd : Chn w d) (hn : d ≠ c) : Chn w' d := by
  obtain ⟨s, r, hd⟩ := hd
  exact ⟨s, r, (h.block d (Array.getElem?_eq_some_iff.1 hd).1 hn).trans hd⟩
theorem Okc.ol {w w' : World} {lo c : Nat} {v : Value} {xs : List Int} (h : Okc w w' c) (ho : Ol w lo v xs) (hc : Chn w c) : Ol w' lo v xs :=
  ho.keepOn fun k hk => h.block k (ho.lt k hk).2 (ho.ownNe hc k hk)
theorem Okc.below {w w' : World} {c lo : Nat} (h : Okc w w' c) (h1 : lo ≤ c) (h2 : lo ≤ w.heap.size) : Below lo w w' := ⟨h.os, h.tape, h.output, h.size, fun k hk => h.block k (by omega) (by omega)⟩
set_option maxRecDepth 100000 in
set_option maxHeartbeats 3200000 in
theorem follow_stay {w : World} {lo wb : Nat} {nodes slots : Int} {ao : Option Addr} {nf cp : Nat} {vn vp : Value} {c0 c1 c2 : Nat} {ns ps : List Int} {F : Nat → Fb} (k : Int) (n f : Int) (h1 : (k == 1) = false) (h5 : (k == 5) = false) (h6 : 0 ≤ f ∧ f ≤ 1000000000) (h : Wb w lo wb nodes slots ao nf cp vn vp c0 c1 c2 ns ps) (hlo : lo ≤ w.heap.size) :
    Calls Try.prog 44 #[.pointer (some ⟨wb, 0, none⟩), .agg #[.int .i64 k, .int .i64 n, .int .i64 f]] w fun e w' => e = .returned (.int .i64 (f + 1)) ∧ Wb w' lo wb nodes slots ao nf cp vn vp c0 c1 c2 ns ps ∧ Below lo w w' := by
  obtain ⟨X, hX⟩ : ∃ X, X = w.alloc (.cells #[.int .i64 k, .int .i64 n, .int .i64 f] 70) := ⟨_, rfl⟩
  have BX : Hid (Blk X w.heap.size #[.int .i64 k, .int .i64 n, .int .i64 f] 70 ∧ Below w.heap.size w X) := by rw [hX]; exact ⟨Blk.new rfl, (Below.refl _ _).alloc (Nat.le_refl _) _⟩
  have hXz : w.heap.size < X.heap.size := BX.out.1.lt
  have HW : Hid (Wb X lo wb nodes slots ao nf cp vn vp c0 c1 c2 ns ps) := h.later BX.out.2
  refine calls_of_loneTo fun cs => ?_
  have e : Frame.enter Try.prog 44 #[.pointer (some ⟨wb, 0, none⟩), .agg #[.int .i64 k, .int .i64 n, .int .i64 f]] .normal = (base 44).at ⟨#[.pointer (some ⟨wb, 0, none⟩), .agg #[.int .i64 k, .int .i64 n, .int .i64 f], undef, undef, undef, undef, undef, undef, undef, undef, undef, undef, undef, undef, undef, undef, undef, undef, undef, undef, undef, undef, undef, undef, undef, undef, undef, undef, undef, undef, undef, undef, undef, undef, undef, undef, undef, undef, undef, undef, undef, undef, undef, undef, undef, undef, undef, undef, undef, undef, undef, undef, undef, undef, undef, undef, undef, undef, undef, undef, undef, undef, undef, undef, undef, undef, undef, undef, undef, undef, undef, undef, undef, undef, undef, undef, undef, undef, undef, undef, undef, undef, undef, undef, undef, undef, undef, undef, undef, undef, undef, undef, undef, undef, undef, undef, undef, undef, undef, undef, undef, undef, undef], []⟩ [.code (Try.f44.body.getD .skip)] := by
    simp [Frame.enter, Frame.at, Try.func44, base, Try.f44]
    try rfl
  rw [e]
  clear e
  simp only [Try.f44, Option.getD_some]
  refine lone_seq ?_
  go_wp2_with fail
  rw [← hX]
  clear hX

  have z5 := HW.out.blk.cell (j := 5) (v := .chan (some c0)) rfl
  have z6 := HW.out.blk.cell (j := 6) (v := .chan (some c1)) rfl
  have z7 := HW.out.blk.cell (j := 7) (v := .chan (some c2)) rfl
  have y0 := BX.out.1.cell (j := 0) (v := .int .i64 k) rfl
  have y1 := BX.out.1.cell (j := 1) (v := .int .i64 n) rfl
  have y2 := BX.out.1.cell (j := 2) (v := .int .i64 f) rfl
  refine lone_seq ?_
  have HK : Hid (Chn X.drew c1) := by have h := HW.out.k1; exact h
  go_region_law (first | (go_simp; go_at_call 60; refine Calls.mono (put_stay k n f h1 h5 HK.out) ?_; rintro e w1 ⟨rfl, hS⟩))
  all_goals
    have hO := hS.okc
    obtain ⟨s0, r0, hcc⟩ := hS.chan
    have HO : Hid (Okc X w1 c1) := ⟨hO.os, hO.tape, hO.output, hO.size, hO.block⟩
    have hx1 : X.heap.size ≤ w1.heap.size := hO.size
    have BW : Hid (Blk w1 wb #[.int .i64 nodes, .int .i64 slots, .slice ao nf cp, vn, vp, .chan (some c0), .chan (some c1), .chan (some c2)] 82) := HO.out.blk HW.out.blk (HW.out.blk.chanNe HW.out.k1)
    have z5 := BW.out.cell (j := 5) (v := .chan (some c0)) rfl
    have z6 := BW.out.cell (j := 6) (v := .chan (some c1)) rfl
    have z7 := BW.out.cell (j := 7) (v := .chan (some c2)) rfl
    have q0 : Chn w1 c0 := HO.out.chn HW.out.k0 HW.out.d01
    have q2 : Chn w1 c2 := HO.out.chn HW.out.k2 (Ne.symm HW.out.d12)
    obtain ⟨sa, ra, ha⟩ := q0
    obtain ⟨sb, rb, hb⟩ := q2
    have HE : Hid (w1.heap[c1]? = some (.chan 1 #[.agg #[.int .i64 k, .int .i64 n, .int .i64 f]] false s0 r0 false) ∧ w1.heap[c0]? = some (.chan 1 #[] false sa ra false) ∧ w1.heap[c2]? = some (.chan 1 #[] false sb rb false)) := ⟨hcc, ha, hb⟩
    clear hcc ha hb hO hS HK y0 y1 y2
    simp only [Exit.then]
    refine lone_seq ?_
    go_wp2_with fail
    refine LoneTo.goes (n := 20) ?_
    s_c stepG_seq
    s_reg
    s_stop
    refine LoneTo.step (sel3_1 (stepG_comm (cases := #[rcase c0 (.agg #[.int .i64 0, .int .i64 0, .int .i64 0]), rcase c1 (.agg #[.int .i64 0, .int .i64 0, .int .i64 0]), rcase c2 (.agg #[.int .i64 0, .int .i64 0, .int .i64 0])]) (blocking := true) (shape := .select) (w' := w1) rfl rfl (by decide) (by simp [go_sem, execOp, rcase, Act.eval])) HE.out.2.1 HE.out.1 HE.out.2.2) ?_
    rw [Frame.finish_at]
    walk_nrm
    refine LoneTo.goes (n := 10) ?_
    s_op
    s_op
    s_op
    s_op
    s_c stepG_region_end
    s_stop
    refine loneTo_wp Try.func44 rfl rfl (by rintro w' ⟨h, _⟩; cases h) ?_ cs
    obtain ⟨w2, hw2⟩ : ∃ W, W = w1.setChan c1 1 #[] false s0 (r0 + 1) false := ⟨_, rfl⟩
    have HO2 : Hid (Okc X w2 c1 ∧ Chn w2 c1) := by
      rw [hw2]
      exact ⟨HO.out.set, _, _, heap_setChan _ _ _ _ _ _ _ _ (Array.getElem?_eq_some_iff.1 HE.out.1).1⟩
    have HW2 : Hid (Wb w2 lo wb nodes slots ao nf cp vn vp c0 c1 c2 ns ps ∧ Below lo w w2 ∧ Below w.heap.size w w2 = Below w.heap.size w w2) := by
      have hc := HW.out.k1
      refine ⟨{ HW.out with blk := HO2.out.1.blk HW.out.blk (HW.out.blk.chanNe hc), nl := HO2.out.1.ol HW.out.nl hc, pl := HO2.out.1.ol HW.out.pl hc, k1 := HO2.out.2, k0 := HO2.out.1.chn HW.out.k0 HW.out.d01, k2 := HO2.out.1.chn HW.out.k2 (Ne.symm HW.out.d12) }, (BX.out.2.mono hlo).trans (HO2.out.1.below HW.out.l1 (by omega)), rfl⟩
    have hx2 : X.heap.size ≤ w2.heap.size := HO2.out.1.size
    first | rw [← hw2] | simp only [← hw2]
    clear hw2 z5 z6 z7
    go_wp2_with fail
    go_ret
    exact ⟨rfl, HW2.out.1.later ((Below.refl _ _).alloc (Nat.le_refl _) _), HW2.out.2.1.alloc (by omega) _⟩
end Go.Proofs.Ytfpklfpcencimaa
