/- The union joins, by the program: a contract. -/
import Derived.Test.YtclnmikneomccaaEr
import Derived.Test.YtclnmikneomccaaFu
import Derived.Test.YtclnmikneomccaaRu
import Derived.Test.YtclnmikneomccaaLo
import Derived.Laws.StructEq
namespace Go.Proofs.Ytclnmikneomccaa
open Go.RowKit Go.Maps
set_option linter.unusedVariables false
set_option linter.unusedSimpArgs false
/-- All but block b is as it was. -/
structure Onb (b : Nat) (w w' : World) : Prop where
  be : Below (min b w.heap.size) w w'
  same : ∀ k, k < w.heap.size → k ≠ b → w'.heap[k]? = w.heap[k]?
theorem Onb.of {b : Nat} {w w' : World} (h : Below w.heap.size w w') : Onb b w w' := ⟨h.mono (by omega), fun k hk _ => h.block k hk⟩
theorem Onb.trans {b : Nat} {w v u : World} (h : Onb b w v) (k : Onb b v u) : Onb b w u :=
  ⟨h.be.trans (k.be.mono (by have := h.be.size; omega)), fun i hi hn => (k.same i (by have := h.be.size; omega) hn).trans (h.same i hi hn)⟩
theorem Onb.grown {b : Nat} {w w' : World} (h : w.grownBy w' (some b)) (hb : b < w.heap.size) : Onb b w w' :=
  ⟨(Below.refl _ _).grown h (by omega) fun g hg => by simp only [Option.some.injEq] at hg; omega, fun k hk hn => h.block k hk (by simpa using hn)⟩
theorem Onb.blk {b g : Nat} {w w' : World} {cs : Array Value} {t : TypeId} (h : Onb b w w') (hg : Blk w g cs t) (hn : g ≠ b) : Blk w' g cs t := (h.same g hg.lt hn).trans hg
theorem Onb.low {b B : Nat} {w w' : World} (h : Onb b w w') (hB : B ≤ b) (hs : B ≤ w.heap.size) : Below B w w' := h.be.mono (by omega)
/-- The union behind a join. -/
def Joined (w' : World) (bm sz : Nat) (ch : R.G → R.G) (a b : R.G) : Prop := ∃ sz' ab' ch' d', sz' ≤ sz + 1 ∧ Uo w' bm sz' ab' ∧ Nw.Fo ab' ch' d' ∧ ∀ x, (ch x = ch b → ch' x = ch a) ∧ (ch x ≠ ch b → ch' x = ch x)
set_option maxRecDepth 20000 in
set_option maxHeartbeats 6400000 in
theorem join_any {w : World} {bm sz : Nat} {ab : R.G → Option R.G} {ch : R.G → R.G} {d : R.G → Nat} (hF : Nw.Fo ab ch d) (hU : Uo w bm sz ab) {xp xq : R.G} (ha : xp.b64) (hb : xq.b64) (hsz : sz ≤ 1000000) :
    Calls Try.prog 85 #[.agg #[.map (some bm)], .agg #[.int .i64 xp.ly, .int .i64 xp.xa, .int .i64 xp.ya, .int .i64 xp.xb, .int .i64 xp.yb], .agg #[.int .i64 xq.ly, .int .i64 xq.xa, .int .i64 xq.ya, .int .i64 xq.xb, .int .i64 xq.yb]] w fun e w' => e = .returned (.tuple #[]) ∧ Joined w' bm sz ch xp xq ∧ Onb bm w w' := by
  have HF : Hid (Nw.Fo ab ch d) := hF
  have HAB : Hid (xp.b64 ∧ xq.b64) := ⟨ha, hb⟩
  have HBM : Hid (bm < w.heap.size) := hU.1.lt
  obtain ⟨wx, hwx⟩ : ∃ W, W = ((w.alloc (.cells #[.map (some bm)] 102)).alloc (.cells #[.int .i64 xp.ly, .int .i64 xp.xa, .int .i64 xp.ya, .int .i64 xp.xb, .int .i64 xp.yb] 68)).alloc (.cells #[.int .i64 xq.ly, .int .i64 xq.xa, .int .i64 xq.ya, .int .i64 xq.xb, .int .i64 xq.yb] 68) := ⟨_, rfl⟩
  obtain ⟨p3, h3⟩ : ∃ p, p = w.heap.size := ⟨_, rfl⟩
  obtain ⟨p4, h4⟩ : ∃ p, p = w.heap.size + 1 := ⟨_, rfl⟩
  obtain ⟨p5, h5⟩ : ∃ p, p = w.heap.size + 1 + 1 := ⟨_, rfl⟩
  have B3 : Hid (Blk wx p3 #[.map (some bm)] 102) := by rw [hwx]; exact ((Blk.new h3).alloc _).alloc _
  have B4 : Hid (Blk wx p4 #[.int .i64 xp.ly, .int .i64 xp.xa, .int .i64 xp.ya, .int .i64 xp.xb, .int .i64 xp.yb] 68) := by rw [hwx]; exact (Blk.new (by rw [h4]; simp)).alloc _
  have B5 : Hid (Blk wx p5 #[.int .i64 xq.ly, .int .i64 xq.xa, .int .i64 xq.ya, .int .i64 xq.xb, .int .i64 xq.yb] 68) := by rw [hwx]; exact Blk.new (by rw [h5]; simp)
  have HX : Hid (Below w.heap.size w wx ∧ p3 ≠ bm) := ⟨by rw [hwx]; exact box_stay (box_stay (box_stay (Below.refl _ _) _) _) _, by have := HBM.out; omega⟩
  have HU : ∀ W, Below wx.heap.size wx W → Hid (Uo W bm sz ab) := fun W h => (hU.later HX.out.1).later h
  have HW : Hid (wx = ((w.alloc (.cells #[.map (some bm)] 102)).alloc (.cells #[.int .i64 xp.ly, .int .i64 xp.xa, .int .i64 xp.ya, .int .i64 xp.xb, .int .i64 xp.yb] 68)).alloc (.cells #[.int .i64 xq.ly, .int .i64 xq.xa, .int .i64 xq.ya, .int .i64 xq.xb, .int .i64 xq.yb] 68) ∧ p5 = w.heap.size + 1 + 1 ∧ p4 = w.heap.size + 1 ∧ p3 = w.heap.size) := ⟨hwx, h5, h4, h3⟩
  clear hwx h3 h4 h5 hF hU ha hb
  have KU : ∀ W, Below wx.heap.size wx W → W.cell? ⟨p3, 0, none⟩ = some (.map (some bm)) := fun W h => (B3.out.old h).cell rfl
  have KA0 : ∀ W, Below wx.heap.size wx W → W.cell? ⟨p4, 0, none⟩ = some (.int .i64 xp.ly) := fun W h => (B4.out.old h).cell rfl
  have KB0 : ∀ W, Below wx.heap.size wx W → W.cell? ⟨p5, 0, none⟩ = some (.int .i64 xq.ly) := fun W h => (B5.out.old h).cell rfl
  have KA1 : ∀ W, Below wx.heap.size wx W → W.cell? ⟨p4, 1, none⟩ = some (.int .i64 xp.xa) := fun W h => (B4.out.old h).cell rfl
  have KB1 : ∀ W, Below wx.heap.size wx W → W.cell? ⟨p5, 1, none⟩ = some (.int .i64 xq.xa) := fun W h => (B5.out.old h).cell rfl
  have KA2 : ∀ W, Below wx.heap.size wx W → W.cell? ⟨p4, 2, none⟩ = some (.int .i64 xp.ya) := fun W h => (B4.out.old h).cell rfl
  have KB2 : ∀ W, Below wx.heap.size wx W → W.cell? ⟨p5, 2, none⟩ = some (.int .i64 xq.ya) := fun W h => (B5.out.old h).cell rfl
  have KA3 : ∀ W, Below wx.heap.size wx W → W.cell? ⟨p4, 3, none⟩ = some (.int .i64 xp.xb) := fun W h => (B4.out.old h).cell rfl
  have KB3 : ∀ W, Below wx.heap.size wx W → W.cell? ⟨p5, 3, none⟩ = some (.int .i64 xq.xb) := fun W h => (B5.out.old h).cell rfl
  have KA4 : ∀ W, Below wx.heap.size wx W → W.cell? ⟨p4, 4, none⟩ = some (.int .i64 xp.yb) := fun W h => (B4.out.old h).cell rfl
  have KB4 : ∀ W, Below wx.heap.size wx W → W.cell? ⟨p5, 4, none⟩ = some (.int .i64 xq.yb) := fun W h => (B5.out.old h).cell rfl
  go_enter Try.func85, Try.ntmps85
  go_upto_region 1 with fail
  rw [← HW.out.1, ← HW.out.2.1, ← HW.out.2.2.1, ← HW.out.2.2.2]
  refine wp_region_sd_last2 (by kernel_rfl) rfl rfl rfl (lastC_of 3 (by kernel_rfl)) (lastOk_of (by kernel_rfl)) [8, 9, 10, 11, 12, 13, 6, 7] (fun i v W ts te => match i with
    | 0 => v = .agg #[.map (some bm)]
    | 1 => v = .agg #[.int .i64 xp.ly, .int .i64 xp.xa, .int .i64 xp.ya, .int .i64 xp.xb, .int .i64 xp.yb]
    | 2 => v = rval (ch xp)
    | 3 => v = .agg #[.map (some bm)]
    | 4 => v = .agg #[.int .i64 xq.ly, .int .i64 xq.xa, .int .i64 xq.ya, .int .i64 xq.xb, .int .i64 xq.yb]
    | 5 => v = rval (ch xq)
    | 6 => v = .pointer (some ⟨ts 6, 0, none⟩) ∧ Blk W (ts 6) #[.int .i64 0, .int .i64 0, .int .i64 0, .int .i64 0, .int .i64 0] 68 ∧ te 6 = ts 6 + 1 ∧ wx.heap.size ≤ ts 6
    | 7 => v = .pointer (some ⟨ts 7, 0, none⟩) ∧ Blk W (ts 7) #[.int .i64 0, .int .i64 0, .int .i64 0, .int .i64 0, .int .i64 0] 68 ∧ te 7 = ts 7 + 1 ∧ wx.heap.size ≤ ts 7
    | _ => True) (reg_ok (n := 21) (by decide +kernel)) ?_ ?_ ?_
  · intro i v W W2 ts te us ue hag h hb
    rcases (show i = 0 ∨ i = 1 ∨ i = 2 ∨ i = 3 ∨ i = 4 ∨ i = 5 ∨ i = 6 ∨ i = 7 ∨ 8 ≤ i by omega) with rfl | rfl | rfl | rfl | rfl | rfl | rfl | rfl | hbig
    · exact h
    · exact h
    · exact h
    · exact h
    · exact h
    · exact h
    · exact (by (try dsimp only at h ⊢); obtain ⟨e1, e2⟩ := hag 6 (Or.inl rfl); rw [e1, e2]; exact ⟨h.1, h.2.1.old hb, h.2.2⟩)
    · exact (by (try dsimp only at h ⊢); obtain ⟨e1, e2⟩ := hag 7 (Or.inl rfl); rw [e1, e2]; exact ⟨h.1, h.2.1.old hb, h.2.2⟩)
    · match i, hbig with | k + 8, _ => exact trivial
  · intro i o ho b W ts te hB hbase hdep Q1 K hK
    replace hK : Hid _ := hK
    have hlt : i < 8 := by have := (List.getElem?_eq_some_iff.1 ho).1; simpa using this
    have bse3 : b.tmps[3]?.getD undef = .pointer (some ⟨p3, 0, none⟩) := (hbase 3 (by decide)).trans rfl
    have bse4 : b.tmps[4]?.getD undef = .pointer (some ⟨p4, 0, none⟩) := (hbase 4 (by decide)).trans rfl
    have bse5 : b.tmps[5]?.getD undef = .pointer (some ⟨p5, 0, none⟩) := (hbase 5 (by decide)).trans rfl
    clear hbase
    rcases (show i = 0 ∨ i = 1 ∨ i = 2 ∨ i = 3 ∨ i = 4 ∨ i = 5 ∨ i = 6 ∨ i = 7 by omega) with rfl | rfl | rfl | rfl | rfl | rfl | rfl | rfl
    · simp at ho
      subst ho
      clear hdep
      have c0 := KU W hB
      go_simp
      exact hK.out _ _ (Below.refl _ _) (fun us ue hag hs he => rfl)
    · simp at ho
      subst ho
      clear hdep
      have c0 := KA0 W hB
      have c1 := KA1 W hB
      have c2 := KA2 W hB
      have c3 := KA3 W hB
      have c4 := KA4 W hB
      go_simp
      exact hK.out _ _ (Below.refl _ _) (fun us ue hag hs he => rfl)
    · simp at ho
      subst ho
      have d0 := hdep ⟨0, .data⟩ (by simp) (by decide)
      replace d0 : (fun (v : Value) (W : World) (ts te : Nat → Nat) => v = .agg #[.map (some bm)]) (b.tmps[8]?.getD undef) W ts te := d0
      dsimp only at d0
      have d1 := hdep ⟨1, .data⟩ (by simp) (by decide)
      replace d1 : (fun (v : Value) (W : World) (ts te : Nat → Nat) => v = .agg #[.int .i64 xp.ly, .int .i64 xp.xa, .int .i64 xp.ya, .int .i64 xp.xb, .int .i64 xp.yb]) (b.tmps[9]?.getD undef) W ts te := d1
      dsimp only at d1
      clear hdep
      go_simp
      go_at_call 101
      refine (chiefOf_any HF.out (HU W hB).out HAB.out.1).mono ?_
      rintro e W2 ⟨rfl, hb⟩
      exact hK.out _ _ hb (fun us ue hag hs he => rfl)
    · simp at ho
      subst ho
      clear hdep
      have c0 := KU W hB
      go_simp
      exact hK.out _ _ (Below.refl _ _) (fun us ue hag hs he => rfl)
    · simp at ho
      subst ho
      clear hdep
      have c0 := KB0 W hB
      have c1 := KB1 W hB
      have c2 := KB2 W hB
      have c3 := KB3 W hB
      have c4 := KB4 W hB
      go_simp
      exact hK.out _ _ (Below.refl _ _) (fun us ue hag hs he => rfl)
    · simp at ho
      subst ho
      have d3 := hdep ⟨3, .data⟩ (by simp) (by decide)
      replace d3 : (fun (v : Value) (W : World) (ts te : Nat → Nat) => v = .agg #[.map (some bm)]) (b.tmps[11]?.getD undef) W ts te := d3
      dsimp only at d3
      have d4 := hdep ⟨4, .data⟩ (by simp) (by decide)
      replace d4 : (fun (v : Value) (W : World) (ts te : Nat → Nat) => v = .agg #[.int .i64 xq.ly, .int .i64 xq.xa, .int .i64 xq.ya, .int .i64 xq.xb, .int .i64 xq.yb]) (b.tmps[12]?.getD undef) W ts te := d4
      dsimp only at d4
      clear hdep
      go_simp
      go_at_call 101
      refine (chiefOf_any HF.out (HU W hB).out HAB.out.2).mono ?_
      rintro e W2 ⟨rfl, hb⟩
      exact hK.out _ _ hb (fun us ue hag hs he => rfl)
    · simp at ho
      subst ho
      clear hdep
      go_simp
      refine hK.out _ _ ((Below.refl _ _).alloc (Nat.le_refl _) _) (fun us ue hag hs he => ?_)
      try dsimp only
      rw [hs, he]
      exact ⟨rfl, Blk.new rfl, by simp, hB.size⟩
    · simp at ho
      subst ho
      clear hdep
      go_simp
      refine hK.out _ _ ((Below.refl _ _).alloc (Nat.le_refl _) _) (fun us ue hag hs he => ?_)
      try dsimp only
      rw [hs, he]
      exact ⟨rfl, Blk.new rfl, by simp, hB.size⟩
  · intro vs ts te W hB hP hD
    have v0 := hP 0 (by decide)
    replace v0 : (fun (v : Value) (W : World) (ts te : Nat → Nat) => v = .agg #[.map (some bm)]) (vs 0) W ts te := v0
    dsimp only at v0
    have v1 := hP 1 (by decide)
    replace v1 : (fun (v : Value) (W : World) (ts te : Nat → Nat) => v = .agg #[.int .i64 xp.ly, .int .i64 xp.xa, .int .i64 xp.ya, .int .i64 xp.xb, .int .i64 xp.yb]) (vs 1) W ts te := v1
    dsimp only at v1
    have v2 := hP 2 (by decide)
    replace v2 : (fun (v : Value) (W : World) (ts te : Nat → Nat) => v = rval (ch xp)) (vs 2) W ts te := v2
    dsimp only at v2
    have v3 := hP 3 (by decide)
    replace v3 : (fun (v : Value) (W : World) (ts te : Nat → Nat) => v = .agg #[.map (some bm)]) (vs 3) W ts te := v3
    dsimp only at v3
    have v4 := hP 4 (by decide)
    replace v4 : (fun (v : Value) (W : World) (ts te : Nat → Nat) => v = .agg #[.int .i64 xq.ly, .int .i64 xq.xa, .int .i64 xq.ya, .int .i64 xq.xb, .int .i64 xq.yb]) (vs 4) W ts te := v4
    dsimp only at v4
    have v5 := hP 5 (by decide)
    replace v5 : (fun (v : Value) (W : World) (ts te : Nat → Nat) => v = rval (ch xq)) (vs 5) W ts te := v5
    dsimp only at v5
    have v6 := hP 6 (by decide)
    replace v6 : (fun (v : Value) (W : World) (ts te : Nat → Nat) => v = .pointer (some ⟨ts 6, 0, none⟩) ∧ Blk W (ts 6) #[.int .i64 0, .int .i64 0, .int .i64 0, .int .i64 0, .int .i64 0] 68 ∧ te 6 = ts 6 + 1 ∧ wx.heap.size ≤ ts 6) (vs 6) W ts te := v6
    dsimp only at v6
    have v7 := hP 7 (by decide)
    replace v7 : (fun (v : Value) (W : World) (ts te : Nat → Nat) => v = .pointer (some ⟨ts 7, 0, none⟩) ∧ Blk W (ts 7) #[.int .i64 0, .int .i64 0, .int .i64 0, .int .i64 0, .int .i64 0] 68 ∧ te 7 = ts 7 + 1 ∧ wx.heap.size ≤ ts 7) (vs 7) W ts te := v7
    dsimp only at v7
    clear hP
    simp only [putD, Act.put, List.setIfInBounds_toArray, List.set_cons_succ, List.set_cons_zero, Nat.reduceAdd]
    obtain ⟨e6, y6, z6, q6⟩ := v6
    obtain ⟨e7, y7, z7, q7⟩ := v7
    have hne : ts 6 ≠ ts 7 := by
      have := hD 6 7 (by decide) (by decide) (by decide)
      omega
    obtain ⟨p6, hp6⟩ : ∃ p, p = ts 6 := ⟨_, rfl⟩
    obtain ⟨p7, hp7⟩ : ∃ p, p = ts 7 := ⟨_, rfl⟩
    rw [← hp6] at e6 y6 q6 hne
    rw [← hp7] at e7 y7 q7 hne
    rw [e6, e7, v0, v1, v2, v3, v4, v5]
    have HB : Hid (Below wx.heap.size wx W) := hB
    have HU2 : Hid (Uo W bm sz ab) := HU W hB
    have HBX : Hid (bm < wx.heap.size) := by have := HBM.out; have := HX.out.1.size; show _ < _; omega
    have HQ : Hid (p6 ≠ p7 ∧ p7 ≠ p6 ∧ p6 ≠ bm ∧ p7 ≠ bm ∧ w.heap.size ≤ p6 ∧ w.heap.size ≤ p7) := ⟨hne, fun e => hne e.symm, by have := HBX.out; omega, by have := HBX.out; omega, by have := HX.out.1.size; omega, by have := HX.out.1.size; omega⟩
    obtain ⟨pp, hpp⟩ : ∃ p, p = ch xp := ⟨_, rfl⟩
    obtain ⟨qq, hqq⟩ : ∃ p, p = ch xq := ⟨_, rfl⟩
    rw [← hpp, ← hqq]
    have HQ9 : Hid (p3 ≠ p6 ∧ p3 ≠ p7) := ⟨by have := B3.out.lt; omega, by have := B3.out.lt; omega⟩
    have HPQ : Hid (pp = ch xp ∧ qq = ch xq) := ⟨hpp, hqq⟩
    have K3 := KU W hB
    have u0 := y6.cell (j := 0) rfl
    have u1 := y6.cell (j := 1) rfl
    have u2 := y6.cell (j := 2) rfl
    have u3 := y6.cell (j := 3) rfl
    have u4 := y6.cell (j := 4) rfl
    have t0 := y7.cell (j := 0) rfl
    have t1 := y7.cell (j := 1) rfl
    have t2 := y7.cell (j := 2) rfl
    have t3 := y7.cell (j := 3) rfl
    have t4 := y7.cell (j := 4) rfl
    have f6 : ∀ j, W.frozen? ⟨p6, j, none⟩ = false := fun j => y6.frozen j
    have f7 : ∀ j, W.frozen? ⟨p7, j, none⟩ = false := fun j => y7.frozen j
    have HY : Hid (Blk W p6 #[.int .i64 0, .int .i64 0, .int .i64 0, .int .i64 0, .int .i64 0] 68 ∧ Blk W p7 #[.int .i64 0, .int .i64 0, .int .i64 0, .int .i64 0, .int .i64 0] 68) := ⟨y6, y7⟩
    clear y6 y7 e6 e7 v0 v1 v2 v3 v4 v5 hp6 hp7 hpp hqq hB hD z6 z7 q6 q7 KU KA0 KA1 KA2 KA3 KA4 KB0 KB1 KB2 KB3 KB4 hne HU HW B3 B4 B5
    simp only [rval]
    have hn6 : p6 ≠ p7 := HQ.out.1
    have hn7 : p7 ≠ p6 := HQ.out.2.1
    simp only [List.dropLast, List.getLast, List.getLast_cons_cons, List.getLast_singleton]
    refine wpList_store_row rfl 68 (.tmp 6) (.tmp 10) rfl p6 #[.int .i64 pp.ly, .int .i64 pp.xa, .int .i64 pp.ya, .int .i64 pp.xb, .int .i64 pp.yb] (by simp [Act.eval]) (by simp [Act.eval]) 68 #[.int .i64 0, .int .i64 0, .int .i64 0, .int .i64 0, .int .i64 0] HY.out.1 (by rw [show (Try.prog.info? 68).map (·.size) = some 5 from by kernel_rfl]; rfl) (by simp) (by simp [Value.oneCell']) ?_
    refine wpList_store_row rfl 68 (.tmp 7) (.tmp 13) rfl p7 #[.int .i64 qq.ly, .int .i64 qq.xa, .int .i64 qq.ya, .int .i64 qq.xb, .int .i64 qq.yb] (by simp [Act.eval, Act.put]) (by simp [Act.eval, Act.put]) 68 #[.int .i64 0, .int .i64 0, .int .i64 0, .int .i64 0, .int .i64 0] (by rw [setRow_other _ _ _ _ hn7]; exact HY.out.2) (by rw [show (Try.prog.info? 68).map (·.size) = some 5 from by kernel_rfl]; rfl) (by simp) (by simp [Value.oneCell']) ?_
    obtain ⟨Y, hY⟩ : ∃ Y, Y = (W.setRow p6 #[.int .i64 pp.ly, .int .i64 pp.xa, .int .i64 pp.ya, .int .i64 pp.xb, .int .i64 pp.yb]).setRow p7 #[.int .i64 qq.ly, .int .i64 qq.xa, .int .i64 qq.ya, .int .i64 qq.xb, .int .i64 qq.yb] := ⟨_, rfl⟩
    have G6 : Blk Y p6 #[.int .i64 pp.ly, .int .i64 pp.xa, .int .i64 pp.ya, .int .i64 pp.xb, .int .i64 pp.yb] 68 := by
      rw [hY]
      show _ = _
      rw [setRow_other _ _ _ _ hn6]
      exact setRow_heap _ _ _ _ _ _ HY.out.1
    have G7 : Blk Y p7 #[.int .i64 qq.ly, .int .i64 qq.xa, .int .i64 qq.ya, .int .i64 qq.xb, .int .i64 qq.yb] 68 := by
      rw [hY]
      exact setRow_heap _ _ #[.int .i64 0, .int .i64 0, .int .i64 0, .int .i64 0, .int .i64 0] _ _ _ (by rw [setRow_other _ _ _ _ hn7]; exact HY.out.2)
    have GB : Hid (Below w.heap.size w Y) := by
      rw [hY]
      exact below_setRow (below_setRow (box_step HX.out.1 HB.out (Nat.le_refl _)) HQ.out.2.2.2.2.1 _) HQ.out.2.2.2.2.2 _
    have GU : Hid (Uo Y bm sz ab) := by
      refine ⟨HU2.out.1.keep ?_, HU2.out.2⟩
      rw [hY, setRow_other _ _ _ _ (fun e => HQ.out.2.2.2.1 e.symm), setRow_other _ _ _ _ (fun e => HQ.out.2.2.1 e.symm)]
    have G3 : Y.cell? ⟨p3, 0, none⟩ = some (.map (some bm)) := by
      rw [hY, cell_setRow_other _ _ _ _ (fun e => by have := HQ9.out.2; exact this e), cell_setRow_other _ _ _ _ (fun e => by have := HQ9.out.1; exact this e)]
      exact K3
    rw [← hY]
    clear hY u0 u1 u2 u3 u4 t0 t1 t2 t3 t4 f6 f7 HY HU2 K3 hn6 hn7
    have u0 := G6.cell (j := 0) rfl
    have u1 := G6.cell (j := 1) rfl
    have u2 := G6.cell (j := 2) rfl
    have u3 := G6.cell (j := 3) rfl
    have u4 := G6.cell (j := 4) rfl
    have t0 := G7.cell (j := 0) rfl
    have t1 := G7.cell (j := 1) rfl
    have t2 := G7.cell (j := 2) rfl
    have t3 := G7.cell (j := 3) rfl
    have t4 := G7.cell (j := 4) rfl
    clear G6 G7
    have HTP : Hid (ab pp = none ∧ pp.b64 ∧ ab qq = none ∧ qq.b64) := by
      have c1 := chief_top HF.out GU.out.2 _ xp (Nat.le_refl _) HAB.out.1
      have c2 := chief_top HF.out GU.out.2 _ xq (Nat.le_refl _) HAB.out.2
      rw [← HPQ.out.1] at c1
      rw [← HPQ.out.2] at c2
      exact ⟨c1.1, c1.2, c2.1, c2.2⟩
    by_cases hpq : pp = qq
    · have hneq := fun W => neq68 pp qq false (by simp [hpq]) W
      have HEQ : Hid (pp = qq) := hpq
      clear hpq
      go_wp2
      refine bodyPost_end (v := .tuple #[]) (by simp [results, Try.results85, go_sem]) rfl ⟨rfl, ⟨sz, ab, ch, d, by omega, GU.out, HF.out, fun x => ⟨fun e => by rw [e, ← HPQ.out.2, ← HPQ.out.1, HEQ.out], fun _ => rfl⟩⟩, Onb.of GB.out⟩
    · have hneq := fun W => neq68 pp qq true (by simp [hpq]) W
      have HNE : Hid (pp ≠ qq) := hpq
      clear hpq
      go_wp2_with (first | (at_mapUpdate; refine put_map okRR GU.out.1 rfl (.tmp 18) (.tmp 19) (.tmp 20) rfl qq pp HTP.out.2.2.2 trivial (by simp [Act.eval]) (by simp [Act.eval, rval]) (by simp [Act.eval, rval]) HTP.out.2.2.1 (by omega) ?_; intro w5 hm5 hg5; have M5 : Hid (HasM MRR w5 bm (sz + 1) _ ∧ Onb bm Y w5) := ⟨hm5, Onb.grown hg5 GU.out.1.lt⟩; clear hm5 hg5))
      refine bodyPost_end (v := .tuple #[]) (by simp [results, Try.results85, go_sem]) rfl ⟨rfl, ⟨sz + 1, _, _, _, Nat.le_refl _, ⟨M5.out.1, fun x y hxy => ?_⟩, Nw.Fo.set HF.out HTP.out.1 HTP.out.2.2.1 HNE.out, fun x => ⟨fun e => ?_, fun e => ?_⟩⟩, (Onb.of GB.out).trans M5.out.2⟩
      · by_cases c : qq = x
        · simp only [c, if_true, Option.some.injEq] at hxy
          rw [← hxy]; exact HTP.out.2.1
        · simp only [c, if_false] at hxy
          exact GU.out.2 x y hxy
      · have he : ch x = qq := by rw [e]; exact HPQ.out.2.symm
        simp only [he, if_true]
        exact HPQ.out.1
      · have he : ¬ ch x = qq := by rw [HPQ.out.2]; exact e
        simp only [he, if_false]
end Go.Proofs.Ytclnmikneomccaa
