/- take: one step of a path, the program's. -/
import Derived.Test.YtelejihgechmgaaOg
import Derived.Test.YtelejihgechmgaaMm
import Derived.Test.YtelejihgechmgaaRg
namespace Go.Proofs.Ytelejihgechmgaa
open Go.RowKit
set_option linter.unusedVariables false
set_option linter.unusedSimpArgs false
set_option maxRecDepth 20000 in
set_option maxHeartbeats 3200000 in
theorem iLast_any {w : World} {bx N vc : Nat} {va : Option Addr} {M : Nat → Int} {x : Int} (hb : w.cell? ⟨bx, 2, none⟩ = some (.slice va N vc)) (hx : x = M (N - 1)) (hr : RdRow w (.slice va N vc) N M) (hn : 0 < N) (hn2 : N ≤ 1048576) :
    Calls Try.prog 87 #[.pointer (some ⟨bx, 0, none⟩)] w fun e w' => e = .returned (.int .i64 x) ∧ Below w.heap.size w w' := by
  obtain ⟨k, rfl⟩ : ∃ k, N = k + 1 := ⟨N - 1, by omega⟩
  obtain ⟨b, off, rfl, hc⟩ := hr.at (k := k) (by omega)
  rw [Nat.add_sub_cancel] at hx
  rw [← hx] at hc
  clear hr hx
  have hkI : (k : Int) ≤ 1048576 := by omega
  have h1 : ((k + 1 : Nat) : Int) = (k : Int) + 1 := by omega
  have h2 : (k : Int) + 1 - 1 = k := by omega
  go_enter Try.func87, Try.ntmps87
  go_wp2_with fail
  go_region
  go_wp2
  go_ret
  exact ⟨rfl, (Below.refl _ _).drew⟩
def tka (t : Bool) (pj : List Mt.Pnt) (y : Mt.Pnt) : List Mt.Pnt := if t = true then pj ++ [y] else pj
theorem tka_t (pj : List Mt.Pnt) (y : Mt.Pnt) : tka true pj y = pj ++ [y] := rfl
theorem tka_f (pj : List Mt.Pnt) (y : Mt.Pnt) : tka false pj y = pj := rfl
theorem mers_at (L : Nat → Mt.Am) (n d : Nat) {ps : List Mt.Pnt} (h : 0 < ps.length) : (mers L n d ps).getD ((mers L n d ps).length - 1) 0 = Mt.merit L n d (Mt.lst ps) := by
  rw [mers_len]
  unfold mers
  rw [← lst_gd h]
  simp [List.getD, List.getElem?_map]
  have : ps.length - 1 < ps.length := by omega
  simp [this]
set_option maxRecDepth 20000 in
set_option maxHeartbeats 12800000 in
theorem iTake_any {w0 w : World} {rb bx n d cap j : Nat} {ao : Option Addr} {vp vm : Value} {bs cs : Nat → Nat} {L : Nat → Li} {pj : List Mt.Pnt} {y : Int} {t : Bool} (ht : t = Mt.btr L n d (Mt.lst pj) (Mt.nb (Mt.lst pj) j y)) (h : Go3 w w0.heap.size rb bx vp vm bs cs d pj (mers L n d pj)) (hb0 : Below w0.heap.size w0 w) (hl : RdL w0 (.slice ao n cap) n L) (G : Mt.AGood L n d) (F : Mt.Fine L n d pj) (hj : j < d) (hy : -1000 ≤ y ∧ y ≤ 1000) (hlen : pj.length ≤ 3000) :
    Calls Try.prog 100 #[.pointer (some ⟨bx, 0, none⟩), .slice ao n cap, .int .i64 (j : Int), .int .i64 y] w fun e w' => e = .returned (.bool t) ∧ (∃ vp' vm' bs' cs', Go3 w' w0.heap.size rb bx vp' vm' bs' cs' d (tka t pj (Mt.nb (Mt.lst pj) j y)) (mers L n d (tka t pj (Mt.nb (Mt.lst pj) j y)))) ∧ Below w0.heap.size w w' := by
  obtain ⟨gb, gc, rfl, hM⟩ := h.pth.mat F.ne
  obtain ⟨xm, ym, rfl⟩ := owns_shape h.pth.mer
  have HJ : Hid (Go3 w w0.heap.size rb bx (.slice (some ⟨gb, 0, none⟩) pj.length gc) (.slice xm (mers L n d pj).length ym) bs cs d pj (mers L n d pj)) := h
  obtain ⟨k, hk⟩ : ∃ k, pj.length = k + 1 := ⟨pj.length - 1, by have := F.ne; omega⟩
  obtain ⟨b1, hb1⟩ : ∃ b, b = bs k := ⟨_, rfl⟩
  obtain ⟨c1, hc1⟩ : ∃ b, b = cs k := ⟨_, rfl⟩
  have k0 := h.box.cell (j := 1) (v := .slice (some ⟨gb, 0, none⟩) pj.length gc) rfl
  have k1 := hM.cellTop (i := k) (by omega)
  simp only [Lie.row] at k1
  rw [← hb1, ← hc1] at k1
  have hrow := h.pth.last F.ne
  rw [show pj.length - 1 = k by omega, rv, ← hb1, ← hc1] at hrow
  have KA : ∀ W, Below w.heap.size w W → Hid (W.cell? ⟨bx, 1, none⟩ = some (.slice (some ⟨gb, 0, none⟩) pj.length gc) ∧ W.cell? ⟨gb, k, none⟩ = some (.slice (some ⟨b1, 0, none⟩) d c1) ∧ RdRow W (.slice (some ⟨b1, 0, none⟩) d c1) d (Mt.lst pj) ∧ Go3 W w0.heap.size rb bx (.slice (some ⟨gb, 0, none⟩) pj.length gc) (.slice xm (mers L n d pj).length ym) bs cs d pj (mers L n d pj)) := fun W hb => ⟨kold hb k0, kold hb k1, hrow.later hb, h.later hb⟩
  have hkI : ((pj.length : Nat) : Int) = (k : Int) + 1 := by omega
  have hk1 : (k : Int) + 1 - 1 = k := by omega
  have hk3 : (k : Int) ≤ 3000 := by omega
  have hkl : (k : Int) < pj.length := by omega
  have hkk : (k : Int) < (k : Int) + 1 := by omega
  have hkw : IntKind.i64.wrap (k : Int) = k := by
    simp [IntKind.wrap, IntKind.signed, IntKind.bits]
    omega
  have hd10 := G.d10
  have hd1 : 0 < d := by omega
  have hdI : (d : Int) ≤ 10 := by omega
  have hjI : (j : Int) < d := by omega
  have HX := Mt.nb_b F.last hj
  obtain ⟨u, hu⟩ : ∃ u, u = Mt.lst pj j := ⟨_, rfl⟩
  obtain ⟨z, hz⟩ : ∃ z, z = u + y := ⟨_, rfl⟩
  have hwz : wrap64 (u + y) = z := by rw [hz, hu]; unfold wrap64; omega
  have HU : Hid (u = Mt.lst pj j ∧ z = u + y) := ⟨hu, hz⟩
  obtain ⟨Y, hY⟩ : ∃ Y, Y = Mt.nb (Mt.lst pj) j y := ⟨_, rfl⟩
  have hYb : ∀ i, i < d → -12000 ≤ Y i ∧ Y i ≤ 12000 ∨ Mt.place Y d = false := fun i hi => by
    by_cases q : Mt.place Y d = true
    · exact Or.inl (Mt.place_at q i hi)
    · exact Or.inr (by simpa using q)
  have HP : Hid (Y = Mt.nb (Mt.lst pj) j y ∧ t = Mt.btr L n d (Mt.lst pj) Y ∧ Mt.AGood L n d ∧ Mt.Fine L n d pj ∧ RdL w0 (.slice ao n cap) n L ∧ Below w0.heap.size w0 w ∧ pj.length ≤ 3000) := ⟨hY, by rw [hY]; exact ht, G, F, hl, hb0, hlen⟩
  rw [← hY]
  clear ht h hM hb1 hc1 k0 k1 hrow hu hz hY hYb HX hl G F hb0 hk hlen
  have hlo : w0.heap.size ≤ w.heap.size := HJ.out.low
  go_enter Try.func100, Try.ntmps100
  go_upto_region 1 with fail
  refine wp_region_pr (by kernel_rfl) [11, 12, 13, 14, 15, 16, 17, 18, 19, 20, 21, 22, 23, 9] (fun i v W => match i with
    | 0 => v = .pointer (some ⟨bx, 0, none⟩)
    | 1 => v = .pointer (some ⟨bx, 0, none⟩)
    | 2 => v = .pointer (some ⟨bx, 1, none⟩)
    | 3 => v = .slice (some ⟨gb, 0, none⟩) pj.length gc
    | 4 => v = .pointer (some ⟨bx, 0, none⟩)
    | 5 => v = .pointer (some ⟨bx, 0, none⟩)
    | 6 => v = .pointer (some ⟨bx, 1, none⟩)
    | 7 => v = .slice (some ⟨gb, 0, none⟩) pj.length gc
    | 8 => v = .int .i64 ((k : Int) + 1)
    | 9 => v = .int .i64 (k : Int)
    | 10 => v = .pointer (some ⟨gb, k, none⟩)
    | 11 => v = .slice (some ⟨b1, 0, none⟩) d c1
    | 12 => ∃ g c, v = .slice (some ⟨g, 0, none⟩) d c ∧ w.heap.size ≤ g ∧ Seg W g 2 0 d (fun i => .int .i64 (Mt.lst pj i))
    | 13 => ∃ g c, v = .slice (some ⟨g, 0, none⟩) d c ∧ w.heap.size ≤ g ∧ Seg W g 2 0 d (fun i => .int .i64 (Mt.lst pj i))
    | _ => True) (reg_ok (n := 61) (by decide +kernel)) ?_ ?_ ?_
  · intro i v W W2 h hb
    rcases (show i = 0 ∨ i = 1 ∨ i = 2 ∨ i = 3 ∨ i = 4 ∨ i = 5 ∨ i = 6 ∨ i = 7 ∨ i = 8 ∨ i = 9 ∨ i = 10 ∨ i = 11 ∨ i = 12 ∨ i = 13 ∨ 14 ≤ i by omega) with rfl | rfl | rfl | rfl | rfl | rfl | rfl | rfl | rfl | rfl | rfl | rfl | rfl | rfl | hbig
    · exact h
    · exact h
    · exact h
    · exact h
    · exact h
    · exact h
    · exact h
    · exact h
    · exact h
    · exact h
    · exact h
    · exact h
    · exact (by obtain ⟨g, c, e, h1, h2⟩ := h; exact ⟨g, c, e, h1, h2.of_block (hb.block _ h2.lt)⟩)
    · exact (by obtain ⟨g, c, e, h1, h2⟩ := h; exact ⟨g, c, e, h1, h2.of_block (hb.block _ h2.lt)⟩)
    · match i, hbig with | k + 14, _ => exact trivial
  · intro i o ho b W hB hbase hdep K hK
    replace hK : Hid _ := hK
    have hlt : i < 14 := by have := (List.getElem?_eq_some_iff.1 ho).1; simpa using this
    have bse0 : b.tmps[0]?.getD undef = .pointer (some ⟨bx, 0, none⟩) := (hbase 0 (by decide)).trans rfl
    clear hbase
    rcases (show i = 0 ∨ i = 1 ∨ i = 2 ∨ i = 3 ∨ i = 4 ∨ i = 5 ∨ i = 6 ∨ i = 7 ∨ i = 8 ∨ i = 9 ∨ i = 10 ∨ i = 11 ∨ i = 12 ∨ i = 13 by omega) with rfl | rfl | rfl | rfl | rfl | rfl | rfl | rfl | rfl | rfl | rfl | rfl | rfl | rfl
    · simp at ho
      subst ho
      clear hdep
      go_simp
      exact hK.out _ _ (Below.refl _ _) rfl
    · simp at ho
      subst ho
      have d0 := hdep ⟨0, .data⟩ (by simp) (by decide)
      replace d0 : (fun (v : Value) (W : World) => v = .pointer (some ⟨bx, 0, none⟩)) (b.tmps[11]?.getD undef) W := d0
      dsimp only at d0
      clear hdep
      go_simp
      exact hK.out _ _ (Below.refl _ _) rfl
    · simp at ho
      subst ho
      have d1 := hdep ⟨1, .data⟩ (by simp) (by decide)
      replace d1 : (fun (v : Value) (W : World) => v = .pointer (some ⟨bx, 0, none⟩)) (b.tmps[12]?.getD undef) W := d1
      dsimp only at d1
      clear hdep
      go_simp
      exact hK.out _ _ (Below.refl _ _) rfl
    · simp at ho
      subst ho
      have d2 := hdep ⟨2, .data⟩ (by simp) (by decide)
      replace d2 : (fun (v : Value) (W : World) => v = .pointer (some ⟨bx, 1, none⟩)) (b.tmps[13]?.getD undef) W := d2
      dsimp only at d2
      clear hdep
      obtain ⟨k0, k1, k2, -⟩ := (KA W hB).out
      go_simp
      exact hK.out _ _ (Below.refl _ _) rfl
    · simp at ho
      subst ho
      clear hdep
      go_simp
      exact hK.out _ _ (Below.refl _ _) rfl
    · simp at ho
      subst ho
      have d4 := hdep ⟨4, .data⟩ (by simp) (by decide)
      replace d4 : (fun (v : Value) (W : World) => v = .pointer (some ⟨bx, 0, none⟩)) (b.tmps[15]?.getD undef) W := d4
      dsimp only at d4
      clear hdep
      go_simp
      exact hK.out _ _ (Below.refl _ _) rfl
    · simp at ho
      subst ho
      have d5 := hdep ⟨5, .data⟩ (by simp) (by decide)
      replace d5 : (fun (v : Value) (W : World) => v = .pointer (some ⟨bx, 0, none⟩)) (b.tmps[16]?.getD undef) W := d5
      dsimp only at d5
      clear hdep
      go_simp
      exact hK.out _ _ (Below.refl _ _) rfl
    · simp at ho
      subst ho
      have d6 := hdep ⟨6, .data⟩ (by simp) (by decide)
      replace d6 : (fun (v : Value) (W : World) => v = .pointer (some ⟨bx, 1, none⟩)) (b.tmps[17]?.getD undef) W := d6
      dsimp only at d6
      clear hdep
      obtain ⟨k0, k1, k2, -⟩ := (KA W hB).out
      go_simp
      exact hK.out _ _ (Below.refl _ _) rfl
    · simp at ho
      subst ho
      have d7 := hdep ⟨7, .data⟩ (by simp) (by decide)
      replace d7 : (fun (v : Value) (W : World) => v = .slice (some ⟨gb, 0, none⟩) pj.length gc) (b.tmps[18]?.getD undef) W := d7
      dsimp only at d7
      clear hdep
      go_simp
      exact hK.out _ _ (Below.refl _ _) rfl
    · simp at ho
      subst ho
      have d8 := hdep ⟨8, .data⟩ (by simp) (by decide)
      replace d8 : (fun (v : Value) (W : World) => v = .int .i64 ((k : Int) + 1)) (b.tmps[19]?.getD undef) W := d8
      dsimp only at d8
      clear hdep
      go_simp
      exact hK.out _ _ (Below.refl _ _) (by first | rfl | rw [hkw])
    · simp at ho
      subst ho
      have d3 := hdep ⟨3, .data⟩ (by simp) (by decide)
      replace d3 : (fun (v : Value) (W : World) => v = .slice (some ⟨gb, 0, none⟩) pj.length gc) (b.tmps[14]?.getD undef) W := d3
      dsimp only at d3
      have d9 := hdep ⟨9, .data⟩ (by simp) (by decide)
      replace d9 : (fun (v : Value) (W : World) => v = .int .i64 (k : Int)) (b.tmps[20]?.getD undef) W := d9
      dsimp only at d9
      clear hdep
      go_simp
      exact hK.out _ _ (Below.refl _ _) rfl
    · simp at ho
      subst ho
      have d10 := hdep ⟨10, .data⟩ (by simp) (by decide)
      replace d10 : (fun (v : Value) (W : World) => v = .pointer (some ⟨gb, k, none⟩)) (b.tmps[21]?.getD undef) W := d10
      dsimp only at d10
      clear hdep
      obtain ⟨k0, k1, k2, -⟩ := (KA W hB).out
      go_simp
      exact hK.out _ _ (Below.refl _ _) rfl
    · simp at ho
      subst ho
      have d11 := hdep ⟨11, .data⟩ (by simp) (by decide)
      replace d11 : (fun (v : Value) (W : World) => v = .slice (some ⟨b1, 0, none⟩) d c1) (b.tmps[22]?.getD undef) W := d11
      dsimp only at d11
      clear hdep
      go_simp
      go_at_call 75
      refine (iClone_any (KA W hB).out.2.2.1 hd1 (by omega)).mono ?_
      rintro e W2 ⟨g, c, rfl, a1, a2, a3, hb⟩
      exact hK.out _ _ hb ⟨g, c, rfl, Nat.le_trans hB.size a1, a3⟩
    · simp at ho
      subst ho
      have d12 := hdep ⟨12, .data⟩ (by simp) (by decide)
      replace d12 : (fun (v : Value) (W : World) => ∃ g c, v = .slice (some ⟨g, 0, none⟩) d c ∧ w.heap.size ≤ g ∧ Seg W g 2 0 d (fun i => .int .i64 (Mt.lst pj i))) (b.tmps[23]?.getD undef) W := d12
      dsimp only at d12
      clear hdep
      obtain ⟨g, c, e, h1, h2⟩ := d12
      go_simp
      exact hK.out _ _ (Below.refl _ _) ⟨g, c, rfl, h1, h2⟩
  · intro vs W hB hP
    have v12 := hP 12 (by decide)
    replace v12 : (fun (v : Value) (W : World) => ∃ g c, v = .slice (some ⟨g, 0, none⟩) d c ∧ w.heap.size ≤ g ∧ Seg W g 2 0 d (fun i => .int .i64 (Mt.lst pj i))) (vs 12) W := v12
    dsimp only at v12
    have v13 := hP 13 (by decide)
    replace v13 : (fun (v : Value) (W : World) => ∃ g c, v = .slice (some ⟨g, 0, none⟩) d c ∧ w.heap.size ≤ g ∧ Seg W g 2 0 d (fun i => .int .i64 (Mt.lst pj i))) (vs 13) W := v13
    dsimp only at v13
    clear hP
    simp only [putD, Act.put, List.setIfInBounds_toArray, List.set_cons_succ, List.set_cons_zero, Nat.reduceAdd]
    obtain ⟨g, c2, ev, hg, hs⟩ := v13
    simp only [ev]
    have hgb := (KA W hB).out.2.2.2
    have HG : Hid (w.heap.size ≤ g ∧ Go3 W w0.heap.size rb bx (.slice (some ⟨gb, 0, none⟩) pj.length gc) (.slice xm (mers L n d pj).length ym) bs cs d pj (mers L n d pj)) := ⟨hg, hgb⟩
    have c0 : W.cell? ⟨g, j, none⟩ = some (.int .i64 u) := by rw [HU.out.1]; simpa using hs.cell hj
    have cf := hs.frozen j
    have HS : Hid (Seg (W.setCell ⟨g, j, none⟩ (.int .i64 z)) g 2 0 d (fun i => .int .i64 (Y i)) ∧ Below w.heap.size w (W.setCell ⟨g, j, none⟩ (.int .i64 z))) := by
      refine ⟨?_, hB.setCell hg _⟩
      have h5 := hs.set j hj (.int .i64 z)
      rw [Nat.zero_add] at h5
      refine h5.congr fun i hi => ?_
      rw [HP.out.1]
      unfold Mt.nb
      by_cases e : i = j
      · subst e; rw [if_pos rfl, if_pos rfl, HU.out.2, HU.out.1]
      · rw [if_neg e, if_neg e]
    clear hs hB hg hgb ev v12 KA
    go_upto_region 3 with fail
    obtain ⟨X, hX⟩ : ∃ X, X = W.setCell ⟨g, j, none⟩ (.int .i64 z) := ⟨_, rfl⟩
    rw [← hX] at HS ⊢
    clear hX c0 cf
    by_cases hpl : Mt.place Y d = true
    case neg =>
      have HPl := iPlace_any (cap := c2) (r := 3) (by rw [if_neg hpl]) HS.out.1.rd (by omega)
      have htf : Hid (t = false) := by
        show t = false
        rw [HP.out.2.1]
        cases hbt : Mt.btr L n d (Mt.lst pj) Y with
        | false => rfl
        | true =>
          exfalso
          have h1 := (Mt.btr_iff.1 hbt).1
          unfold Mt.tcode at h1
          rw [if_neg hpl] at h1
          split at h1
          · exact absurd h1 (by decide)
          · contradiction
      clear hpl
      go_wp2_with (first | (go_at_call 71; refine HPl.mono ?_; rintro e x1 ⟨rfl, hx1⟩))
      have HE : Hid (Go3 x1 w0.heap.size rb bx (.slice (some ⟨gb, 0, none⟩) pj.length gc) (.slice xm (mers L n d pj).length ym) bs cs d pj (mers L n d pj) ∧ Below w0.heap.size w x1) := by
        have h1 := HS.out.2.trans (hx1.mono HS.out.2.size)
        exact ⟨HJ.out.later h1, h1.mono hlo⟩
      clear hx1 HPl
      go_ret
      exact ⟨by rw [htf.out]; first | done | rfl, ⟨.slice (some ⟨gb, 0, none⟩) pj.length gc, .slice xm (mers L n d pj).length ym, bs, cs, by rw [htf.out, tka_f]; exact HE.out.1⟩, HE.out.2⟩
    case pos =>
    have HPl := iPlace_any (cap := c2) (r := 0) (by rw [if_pos hpl]) HS.out.1.rd (by omega)
    go_upto_region 5 with (first | (go_at_call 71; refine HPl.mono ?_; rintro e x1 ⟨rfl, hx1⟩))
    obtain ⟨m, hm⟩ : ∃ m, m = Mt.sq L d Y n := ⟨_, rfl⟩
    obtain ⟨M, hM⟩ : ∃ m, m = Mt.merit L n d (Mt.lst pj) := ⟨_, rfl⟩
    have hX1 : Below w.heap.size w x1 := HS.out.2.trans (hx1.mono HS.out.2.size)
    have hac : Mt.acode L n d = 0 := by
      have h1 := HP.out.2.2.2.1.last
      unfold Mt.tcode at h1
      split at h1
      · assumption
      · contradiction
    have htc : Mt.tcode L n d Y = 0 := by unfold Mt.tcode; rw [if_pos hac, if_pos hpl]
    have hme : Mt.merit L n d Y = m := by unfold Mt.merit; rw [if_pos htc, hm]
    have HT : Hid (t = decide (m < M) ∧ Mt.merit L n d Y = m) := by
      refine ⟨?_, hme⟩
      rw [HP.out.2.1]
      unfold Mt.btr
      rw [htc, hme, ← hM]
      simp
    have HA : Hid (w.heap.size ≤ g ∧ Below w.heap.size w x1 ∧ Seg x1 g 2 0 d (fun i => .int .i64 (Y i)) ∧ Go3 x1 w0.heap.size rb bx (.slice (some ⟨gb, 0, none⟩) pj.length gc) (.slice xm (mers L n d pj).length ym) bs cs d pj (mers L n d pj)) := ⟨HG.out.1, hX1, HS.out.1.of_block (hx1.block _ HS.out.1.lt), HJ.out.later hX1⟩
    have HMe := iMeritOf_any (cap := cap) (qc := c2) hm HP.out.2.2.1 (Mt.place_at hpl) (HP.out.2.2.2.2.1.later (HP.out.2.2.2.2.2.1.trans (hX1.mono hlo))) HA.out.2.2.1.rd
    have HMl : Hid (M = Mt.merit L n d (Mt.lst pj)) := hM
    have HBa : ∀ W, Below x1.heap.size x1 W → Calls Try.prog 87 #[.pointer (some ⟨bx, 0, none⟩)] W fun e w' => e = .returned (.int .i64 M) ∧ Below W.heap.size W w' := fun W hb => by
      have h1 := HA.out.2.2.2.later hb
      have h2 := HP.out.2.2.2.1.ne
      refine iLast_any (h1.box.cell (j := 2) rfl) ?_ h1.pth.mer.rd (by rw [mers_len]; exact h2) (by rw [mers_len]; have := HP.out.2.2.2.2.2.2; omega)
      show M = (mers L n d pj).getD ((mers L n d pj).length - 1) 0
      rw [mers_at L n d h2]
      exact HMl.out
    clear hm hM hX1 hac htc hme hx1 HPl
    go_upto_region 6 with (first | (go_at_call 72; refine HMe.mono ?_; rintro e x2 ⟨rfl, hx2⟩))
    have HB2 := HBa _ hx2
    clear HMe HBa
    by_cases hlt : m < M
    case neg =>
      have htf : Hid (t = false) := by show t = false; rw [HT.out.1]; simpa using hlt
      have hge : M ≤ m := by omega
      clear hlt
      go_wp2_with (first | (go_at_call 87; refine HB2.mono ?_; rintro e x3 ⟨rfl, hx3⟩))
      have HX3 : Hid (Below x1.heap.size x1 x3) := hx2.trans (hx3.mono hx2.size)
      have HE : Hid (Go3 x3 w0.heap.size rb bx (.slice (some ⟨gb, 0, none⟩) pj.length gc) (.slice xm (mers L n d pj).length ym) bs cs d pj (mers L n d pj) ∧ Below w0.heap.size w x3) := ⟨HA.out.2.2.2.later HX3.out, (HA.out.2.1.trans (HX3.out.mono HA.out.2.1.size)).mono hlo⟩
      go_ret
      exact ⟨by rw [htf.out]; first | done | rfl, ⟨.slice (some ⟨gb, 0, none⟩) pj.length gc, .slice xm (mers L n d pj).length ym, bs, cs, by rw [htf.out, tka_f]; exact HE.out.1⟩, HE.out.2⟩
    case pos =>
    have htt : Hid (t = true) := by show t = true; rw [HT.out.1]; simpa using hlt
    have hnge : ¬ M ≤ m := by omega
    go_upto_region 8 with (first | (go_at_call 87; refine HB2.mono ?_; rintro e x3 ⟨rfl, hx3⟩))
    have HX3 : Hid (Below x1.heap.size x1 x3) := hx2.trans (hx3.mono hx2.size)
    clear hx2 hx3 HB2
    have HU3 : Hid (Below w.heap.size w x3 ∧ Seg x3 g 2 0 d (fun i => .int .i64 (Y i))) := ⟨HA.out.2.1.trans (HX3.out.mono HA.out.2.1.size), HA.out.2.2.1.of_block (HX3.out.block _ HA.out.2.2.1.lt)⟩
    have GU : Hid (Go3 x3 w0.heap.size rb bx (.slice (some ⟨gb, 0, none⟩) pj.length gc) (.slice xm (mers L n d pj).length ym) bs cs d pj (mers L n d pj)) := HA.out.2.2.2.later HX3.out
    have p1 := GU.out.box.cell (j := 1) (v := .slice (some ⟨gb, 0, none⟩) pj.length gc) rfl
    have hlow := GU.out.low
    clear hkI hk1 hkl
    go_upto_region 9 with (first | (at_builtin; refine pushPt rfl (.tmp 45) (.tmp 47) rfl x3 w0.heap.size _ pj.length (rvs bs cs d pj.length) (by simp [Act.eval]) GU.out.pth.top g d c2 1 (by simp [Act.eval]) (by have := HP.out.2.2.2.2.2.2; omega) hlow ?_; intro pa pc w4 ho4 hg4; have hB4 := (GU.out.box.alloc _).grownBy hg4 (ownsB_ne GU.out.pth.top GU.out.box (by decide)); have f4 := hB4.frozen; have d4 := hB4.cell (j := 1) rfl))
    have HV : Hid (Go3 (w4.setCell ⟨bx, 1, none⟩ (.slice pa (pj.length + 1) pc)) w0.heap.size rb bx (.slice pa (pj.length + 1) pc) (.slice xm (mers L n d pj).length ym) (upd bs pj.length g) (upd cs pj.length c2) d (pj ++ [Y]) (mers L n d pj) ∧ Below w0.heap.size w (w4.setCell ⟨bx, 1, none⟩ (.slice pa (pj.length + 1) pc))) := HJ.out.takeP HU3.out.1 HA.out.1 HU3.out.2 ho4 hg4
    obtain ⟨V, hV⟩ : ∃ W, W = w4.setCell ⟨bx, 1, none⟩ (.slice pa (pj.length + 1) pc) := ⟨_, rfl⟩
    rw [← hV] at HV ⊢
    clear hV ho4 hg4 hB4 f4 d4 p1 GU hlow
    have p2 := HV.out.1.box.cell (j := 2) (v := .slice xm (mers L n d pj).length ym) rfl
    have hlow := HV.out.1.low
    go_wp2_with (first | (at_builtin; refine pushL rfl (.tmp 55) (.tmp 57) rfl V m w0.heap.size _ (mers L n d pj) (by simp [Act.eval]) HV.out.1.pth.mer 1 (by simp [Act.eval]) (by rw [mers_len]; have := HP.out.2.2.2.2.2.2; omega) hlow ?_; intro ma mc w5 ho5 hg5 hp5; have hB5 := (HV.out.1.box.alloc _).grownBy hg5 (ownsB_ne HV.out.1.pth.mer HV.out.1.box (by decide)); have f5 := hB5.frozen; have d5 := hB5.cell (j := 2) rfl; have HY := HV.out.1.takeM ho5 hg5 hp5; have HZ : Hid _ := HY; clear HY hB5 ho5 hg5 hp5))
    go_ret
    exact ⟨by rw [htt.out]; first | done | rfl, ⟨.slice pa (pj.length + 1) pc, .slice ma ((mers L n d pj).length + 1) mc, upd bs pj.length g, upd cs pj.length c2, by rw [htt.out, tka_t, mers_snoc, HT.out.2]; exact HZ.out.1⟩, HV.out.2.trans HZ.out.2⟩
end Go.Proofs.Ytelejihgechmgaa
