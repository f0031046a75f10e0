/- The specification's ReplayHops: contract. -/
import Derived.Test.YtfpklfpcencimaaRp
import Derived.Test.YtfpklfpcencimaaWw
import Derived.Test.YtfpklfpcencimaaHp
import Derived.Test.YtfpklfpcencimaaRo
import Derived.Test.YtfpklfpcencimaaFo
import Derived.Maps.AppendAt
namespace Go.Proofs.Ytfpklfpcencimaa
open Go.RowKit
set_option linter.unusedVariables false
set_option linter.unusedSimpArgs false
/-- 'append(row, x)', the place of the new row told. -/
theorem pushL {ops : Array Oper} {rest : List Oper} {o : Oper} {a : Act} {Q : Exit → Act → World → Prop} (hgd : o.guard = none) (s x : Operand)
    (ho : o.op = .call { callee := .builtin .append, args := #[s, x], argTypes := #[43, 43] }) (w : World) (u : Int) (lo : Nat) (v : Value) (xs : List Int) (hs : a.eval s = v) (hown : Ol w lo v xs) (c : Nat) (hx : a.eval x = .slice (some ⟨w.heap.size, 0, none⟩) 1 c) (hn : xs.length ≤ 2000000) (hbase : lo ≤ w.heap.size)
    (h : ∀ ao cap w', Ol w' lo (.slice ao (xs.length + 1) cap) (xs ++ [u]) → (w.alloc (.cells #[.int .i64 u] 2)).grownBy w' v.ownBlock → ((Value.slice ao (xs.length + 1) cap).ownBlock = v.ownBlock ∨ (Value.slice ao (xs.length + 1) cap).ownBlock = some (w.heap.size + 1)) → wpList Try.prog ops Q rest (a.put o.dst (.slice ao (xs.length + 1) cap)) w') :
    wpList Try.prog ops Q (o :: rest) a (w.alloc (.cells #[.int .i64 u] 2)) := by
  obtain ⟨i, h1, h2, h3, h4⟩ := info_parts info2
  refine wpList_append_own_at _ hgd s x 43 ho lo 2 i (.int .i64 0) 1 8 Try.underlying43 h1 h2 h3 h4 rfl (by decide) v xs.length (ints xs) hs (hown.alloc _) ⟨w.heap.size, 0, none⟩ 1 c [.int .i64 u] hx rfl (cell_one_new w (.int .i64 u) 2) (by intro y hy; simp at hy; subst hy; rfl) (by unfold maxLen; omega) (by omega) (by simp; omega) ?_
  intro v' w' r1 r2 _ r4
  have e : Ol w' lo v' (xs ++ [u]) := by show w'.ownsRow lo 2 1 v' (xs ++ [u]).length (ints (xs ++ [u])); rw [ints_snoc, List.length_append]; exact r1
  obtain ⟨ao, cap, rfl, _⟩ := e.form
  have hl : (xs ++ [u]).length = xs.length + 1 := by simp
  rw [hl] at e r4 ⊢
  refine h ao cap w' e r2 ?_
  rcases r4 with q | q
  · exact Or.inl q
  · exact Or.inr (by rw [q]; simp)
/-- Two lists of their own, apart. -/
structure Ls2 (w : World) (lo : Nat) (vn vp : Value) (ns ps : List Int) : Prop where
  nl : Ol w lo vn ns
  pl : Ol w lo vp ps
  ap : ∀ g, vn.ownBlock = some g → vp.ownBlock ≠ some g
theorem Ls2.later {w w' : World} {lo : Nat} {vn vp : Value} {ns ps : List Int} (h : Ls2 w lo vn vp ns ps) (hb : Below w.heap.size w w') : Ls2 w' lo vn vp ns ps := ⟨h.nl.later hb, h.pl.later hb, h.ap⟩
theorem Ls2.pushN {w w4 : World} {lo c4 : Nat} {a4 : Option Addr} {vn vp : Value} {ns ps : List Int} {x : Int} (h : Ls2 w lo vn vp ns ps) (ho : Ol w4 lo (.slice a4 (ns.length + 1) c4) (ns ++ [x])) (hg : (w.alloc (.cells #[.int .i64 x] 2)).grownBy w4 vn.ownBlock) (hp : (Value.slice a4 (ns.length + 1) c4).ownBlock = vn.ownBlock ∨ (Value.slice a4 (ns.length + 1) c4).ownBlock = some (w.heap.size + 1)) (hlo : lo ≤ w.heap.size) :
    Ls2 w4 lo (.slice a4 (ns.length + 1) c4) vp (ns ++ [x]) ps ∧ Below lo w w4 := by
  refine ⟨⟨ho, h.pl.keepOn fun k hk => (hg.block k (by have := (h.pl.lt k hk).2; simp; omega) fun e => h.ap k e.symm hk).trans (Below.heap_alloc _ _ _ (h.pl.lt k hk).2), ?_⟩, ((Below.refl lo w).alloc hlo _).grown hg (by simp; omega) fun k hk => (h.nl.lt k hk).1⟩
  intro g hg2 hg3
  rcases hp with e | e
  · exact h.ap g (e.symm.trans hg2) hg3
  · have := (h.pl.lt g hg3).2
    rw [e] at hg2
    simp at hg2
    omega
theorem Ls2.pushP {w w4 : World} {lo c4 : Nat} {a4 : Option Addr} {vn vp : Value} {ns ps : List Int} {x : Int} (h : Ls2 w lo vn vp ns ps) (ho : Ol w4 lo (.slice a4 (ps.length + 1) c4) (ps ++ [x])) (hg : (w.alloc (.cells #[.int .i64 x] 2)).grownBy w4 vp.ownBlock) (hp : (Value.slice a4 (ps.length + 1) c4).ownBlock = vp.ownBlock ∨ (Value.slice a4 (ps.length + 1) c4).ownBlock = some (w.heap.size + 1)) (hlo : lo ≤ w.heap.size) :
    Ls2 w4 lo vn (.slice a4 (ps.length + 1) c4) ns (ps ++ [x]) ∧ Below lo w w4 := by
  refine ⟨⟨h.nl.keepOn fun k hk => (hg.block k (by have := (h.nl.lt k hk).2; simp; omega) fun e => h.ap k hk e.symm).trans (Below.heap_alloc _ _ _ (h.nl.lt k hk).2), ho, ?_⟩, ((Below.refl lo w).alloc hlo _).grown hg (by simp; omega) fun k hk => (h.pl.lt k hk).1⟩
  intro g hg2 hg3
  rcases hp with e | e
  · exact h.ap g hg2 (e.symm.trans hg3)
  · have := (h.nl.lt g hg2).2
    rw [e] at hg3
    simp at hg3
    omega
theorem Ls2.pop {w : World} {lo cn cq gn gp : Nat} {ns ps : List Int} {x y : Int} (h : Ls2 w lo (.slice (some ⟨gn, 0, none⟩) (ns.length + 1) cn) (.slice (some ⟨gp, 0, none⟩) (ps.length + 1) cq) (ns ++ [x]) (ps ++ [y])) :
    Ls2 w lo (.slice (some ⟨gn, 0, none⟩) ns.length cn) (.slice (some ⟨gp, 0, none⟩) ps.length cq) ns ps := ⟨h.nl.pop, h.pl.pop, h.ap⟩
theorem Ol.hd {w : World} {lo cap : Nat} {ao : Option Addr} {xs : List Int} {n : Nat} (h : Ol w lo (.slice ao n cap) xs) (h0 : xs ≠ []) : ∃ g, ao = some ⟨g, 0, none⟩ := by
  obtain ⟨_, h1 | ⟨g, c, cur, hv, r⟩⟩ := h
  · exact absurd (List.length_eq_zero_iff.1 h1.2) h0
  · simp only [Value.slice.injEq] at hv
    exact ⟨g, hv.1⟩
theorem Ol.last {w : World} {lo cap g : Nat} {xs : List Int} {x : Int} (h : Ol w lo (.slice (some ⟨g, 0, none⟩) (xs.length + 1) cap) (xs ++ [x])) : w.cell? ⟨g, xs.length, none⟩ = some (.int .i64 x) := by
  obtain ⟨_, h1 | ⟨g', c, cur, hv, hg, hh, h1, h2, h3, h4⟩⟩ := h
  · have := h1.2; simp at this
  · simp only [Value.slice.injEq] at hv
    obtain ⟨e, _, _⟩ := hv
    simp at e
    subst e
    have e2 : (cur.toList.take ((xs ++ [x]).length * 1))[xs.length]? = (ints (xs ++ [x]))[xs.length]? := by rw [h4]
    rw [List.getElem?_take_of_lt (by simp), ints_at _ _ (by simp), getD_snoc] at e2
    unfold World.cell?
    rw [hh]
    show cur[xs.length]? = _
    rw [← Array.getElem?_toList]
    exact e2
set_option maxRecDepth 20000 in
set_option maxHeartbeats 32000000 in
theorem sRep_any {w : World} {ao bo : Option Addr} {nf cp nh ch : Nat} {nodes slots a0 fr tt a3 a4 c : Int} {F H : Nat → Fb} (hc : c = rcode nodes slots nf F fr tt nh H) (h : Rf w (.slice ao nf cp) nf F) (hh : Rf w (.slice bo nh ch) nh H) (hf : nf ≤ 1048576) (hn : nh ≤ 1048576) :
    Calls Try.prog 15 #[.agg #[.int .i64 nodes, .int .i64 slots, .slice ao nf cp], .agg #[.int .i64 a0, .int .i64 fr, .int .i64 tt, .int .i64 a3, .int .i64 a4], .slice bo nh ch] w fun e w' => ∃ l, e = .returned (.agg #[.int .i64 c, l]) ∧ OwnI w.heap.size w'.heap.size w' c l (rlist nf F fr nh H) ∧ Below w.heap.size w w' := by
  obtain ⟨X, hX⟩ : ∃ X, X = ((w.alloc (.cells #[.int .i64 nodes, .int .i64 slots, .slice ao nf cp] 32)).alloc (.cells #[.int .i64 a0, .int .i64 fr, .int .i64 tt, .int .i64 a3, .int .i64 a4] 47)).alloc (.cells #[.int .i64 0, .slice none 0 0] 45) := ⟨_, rfl⟩
  have BX : Hid (Blk X w.heap.size #[.int .i64 nodes, .int .i64 slots, .slice ao nf cp] 32 ∧ Blk X (w.heap.size + 1) #[.int .i64 a0, .int .i64 fr, .int .i64 tt, .int .i64 a3, .int .i64 a4] 47 ∧ Blk X (w.heap.size + 1 + 1) #[.int .i64 0, .slice none 0 0] 45 ∧ Below w.heap.size w X) := by
    rw [hX]
    exact ⟨((Blk.new rfl).alloc _).alloc _, (Blk.new (by simp)).alloc _, Blk.new (by simp), (((Below.refl _ _).alloc (Nat.le_refl _) _).alloc (by simp) _).alloc (by simp; omega) _⟩
  have hXz : w.heap.size + 1 + 1 < X.heap.size := BX.out.2.2.1.lt
  have HF : ∀ W, Below X.heap.size X W → Hid (Rf W (.slice ao nf cp) nf F ∧ Rf W (.slice bo nh ch) nh H) := fun W hb => ⟨h.later (BX.out.2.2.2.trans (hb.mono (by omega))), hh.later (BX.out.2.2.2.trans (hb.mono (by omega)))⟩
  have HC : Hid (c = rcode nodes slots nf F fr tt nh H) := hc
  have hnI : (nh : Int) ≤ 1048576 := by omega
  clear h hh hc
  have y0 := BX.out.1.cell (j := 0) (v := .int .i64 nodes) rfl
  have y1 := BX.out.1.cell (j := 1) (v := .int .i64 slots) rfl
  have y2 := BX.out.1.cell (j := 2) (v := .slice ao nf cp) rfl
  have n1 := BX.out.2.1.cell (j := 1) (v := .int .i64 fr) rfl
  have n2 := BX.out.2.1.cell (j := 2) (v := .int .i64 tt) rfl
  clear n1 n2
  go_enter Try.func15, Try.ntmps15
  go_wp2_with fail
  rw [← hX]
  clear hX
  go_wp2_with fail
  refine (sNf_any (HF _ (Below.refl _ _)).out.1 hf).mono ?_
  rintro e w1 ⟨rfl, hb1⟩
  have H1 : Hid (Below X.heap.size X w1) := hb1
  have hx1 : X.heap.size ≤ w1.heap.size := hb1.size
  clear hb1 y0 y1 y2
  obtain ⟨d, hd⟩ : ∃ d, d = Nt.nfault nodes slots nf F := ⟨_, rfl⟩
  have HD : Hid (d = Nt.nfault nodes slots nf F) := hd
  rw [← hd]
  clear hd
  by_cases hz : d = 0
  · subst hz
    have HG : Hid (Nt.Good nodes slots nf F) := Nt.nf_good HD.out.symm
    obtain ⟨w2, hw2⟩ : ∃ W, W = w1.alloc (.cells #[.int .i64 1, .slice none 0 0] 45) := ⟨_, rfl⟩
    have HBB : Hid (Blk w2 w1.heap.size #[.int .i64 1, .slice none 0 0] 45) := by rw [hw2]; exact Blk.new rfl
    have H2 : Hid (Below X.heap.size X w2) := by rw [hw2]; exact H1.out.alloc hx1 _
    have hx2 : w1.heap.size < w2.heap.size := HBB.out.lt
    have y0 := (BX.out.1.old H2.out).cell (j := 0) (v := .int .i64 nodes) rfl
    have y1 := (BX.out.1.old H2.out).cell (j := 1) (v := .int .i64 slots) rfl
    have y2 := (BX.out.1.old H2.out).cell (j := 2) (v := .slice ao nf cp) rfl
    have n1 := (BX.out.2.1.old H2.out).cell (j := 1) (v := .int .i64 fr) rfl
    have n2 := (BX.out.2.1.old H2.out).cell (j := 2) (v := .int .i64 tt) rfl
    go_upto_region 5 with fail
    rw [← hw2]
    clear hw2
    go_wp2_with fail
    refine (sNode_any nodes slots fr ao nf cp w2).mono ?_
    rintro e w3 ⟨rfl, hb3⟩
    have H3 : Hid (Below X.heap.size X w3 ∧ Below w2.heap.size w2 w3) := ⟨box_step H2.out hb3 (Nat.le_refl _), hb3⟩
    have hx3 : w2.heap.size ≤ w3.heap.size := hb3.size
    clear hb3 y0 y1 y2 n1 n2
    have y0 := (BX.out.1.old H3.out.1).cell (j := 0) (v := .int .i64 nodes) rfl
    have y1 := (BX.out.1.old H3.out.1).cell (j := 1) (v := .int .i64 slots) rfl
    have y2 := (BX.out.1.old H3.out.1).cell (j := 2) (v := .slice ao nf cp) rfl
    have n1 := (BX.out.2.1.old H3.out.1).cell (j := 1) (v := .int .i64 fr) rfl
    have n2 := (BX.out.2.1.old H3.out.1).cell (j := 2) (v := .int .i64 tt) rfl
    obtain ⟨q1, hq1⟩ : ∃ b, b = Nt.isN nodes fr := ⟨_, rfl⟩
    have HQ1 : Hid (q1 = Nt.isN nodes fr) := hq1
    rw [← hq1]
    clear hq1
    cases q1 with
    | false =>
      have E : Hid (c = 1) := by
        show c = 1
        have he : Nt.efault nodes slots nf F fr tt = 1 := Nt.ef_one HD.out.symm (by unfold Nt.ends; rw [← HQ1.out]; rfl)
        rw [HC.out, rcode_ef (by rw [he]; decide), he]
      obtain rfl := E.out
      have b0 := (HBB.out.old H3.out.2).cell (j := 0) (v := .int .i64 1) rfl
      have b1 := (HBB.out.old H3.out.2).cell (j := 1) (v := .slice none 0 0) rfl
      have r0 := (BX.out.2.2.1.old H3.out.1).cell (j := 0) (v := .int .i64 0) rfl
      have r1 := (BX.out.2.2.1.old H3.out.1).cell (j := 1) (v := .slice none 0 0) rfl
      have rf := (BX.out.2.2.1.old H3.out.1).frozen
      have HBR : Hid (Blk ((w3.setCell ⟨w.heap.size + 1 + 1, 0, none⟩ (.int .i64 1)).setCell ⟨w.heap.size + 1 + 1, 1, none⟩ (.slice none 0 0)) (w.heap.size + 1 + 1) #[.int .i64 1, .slice none 0 0] 45 ∧ Below w.heap.size w ((w3.setCell ⟨w.heap.size + 1 + 1, 0, none⟩ (.int .i64 1)).setCell ⟨w.heap.size + 1 + 1, 1, none⟩ (.slice none 0 0))) :=
        ⟨((BX.out.2.2.1.old H3.out.1).set 0 _ rfl).set 1 _ rfl, ((BX.out.2.2.2.trans (H3.out.1.mono (by omega))).setCell (by simp; omega) _).setCell (by simp; omega) _⟩
      go_wp2_with fail
      have s0 := HBR.out.1.cell (j := 0) (v := .int .i64 1) rfl
      have s1 := HBR.out.1.cell (j := 1) (v := .slice none 0 0) rfl
      refine bodyPost_ret (v := .agg #[.int .i64 1, .slice none 0 0]) ?_ rfl ⟨_, rfl, Or.inl ⟨by omega, rfl⟩, HBR.out.2⟩
      simp [results, Try.results15, go_sem, s0, s1]
    | true =>
      go_wp2_with fail
      refine (sNode_any nodes slots tt ao nf cp w3).mono ?_
      rintro e w4 ⟨rfl, hb4⟩
      have H4 : Hid (Below X.heap.size X w4 ∧ Below w2.heap.size w2 w4) := ⟨box_step H3.out.1 hb4 (Nat.le_refl _), box_step H3.out.2 hb4 (Nat.le_refl _)⟩
      have hx4 : w3.heap.size ≤ w4.heap.size := hb4.size
      clear hb4 y0 y1 y2 n1 n2
      have n1 := (BX.out.2.1.old H4.out.1).cell (j := 1) (v := .int .i64 fr) rfl
      have n2 := (BX.out.2.1.old H4.out.1).cell (j := 2) (v := .int .i64 tt) rfl
      obtain ⟨q2, hq2⟩ : ∃ b, b = Nt.isN nodes tt := ⟨_, rfl⟩
      have HQ2 : Hid (q2 = Nt.isN nodes tt) := hq2
      rw [← hq2]
      clear hq2
      cases q2 with
      | false =>
        have E : Hid (c = 1) := by
          show c = 1
          have he : Nt.efault nodes slots nf F fr tt = 1 := Nt.ef_one HD.out.symm (by unfold Nt.ends; rw [← HQ1.out, ← HQ2.out]; rfl)
          rw [HC.out, rcode_ef (by rw [he]; decide), he]
        obtain rfl := E.out
        have b0 := (HBB.out.old H4.out.2).cell (j := 0) (v := .int .i64 1) rfl
        have b1 := (HBB.out.old H4.out.2).cell (j := 1) (v := .slice none 0 0) rfl
        have r0 := (BX.out.2.2.1.old H4.out.1).cell (j := 0) (v := .int .i64 0) rfl
        have r1 := (BX.out.2.2.1.old H4.out.1).cell (j := 1) (v := .slice none 0 0) rfl
        have rf := (BX.out.2.2.1.old H4.out.1).frozen
        have HBR : Hid (Blk ((w4.setCell ⟨w.heap.size + 1 + 1, 0, none⟩ (.int .i64 1)).setCell ⟨w.heap.size + 1 + 1, 1, none⟩ (.slice none 0 0)) (w.heap.size + 1 + 1) #[.int .i64 1, .slice none 0 0] 45 ∧ Below w.heap.size w ((w4.setCell ⟨w.heap.size + 1 + 1, 0, none⟩ (.int .i64 1)).setCell ⟨w.heap.size + 1 + 1, 1, none⟩ (.slice none 0 0))) :=
          ⟨((BX.out.2.2.1.old H4.out.1).set 0 _ rfl).set 1 _ rfl, ((BX.out.2.2.2.trans (H4.out.1.mono (by omega))).setCell (by simp; omega) _).setCell (by simp; omega) _⟩
        go_wp2_with fail
        have s0 := HBR.out.1.cell (j := 0) (v := .int .i64 1) rfl
        have s1 := HBR.out.1.cell (j := 1) (v := .slice none 0 0) rfl
        refine bodyPost_ret (v := .agg #[.int .i64 1, .slice none 0 0]) ?_ rfl ⟨_, rfl, Or.inl ⟨by omega, rfl⟩, HBR.out.2⟩
        simp [results, Try.results15, go_sem, s0, s1]
      | true =>
        by_cases hft : fr = tt
        · have hfb : (fr == tt) = true := by simpa using hft
          have E : Hid (c = 1) := by
            show c = 1
            have he : Nt.efault nodes slots nf F fr tt = 1 := Nt.ef_one HD.out.symm (by unfold Nt.ends; rw [← HQ1.out, ← HQ2.out]; simp [hft])
            rw [HC.out, rcode_ef (by rw [he]; decide), he]
          obtain rfl := E.out
          clear hft
          have b0 := (HBB.out.old H4.out.2).cell (j := 0) (v := .int .i64 1) rfl
          have b1 := (HBB.out.old H4.out.2).cell (j := 1) (v := .slice none 0 0) rfl
          have r0 := (BX.out.2.2.1.old H4.out.1).cell (j := 0) (v := .int .i64 0) rfl
          have r1 := (BX.out.2.2.1.old H4.out.1).cell (j := 1) (v := .slice none 0 0) rfl
          have rf := (BX.out.2.2.1.old H4.out.1).frozen
          have HBR : Hid (Blk ((w4.setCell ⟨w.heap.size + 1 + 1, 0, none⟩ (.int .i64 1)).setCell ⟨w.heap.size + 1 + 1, 1, none⟩ (.slice none 0 0)) (w.heap.size + 1 + 1) #[.int .i64 1, .slice none 0 0] 45 ∧ Below w.heap.size w ((w4.setCell ⟨w.heap.size + 1 + 1, 0, none⟩ (.int .i64 1)).setCell ⟨w.heap.size + 1 + 1, 1, none⟩ (.slice none 0 0))) :=
            ⟨((BX.out.2.2.1.old H4.out.1).set 0 _ rfl).set 1 _ rfl, ((BX.out.2.2.2.trans (H4.out.1.mono (by omega))).setCell (by simp; omega) _).setCell (by simp; omega) _⟩
          go_wp2_with fail
          have s0 := HBR.out.1.cell (j := 0) (v := .int .i64 1) rfl
          have s1 := HBR.out.1.cell (j := 1) (v := .slice none 0 0) rfl
          refine bodyPost_ret (v := .agg #[.int .i64 1, .slice none 0 0]) ?_ rfl ⟨_, rfl, Or.inl ⟨by omega, rfl⟩, HBR.out.2⟩
          simp [results, Try.results15, go_sem, s0, s1]
        · have hfb : (fr == tt) = false := by simpa using hft
          have HE : Hid (Nt.efault nodes slots nf F fr tt = 0) := Nt.ef_nil HD.out.symm (by unfold Nt.ends; rw [← HQ1.out, ← HQ2.out]; simp [hft])
          clear hft
          obtain ⟨w5, hw5⟩ : ∃ W, W = (w4.alloc (.cells #[.int .i64 fr] 2)).alloc (.cells #[] 2) := ⟨_, rfl⟩
          obtain ⟨lo, hlo⟩ : ∃ l, l = w4.heap.size := ⟨_, rfl⟩
          have H5 : Hid (Ls2 w5 lo (.slice (some ⟨w4.heap.size, 0, none⟩) 1 1) (.slice (some ⟨w4.heap.size + 1, 0, none⟩) 0 0) [fr] [] ∧ Below lo w4 w5) := by
            rw [hw5, hlo]
            refine ⟨⟨(Ol.one w4 fr).later ((Below.refl _ _).alloc (Nat.le_refl _) _), ?_, ?_⟩, ((Below.refl _ _).alloc (Nat.le_refl _) _).alloc (by simp) _⟩
            · have h1 := owns_empty (w4.alloc (.cells #[.int .i64 fr] 2)) 2
              have h2 : Ol ((w4.alloc (.cells #[.int .i64 fr] 2)).alloc (.cells #[] 2)) (w4.heap.size + 1) (.slice (some ⟨w4.heap.size + 1, 0, none⟩) 0 0) [] := by simpa [Ol, ints] using h1
              exact h2.low (by omega)
            · intro g h1 h2
              simp [Value.ownBlock] at h1 h2
              omega
          have HLO : Hid (lo = w4.heap.size) := hlo
          have hx5 : X.heap.size ≤ lo := by omega
          have h25 : w2.heap.size ≤ lo := by omega
          clear hlo
          go_wp2_with fail
          rw [← hw5]
          clear hw5 n1 n2
          go_loopw [9, 10, 11] (fun s9 s10 s11 wr => ∃ k : Nat, k ≤ nh ∧ s11 = .int .i64 k ∧ Hid (∃ ns ps, rps nf F fr H k = some (ns, ps) ∧ Ls2 wr lo s9 s10 ns ps ∧ Below lo w4 wr)) (fun _ _ i _ => nh - (intOf i).toNat)
          case atStart => exact ⟨0, Nat.zero_le _, rfl, _, _, rfl, H5.out.1, H5.out.2⟩
          case round =>
            obtain ⟨k, hk, rfl, ns, ps, hrp, hL, hbl⟩ := hrel
            have HWY : Hid (Way nf F k ns ps) := rps_way HG.out hrp
            have hlr : lo ≤ wr.heap.size := by have h1 := hbl.size; rw [← HLO.out] at h1; exact h1
            have hnl : ns.length ≤ 1048577 := by have h1 := HWY.out.len; have h2 := HWY.out.few; omega
            have hpl : ps.length ≤ 1048576 := by have h2 := HWY.out.few; omega
            have hn0 : ns ≠ [] := by rintro rfl; have h1 := HWY.out.len; simp at h1
            obtain ⟨an, cn, rfl, hcn⟩ := hL.nl.form
            obtain ⟨ap, cq, rfl, hcq⟩ := hL.pl.form
            by_cases hkn : k < nh
            · obtain ⟨gn, rfl⟩ := hL.nl.hd hn0
              obtain ⟨ns0, x, rfl⟩ : ∃ ns0 x, ns = ns0 ++ [x] := ⟨_, _, snoc_of hn0⟩
              rw [List.length_append] at hcn hnl hL
              simp only [List.length_cons, List.length_nil, Nat.zero_add] at hcn hnl hL
              rw [List.length_append]
              simp only [List.length_cons, List.length_nil, Nat.zero_add]
              have HX : Hid (Below X.heap.size X wr) := H4.out.1.trans (hbl.mono hx5)
              obtain ⟨b, off, rfl, hcl⟩ := (HF wr HX.out).out.2.at hkn
              obtain ⟨p, hp⟩ : ∃ p, p = H k := ⟨_, rfl⟩
              rw [← hp] at hcl
              have f0 : wr.cell? ⟨b, off + k * 3, none⟩ = some (.int .i64 p.a) := hcl 0 (by omega)
              have f1 : wr.cell? ⟨b, off + k * 3 + 1, none⟩ = some (.int .i64 p.b) := hcl 1 (by omega)
              have f2 : wr.cell? ⟨b, off + k * 3 + 2, none⟩ = some (.int .i64 p.km) := hcl 2 (by omega)
              have hkI : (k : Int) < nh := by omega
              have hnlI : (ns0.length : Int) ≤ 1048576 := by omega
              obtain ⟨wq, hwq⟩ : ∃ W, W = wr.alloc (.cells #[.int .i64 p.a, .int .i64 p.b, .int .i64 p.km] 70) := ⟨_, rfl⟩
              have HQ : Hid (Blk wq wr.heap.size #[.int .i64 p.a, .int .i64 p.b, .int .i64 p.km] 70 ∧ Ls2 wq lo (.slice (some ⟨gn, 0, none⟩) (ns0.length + 1) cn) (.slice ap ps.length cq) (ns0 ++ [x]) ps ∧ Below lo w4 wq) := by
                rw [hwq]
                exact ⟨Blk.new rfl, hL.later ((Below.refl _ _).alloc (Nat.le_refl _) _), hbl.alloc hlr _⟩
              have hlq : lo ≤ wq.heap.size := by have h1 := HQ.out.2.2.size; rw [← HLO.out] at h1; exact h1
              have HXQ : Hid (Below X.heap.size X wq ∧ Below w2.heap.size w2 wq) := ⟨H4.out.1.trans (HQ.out.2.2.mono hx5), H4.out.2.trans (HQ.out.2.2.mono h25)⟩
              have HP : Hid (p = H k ∧ rps nf F fr H k = some (ns0 ++ [x], ps)) := ⟨hp, hrp⟩
              clear hL hbl hcl hp hrp
              go_upto_region 13 with fail
              rw [← hwq]
              clear hwq f0 f1 f2
              have g0 := HQ.out.1.cell (j := 0) (v := .int .i64 p.a) rfl
              have g1 := HQ.out.1.cell (j := 1) (v := .int .i64 p.b) rfl
              have g2 := HQ.out.1.cell (j := 2) (v := .int .i64 p.km) rfl
              have l1 := HQ.out.2.1.nl.last
              have y0 := (BX.out.1.old HXQ.out.1).cell (j := 0) (v := .int .i64 nodes) rfl
              have y1 := (BX.out.1.old HXQ.out.1).cell (j := 1) (v := .int .i64 slots) rfl
              have y2 := (BX.out.1.old HXQ.out.1).cell (j := 2) (v := .slice ao nf cp) rfl
              by_cases hnx : p.b = x
              · have e1 : (p.b != x) = false := by simpa using hnx
                have HNX : Hid (p.b = lst (ns0 ++ [x])) := by rw [lst_snoc]; exact hnx
                clear hnx
                by_cases ha1 : p.a < 1
                · have d1 : decide (p.a < 1) = true := by simpa using ha1
                  have E : Hid (c = 1) := by
                    show c = 1
                    rw [HC.out]
                    refine rcode_bad HE.out (rps_no (k := k + 1) (rps_bad HP.out.2 ?_) hkn)
                    rw [← HP.out.1]
                    unfold alw
                    split
                    · rfl
                    · rw [if_neg (by omega), if_neg (by omega), if_neg (by omega)]
                  obtain rfl := E.out
                  have b0 := (HBB.out.old HXQ.out.2).cell (j := 0) (v := .int .i64 1) rfl
                  have b1 := (HBB.out.old HXQ.out.2).cell (j := 1) (v := .slice none 0 0) rfl
                  have r0 := (BX.out.2.2.1.old HXQ.out.1).cell (j := 0) (v := .int .i64 0) rfl
                  have r1 := (BX.out.2.2.1.old HXQ.out.1).cell (j := 1) (v := .slice none 0 0) rfl
                  have rf := (BX.out.2.2.1.old HXQ.out.1).frozen
                  have HBR : Hid (Blk ((wq.setCell ⟨w.heap.size + 1 + 1, 0, none⟩ (.int .i64 1)).setCell ⟨w.heap.size + 1 + 1, 1, none⟩ (.slice none 0 0)) (w.heap.size + 1 + 1) #[.int .i64 1, .slice none 0 0] 45 ∧ Below w.heap.size w ((wq.setCell ⟨w.heap.size + 1 + 1, 0, none⟩ (.int .i64 1)).setCell ⟨w.heap.size + 1 + 1, 1, none⟩ (.slice none 0 0))) :=
                    ⟨((BX.out.2.2.1.old HXQ.out.1).set 0 _ rfl).set 1 _ rfl, ((BX.out.2.2.2.trans (HXQ.out.1.mono (by omega))).setCell (by simp; omega) _).setCell (by simp; omega) _⟩
                  go_wp2_with fail
                  have s0 := HBR.out.1.cell (j := 0) (v := .int .i64 1) rfl
                  have s1 := HBR.out.1.cell (j := 1) (v := .slice none 0 0) rfl
                  refine bodyPost_ret (v := .agg #[.int .i64 1, .slice none 0 0]) ?_ rfl ⟨_, rfl, Or.inl ⟨by omega, rfl⟩, HBR.out.2⟩
                  simp [results, Try.results15, go_sem, s0, s1]
                · have d1 : decide (p.a < 1) = false := by simpa using ha1
                  by_cases ha5 : 5 < p.a
                  · have d5 : decide (5 < p.a) = true := by simpa using ha5
                    have E : Hid (c = 1) := by
                      show c = 1
                      rw [HC.out]
                      refine rcode_bad HE.out (rps_no (k := k + 1) (rps_bad HP.out.2 ?_) hkn)
                      rw [← HP.out.1]
                      unfold alw
                      split
                      · rfl
                      · rw [if_neg (by omega), if_neg (by omega), if_neg (by omega)]
                    obtain rfl := E.out
                    have b0 := (HBB.out.old HXQ.out.2).cell (j := 0) (v := .int .i64 1) rfl
                    have b1 := (HBB.out.old HXQ.out.2).cell (j := 1) (v := .slice none 0 0) rfl
                    have r0 := (BX.out.2.2.1.old HXQ.out.1).cell (j := 0) (v := .int .i64 0) rfl
                    have r1 := (BX.out.2.2.1.old HXQ.out.1).cell (j := 1) (v := .slice none 0 0) rfl
                    have rf := (BX.out.2.2.1.old HXQ.out.1).frozen
                    have HBR : Hid (Blk ((wq.setCell ⟨w.heap.size + 1 + 1, 0, none⟩ (.int .i64 1)).setCell ⟨w.heap.size + 1 + 1, 1, none⟩ (.slice none 0 0)) (w.heap.size + 1 + 1) #[.int .i64 1, .slice none 0 0] 45 ∧ Below w.heap.size w ((wq.setCell ⟨w.heap.size + 1 + 1, 0, none⟩ (.int .i64 1)).setCell ⟨w.heap.size + 1 + 1, 1, none⟩ (.slice none 0 0))) :=
                      ⟨((BX.out.2.2.1.old HXQ.out.1).set 0 _ rfl).set 1 _ rfl, ((BX.out.2.2.2.trans (HXQ.out.1.mono (by omega))).setCell (by simp; omega) _).setCell (by simp; omega) _⟩
                    go_wp2_with fail
                    have s0 := HBR.out.1.cell (j := 0) (v := .int .i64 1) rfl
                    have s1 := HBR.out.1.cell (j := 1) (v := .slice none 0 0) rfl
                    refine bodyPost_ret (v := .agg #[.int .i64 1, .slice none 0 0]) ?_ rfl ⟨_, rfl, Or.inl ⟨by omega, rfl⟩, HBR.out.2⟩
                    simp [results, Try.results15, go_sem, s0, s1]
                  · have d5 : decide (5 < p.a) = false := by simpa using ha5
                    have HBD : Hid (nf ≤ 1048576 ∧ nh ≤ 1048576 ∧ ns0.length + 1 ≤ 1048577 ∧ ps.length ≤ 1048576 ∧ ns0.length + 1 ≤ cn ∧ ps.length ≤ cq) := ⟨hf, hn, hnl, hpl, hcn, hcq⟩
                    clear hf hn hnl hpl hcn hcq
                    go_wp2_with fail
                    refine (sFib_any nodes slots p.km ao nf cp _).mono ?_
                    rintro e w6 ⟨rfl, hb6⟩
                    have H6 : Hid (Blk w6 wr.heap.size #[.int .i64 p.a, .int .i64 p.b, .int .i64 p.km] 70 ∧ Ls2 w6 lo (.slice (some ⟨gn, 0, none⟩) (ns0.length + 1) cn) (.slice ap ps.length cq) (ns0 ++ [x]) ps ∧ Below lo w4 w6) := ⟨HQ.out.1.old hb6, HQ.out.2.1.later hb6, HQ.out.2.2.trans (hb6.mono hlq)⟩
                    have HX6 : Hid (Below X.heap.size X w6 ∧ Below w2.heap.size w2 w6) := ⟨H4.out.1.trans (H6.out.2.2.mono hx5), H4.out.2.trans (H6.out.2.2.mono h25)⟩
                    have hl6 : lo ≤ w6.heap.size := Nat.le_trans hlq hb6.size
                    clear hb6 g0 g1 g2 l1 y0 y1 y2
                    obtain ⟨fi, hfi⟩ : ∃ a, a = Nt.isFi nf p.km := ⟨_, rfl⟩
                    have HFI : Hid (fi = Nt.isFi nf p.km) := hfi
                    rw [← hfi]
                    clear hfi
                    cases fi with
                    | false =>
                      have E : Hid (c = 1) := by
                        show c = 1
                        rw [HC.out]
                        refine rcode_bad HE.out (rps_no (k := k + 1) (rps_bad HP.out.2 ?_) hkn)
                        rw [← HP.out.1]
                        unfold alw
                        rw [if_pos (Or.inr HFI.out.symm)]
                      obtain rfl := E.out
                      have b0 := (HBB.out.old HX6.out.2).cell (j := 0) (v := .int .i64 1) rfl
                      have b1 := (HBB.out.old HX6.out.2).cell (j := 1) (v := .slice none 0 0) rfl
                      have r0 := (BX.out.2.2.1.old HX6.out.1).cell (j := 0) (v := .int .i64 0) rfl
                      have r1 := (BX.out.2.2.1.old HX6.out.1).cell (j := 1) (v := .slice none 0 0) rfl
                      have rf := (BX.out.2.2.1.old HX6.out.1).frozen
                      have HBR : Hid (Blk ((w6.setCell ⟨w.heap.size + 1 + 1, 0, none⟩ (.int .i64 1)).setCell ⟨w.heap.size + 1 + 1, 1, none⟩ (.slice none 0 0)) (w.heap.size + 1 + 1) #[.int .i64 1, .slice none 0 0] 45 ∧ Below w.heap.size w ((w6.setCell ⟨w.heap.size + 1 + 1, 0, none⟩ (.int .i64 1)).setCell ⟨w.heap.size + 1 + 1, 1, none⟩ (.slice none 0 0))) :=
                        ⟨((BX.out.2.2.1.old HX6.out.1).set 0 _ rfl).set 1 _ rfl, ((BX.out.2.2.2.trans (HX6.out.1.mono (by omega))).setCell (by simp; omega) _).setCell (by simp; omega) _⟩
                      go_wp2_with fail
                      have s0 := HBR.out.1.cell (j := 0) (v := .int .i64 1) rfl
                      have s1 := HBR.out.1.cell (j := 1) (v := .slice none 0 0) rfl
                      refine bodyPost_ret (v := .agg #[.int .i64 1, .slice none 0 0]) ?_ rfl ⟨_, rfl, Or.inl ⟨by omega, rfl⟩, HBR.out.2⟩
                      simp [results, Try.results15, go_sem, s0, s1]
                    | true =>
                      have hfb := Nt.isFi_iff.1 HFI.out.symm
                      obtain ⟨i, hi⟩ : ∃ i : Nat, p.km = i := ⟨p.km.toNat, by omega⟩
                      have hin : i < nf := by omega
                      have hinI : (i : Int) < nf := by omega
                      have HI : Hid (p.km = (i : Int)) := hi
                      have g0 := H6.out.1.cell (j := 0) (v := .int .i64 p.a) rfl
                      have g2 : w6.cell? ⟨wr.heap.size, 2, none⟩ = some (.int .i64 (i : Int)) := by rw [← hi]; exact H6.out.1.cell (j := 2) rfl
                      clear hfb hi
                      obtain ⟨b2, off2, rfl, hc2⟩ := (HF w6 HX6.out.1).out.1.at hin
                      obtain ⟨g, hg⟩ : ∃ g, g = F i := ⟨_, rfl⟩
                      rw [← hg] at hc2
                      have z0 : w6.cell? ⟨b2, off2 + i * 3, none⟩ = some (.int .i64 g.a) := hc2 0 (by omega)
                      have z1 : w6.cell? ⟨b2, off2 + i * 3 + 1, none⟩ = some (.int .i64 g.b) := hc2 1 (by omega)
                      have z2 : w6.cell? ⟨b2, off2 + i * 3 + 2, none⟩ = some (.int .i64 g.km) := hc2 2 (by omega)
                      have y2 := (BX.out.1.old HX6.out.1).cell (j := 2) (v := .slice (some ⟨b2, off2, none⟩) nf cp) rfl
                      obtain ⟨o, ho⟩ : ∃ o, o = Nt.oth g x := ⟨_, rfl⟩
                      have HO : Hid (o = Nt.oth (F p.km.toNat) x) := by show o = _; rw [ho, hg, HI.out]; rfl
                      have HO2 : Hid (o = Nt.oth (F i) x) := by show o = _; rw [ho, hg]
                      have HSO : ∀ W, Calls Try.prog 38 #[.agg #[.int .i64 g.a, .int .i64 g.b, .int .i64 g.km], .int .i64 x] W fun e w' => e = .returned (.int .i64 o) ∧ Below W.heap.size W w' := fun W => by rw [ho]; exact sOth_any g x W
                      clear hc2 hin ho hg
                      go_wp2_with fail
                      refine (HSO w6).mono ?_
                      rintro e w7 ⟨rfl, hb7⟩
                      have H7 : Hid (Blk w7 wr.heap.size #[.int .i64 p.a, .int .i64 p.b, .int .i64 p.km] 70 ∧ Ls2 w7 lo (.slice (some ⟨gn, 0, none⟩) (ns0.length + 1) cn) (.slice ap ps.length cq) (ns0 ++ [x]) ps ∧ Below lo w4 w7) := ⟨H6.out.1.old hb7, H6.out.2.1.later hb7, H6.out.2.2.trans (hb7.mono hl6)⟩
                      have HX7 : Hid (Below X.heap.size X w7 ∧ Below w2.heap.size w2 w7) := ⟨H4.out.1.trans (H7.out.2.2.mono hx5), H4.out.2.trans (H7.out.2.2.mono h25)⟩
                      have hl7 : lo ≤ w7.heap.size := Nat.le_trans hl6 hb7.size
                      clear hb7 g0 g2 z0 z1 z2 y2
                      have HALW : Hid (alw nf F (ns0 ++ [x]) ps p.a p.b p.km = if p.a = 1 then decide (0 ≤ o) && !Nt.has (fun i => (ns0 ++ [x]).getD i 0) (ns0 ++ [x]).length o else if p.a = 2 ∨ p.a = 3 ∨ p.a = 4 then decide (0 ≤ o) else if p.a = 5 then decide (p.km = cam ps) else false) := by
                        show alw nf F (ns0 ++ [x]) ps p.a p.b p.km = _
                        have hx := HNX.out
                        rw [lst_snoc] at hx
                        unfold alw
                        rw [if_neg (by rw [← HFI.out, ← HNX.out]; simp), hx, ← HO.out]
                      have g0 := H7.out.1.cell (j := 0) (v := .int .i64 p.a) rfl
                      have g2 : w7.cell? ⟨wr.heap.size, 2, none⟩ = some (.int .i64 (i : Int)) := by rw [← HI.out]; exact H7.out.1.cell (j := 2) rfl
                      by_cases hon : o < 0
                      · have don : decide (o < 0) = true := by simpa using hon
                        have E : Hid (c = 1) := by
                          show c = 1
                          rw [HC.out]
                          refine rcode_bad HE.out (rps_no (k := k + 1) (rps_bad HP.out.2 ?_) hkn)
                          rw [← HP.out.1]
                          rw [HALW.out]
                          by_cases q1 : p.a = 1
                          · rw [if_pos q1]; simp; omega
                          · rw [if_neg q1]
                            by_cases q2 : p.a = 2 ∨ p.a = 3 ∨ p.a = 4
                            · rw [if_pos q2]; simp; omega
                            · rw [if_neg q2]
                              by_cases q5 : p.a = 5
                              · rw [if_pos q5]
                                simp only [decide_eq_false_iff_not]
                                intro e
                                have hps : ps ≠ [] := by rintro rfl; rw [cam_nil] at e; have hh := HI.out; omega
                                have hbk := HWY.out.back hps
                                rw [← cam_some hps, ← e, ← HO.out] at hbk
                                omega
                              · rw [if_neg q5]
                        obtain rfl := E.out
                        have b0 := (HBB.out.old HX7.out.2).cell (j := 0) (v := .int .i64 1) rfl
                        have b1 := (HBB.out.old HX7.out.2).cell (j := 1) (v := .slice none 0 0) rfl
                        have r0 := (BX.out.2.2.1.old HX7.out.1).cell (j := 0) (v := .int .i64 0) rfl
                        have r1 := (BX.out.2.2.1.old HX7.out.1).cell (j := 1) (v := .slice none 0 0) rfl
                        have rf := (BX.out.2.2.1.old HX7.out.1).frozen
                        have HBR : Hid (Blk ((w7.setCell ⟨w.heap.size + 1 + 1, 0, none⟩ (.int .i64 1)).setCell ⟨w.heap.size + 1 + 1, 1, none⟩ (.slice none 0 0)) (w.heap.size + 1 + 1) #[.int .i64 1, .slice none 0 0] 45 ∧ Below w.heap.size w ((w7.setCell ⟨w.heap.size + 1 + 1, 0, none⟩ (.int .i64 1)).setCell ⟨w.heap.size + 1 + 1, 1, none⟩ (.slice none 0 0))) :=
                          ⟨((BX.out.2.2.1.old HX7.out.1).set 0 _ rfl).set 1 _ rfl, ((BX.out.2.2.2.trans (HX7.out.1.mono (by omega))).setCell (by simp; omega) _).setCell (by simp; omega) _⟩
                        go_wp2_with fail
                        have s0 := HBR.out.1.cell (j := 0) (v := .int .i64 1) rfl
                        have s1 := HBR.out.1.cell (j := 1) (v := .slice none 0 0) rfl
                        refine bodyPost_ret (v := .agg #[.int .i64 1, .slice none 0 0]) ?_ rfl ⟨_, rfl, Or.inl ⟨by omega, rfl⟩, HBR.out.2⟩
                        simp [results, Try.results15, go_sem, s0, s1]
                      · have don : decide (o < 0) = false := by simpa using hon
                        by_cases k1 : p.a = 1
                        · have b1 : (p.a == 1) = true := by simpa using k1
                          have hl2 : (ns0 ++ [x]).length = ns0.length + 1 := by simp
                          have hrd := H7.out.2.1.nl.rd
                          rw [hl2] at hrd
                          have hcn2 := sHas_any o hrd (by have := HBD.out.2.2.1; omega)
                          obtain ⟨r, hr⟩ : ∃ r, r = Nt.has (fun i => (ns0 ++ [x]).getD i 0) (ns0.length + 1) o := ⟨_, rfl⟩
                          have HRR : Hid (alw nf F (ns0 ++ [x]) ps p.a p.b p.km = !r) := by
                            show alw nf F (ns0 ++ [x]) ps p.a p.b p.km = _
                            rw [HALW.out, if_pos k1, hl2, ← hr]
                            simp; omega
                          rw [← hr] at hcn2
                          clear hrd
                          have HK1 : Hid (p.a = 1) := k1
                          clear hr hl2 hon k1
                          go_wp2_with fail
                          refine hcn2.mono ?_
                          rintro e w8 ⟨rfl, hw8⟩
                          obtain rfl := hw8.symm
                          clear hcn2
                          cases r with
                          | true =>
                            have E : Hid (c = 1) := by
                              show c = 1
                              rw [HC.out]
                              refine rcode_bad HE.out (rps_no (k := k + 1) (rps_bad HP.out.2 ?_) hkn)
                              rw [← HP.out.1]
                              rw [HRR.out]; rfl
                            obtain rfl := E.out
                            have b0 := (HBB.out.old HX7.out.2).cell (j := 0) (v := .int .i64 1) rfl
                            have b1 := (HBB.out.old HX7.out.2).cell (j := 1) (v := .slice none 0 0) rfl
                            have r0 := (BX.out.2.2.1.old HX7.out.1).cell (j := 0) (v := .int .i64 0) rfl
                            have r1 := (BX.out.2.2.1.old HX7.out.1).cell (j := 1) (v := .slice none 0 0) rfl
                            have rf := (BX.out.2.2.1.old HX7.out.1).frozen
                            have HBR : Hid (Blk ((w7.setCell ⟨w.heap.size + 1 + 1, 0, none⟩ (.int .i64 1)).setCell ⟨w.heap.size + 1 + 1, 1, none⟩ (.slice none 0 0)) (w.heap.size + 1 + 1) #[.int .i64 1, .slice none 0 0] 45 ∧ Below w.heap.size w ((w7.setCell ⟨w.heap.size + 1 + 1, 0, none⟩ (.int .i64 1)).setCell ⟨w.heap.size + 1 + 1, 1, none⟩ (.slice none 0 0))) :=
                              ⟨((BX.out.2.2.1.old HX7.out.1).set 0 _ rfl).set 1 _ rfl, ((BX.out.2.2.2.trans (HX7.out.1.mono (by omega))).setCell (by simp; omega) _).setCell (by simp; omega) _⟩
                            go_wp2_with fail
                            have s0 := HBR.out.1.cell (j := 0) (v := .int .i64 1) rfl
                            have s1 := HBR.out.1.cell (j := 1) (v := .slice none 0 0) rfl
                            refine bodyPost_ret (v := .agg #[.int .i64 1, .slice none 0 0]) ?_ rfl ⟨_, rfl, Or.inl ⟨by omega, rfl⟩, HBR.out.2⟩
                            simp [results, Try.results15, go_sem, s0, s1]
                          | false =>
                            have hbq := H7.out.1
                            have hlnI : (ns0 ++ [x]).length ≤ 2000000 := by have := HBD.out.2.2.1; simp; omega
                            have H7N : Hid (Ol w7 lo (.slice (some ⟨gn, 0, none⟩) (ns0.length + 1) cn) (ns0 ++ [x])) := H7.out.2.1.nl
                            go_wp2_with (first | (at_builtin; refine pushL rfl (.tmp 102) (.tmp 104) rfl w7 o lo (.slice (some ⟨gn, 0, none⟩) (ns0.length + 1) cn) (ns0 ++ [x]) (by simp [Act.eval]) H7N.out 1 (by simp [Act.eval]) hlnI hl7 ?_; intro a4 c4 w8 ho4 hg4 hp4; have H8 : Hid (Ls2 w8 lo (.slice a4 ((ns0 ++ [x]).length + 1) c4) (.slice ap ps.length cq) ((ns0 ++ [x]) ++ [o]) ps ∧ Below lo w7 w8) := H7.out.2.1.pushN ho4 hg4 hp4 hl7; have B8 : Hid (Blk w8 wr.heap.size #[.int .i64 p.a, .int .i64 p.b, .int .i64 p.km] 70) := (H7.out.1.alloc _).grownBy hg4 (H7.out.2.1.nl.blkNe H7.out.1 (by decide)); have g0 := B8.out.cell (j := 0) (v := .int .i64 p.a) rfl; have g2 : w8.cell? ⟨wr.heap.size, 2, none⟩ = some (.int .i64 (i : Int)) := (by rw [← HI.out]; exact B8.out.cell (j := 2) rfl); have hl8 : lo ≤ w8.heap.size := Nat.le_trans hl7 (Nat.le_trans (by simp) hg4.size); have gl := B8.out.lt; clear ho4 hg4 hp4) | (at_builtin; refine pushL rfl (.tmp 106) (.tmp 109) rfl w8 i lo (.slice ap ps.length cq) ps (by simp [Act.eval]) H8.out.1.pl 1 (by simp [Act.eval]) (Nat.le_trans HBD.out.2.2.2.1 (by decide)) hl8 ?_; intro a5 c5 w9 ho5 hg5 hp5; have H9 : Hid (Ls2 w9 lo (.slice a4 ((ns0 ++ [x]).length + 1) c4) (.slice a5 (ps.length + 1) c5) ((ns0 ++ [x]) ++ [o]) (ps ++ [(i : Int)]) ∧ Below lo w8 w9) := H8.out.1.pushP ho5 hg5 hp5 hl8; have B9 : Hid (Blk w9 wr.heap.size #[.int .i64 p.a, .int .i64 p.b, .int .i64 p.km] 70) := (B8.out.alloc _).grownBy hg5 (H8.out.1.pl.blkNe B8.out (by decide)); have g0 := B9.out.cell (j := 0) (v := .int .i64 p.a) rfl; clear ho5 hg5 hp5))
                            have E : Hid (∃ ns ps', rps nf F fr H (k + 1) = some (ns, ps') ∧ Ls2 w9 lo (.slice a4 ((ns0 ++ [x]).length + 1) c4) (.slice a5 (ps.length + 1) c5) ns ps' ∧ Below lo w4 w9) := by
                              refine ⟨(ns0 ++ [x]) ++ [o], ps ++ [(i : Int)], ?_, H9.out.1, (H7.out.2.2.trans H8.out.2).trans H9.out.2⟩
                              have h1 := rps_ok HP.out.2 (by rw [← HP.out.1, HRR.out]; rfl)
                              rw [h1, ← HP.out.1]
                              unfold stepN stepP
                              rw [if_pos HK1.out, if_pos HK1.out, HI.out, HNX.out, lst_snoc, HO2.out]
                              rfl
                            go_wp2
                            go_roundw
                            case rel => exact ⟨k + 1, by omega, by simp, by rw [show (ns0 ++ [x]).length = ns0.length + 1 by simp] at E; exact E⟩
                            case measure => simp [intOf]; omega
                        · have b1 : (p.a == 1) = false := by simpa using k1
                          by_cases k5 : p.a = 5
                          · have b5 : (p.a == 5) = true := by simpa using k5
                            have HA5 : Hid (alw nf F (ns0 ++ [x]) ps p.a p.b p.km = decide ((i : Int) = cam ps)) := by
                              show alw nf F (ns0 ++ [x]) ps p.a p.b p.km = _
                              rw [HALW.out, if_neg k1, if_neg (by omega), if_pos k5, HI.out]
                            have HK5 : Hid (p.a = 5) := k5
                            by_cases hps : ps = []
                            · subst hps
                              clear k1 k5 hon
                              go_upto_region 25 with fail
                              go_quiet (fail)
                              have E : Hid (c = 1) := by
                                show c = 1
                                rw [HC.out]
                                refine rcode_bad HE.out (rps_no (k := k + 1) (rps_bad HP.out.2 ?_) hkn)
                                rw [← HP.out.1]
                                rw [HA5.out, cam_nil]
                                simp only [decide_eq_false_iff_not]
                                omega
                              obtain rfl := E.out
                              have b0 := (HBB.out.old (below_drewN HX7.out.2 nq)).cell (j := 0) (v := .int .i64 1) rfl
                              have b1 := (HBB.out.old (below_drewN HX7.out.2 nq)).cell (j := 1) (v := .slice none 0 0) rfl
                              have r0 := (BX.out.2.2.1.old (below_drewN HX7.out.1 nq)).cell (j := 0) (v := .int .i64 0) rfl
                              have r1 := (BX.out.2.2.1.old (below_drewN HX7.out.1 nq)).cell (j := 1) (v := .slice none 0 0) rfl
                              have rf := (BX.out.2.2.1.old (below_drewN HX7.out.1 nq)).frozen
                              have HBR : Hid (Blk (((w7.drewN nq).setCell ⟨w.heap.size + 1 + 1, 0, none⟩ (.int .i64 1)).setCell ⟨w.heap.size + 1 + 1, 1, none⟩ (.slice none 0 0)) (w.heap.size + 1 + 1) #[.int .i64 1, .slice none 0 0] 45 ∧ Below w.heap.size w (((w7.drewN nq).setCell ⟨w.heap.size + 1 + 1, 0, none⟩ (.int .i64 1)).setCell ⟨w.heap.size + 1 + 1, 1, none⟩ (.slice none 0 0))) :=
                                ⟨((BX.out.2.2.1.old (below_drewN HX7.out.1 nq)).set 0 _ rfl).set 1 _ rfl, ((BX.out.2.2.2.trans ((below_drewN HX7.out.1 nq).mono (by omega))).setCell (by simp; omega) _).setCell (by simp; omega) _⟩
                              go_wp2_with fail
                              have s0 := HBR.out.1.cell (j := 0) (v := .int .i64 1) rfl
                              have s1 := HBR.out.1.cell (j := 1) (v := .slice none 0 0) rfl
                              refine bodyPost_ret (v := .agg #[.int .i64 1, .slice none 0 0]) ?_ rfl ⟨_, rfl, Or.inl ⟨by omega, rfl⟩, HBR.out.2⟩
                              simp [results, Try.results15, go_sem, s0, s1]
                            · obtain ⟨gp, rfl⟩ := H7.out.2.1.pl.hd hps
                              obtain ⟨ps0, y, rfl⟩ : ∃ ps0 y, ps = ps0 ++ [y] := ⟨_, _, snoc_of hps⟩
                              have hlp : (ps0 ++ [y]).length = ps0.length + 1 := by simp
                              have HD7 : Hid (Ls2 w7 lo (.slice (some ⟨gn, 0, none⟩) (ns0.length + 1) cn) (.slice (some ⟨gp, 0, none⟩) (ps0.length + 1) cq) (ns0 ++ [x]) (ps0 ++ [y])) := by have h1 := H7.out.2.1; rw [hlp] at h1; exact h1
                              have HC5 : Hid (cam (ps0 ++ [y]) = y) := by show cam (ps0 ++ [y]) = y; rw [cam_some hps, lst_snoc]
                              have l2 := HD7.out.pl.last
                              have hbd2 := HBD.out
                              rw [hlp] at hbd2
                              have hnI : (ns0.length : Int) ≤ 1048576 := by omega
                              have hpI : (ps0.length : Int) ≤ 1048576 := by omega
                              have hcI : (ns0.length : Int) + 1 ≤ cn := by omega
                              have z0 : ((ps0.length : Int) + 1 == 0) = false := by simp; omega
                              have hqI : (ps0.length : Int) + 1 ≤ cq := by omega
                              clear hbd2 hps k1 k5 hon
                              by_cases hy : y = (i : Int)
                              · have ey : (y != (i : Int)) = false := by simpa using hy
                                have E : Hid (∃ ns ps', rps nf F fr H (k + 1) = some (ns, ps') ∧ Ls2 w7 lo (.slice (some ⟨gn, 0, none⟩) ns0.length cn) (.slice (some ⟨gp, 0, none⟩) ps0.length cq) ns ps' ∧ Below lo w4 w7) := by
                                  refine ⟨ns0, ps0, ?_, HD7.out.pop, H7.out.2.2⟩
                                  have h1 := rps_ok HP.out.2 (by rw [← HP.out.1, HA5.out, HC5.out]; simp [hy])
                                  rw [h1, ← HP.out.1]
                                  unfold stepN stepP
                                  rw [HK5.out, if_neg (by decide), if_pos rfl, if_neg (by decide), if_pos rfl, List.dropLast_concat, List.dropLast_concat]
                                clear hy
                                go_upto_region 25 with fail
                                go_quiet (fail)
                                go_wp2
                                go_roundw
                                case rel =>
                                  obtain ⟨nsE, psE, q1, q2, q3⟩ := E.out
                                  exact ⟨k + 1, by omega, by simp, nsE, psE, q1, q2.later (below_drewN (Below.refl _ _) nq), below_drewN q3 nq⟩
                                case measure => simp [intOf]; omega
                              · have ey : (y != (i : Int)) = true := by simpa using hy
                                have HNY : Hid (¬ (i : Int) = y) := fun e => hy e.symm
                                clear hy
                                go_upto_region 25 with fail
                                go_quiet (fail)
                                have E : Hid (c = 1) := by
                                  show c = 1
                                  rw [HC.out]
                                  refine rcode_bad HE.out (rps_no (k := k + 1) (rps_bad HP.out.2 ?_) hkn)
                                  rw [← HP.out.1]
                                  rw [HA5.out, HC5.out]
                                  simpa using HNY.out
                                obtain rfl := E.out
                                have b0 := (HBB.out.old (below_drewN HX7.out.2 nq)).cell (j := 0) (v := .int .i64 1) rfl
                                have b1 := (HBB.out.old (below_drewN HX7.out.2 nq)).cell (j := 1) (v := .slice none 0 0) rfl
                                have r0 := (BX.out.2.2.1.old (below_drewN HX7.out.1 nq)).cell (j := 0) (v := .int .i64 0) rfl
                                have r1 := (BX.out.2.2.1.old (below_drewN HX7.out.1 nq)).cell (j := 1) (v := .slice none 0 0) rfl
                                have rf := (BX.out.2.2.1.old (below_drewN HX7.out.1 nq)).frozen
                                have HBR : Hid (Blk (((w7.drewN nq).setCell ⟨w.heap.size + 1 + 1, 0, none⟩ (.int .i64 1)).setCell ⟨w.heap.size + 1 + 1, 1, none⟩ (.slice none 0 0)) (w.heap.size + 1 + 1) #[.int .i64 1, .slice none 0 0] 45 ∧ Below w.heap.size w (((w7.drewN nq).setCell ⟨w.heap.size + 1 + 1, 0, none⟩ (.int .i64 1)).setCell ⟨w.heap.size + 1 + 1, 1, none⟩ (.slice none 0 0))) :=
                                  ⟨((BX.out.2.2.1.old (below_drewN HX7.out.1 nq)).set 0 _ rfl).set 1 _ rfl, ((BX.out.2.2.2.trans ((below_drewN HX7.out.1 nq).mono (by omega))).setCell (by simp; omega) _).setCell (by simp; omega) _⟩
                                go_wp2_with fail
                                have s0 := HBR.out.1.cell (j := 0) (v := .int .i64 1) rfl
                                have s1 := HBR.out.1.cell (j := 1) (v := .slice none 0 0) rfl
                                refine bodyPost_ret (v := .agg #[.int .i64 1, .slice none 0 0]) ?_ rfl ⟨_, rfl, Or.inl ⟨by omega, rfl⟩, HBR.out.2⟩
                                simp [results, Try.results15, go_sem, s0, s1]
                          · have b5 : (p.a == 5) = false := by simpa using k5
                            have E : Hid (∃ ns ps', rps nf F fr H (k + 1) = some (ns, ps') ∧ Ls2 w7 lo (.slice (some ⟨gn, 0, none⟩) (ns0.length + 1) cn) (.slice ap ps.length cq) ns ps' ∧ Below lo w4 w7) := by
                              have ha : alw nf F (ns0 ++ [x]) ps p.a p.b p.km = true := by rw [HALW.out, if_neg k1, if_pos (by omega)]; simp; omega
                              refine ⟨ns0 ++ [x], ps, ?_, H7.out.2.1, H7.out.2.2⟩
                              have h1 := rps_ok HP.out.2 (by rw [← HP.out.1]; exact ha)
                              rw [h1, ← HP.out.1]
                              unfold stepN stepP
                              rw [if_neg k1, if_neg k5, if_neg k1, if_neg k5]
                            clear k1 k5 hon
                            go_wp2
                            go_roundw
                            case rel => exact ⟨k + 1, by omega, by simp, E⟩
                            case measure => simp [intOf]; omega
              · have e1 : (p.b != x) = true := by simpa using hnx
                have HNX : Hid (p.b ≠ lst (ns0 ++ [x])) := by rw [lst_snoc]; exact hnx
                clear hnx
                have E : Hid (c = 1) := by
                  show c = 1
                  rw [HC.out]
                  refine rcode_bad HE.out (rps_no (k := k + 1) (rps_bad HP.out.2 ?_) hkn)
                  rw [← HP.out.1]
                  unfold alw
                  rw [if_pos (Or.inl HNX.out)]
                obtain rfl := E.out
                have b0 := (HBB.out.old HXQ.out.2).cell (j := 0) (v := .int .i64 1) rfl
                have b1 := (HBB.out.old HXQ.out.2).cell (j := 1) (v := .slice none 0 0) rfl
                have r0 := (BX.out.2.2.1.old HXQ.out.1).cell (j := 0) (v := .int .i64 0) rfl
                have r1 := (BX.out.2.2.1.old HXQ.out.1).cell (j := 1) (v := .slice none 0 0) rfl
                have rf := (BX.out.2.2.1.old HXQ.out.1).frozen
                have HBR : Hid (Blk ((wq.setCell ⟨w.heap.size + 1 + 1, 0, none⟩ (.int .i64 1)).setCell ⟨w.heap.size + 1 + 1, 1, none⟩ (.slice none 0 0)) (w.heap.size + 1 + 1) #[.int .i64 1, .slice none 0 0] 45 ∧ Below w.heap.size w ((wq.setCell ⟨w.heap.size + 1 + 1, 0, none⟩ (.int .i64 1)).setCell ⟨w.heap.size + 1 + 1, 1, none⟩ (.slice none 0 0))) :=
                  ⟨((BX.out.2.2.1.old HXQ.out.1).set 0 _ rfl).set 1 _ rfl, ((BX.out.2.2.2.trans (HXQ.out.1.mono (by omega))).setCell (by simp; omega) _).setCell (by simp; omega) _⟩
                go_wp2_with fail
                have s0 := HBR.out.1.cell (j := 0) (v := .int .i64 1) rfl
                have s1 := HBR.out.1.cell (j := 1) (v := .slice none 0 0) rfl
                refine bodyPost_ret (v := .agg #[.int .i64 1, .slice none 0 0]) ?_ rfl ⟨_, rfl, Or.inl ⟨by omega, rfl⟩, HBR.out.2⟩
                simp [results, Try.results15, go_sem, s0, s1]
            · obtain rfl : k = nh := by omega
              have HX : Hid (Below X.heap.size X wr) := H4.out.1.trans (hbl.mono hx5)
              have E : Hid (c = 0 ∧ rlist nf F fr k H = ps) := ⟨by rw [HC.out]; exact rcode_ok HE.out hrp, rlist_ok hrp⟩
              obtain ⟨rfl, _⟩ := E.out
              have r0 := (BX.out.2.2.1.old HX.out).cell (j := 0) (v := .int .i64 0) rfl
              have r1 := (BX.out.2.2.1.old HX.out).cell (j := 1) (v := .slice none 0 0) rfl
              have rf := (BX.out.2.2.1.old HX.out).frozen
              have HB : Hid (Blk ((wr.setCell ⟨w.heap.size + 1 + 1, 0, none⟩ (.int .i64 0)).setCell ⟨w.heap.size + 1 + 1, 1, none⟩ (.slice ap ps.length cq)) (w.heap.size + 1 + 1) #[.int .i64 0, .slice ap ps.length cq] 45 ∧ Below w.heap.size w ((wr.setCell ⟨w.heap.size + 1 + 1, 0, none⟩ (.int .i64 0)).setCell ⟨w.heap.size + 1 + 1, 1, none⟩ (.slice ap ps.length cq)) ∧ OwnI w.heap.size ((wr.setCell ⟨w.heap.size + 1 + 1, 0, none⟩ (.int .i64 0)).setCell ⟨w.heap.size + 1 + 1, 1, none⟩ (.slice ap ps.length cq)).heap.size ((wr.setCell ⟨w.heap.size + 1 + 1, 0, none⟩ (.int .i64 0)).setCell ⟨w.heap.size + 1 + 1, 1, none⟩ (.slice ap ps.length cq)) 0 (.slice ap ps.length cq) ps) := by
                refine ⟨((BX.out.2.2.1.old HX.out).set 0 _ rfl).set 1 _ rfl, ((BX.out.2.2.2.trans (HX.out.mono (by omega))).setCell (by simp; omega) _).setCell (by simp; omega) _, ?_⟩
                refine OwnI.of ((hL.pl.keepOn fun q hq => ?_).low (by omega)) (Nat.le_refl _)
                have hq2 := (hL.pl.lt q hq).1
                rw [Below.heap_setCell _ _ _ _ (by simp; omega), Below.heap_setCell _ _ _ _ (by simp; omega)]
              clear hL hbl hrp HWY hcn hcq hnl hpl hn0
              go_wp2_with fail
              have s0 := HB.out.1.cell (j := 0) (v := .int .i64 0) rfl
              have s1 := HB.out.1.cell (j := 1) (v := .slice ap ps.length cq) rfl
              refine bodyPost_ret (v := .agg #[.int .i64 0, .slice ap ps.length cq]) ?_ rfl ⟨_, rfl, HB.out.2.2, HB.out.2.1⟩
              simp [results, Try.results15, go_sem, s0, s1]
  · have E : Hid (c = d ∧ d ≠ 0) := by
      refine ⟨?_, hz⟩
      have he : Nt.efault nodes slots nf F fr tt = d := by rw [HD.out]; exact Nt.ef_net (by rw [← HD.out]; exact hz)
      rw [HC.out, rcode_ef (by rw [he]; exact hz), he]
    obtain ⟨rfl, _⟩ := E.out
    have hcb : (c != 0) = true := by simpa using hz
    clear hz
    have r0 := (BX.out.2.2.1.old H1.out).cell (j := 0) (v := .int .i64 0) rfl
    have r1 := (BX.out.2.2.1.old H1.out).cell (j := 1) (v := .slice none 0 0) rfl
    have rf := (BX.out.2.2.1.old H1.out).frozen
    have HBR : Hid (Blk ((w1.setCell ⟨w.heap.size + 1 + 1, 0, none⟩ (.int .i64 c)).setCell ⟨w.heap.size + 1 + 1, 1, none⟩ (.slice none 0 0)) (w.heap.size + 1 + 1) #[.int .i64 c, .slice none 0 0] 45 ∧ Below w.heap.size w ((w1.setCell ⟨w.heap.size + 1 + 1, 0, none⟩ (.int .i64 c)).setCell ⟨w.heap.size + 1 + 1, 1, none⟩ (.slice none 0 0))) :=
      ⟨((BX.out.2.2.1.old H1.out).set 0 _ rfl).set 1 _ rfl, ((BX.out.2.2.2.trans (H1.out.mono (by omega))).setCell (by simp; omega) _).setCell (by simp; omega) _⟩
    go_wp2_with fail
    have s0 := HBR.out.1.cell (j := 0) (v := .int .i64 c) rfl
    have s1 := HBR.out.1.cell (j := 1) (v := .slice none 0 0) rfl
    refine bodyPost_ret (v := .agg #[.int .i64 c, .slice none 0 0]) ?_ rfl ⟨_, rfl, Or.inl ⟨E.out.2, rfl⟩, HBR.out.2⟩
    simp [results, Try.results15, go_sem, s0, s1]
end Go.Proofs.Ytfpklfpcencimaa
