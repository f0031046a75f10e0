/- The specification's light behind a mesh: contract. -/
import Derived.Test.YtboppklcmdfphaaFi
import Derived.Test.YtboppklcmdfphaaSmul
import Derived.OwnWalk
import Derived.Laws.AppendOwn
import Derived.Deep.AppendLies
import Derived.Deep.RegionHeld3
namespace Go.Proofs.Ytboppklcmdfphaa
open Go.RowKit
set_option linter.unusedVariables false
set_option linter.unusedSimpArgs false
/-- The same at a step of a region that draws its order. -/
theorem step_pushF {ops : Array Oper} {o : Oper} {a : Act} {K : Act → World → Prop} {Q : Exit → Act → World → Prop} {E : Prop} (hgd : o.guard = none) (s x : Operand) (t : TypeId)
    (ho : o.op = .call { callee := .builtin .append, args := #[s, x], argTypes := #[t, t] }) (e : TypeId) (z : Value) (bytes : Nat) (ht : Try.prog.underlying t = some (.slice e))
    (hinfo : (Try.prog.info? e).map (fun i => (i.zero, i.size, i.bytes)) = some (some z, 1, bytes)) (hz1 : z.cells.size = 1) (hby : bytes ≤ 24) (w : World) (u : Value) (hu : u.oneCell' = true)
    (base : Nat) (v : Value) (n : Nat) (xs : List Value) (hs : a.eval s = v) (hown : w.ownsRow base e 1 v n xs) (c : Nat) (hx : a.eval x = .slice (some ⟨w.heap.size, 0, none⟩) 1 c) (hn : n ≤ 1000000) (hbase : base ≤ w.heap.size)
    (h : ∀ v' w', w'.ownsRow base e 1 v' (n + 1) (xs ++ [u]) → (w.alloc (.cells #[u] e)).grownBy w' v.ownBlock → K (a.put o.dst v') w') :
    if Region.wanted o (yielded ops a.tmps) = true then Oper.wp Try.prog o a (w.alloc (.cells #[u] e)) K Q else E := by
  obtain ⟨i, h1, h2, h3, h4⟩ := infoV_parts hinfo
  refine step_append_lies _ hgd s x t ho base e i z 1 bytes ht h1 h2 h3 h4 hz1 (by decide) v n xs hs (hown.alloc _) ⟨w.heap.size, 0, none⟩ 1 c [u] hx rfl ?_ ?_ (by decide) ?_ ?_ ?_ _ rfl fun g cap w' a1 a2 _ _ => h _ w' a1 a2
  · intro j y hj
    match j, hj with
    | 0, hj => simp at hj; subst hj; simp [Addr.add]
  · intro y hy
    simp at hy
    subst hy
    exact hu
  · unfold maxLen; omega
  · have : (n + 1) * bytes ≤ (n + 1) * 24 := Nat.mul_le_mul_left _ hby
    omega
  · simp; omega
/-- The numbers f, as values. -/
def il (f : Nat → Int) (n : Nat) : List Value := (List.range n).map (fun i => .int .i64 (f i))
theorem il_push (f : Nat → Int) (k : Nat) : il f k ++ [.int .i64 (f k)] = il f (k + 1) := range_push _ k
theorem owned_rd {w : World} {base n : Nat} {v : Value} {f : Nat → Int} (h : w.ownsRow base 2 1 v n (il f n)) : RdRow w v n f := by
  by_cases hn : 0 < n
  · obtain ⟨g, cap, rfl, _, hs⟩ := owned_seg h hn
    exact hs.rd
  · obtain rfl : n = 0 := by omega
    obtain ⟨_, ⟨rfl, _⟩ | ⟨g, cap, cur, rfl, _⟩⟩ := h
    · exact Or.inl ⟨_, _, rfl, rfl⟩
    · exact Or.inl ⟨_, _, rfl, rfl⟩
set_option maxRecDepth 20000 in
set_option maxHeartbeats 1600000 in
theorem two_any (a x b y : Int) (w : World) : Calls Try.prog 102 #[.int .i64 a, .int .i64 x, .int .i64 b, .int .i64 y] w fun e w' => e = .returned (.int .i64 (Rm.addM (Rm.mulM a x) (Rm.mulM b y))) ∧ w = w' := by
  go_enter Try.func102, Try.ntmps102
  go_wp2_with (first | (go_at_call 79; refine (sMul_any _ _ _).mono ?_; rintro e w1 ⟨rfl, rfl⟩) | (go_at_call 80; refine (sAdd_any _ _ _).mono ?_; rintro e w1 ⟨rfl, rfl⟩))
  go_ret
  exact ⟨rfl, rfl⟩
set_option maxRecDepth 20000 in
set_option maxHeartbeats 3200000 in
theorem sFire_any {w : World} {ao bo : Option Addr} {np nc cp cq : Nat} {sd : Int} {ph : Nat → Int} {C : Nat → Ce} (h : Me w (.slice ao np cp) (.slice bo nc cq) np ph nc C) {lv : Value} {x : Nat → Int} (hx : RdRow w lv np x) (hn0 : 0 < np) (hn : np ≤ 24) (hc : nc ≤ 600) (hfit : Rm.fitsB (np : Int) C nc = true) :
    Calls Try.prog 72 #[.agg #[.int .i64 sd, .slice ao np cp, .slice bo nc cq], lv] w fun e w' => ∃ g cap, e = .returned (.slice (some ⟨g, 0, none⟩) np cap) ∧ w.heap.size ≤ g ∧ g < w'.heap.size ∧ Seg w' g 2 0 np (fun i => .int .i64 (Rm.fire ph C x nc i)) ∧ Below w.heap.size w w' := by
  obtain ⟨lb, lo, lc, rfl, hlx⟩ := hx.get hn0
  obtain ⟨X, hX⟩ : ∃ X, X = (w.alloc (.cells #[.int .i64 sd, .slice ao np cp, .slice bo nc cq] 49)) := ⟨_, rfl⟩
  have BX : Hid (Blk X w.heap.size #[.int .i64 sd, .slice ao np cp, .slice bo nc cq] 49 ∧ Below w.heap.size w X) := by rw [hX]; exact ⟨Blk.new rfl, (Below.refl _ _).alloc (Nat.le_refl _) _⟩
  have hX0 : w.heap.size < X.heap.size := BX.out.1.lt
  have HM : ∀ W, Below X.heap.size X W → Hid (Me W (.slice ao np cp) (.slice bo nc cq) np ph nc C) := fun W hb => h.later (BX.out.2.trans (hb.mono (Nat.le_of_lt hX0)))
  clear h
  have hXs : Hid (X.heap.size = w.heap.size + 1) := by rw [hX]; show (w.alloc _).heap.size = _; simp
  have HL : Hid (∀ i, i < np → X.cell? ⟨lb, lo + i, none⟩ = some (.int .i64 (x i))) := fun i hi => (BX.out.2.cell (World.block_lt_of_cell? _ _ (hlx i hi))).trans (hlx i hi)
  clear hlx hx
  have HF : Hid (Rm.fitsB (np : Int) C nc = true) := hfit
  clear hfit
  go_enter Try.func72, Try.ntmps72
  go_wp2_with fail
  rw [← hX]
  clear hX
  go_loopw [6, 5] (fun s v wr => ∃ k : Nat, k ≤ np ∧ s = .int .i64 k ∧ Hid (wr.ownsRow X.heap.size 2 1 v k (il (fun i => Rm.fire ph C x 0 i) k) ∧ Below X.heap.size X wr)) (fun s _ _ => np - (intOf s).toNat)
  case atStart => exact ⟨0, Nat.zero_le _, rfl, by rw [show w.heap.size + 1 = X.heap.size from hXs.out.symm]; exact owns_empty X 2, (Below.refl _ _).alloc (Nat.le_refl _) _⟩
  case round =>
    obtain ⟨k, hk, rfl, HB⟩ := hrel
    by_cases hkn : k < np
    · obtain ⟨pb, po, rfl, hpc⟩ := (HM _ (Below.refl _ _)).out.p.at hkn
      have kf : ∀ W, Below X.heap.size X W → W.cell? ⟨lb, lo + k, none⟩ = some (.int .i64 (x k)) := fun W hb => (hb.cell (World.block_lt_of_cell? _ _ (HL.out k hkn))).trans (HL.out k hkn)
      have kp : ∀ W, Below X.heap.size X W → W.cell? ⟨pb, po + k, none⟩ = some (.int .i64 (ph k)) := fun W hb => (hb.cell (World.block_lt_of_cell? _ _ hpc)).trans hpc
      have kb : ∀ W, Below X.heap.size X W → W.cell? ⟨w.heap.size, 1, none⟩ = some (.slice (some ⟨pb, po, none⟩) np cp) := fun W hb => (BX.out.1.old hb).cell (j := 1) rfl
      have hkI : k ≤ 1000000 := by omega
      have hb0 : Below X.heap.size X wr := HB.out.2
      have hz0 : X.heap.size ≤ wr.heap.size := hb0.size
      have O1 : Hid (wr.drew.ownsRow X.heap.size 2 1 u5 k (il (fun i => Rm.fire ph C x 0 i) k)) := owns_later HB.out.1 ((Below.refl _ _).drew)
      have Z1 : X.heap.size ≤ wr.drew.heap.size := hz0
      have B1 : Hid (Below X.heap.size X wr.drew) := hb0.drew
      clear HB hpc
      go_wp2_with fail
      go_region_held3 (fun W => Below X.heap.size X W) (go_grown) (first | (go_at_call 79; refine (sMul_any _ _ _).mono ?_; rintro e w1 ⟨rfl, rfl⟩) | (refine step_pushF (by rfl) (.tmp 18) (.tmp 29) 32 (by rfl) 2 (.int .i64 0) 8 Try.underlying32 info2 rfl (by decide) wr.drew (.int .i64 (Rm.mulM (x k) (ph k))) rfl X.heap.size u5 k _ (by rfl) O1.out 1 (by rfl) hkI Z1 ?_; intro v1 w3 own3 grow3; have HB3 : Hid (w3.ownsRow X.heap.size 2 1 v1 (k + 1) (il (fun i => Rm.fire ph C x 0 i) (k + 1)) ∧ Below X.heap.size X w3) := ⟨by rw [← il_push]; exact own3, push_below O1.out grow3 B1.out Z1⟩; have b3 := HB3.out.2; clear own3 grow3))
      clear kf kp kb O1 Z1 B1
      go_wp2
      go_roundw
      case rel => exact ⟨k + 1, by omega, by simp, HB3⟩
      case measure => simp [intOf]; omega
    · obtain rfl : k = np := by omega
      obtain ⟨g, cap, hv, hgl, hseg⟩ := owned_seg HB.out.1 hn0
      subst hv
      have H2 : Hid (Seg wr g 2 0 k (fun i => .int .i64 (Rm.fire ph C x 0 i)) ∧ Below X.heap.size X wr ∧ X.heap.size ≤ g) := ⟨hseg, HB.out.2, hgl⟩
      clear HB hseg hgl
      go_wp2_with fail
      go_loopw [7] (fun s wr => ∃ j : Nat, j ≤ nc ∧ s = .int .i64 j ∧ Hid (Seg wr g 2 0 k (fun i => .int .i64 (Rm.fire ph C x j i)) ∧ Below X.heap.size X wr ∧ X.heap.size ≤ g)) (fun s _ => nc - (intOf s).toNat)
      case atStart => exact ⟨0, Nat.zero_le _, rfl, H2.out⟩
      case round =>
        obtain ⟨j, hj, rfl, HS⟩ := hrel
        have hB := BX.out.1.old HS.out.2.1
        have x2 := hB.cell (j := 2) rfl
        by_cases hjn : j < nc
        · obtain ⟨b, rfl, hcc⟩ := (HM _ HS.out.2.1).out.c.at hjn
          have g0 : wr.cell? ⟨b, j * 6, none⟩ = some (.int .i64 (C j).i) := hcc 0 (by omega)
          have g1 : wr.cell? ⟨b, j * 6 + 1, none⟩ = some (.int .i64 (C j).j) := hcc 1 (by omega)
          have g2 : wr.cell? ⟨b, j * 6 + 2, none⟩ = some (.int .i64 (C j).a) := hcc 2 (by omega)
          have g3 : wr.cell? ⟨b, j * 6 + 3, none⟩ = some (.int .i64 (C j).b) := hcc 3 (by omega)
          have g4 : wr.cell? ⟨b, j * 6 + 4, none⟩ = some (.int .i64 (C j).c) := hcc 4 (by omega)
          have g5 : wr.cell? ⟨b, j * 6 + 5, none⟩ = some (.int .i64 (C j).d) := hcc 5 (by omega)
          have hft := Rm.fit_told (Rm.fits_all HF.out j hjn)
          have hbl := World.block_lt_of_cell? _ _ g0
          have hll := hB.lt
          clear hB hcc
          obtain ⟨c, hg⟩ : ∃ c, c = C j := ⟨_, rfl⟩
          have HG : Hid (c = C j) := hg
          rw [← hg] at g0 g1 g2 g3 g4 g5 hft
          clear hg
          obtain ⟨I, hI⟩ : ∃ I : Nat, (I : Int) = c.i := ⟨c.i.toNat, by omega⟩
          obtain ⟨J, hJ⟩ : ∃ J : Nat, (J : Int) = c.j := ⟨c.j.toNat, by omega⟩
          have HIJ : Hid ((I : Int) = c.i ∧ (J : Int) = c.j) := ⟨hI, hJ⟩
          have hIn : I < k := by omega
          have hJn : J < k := by omega
          have hIJ : I ≠ J := by omega
          rw [← hI] at g0
          rw [← hJ] at g1
          clear hft hI hJ
          obtain ⟨V, hV⟩ : ∃ V, V = wr.alloc (.cells #[.int .i64 (I : Int), .int .i64 (J : Int), .int .i64 c.a, .int .i64 c.b, .int .i64 c.c, .int .i64 c.d] 77) := ⟨_, rfl⟩
          have BV : Hid (Blk V wr.heap.size #[.int .i64 (I : Int), .int .i64 (J : Int), .int .i64 c.a, .int .i64 c.b, .int .i64 c.c, .int .i64 c.d] 77 ∧ Seg V g 2 0 k (fun i => .int .i64 (Rm.fire ph C x j i)) ∧ Below X.heap.size X V ∧ X.heap.size ≤ g ∧ g < wr.heap.size) := by
            rw [hV]; exact ⟨Blk.new rfl, HS.out.1.alloc _, HS.out.2.1.alloc HS.out.2.1.size _, HS.out.2.2, HS.out.1.lt⟩
          clear HS
          go_wp2_with fail
          rw [← hV]
          clear hV g0 g1 g2 g3 g4 g5 x2 hbl hll
          have y0 := BV.out.1.cell (j := 0) rfl
          have y1 := BV.out.1.cell (j := 1) rfl
          have y2 := BV.out.1.cell (j := 2) rfl
          have y3 := BV.out.1.cell (j := 3) rfl
          have y4 := BV.out.1.cell (j := 4) rfl
          have y5 := BV.out.1.cell (j := 5) rfl
          have s1 : V.cell? ⟨g, I, none⟩ = some (.int .i64 (Rm.fire ph C x j I)) := by simpa using BV.out.2.1.cell hIn
          have s2 : V.cell? ⟨g, J, none⟩ = some (.int .i64 (Rm.fire ph C x j J)) := by simpa using BV.out.2.1.cell hJn
          have s3 : V.frozen? ⟨g, I, none⟩ = false := BV.out.2.1.frozen I
          have s4 : V.frozen? ⟨g, J, none⟩ = false := BV.out.2.1.frozen J
          go_quiet (first | (go_at_call 102; exact quiet_eq (two_any _ _ _ _ _)))
          go_wp2_with fail
          obtain ⟨V2, hV2⟩ : ∃ V2, V2 = V.drewN nq := ⟨_, rfl⟩
          have BV2 : Hid (Blk V2 wr.heap.size #[.int .i64 (I : Int), .int .i64 (J : Int), .int .i64 c.a, .int .i64 c.b, .int .i64 c.c, .int .i64 c.d] 77 ∧ Seg V2 g 2 0 k (fun i => .int .i64 (Rm.fire ph C x j i)) ∧ Below X.heap.size X V2 ∧ X.heap.size ≤ g ∧ g < wr.heap.size) := by
            rw [hV2]; exact ⟨BV.out.1.drewN _, BV.out.2.1, below_drewN BV.out.2.2.1 _, BV.out.2.2.2⟩
          rw [← hV2]
          clear hV2 BV y0 y1 y2 y3 y4 y5 s1 s2 s3 s4
          have y0 := BV2.out.1.cell (j := 0) rfl
          have y1 := BV2.out.1.cell (j := 1) rfl
          have y2 := BV2.out.1.cell (j := 2) rfl
          have y3 := BV2.out.1.cell (j := 3) rfl
          have y4 := BV2.out.1.cell (j := 4) rfl
          have y5 := BV2.out.1.cell (j := 5) rfl
          have s1 : V2.cell? ⟨g, I, none⟩ = some (.int .i64 (Rm.fire ph C x j I)) := by simpa using BV2.out.2.1.cell hIn
          have s2 : V2.cell? ⟨g, J, none⟩ = some (.int .i64 (Rm.fire ph C x j J)) := by simpa using BV2.out.2.1.cell hJn
          have s3 : V2.frozen? ⟨g, I, none⟩ = false := BV2.out.2.1.frozen I
          have s4 : V2.frozen? ⟨g, J, none⟩ = false := BV2.out.2.1.frozen J
          go_quiet (first | (go_at_call 102; exact quiet_eq (two_any _ _ _ _ _)))
          have hgw := BV2.out.2.2.2.2
          have HN : ∀ q, Hid (Seg (((V2.drewN q).setCell ⟨g, I, none⟩ (.int .i64 (Rm.addM (Rm.mulM c.a (Rm.fire ph C x j I)) (Rm.mulM c.b (Rm.fire ph C x j J))))).setCell ⟨g, J, none⟩ (.int .i64 (Rm.addM (Rm.mulM c.c (Rm.fire ph C x j I)) (Rm.mulM c.d (Rm.fire ph C x j J))))) g 2 0 k (fun i => .int .i64 (Rm.fire ph C x (j + 1) i)) ∧ Below X.heap.size X (((V2.drewN q).setCell ⟨g, I, none⟩ (.int .i64 (Rm.addM (Rm.mulM c.a (Rm.fire ph C x j I)) (Rm.mulM c.b (Rm.fire ph C x j J))))).setCell ⟨g, J, none⟩ (.int .i64 (Rm.addM (Rm.mulM c.c (Rm.fire ph C x j I)) (Rm.mulM c.d (Rm.fire ph C x j J))))) ∧ X.heap.size ≤ g) := fun q => by
            have h0 : Seg (V2.drewN q) g 2 0 k (fun i => .int .i64 (Rm.fire ph C x j i)) := BV2.out.2.1
            have h1 := h0.set I hIn (.int .i64 (Rm.addM (Rm.mulM c.a (Rm.fire ph C x j I)) (Rm.mulM c.b (Rm.fire ph C x j J))))
            have h2 := h1.set J hJn (.int .i64 (Rm.addM (Rm.mulM c.c (Rm.fire ph C x j I)) (Rm.mulM c.d (Rm.fire ph C x j J))))
            simp only [Nat.zero_add] at h2
            refine ⟨h2.congr fun r hr => ?_, ((below_drewN BV2.out.2.2.1 q).setCell (p := ⟨g, I, none⟩) BV2.out.2.2.2.1 _).setCell (p := ⟨g, J, none⟩) BV2.out.2.2.2.1 _, BV2.out.2.2.2.1⟩
            have e1 := HIJ.out.1
            have e2 := HIJ.out.2
            show _ = Value.int .i64 (Rm.fcs (C j) (Rm.fire ph C x j) r)
            rw [← HG.out]
            unfold Rm.fcs
            rw [show c.i.toNat = I by omega, show c.j.toNat = J by omega]
            by_cases a1 : r = J
            · subst a1
              rw [if_pos rfl, if_pos e2]
            · rw [if_neg a1, if_neg (show ¬ (r : Int) = c.j by omega)]
              by_cases a2 : r = I
              · subst a2
                rw [if_pos rfl, if_pos e1]
              · rw [if_neg a2, if_neg (show ¬ (r : Int) = c.i by omega)]
          clear BV2
          go_wp2
          exact ⟨⟨j + 1, by omega, by simp, HN _⟩, by simp [intOf]; omega⟩
        · obtain rfl : j = nc := by omega
          clear HM H2
          go_wp2
          go_ret
          refine ⟨g, cap, rfl, by have := HS.out.2.2; omega, HS.out.1.lt, HS.out.1, BX.out.2.trans (HS.out.2.1.mono (Nat.le_of_lt hX0))⟩
end Go.Proofs.Ytboppklcmdfphaa
