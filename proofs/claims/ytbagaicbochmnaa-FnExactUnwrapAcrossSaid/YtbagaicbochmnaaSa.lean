/- spec.UnwrapAcross. -/
import Derived.Test.YtbagaicbochmnaaGd
import Derived.Test.YtbagaicbochmnaaIw
namespace Go.Proofs.Ytbagaicbochmnaa
open Go.RowKit
set_option linter.unusedVariables false
set_option maxHeartbeats 4000000 in
set_option maxRecDepth 100000 in
theorem sUwa_any {lo hi : Nat} {w : World} {l : Lie} {n : Nat} {L : Nat → Nat} {F : Rm.Mx} (h : Mat lo hi w l n L F) (hn : n ≤ 1000000000000) (hL : ∀ i, i < n → L i ≤ 1000000000000) (hhi : hi ≤ w.heap.size) :
    Calls Try.prog 51 #[.slice (some ⟨l.b, 0, none⟩) n l.cap] w fun e w' => ∃ v, e = .returned (.agg #[.int .i64 (mapc n L), v]) ∧ OutM w' (mapc n L) v n (L 0) (uwa F) ∧ Below w.heap.size w w' := by
  obtain ⟨X, hX⟩ : ∃ X, X = w.alloc (.cells #[.int .i64 0, .slice none 0 0] 47) := ⟨_, rfl⟩
  have HM : Hid (Mat lo hi X l n L F) := by show Mat lo hi X _ _ _ _; rw [hX]; exact h.alloc _ hhi
  have HB : Hid (Below w.heap.size w X) := by show Below _ _ X; rw [hX]; exact (Below.refl _ _).alloc (Nat.le_refl _) _
  have BX : Hid (Blk X w.heap.size #[.int .i64 0, .slice none 0 0] 47) := by show Blk X _ _ _; rw [hX]; exact Blk.new rfl
  have HL : Hid (∀ i, i < n → L i ≤ 9223372036854775807) := fun i hi => by have := hL i hi; omega
  clear h hL
  go_enter Try.func51, Try.ntmps51
  go_wp2_with fail
  rw [← hX]
  clear hX
  refine (sMap_any _ _ _ _ L _ (by omega) HL.out HM.out.tops).mono ?_
  rintro e V ⟨q0, rfl, hV⟩
  have BV : Hid (Blk V w.heap.size #[.int .i64 0, .slice none 0 0] 47) := by show Blk V _ _ _; rw [hV]; exact BX.out.drewN q0
  have HV : Hid (Below w.heap.size w V) := by show Below _ _ V; rw [hV]; exact below_drewN HB.out q0
  have MV : Hid (Mat lo hi V l n L F) := by show Mat lo hi V _ _ _ _; rw [hV]; exact HM.out.keep fun k _ _ => rfl
  clear hV HM HB BX
  by_cases hc : mapc n L = 0
  · obtain ⟨hn0, hn32, hl0, hl32, hE⟩ := mapc_right hc
    have M0 : Hid (Mat lo hi V l n (fun _ => L 0) F) := MV.out.even hE
    have HCC : Hid (mapc n L = 0) := hc
    rw [hc]
    clear hc hE
    obtain ⟨m, hm⟩ : ∃ m, m = L 0 := ⟨_, rfl⟩
    rw [← hm] at hl0 hl32 M0
    have HMM : Hid (m = L 0) := hm
    clear MV HL hm
    have t0 : V.cell? ⟨l.b, 0, none⟩ = some (.slice (some ⟨l.bs 0, l.os 0, none⟩) m (l.cs 0)) := M0.out.cellRow hn0
    have HT : Hid (∀ c, c < m → V.cell? ⟨l.bs 0, l.os 0 + c, none⟩ = some (.int .i64 (F 0 c))) := fun c hc => M0.out.cellAt hn0 hc
    go_wp2_with fail
    refine (sUnw_any (f := F 0) (Or.inr ⟨l.bs 0, l.os 0, l.cs 0, rfl, HT.out⟩) (by omega)).mono ?_
    rintro e w3 ⟨uf, rfl, hu3, hb3⟩
    obtain ⟨gf, cf, huf, hsf⟩ : ∃ g c, uf = .slice (some ⟨g, 0, none⟩) m c ∧ Seg w3 g 2 0 m (fun i => .int .i64 (unw (F 0) i)) := by
      rcases hu3 with ⟨h0, _⟩ | ⟨g, c, e, _, _, _, hs⟩
      · omega
      · exact ⟨g, c, e, hs⟩
    subst huf
    have H3 : Hid (Seg w3 gf 2 0 m (fun i => .int .i64 (unw (F 0) i)) ∧ Below V.heap.size V w3) := ⟨hsf, hb3⟩
    have hz3 : V.heap.size ≤ w3.heap.size := hb3.size
    have hiV : hi ≤ V.heap.size := by have := HV.out.size; omega
    clear hu3 hb3 hsf t0 HT
    go_wp2_with fail
    go_loopw [5, 6] (fun v c wx => ∃ (i : Nat) (vs : Nat → Value), i ≤ n ∧ c = .int .i64 i ∧ Hid (Gp w3 wx v i vs)) (fun _ c _ => n - (intOf c).toNat)
    case atStart => exact ⟨0, fun _ => .nilIface, Nat.zero_le _, rfl, gp_start w3 _⟩
    case round =>
      obtain ⟨i, vs, hi1, rfl, HU⟩ := hrel
      have z3 := HU.out.below.size
      by_cases hin : i < n
      · have hO : Hid ((wr.alloc (.cells #[] 2)).ownsRow w3.heap.size 34 1 u5 i ((List.range i).map vs)) := HU.out.own.alloc _
        have z4 : w3.heap.size ≤ (wr.alloc (.cells #[] 2)).heap.size := by simp; omega
        go_wp2_with (first | (at_builtin; refine push_law rfl (.tmp 27) (.tmp 29) 22 rfl 34 (.slice none 0 0) 24 Try.underlying22 info38 rfl (by decide) (wr.alloc (.cells #[] 2)) (.slice (some ⟨wr.heap.size, 0, none⟩) 0 0) rfl w3.heap.size u5 i _ rfl hO.out 1 (by first | rfl | simp [Act.eval]) (by omega) z4 ?_; intro v1 w1 hown1 hgrow1))
        have HN : Hid (Gp w3 w1 v1 (i + 1) (fun r => if r = i then .slice (some ⟨wr.heap.size, 0, none⟩) 0 0 else vs r)) := gp_step HU.out hown1 hgrow1
        clear hown1 hgrow1
        go_wp2
        exact ⟨⟨i + 1, _, by omega, by simp, HN⟩, by simp [intOf]; omega⟩
      · obtain rfl : i = n := by omega
        obtain ⟨gb, cg, hv, hgb, hcg, hs⟩ := owned_seg2 HU.out.own hn0
        subst hv
        have HG : Hid (Gr w3 wr gb i vs (fun _ => 0) (uwa F)) := gr_start (uwa F) HU.out hs hgb
        have hgbw : gb < wr.heap.size := hs.lt
        clear hs HU
        go_wp2_with fail
        go_loopw [7] (fun c wx => ∃ (j : Nat) (vs : Nat → Value), j ≤ m ∧ c = .int .i64 j ∧ Hid (Gr w3 wx gb i vs (fun _ => j) (uwa F))) (fun c _ => m - (intOf c).toNat)
        case atStart => exact ⟨0, vs, Nat.zero_le _, rfl, HG⟩
        case round =>
          obtain ⟨j, vs, hj1, rfl, HG⟩ := hrel
          have z5 := HG.out.below.size
          by_cases hjm : j < m
          · have b5 : Below V.heap.size V wr := H3.out.2.trans (HG.out.below.mono H3.out.2.size)
            have hMat : ∀ W, Below wr.heap.size wr W → Hid (Mat lo hi W l i (fun _ => m) F) := fun W hb => M0.out.keep fun k _ h2 => (hb.block k (by omega)).trans (b5.block k (by omega))
            have g0 : wr.cell? ⟨gf, j, none⟩ = some (.int .i64 (unw (F 0) j)) := by simpa using (H3.out.1.of_block (HG.out.below.block _ H3.out.1.lt)).cell hjm
            have k0 : ∀ W, Below wr.heap.size wr W → W.cell? ⟨gf, j, none⟩ = some (.int .i64 (unw (F 0) j)) := fun W hb => kold hb g0
            have hR0 : Below wr.heap.size wr wr := Below.refl _ _
            have hi1000 : i ≤ 1000 := by omega
            have hm1000 : m ≤ 1000 := by omega
            have hi11 : i ≤ 1100000 := by omega
            clear b5 g0
            go_upto_region 13 with fail
            go_cut [8] from 37 to 44 (fun pz wx => ∃ gc cc, pz = .slice (some ⟨gc, 0, none⟩) i cc ∧ Hid (wr.heap.size ≤ gc ∧ Seg wx gc 2 0 i (fun r => .int .i64 (uwa F r j)) ∧ Below wr.heap.size wr wx))
            case first =>
              go_region_held3 (fun W => Below wr.heap.size wr W) (go_grown) (first | (go_at_call 77; refine (sCol_any (hMat _ (by go_grown)).out _ hjm hn0 hi1000 hm1000).mono ?_; rintro e wy ⟨g1, c1, rfl, hg1, hs1, hb1⟩; have hR1 : Below wr.heap.size wr wy := (by refine box_step ?_ hb1 (by go_size); go_grown)) | (go_at_call 75; refine (sOn_any _ _ 0 i _ (fun r => F r j) _ hn0 hi11 (fun r hr => hs1.cell hr)).mono ?_; rintro e wv ⟨g2, c2, rfl, hg2, hc2, hs2, hb2⟩; have hR2 : Below wr.heap.size wr wv := (by refine box_step ?_ hb2 (by go_size); go_grown)))
              all_goals
                go_wp2_with fail
                go_meet
                case rel => exact ⟨g2, c2, rfl, Nat.le_trans hR1.size hg2, hs2, hR2⟩
            case rest =>
              obtain ⟨gc, cc, rfl, HCU⟩ := hcut
              clear hMat k0 hR0
              have HI0 : Hid (Gr w3 wc gb i vs (fun r => if r < 0 then j + 1 else j) (uwa F) ∧ Seg wc gc 2 0 i (fun r => .int .i64 (uwa F r j)) ∧ ∀ r, r < i → (vs r).ownBlock ≠ some gc) := by
                obtain ⟨q1, q2, q3⟩ := HCU.out
                refine ⟨(HG.out.later q3).congr fun r _ => by simp, q2, fun r hr e => ?_⟩
                have := HG.out.lt hr e
                omega
              clear HG HCU
              go_wp2_with fail
              go_loopw [9] (fun c wx => ∃ (k : Nat) (vs : Nat → Value), k ≤ i ∧ c = .int .i64 k ∧ Hid (Gr w3 wx gb i vs (fun r => if r < k then j + 1 else j) (uwa F) ∧ Seg wx gc 2 0 i (fun r => .int .i64 (uwa F r j)) ∧ ∀ r, r < i → (vs r).ownBlock ≠ some gc)) (fun c _ => i - (intOf c).toNat)
              case atStart => exact ⟨0, vs, Nat.zero_le _, rfl, HI0⟩
              case round =>
                obtain ⟨k, vs, hk1, rfl, HI⟩ := hrel
                clear HI0
                have z6 := HI.out.1.below.size
                by_cases hki : k < i
                · have c1 : wr.cell? ⟨gb, k, none⟩ = some (vs k) := by simpa using HI.out.1.top.cell hki
                  have c2 : wr.cell? ⟨gc, k, none⟩ = some (.int .i64 (uwa F k j)) := by simpa using HI.out.2.1.cell hki
                  have bb : gb < wr.heap.size := HI.out.1.top.lt
                  have bc : gc < wr.heap.size := HI.out.2.1.lt
                  have HO : Hid (wr.drew.ownsRow w3.heap.size 2 1 (vs k) j (rl (uwa F) k j)) := by
                    have := HI.out.1.rows k hki
                    simp only [Nat.lt_irrefl, if_false] at this
                    exact this.drew
                  have hTop : ∀ (o : Obj) (w1 : World), (wr.drew.alloc o).grownBy w1 (vs k).ownBlock → Hid (Seg w1 gb 34 0 i vs) := fun o w1 hg => gr_top HI.out.1 hki (Below.refl wr.heap.size wr).drew rfl hg
                  obtain ⟨x, hx⟩ : ∃ x, x = vs k := ⟨_, rfl⟩
                  rw [← hx] at c1 HO
                  have HX : Hid (x = vs k) := hx
                  rw [← hx] at hTop
                  clear hx
                  go_wp2_with fail
                  go_region_law (first | (refine step_lies rfl (.tmp 56) (.tmp 61) 34 rfl 2 (.int .i64 0) 8 Try.underlying34 info2 rfl (by decide) wr.drew (.int .i64 (uwa F k j)) rfl rfl w3.heap.size x j (rl (uwa F) k j) (by simp [Act.eval]) HO.out 1 (by simp [Act.eval]) (by omega) z6 ?_; intro g cap w1 hown1 hgrow1 hat1 hlt1; have c5 : w1.cell? ⟨gb, k, none⟩ = some x := (by have := (hTop _ _ hgrow1).out.cell hki; rw [Nat.zero_add, ← HX.out] at this; exact this); have f5 : w1.frozen? ⟨gb, k, none⟩ = false := (hTop _ _ hgrow1).out.frozen k))
                  all_goals
                    have HN : Hid (Gr w3 (w1.setCell ⟨gb, k, none⟩ (.slice (some ⟨g, 0, none⟩) (j + 1) cap)) gb i (fun r => if r = k then .slice (some ⟨g, 0, none⟩) (j + 1) cap else vs r) (fun r => if r < k + 1 then j + 1 else j) (uwa F) ∧ Seg (w1.setCell ⟨gb, k, none⟩ (.slice (some ⟨g, 0, none⟩) (j + 1) cap)) gc 2 0 i (fun r => .int .i64 (uwa F r j)) ∧ ∀ r, r < i → (if r = k then Value.slice (some ⟨g, 0, none⟩) (j + 1) cap else vs r).ownBlock ≠ some gc) := by
                      rw [rl_push] at hown1
                      rw [HX.out] at hgrow1 hat1
                      have hD : Below wr.heap.size wr wr.drew := (Below.refl wr.heap.size wr).drew
                      refine ⟨(gr_step' HI.out.1 hki (by simp) hD rfl hown1 hgrow1 hat1).congr fun r hr => ?_, ?_, fun r hr => ?_⟩
                      · by_cases e : r = k
                        · simp [e]
                        · by_cases e2 : r < k
                          · simp [e, e2, Nat.lt_succ_of_lt e2]
                          · simp [e, e2, show ¬ r < k + 1 by omega]
                      · have hs1 : Seg w1 gc 2 0 i (fun r => .int .i64 (uwa F r j)) := HI.out.2.1.of_block (gr_key HI.out.1 hki hD rfl hgrow1 bc (HI.out.2.2 k hki))
                        exact hs1.setOther (a := ⟨gb, k, none⟩) (by show gc ≠ gb; exact HI.out.2.1.ne HI.out.1.top (by decide)) _
                      · by_cases e : r = k
                        · rw [if_pos e]
                          intro c
                          simp [Value.ownBlock] at c
                          subst c
                          rcases hat1 with c | c
                          · exact HI.out.2.2 k hki c
                          · have c' : g = wr.heap.size + 1 := c
                            omega
                        · rw [if_neg e]
                          exact HI.out.2.2 r hr
                    clear hown1 hgrow1 hat1 hlt1 c5 f5
                    go_wp2
                    exact ⟨⟨k + 1, _, by omega, by simp, HN⟩, by simp [intOf]; omega⟩
                · obtain rfl : k = i := by omega
                  have HN : Hid (Gr w3 wr gb k vs (fun _ => j + 1) (uwa F)) := HI.out.1.congr fun r hr => by simp [hr]
                  clear HI
                  go_wp2
                  exact ⟨⟨j + 1, vs, by omega, by simp, HN⟩, by simp [intOf]; omega⟩
          · obtain rfl : j = m := by omega
            have BW : Hid (Blk wr w.heap.size #[.int .i64 0, .slice none 0 0] 47) := BV.out.old (H3.out.2.trans (HG.out.below.mono H3.out.2.size))
            have HF : Hid (Below w.heap.size w wr) := HV.out.trans ((H3.out.2.trans (HG.out.below.mono H3.out.2.size)).mono HV.out.size)
            have HO : Hid (∀ x y, RdMat ((wr.setCell ⟨w.heap.size, 0, none⟩ x).setCell ⟨w.heap.size, 1, none⟩ y) (.slice (some ⟨gb, 0, none⟩) i cg) i (fun _ => j) (uwa F)) := fun x y => gr_out HG.out hl0 (Nat.lt_of_lt_of_le BV.out.lt hz3) x y
            have c0 := BW.out.cell (j := 0) rfl
            have c1 := BW.out.cell (j := 1) rfl
            have f0 := BW.out.frozen 0
            have f1 := BW.out.frozen 1
            clear HG
            go_wp2
            refine bodyPost_ret (v := .agg #[.int .i64 0, .slice (some ⟨gb, 0, none⟩) i cg]) (by simp [results, Try.results51, go_sem, c0, c1]) rfl ⟨_, by rw [HCC.out], ?_, ?_⟩
            · rw [← HMM.out, HCC.out]
              exact Or.inr ⟨⟨rfl, hn0⟩, HO.out _ _⟩
            · exact (HF.out.setCell (p := ⟨w.heap.size, 0, none⟩) (Nat.le_refl _) _).setCell (p := ⟨w.heap.size, 1, none⟩) (Nat.le_refl _) _
  · have hc0 : (mapc n L != 0) = true := by rw [bne_iff_ne]; exact hc
    have H0 : Hid (mapc n L ≠ 0) := hc
    obtain ⟨code, hcode⟩ : ∃ c, c = mapc n L := ⟨_, rfl⟩
    have HCO : Hid (code = mapc n L) := hcode
    rw [← hcode] at hc0 ⊢
    clear hc MV HL hcode
    have c0 := BV.out.cell (j := 0) rfl
    have c1 := BV.out.cell (j := 1) rfl
    have f0 := BV.out.frozen 0
    have f1 := BV.out.frozen 1
    go_wp2
    refine bodyPost_ret (v := .agg #[.int .i64 code, .slice none 0 0]) (by simp [results, Try.results51, go_sem, c0, c1]) rfl ⟨_, by rw [HCO.out], Or.inl ⟨Or.inl H0.out, none, 0, rfl⟩, ?_⟩
    exact (HV.out.setCell (p := ⟨w.heap.size, 0, none⟩) (Nat.le_refl _) _).setCell (p := ⟨w.heap.size, 1, none⟩) (Nat.le_refl _) _
end Go.Proofs.Ytbagaicbochmnaa
