/- spec.PhaseKnots. -/
import Derived.Test.YtbagaicbochmnaaSv
import Derived.Test.YtbagaicbochmnaaPk
namespace Go.Proofs.Ytbagaicbochmnaa
open Go.RowKit
set_option linter.unusedVariables false
theorem up_out {w0 wr : World} {n wd g cg b : Nat} {F : Rm.Mx} {vs : Nat → Value} (h : Up w0 wr n wd F (.slice (some ⟨g, 0, none⟩) n cg) vs) (hs : Seg wr g 34 0 n vs) (hg : w0.heap.size ≤ g) (hb : b < w0.heap.size) (x y : Value) :
    RdMat ((wr.setCell ⟨b, 0, none⟩ x).setCell ⟨b, 1, none⟩ y) (.slice (some ⟨g, 0, none⟩) n cg) n (fun _ => wd) F := by
  refine Or.inr ⟨g, 0, cg, vs, rfl, fun r hr => ⟨?_, ?_⟩⟩
  · exact ((hs.setOther (a := ⟨b, 0, none⟩) (by show g ≠ b; omega) _).setOther (a := ⟨b, 1, none⟩) (by show g ≠ b; omega) _).cell hr
  · obtain ⟨g', cp', e1, e2, _, e4⟩ := h.rows r hr
    rw [e1]
    exact ((e4.setOther (a := ⟨b, 0, none⟩) (by show g' ≠ b; omega) _).setOther (a := ⟨b, 1, none⟩) (by show g' ≠ b; omega) _).rd
set_option maxHeartbeats 4000000 in
set_option maxRecDepth 100000 in
theorem sKn_any {lo hi : Nat} {w : World} {l : Lie} {n : Nat} {L : Nat → Nat} {F : Rm.Mx} (h : Mat lo hi w l n L F) (hn : n ≤ 1000000000000) (hL : ∀ i, i < n → L i ≤ 1000000000000) (hhi : hi ≤ w.heap.size) :
    Calls Try.prog 49 #[.slice (some ⟨l.b, 0, none⟩) n l.cap] w fun e w' => ∃ v, e = .returned (.agg #[.int .i64 (mapc n L), v]) ∧ OutM w' (mapc n L) v (knr n (L 0)) (L 0 - 1) (knm F) ∧ Below w.heap.size w w' := by
  obtain ⟨X, hX⟩ : ∃ X, X = w.alloc (.cells #[.int .i64 0, .slice none 0 0] 47) := ⟨_, rfl⟩
  have HM : Hid (Mat lo hi X l n L F) := by show Mat lo hi X _ _ _ _; rw [hX]; exact h.alloc _ hhi
  have HB : Hid (Below w.heap.size w X) := by show Below _ _ X; rw [hX]; exact (Below.refl _ _).alloc (Nat.le_refl _) _
  have BX : Hid (Blk X w.heap.size #[.int .i64 0, .slice none 0 0] 47) := by show Blk X _ _ _; rw [hX]; exact Blk.new rfl
  have HL : Hid (∀ i, i < n → L i ≤ 9223372036854775807) := fun i hi => by have := hL i hi; omega
  clear h hL
  go_enter Try.func49, Try.ntmps49
  go_wp2_with fail
  rw [← hX]
  clear hX
  refine (sMap_any _ _ _ _ L _ (by omega) HL.out HM.out.tops).mono ?_
  rintro e V ⟨q0, rfl, hV⟩
  have BV : Hid (Blk V w.heap.size #[.int .i64 0, .slice none 0 0] 47) := by show Blk V _ _ _; rw [hV]; exact BX.out.drewN q0
  have HV : Hid (Below w.heap.size w V) := by show Below _ _ V; rw [hV]; exact below_drewN HB.out q0
  have MV : Hid (Mat lo hi V l n L F) := by show Mat lo hi V _ _ _ _; rw [hV]; exact HM.out.keep fun k _ _ => rfl
  clear hV HM HB BX
  by_cases hc : mapc n L = 0
  · obtain ⟨hn0, hn32, hl0, hl32, hE⟩ := mapc_right hc
    have M0 : Hid (Mat lo hi V l n (fun _ => L 0) F) := MV.out.evenK hE
    have HCC : Hid (mapc n L = 0) := hc
    rw [hc]
    clear hc hE
    obtain ⟨m, hm⟩ : ∃ m, m = L 0 := ⟨_, rfl⟩
    rw [← hm] at hl0 hl32 M0
    have HMM : Hid (m = L 0) := hm
    clear MV HL hm
    by_cases h1 : m = 1
    · have HM1 : Hid (m = 1) := h1
      have BA : Hid (Blk (V.alloc (.cells #[] 34)) w.heap.size #[.int .i64 0, .slice none 0 0] 47) := BV.out.alloc _
      have c0 := BA.out.cell (j := 0) rfl
      have c1 := BA.out.cell (j := 1) rfl
      have f0 := BA.out.frozen 0
      have f1 := BA.out.frozen 1
      have t0 : (V.alloc (.cells #[] 34)).cell? ⟨l.b, 0, none⟩ = some (.slice (some ⟨l.bs 0, l.os 0, none⟩) m (l.cs 0)) := by
        have := M0.out.cellRow hn0
        exact (Below.cell ((Below.refl V.heap.size V).alloc (Nat.le_refl _) _) (World.block_lt_of_cell? _ _ this)).trans this
      have HVA : Hid (Below w.heap.size w (V.alloc (.cells #[] 34))) := HV.out.alloc HV.out.size _
      go_wp2_with fail
      generalize hWA : V.alloc (.cells #[] 34) = WA at c0 c1 f0 f1 t0 HVA ⊢
      refine wp_loop_rounds 1 ?_
      rw [rounds_succ]
      have hmm : ¬((1 : Int) < (m : Int)) := by omega
      have hmd : decide ((1 : Int) < (m : Int)) = false := by rw [decide_eq_false_iff_not]; exact hmm
      clear h1
      by_cases h2 : n = 1
      · have hnn : ¬((1 : Int) < (n : Int)) := by omega
        have hnd : decide ((1 : Int) < (n : Int)) = false := by rw [decide_eq_false_iff_not]; exact hnn
        clear h2
        go_wp2
        refine bodyPost_ret (v := .agg #[.int .i64 0, .slice (some ⟨V.heap.size, 0, none⟩) 0 0]) (by simp [results, Try.results49, go_sem, c0, c1]) rfl ⟨_, by rw [HCC.out], Or.inl ⟨Or.inr (by rw [← HMM.out, HM1.out]; rfl), _, _, rfl⟩, ?_⟩
        exact (HVA.out.setCell (p := ⟨w.heap.size, 0, none⟩) (Nat.le_refl _) _).setCell (p := ⟨w.heap.size, 1, none⟩) (Nat.le_refl _) _
      · have hnn : (1 : Int) < (n : Int) := by omega
        have hnd : decide ((1 : Int) < (n : Int)) = true := by rw [decide_eq_true_iff]; exact hnn
        clear h2
        go_wp2
        refine bodyPost_ret (v := .agg #[.int .i64 0, .slice (some ⟨V.heap.size, 0, none⟩) 0 0]) (by simp [results, Try.results49, go_sem, c0, c1]) rfl ⟨_, by rw [HCC.out], Or.inl ⟨Or.inr (by rw [← HMM.out, HM1.out]; rfl), _, _, rfl⟩, ?_⟩
        exact (HVA.out.setCell (p := ⟨w.heap.size, 0, none⟩) (Nat.le_refl _) _).setCell (p := ⟨w.heap.size, 1, none⟩) (Nat.le_refl _) _
    · have HM1 : Hid (m ≠ 1) := h1
      have hmm : (1 : Int) < (m : Int) := by omega
      have hmd : decide ((1 : Int) < (m : Int)) = true := by rw [decide_eq_true_iff]; exact hmm
      obtain ⟨m1, hm1⟩ : ∃ q : Nat, m = q + 1 := ⟨m - 1, by omega⟩
      obtain ⟨n1, hn1⟩ : ∃ q : Nat, n = q + 1 := ⟨n - 1, by omega⟩
      have HNM : Hid (n = n1 + 1 ∧ m = m1 + 1) := ⟨hn1, hm1⟩
      have zn1 : n1 ≤ 31 := by omega
      have zm1 : m1 ≤ 31 := by omega
      have zm0 : 0 < m1 := by omega
      clear h1 hn1 hm1
      go_wp2_with fail
      go_loopw [4, 5] (fun v c wx => ∃ (i : Nat) (vs : Nat → Value), i ≤ n1 ∧ c = .int .i64 i ∧ Hid (Up V wx i m1 (knm F) v vs)) (fun _ c _ => n1 - (intOf c).toNat)
      case atStart => exact ⟨0, fun _ => .nilIface, Nat.zero_le _, rfl, up_start V _ _ _⟩
      case round =>
        obtain ⟨i, vs, hi1, rfl, HU⟩ := hrel
        have t0 : wr.cell? ⟨l.b, 0, none⟩ = some (.slice (some ⟨l.bs 0, l.os 0, none⟩) m (l.cs 0)) := by
          have := M0.out.cellRow hn0
          exact (HU.out.below.cell (World.block_lt_of_cell? _ _ this)).trans this
        have hV1 := HU.out.below.size
        by_cases hin : i < n1
        · obtain ⟨wo, hwo⟩ : ∃ W, W = wr := ⟨_, rfl⟩
          subst hwo
          have hnI : (i : Int) + 1 < (n : Int) := by have := HNM.out; omega
          have hnd : decide ((i : Int) + 1 < (n : Int)) = true := by rw [decide_eq_true_iff]; exact hnI
          go_wp2_with fail
          go_loopw [6, 7] (fun v c wx => ∃ j : Nat, j ≤ m1 ∧ c = .int .i64 j ∧ Hid (wx.ownsRow wo.heap.size 2 1 v j ((List.range j).map fun c => .int .i64 (knm F i c)) ∧ Below wo.heap.size wo wx)) (fun _ c _ => m1 - (intOf c).toNat)
          case atStart => exact ⟨0, Nat.zero_le _, rfl, owns_empty wo 2, (Below.refl _ _).alloc (Nat.le_refl _) _⟩
          case round =>
            obtain ⟨j, hj1, rfl, HR⟩ := hrel
            have hws := HR.out.2.size
            have MR : Hid (Mat lo hi wr l n (fun _ => m) F) := M0.out.keep fun k _ h2 => by
              have h3 := HU.out.below.trans (HR.out.2.mono HU.out.below.size)
              exact h3.block k (by have := HV.out.size; omega)
            have s0 : wr.cell? ⟨l.b, 0, none⟩ = some (.slice (some ⟨l.bs 0, l.os 0, none⟩) m (l.cs 0)) := MR.out.cellRow hn0
            by_cases hjm : j < m1
            · obtain ⟨hN1, hN2⟩ := HNM.out
              have hjI : (j : Int) + 1 < (m : Int) := by omega
              have hjm0 : j < m := by omega
              have hjm2 : j + 1 < m := by omega
              have hin0 : i < n := by omega
              have hin2 : i + 1 < n := by omega
              have s1 : wr.cell? ⟨l.b, i, none⟩ = some (.slice (some ⟨l.bs i, l.os i, none⟩) m (l.cs i)) := MR.out.cellRow hin0
              have s2 : wr.cell? ⟨l.b, i + 1, none⟩ = some (.slice (some ⟨l.bs (i + 1), l.os (i + 1), none⟩) m (l.cs (i + 1))) := MR.out.cellRow hin2
              have s3 : wr.cell? ⟨l.bs i, l.os i + j, none⟩ = some (.int .i64 (F i j)) := MR.out.cellAt hin0 hjm0
              have s4 : wr.cell? ⟨l.bs i, l.os i + (j + 1), none⟩ = some (.int .i64 (F i (j + 1))) := MR.out.cellAt hin0 hjm2
              have s5 : wr.cell? ⟨l.bs (i + 1), l.os (i + 1) + (j + 1), none⟩ = some (.int .i64 (F (i + 1) (j + 1))) := MR.out.cellAt hin2 hjm2
              have s6 : wr.cell? ⟨l.bs (i + 1), l.os (i + 1) + j, none⟩ = some (.int .i64 (F (i + 1) j)) := MR.out.cellAt hin2 hjm0
              have HK : Hid ((wst (F i j) (F i (j + 1)) + wst (F i (j + 1)) (F (i + 1) (j + 1)) + wst (F (i + 1) (j + 1)) (F (i + 1) j) + wst (F (i + 1) j) (F i j)).tdiv 1048576 = knm F i j) := rfl
              have e1 := wst_lo (F i j) (F i (j + 1))
              have e2 := wst_hi (F i j) (F i (j + 1))
              have e3 := wst_lo (F i (j + 1)) (F (i + 1) (j + 1))
              have e4 := wst_hi (F i (j + 1)) (F (i + 1) (j + 1))
              have e5 := wst_lo (F (i + 1) (j + 1)) (F (i + 1) j)
              have e6 := wst_hi (F (i + 1) (j + 1)) (F (i + 1) j)
              have e7 := wst_lo (F (i + 1) j) (F i j)
              have e8 := wst_hi (F (i + 1) j) (F i j)
              clear hN1 hN2
              generalize F i j = fa at *
              generalize F i (j + 1) = fb at *
              generalize F (i + 1) (j + 1) = fc at *
              generalize F (i + 1) j = fd at *
              go_wp2_with fail
              refine (sStep_any _ _ _).mono ?_
              rintro e w5 ⟨rfl, rfl⟩
              go_wp2_with fail
              refine (sStep_any _ _ _).mono ?_
              rintro e w5 ⟨rfl, rfl⟩
              go_wp2_with fail
              refine (sStep_any _ _ _).mono ?_
              rintro e w5 ⟨rfl, rfl⟩
              go_wp2_with fail
              refine (sStep_any _ _ _).mono ?_
              rintro e w5 ⟨rfl, rfl⟩
              go_wp2_with (first | (at_builtin; refine push_law rfl (.tmp 75) (.tmp 92) 34 rfl 2 (.int .i64 0) 8 Try.underlying34 info2 rfl (by decide) wr _ rfl wo.heap.size u6 j _ rfl HR.out.1 1 rfl (by omega) hws ?_; intro v1 w1 hown1 hgrow1))
              have HN : Hid (w1.ownsRow wo.heap.size 2 1 v1 (j + 1) ((List.range (j + 1)).map fun c => .int .i64 (knm F i c)) ∧ Below wo.heap.size wo w1) := by
                rw [← range_push]
                rw [HK.out] at hown1
                exact ⟨hown1, push_below HR.out.1 hgrow1 HR.out.2 hws⟩
              clear hown1 hgrow1
              go_wp2
              exact ⟨⟨j + 1, by omega, by simp, HN⟩, by simp [intOf]; omega⟩
            · obtain rfl : j = m1 := by omega
              have hjI : ¬((j : Int) + 1 < (m : Int)) := by have := HNM.out; omega
              obtain ⟨g, cp, hv, hgb, hcp, hseg⟩ := owned_seg2 HR.out.1 (by omega)
              subst hv
              have HG : Hid (wo.heap.size ≤ g ∧ j ≤ cp ∧ Seg wr g 2 0 j (fun c => .int .i64 (knm F i c))) := ⟨hgb, hcp, hseg⟩
              clear hgb hseg hcp
              have hO : Hid (wr.ownsRow V.heap.size 34 1 u4 i ((List.range i).map vs)) := owns_later HU.out.own HR.out.2
              have hvz : V.heap.size ≤ wr.heap.size := by omega
              go_wp2_with (first | (at_builtin; refine push_law rfl (.tmp 94) (.tmp 96) 22 rfl 34 (.slice none 0 0) 24 Try.underlying22 info38 rfl (by decide) wr _ rfl V.heap.size u4 i _ rfl hO.out 1 rfl (by omega) hvz ?_; intro v1 w1 hown1 hgrow1))
              have HN : Hid (Up V w1 (i + 1) j (knm F) v1 (fun r => if r = i then .slice (some ⟨g, 0, none⟩) j cp else vs r)) := up_step HU.out HR.out.2 HG.out.1 HG.out.2.1 HG.out.2.2 hown1 hgrow1
              clear hown1 hgrow1
              go_wp2
              exact ⟨⟨i + 1, _, by omega, by simp, HN⟩, by simp [intOf]; omega⟩
        · obtain rfl : i = n1 := by omega
          have hnI : ¬((i : Int) + 1 < (n : Int)) := by have := HNM.out; omega
          have hnd : decide ((i : Int) + 1 < (n : Int)) = false := by rw [decide_eq_false_iff_not]; exact hnI
          have BW : Hid (Blk wr w.heap.size #[.int .i64 0, .slice none 0 0] 47) := BV.out.old HU.out.below
          have HF : Hid (Below w.heap.size w wr) := HV.out.trans (HU.out.below.mono HV.out.size)
          have c0 := BW.out.cell (j := 0) rfl
          have c1 := BW.out.cell (j := 1) rfl
          have f0 := BW.out.frozen 0
          have f1 := BW.out.frozen 1
          have ekn : Hid (knr n (L 0) = i) := by show knr n (L 0) = i; rw [← HMM.out]; unfold knr; rw [if_neg HM1.out]; have := HNM.out; omega
          have ekm : Hid (L 0 - 1 = m1) := by show L 0 - 1 = m1; rw [← HMM.out]; have := HNM.out; omega
          by_cases hz : i = 0
          · obtain ⟨ao, cap, hv⟩ : ∃ ao cap, u4 = .slice ao 0 cap := by
              obtain ⟨_, ⟨e, _⟩ | ⟨g, cap, cur, e, _⟩⟩ := HU.out.own
              · exact ⟨none, 0, e⟩
              · exact ⟨_, cap, by rw [e, hz]⟩
            subst hv
            have HZ : Hid (i = 0) := hz
            clear hz
            go_wp2
            refine bodyPost_ret (v := .agg #[.int .i64 0, .slice ao 0 cap]) (by simp [results, Try.results49, go_sem, c0, c1]) rfl ⟨_, by rw [HCC.out], Or.inl ⟨Or.inr (by rw [ekn.out, HZ.out]), _, _, rfl⟩, ?_⟩
            exact (HF.out.setCell (p := ⟨w.heap.size, 0, none⟩) (Nat.le_refl _) _).setCell (p := ⟨w.heap.size, 1, none⟩) (Nat.le_refl _) _
          · obtain ⟨g, cg, hv, hgb, hcg, hs⟩ := owned_seg2 HU.out.own (by omega)
            subst hv
            have HO : Hid (∀ x y, RdMat ((wr.setCell ⟨w.heap.size, 0, none⟩ x).setCell ⟨w.heap.size, 1, none⟩ y) (.slice (some ⟨g, 0, none⟩) i cg) i (fun _ => m1) (knm F)) := fun x y => up_out HU.out hs hgb BV.out.lt x y
            have HZ : Hid (0 < i) := by show 0 < i; omega
            clear hz hgb hcg hs
            go_wp2
            refine bodyPost_ret (v := .agg #[.int .i64 0, .slice (some ⟨g, 0, none⟩) i cg]) (by simp [results, Try.results49, go_sem, c0, c1]) rfl ⟨_, by rw [HCC.out], ?_, ?_⟩
            · rw [ekn.out, ekm.out, HCC.out]
              exact Or.inr ⟨⟨rfl, HZ.out⟩, HO.out _ _⟩
            · exact (HF.out.setCell (p := ⟨w.heap.size, 0, none⟩) (Nat.le_refl _) _).setCell (p := ⟨w.heap.size, 1, none⟩) (Nat.le_refl _) _
  · have hc0 : (mapc n L != 0) = true := by rw [bne_iff_ne]; exact hc
    have H0 : Hid (mapc n L ≠ 0) := hc
    obtain ⟨code, hcode⟩ : ∃ c, c = mapc n L := ⟨_, rfl⟩
    have HCO : Hid (code = mapc n L) := hcode
    rw [← hcode] at hc0 ⊢
    clear hc MV HL hcode
    have c0 := BV.out.cell (j := 0) rfl
    have c1 := BV.out.cell (j := 1) rfl
    have f0 := BV.out.frozen 0
    have f1 := BV.out.frozen 1
    go_wp2
    refine bodyPost_ret (v := .agg #[.int .i64 code, .slice none 0 0]) (by simp [results, Try.results49, go_sem, c0, c1]) rfl ⟨_, by rw [HCO.out], Or.inl ⟨Or.inl H0.out, none, 0, rfl⟩, ?_⟩
    exact (HV.out.setCell (p := ⟨w.heap.size, 0, none⟩) (Nat.le_refl _) _).setCell (p := ⟨w.heap.size, 1, none⟩) (Nat.le_refl _) _
end Go.Proofs.Ytbagaicbochmnaa
