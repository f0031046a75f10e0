/- The specification's clearing of rows, walked: contract. -/
import Derived.Test.YtboppklcmdfphaaSclear
namespace Go.Proofs.Ytboppklcmdfphaa
open Go.RowKit
set_option linter.unusedVariables false
theorem pv_same {F : Rm.Mx} {c k : Nat} (h : 0 ≤ Rm.pv F c k ∨ F (c + k) c = 0) : Rm.pv F c (k + 1) = Rm.pv F c k := by
  rw [Rm.pv]
  by_cases h0 : 0 ≤ Rm.pv F c k
  · rw [if_pos h0]
  · rw [if_neg h0]
    rcases h with h | h
    · exact absurd h h0
    · rw [if_pos h]
      have := Rm.pv_lo F c k
      omega
theorem pv_hit {F : Rm.Mx} {c k : Nat} (h0 : Rm.pv F c k < 0) (h : F (c + k) c ≠ 0) : Rm.pv F c (k + 1) = (c : Int) + k := by
  rw [Rm.pv, if_neg (by omega), if_neg h]
set_option maxHeartbeats 6400000 in
set_option maxRecDepth 100000 in
theorem sClear_any {b cap n wd : Nat} {M : Rm.Mx} {w : World} (hS0 : Sp w b n wd M) (hn : n ≤ 24) (hwd : n ≤ wd) (hw2 : wd ≤ 1000) (hres : Rm.Res n wd M) :
    Calls Try.prog 59 #[.slice (some ⟨b, 0, none⟩) n cap, .int .i64 n] w fun e w' => ∃ r, e = .returned (.bool r) ∧ Below b w w' ∧
      ((r = false ∧ Rm.elim n M n = none) ∨ (r = true ∧ ∃ A, Rm.elim n M n = some A ∧ Sp w' b n wd A)) := by
  have HR : Hid (Rm.Res n wd M) := hres
  have HS0 : Hid (Sp w b n wd M) := hS0
  clear hres hS0
  go_enter Try.func59, Try.ntmps59
  go_wp2_with fail
  go_loopw [5] (fun i wr => ∃ (c : Nat) (A : Rm.Mx), c ≤ n ∧ i = .int .i64 c ∧ Hid (Rm.elim n M c = some A) ∧ Hid (Sp wr b n wd A) ∧ Hid (Below b w wr)) (fun i _ => n - (intOf i).toNat)
  case atStart => exact ⟨0, M, Nat.zero_le _, rfl, rfl, HS0.out, Below.refl _ _⟩
  case round =>
    obtain ⟨c, A, hc, rfl, hA, hS, hB⟩ := hrel
    clear HS0
    by_cases hcn : c < n
    · have RA : Hid (Rm.Res n wd A) := Rm.res_elim HR.out c hc A hA.out
      have hcw : c < wd := by omega
      obtain ⟨wo, hwo⟩ : ∃ wo, wo = wr := ⟨_, rfl⟩
      subst hwo
      go_wp2_with fail
      go_loopw [7, 6] (fun i t wx => wx = wo ∧ ∃ k : Nat, c + k ≤ n ∧ i = .int .i64 ((c : Int) + k) ∧ t = .int .i64 (Rm.pv A c k)) (fun i _ _ => n - (intOf i).toNat)
      case atStart => exact ⟨rfl, 0, by omega, by simp, by simp [Rm.pv]⟩
      case round =>
        obtain ⟨rfl, k, hk, rfl, rfl⟩ := hrel
        by_cases hkn : c + k < n
        · obtain ⟨i, hi⟩ : ∃ i : Nat, i = c + k := ⟨_, rfl⟩
          have e1 : (c : Int) + (k : Int) = (i : Int) := by omega
          have hin : i < n := by omega
          obtain ⟨g, cp, g1, _, hseg⟩ := hS.out.at hin
          have g2 : wr.cell? ⟨g, c, none⟩ = some (.int .i64 (A i c)) := by simpa using hseg.cell hcw
          have HI : Hid (i = c + k) := hi
          clear hi hseg
          by_cases hz : A i c = 0
          · have hz1 : (A i c != 0) = false := by rw [hz]; rfl
            have HP : Hid (Rm.pv A c (k + 1) = Rm.pv A c k) := pv_same (Or.inr (by rw [← HI.out]; exact hz))
            clear hz
            go_wp2
            exact ⟨⟨by trivial, k + 1, by have := HI.out; omega, by have := HI.out; simp <;> omega, by rw [HP.out]⟩, by have := HI.out; simp [intOf]; omega⟩
          · have hz1 : (A i c != 0) = true := by rw [bne_iff_ne]; exact hz
            by_cases hp : Rm.pv A c k < 0
            · have HP : Hid (Rm.pv A c (k + 1) = (c : Int) + k) := pv_hit hp (by rw [← HI.out]; exact hz)
              clear hz
              go_wp2
              exact ⟨⟨by trivial, k + 1, by have := HI.out; omega, by have := HI.out; simp <;> omega, by rw [HP.out]⟩, by have := HI.out; simp [intOf]; omega⟩
            · have hp1 : decide (Rm.pv A c k < 0) = false := by rw [decide_eq_false_iff_not]; exact hp
              have HP : Hid (Rm.pv A c (k + 1) = Rm.pv A c k) := pv_same (Or.inl (by omega))
              clear hz
              go_wp2
              exact ⟨⟨by trivial, k + 1, by have := HI.out; omega, by have := HI.out; simp <;> omega, by rw [HP.out]⟩, by have := HI.out; simp [intOf]; omega⟩
        · have HN : Hid (n - c = k) := show n - c = k by omega
          have e1 : (c : Int) + (k : Int) = (n : Int) := by omega
          by_cases hpv : Rm.pv A c k < 0
          · have HP : Hid (Rm.elim n M n = none) := Rm.elim_stop hA.out hcn (by rw [HN.out]; exact hpv)
            go_wp2
            go_ret
            exact ⟨false, rfl, hB.out, Or.inl ⟨rfl, HP.out⟩⟩
          obtain ⟨t, ht⟩ := Int.eq_ofNat_of_zero_le (show 0 ≤ Rm.pv A c k by omega)
          have HT : Hid (Rm.pv A c (n - c) = t) := by show Rm.pv A c (n - c) = t; rw [HN.out]; exact ht
          have htn : t < n := by have := Rm.pv_hi A c k; omega
          have htc : c ≤ t := by have := Rm.pv_ge A c k (by omega); omega
          rw [ht]
          clear ht hpv HN hk hkn
          obtain ⟨gt, ct, t1, ⟨t2, _⟩, tseg⟩ := hS.out.at htn
          obtain ⟨gc, cc, c1, ⟨c2, hcc⟩, cseg⟩ := hS.out.at hcn
          have t3 : wr.cell? ⟨gt, c, none⟩ = some (.int .i64 (A t c)) := by simpa using tseg.cell hcw
          have hgtb : gt ≠ b := hS.out.ne tseg
          have t4 : (wr.setCell ⟨b, t, none⟩ (.slice (some ⟨gc, 0, none⟩) wd cc)).cell? ⟨gt, c, none⟩ = some (.int .i64 (A t c)) := by simpa using (tseg.setOther hgtb _).cell hcw
          obtain ⟨w3, hw3⟩ : ∃ w3, w3 = wr.setCell ⟨b, t, none⟩ (.slice (some ⟨gc, 0, none⟩) wd cc) := ⟨_, rfl⟩
          have S3 : Hid (Sp w3 b n wd (fun i j => if i = t then A c j else A i j) ∧ Below b w w3 ∧ Seg w3 gt 2 0 wd (fun j => .int .i64 (A t j))) := by
            rw [hw3]
            exact ⟨hS.out.put htn hcc cseg, hB.out.setCell (Nat.le_refl _) _, tseg.setOther hgtb _⟩
          have HW3 : Hid (w3 = wr.setCell ⟨b, t, none⟩ (.slice (some ⟨gc, 0, none⟩) wd cc)) := hw3
          clear hw3 tseg cseg hS hB
          go_wp2_with fail
          refine (sInv_any _ _).mono ?_
          rintro e w4 ⟨rfl, hw4⟩
          rw [← HW3.out] at hw4
          subst hw4
          clear t1 t2 t3 t4 c1 c2 HW3 e1
          obtain ⟨iv, hiv⟩ : ∃ iv, iv = Rm.invM (A t c) := ⟨_, rfl⟩
          rw [← hiv]
          have HIV : Hid (iv = Rm.invM (A t c)) := hiv
          clear hiv
          go_wp2_with fail
          go_loopw [11, 10] (fun i v wx => ∃ k : Nat, k ≤ wd ∧ i = .int .i64 k ∧ wx.ownsRow w3.heap.size 2 1 v k ((List.range k).map fun j => .int .i64 (Rm.mulM (A t j) iv)) ∧ Below w3.heap.size w3 wx) (fun i _ _ => wd - (intOf i).toNat)
          case atStart => exact ⟨0, Nat.zero_le _, rfl, owns_empty w3 2, (Below.refl _ _).alloc (Nat.le_refl _) _⟩
          case round =>
            obtain ⟨k, hk, rfl, hown, hbel⟩ := hrel
            have HW : Hid (wr.ownsRow w3.heap.size 2 1 u10 k ((List.range k).map fun j => .int .i64 (Rm.mulM (A t j) iv)) ∧ Below w3.heap.size w3 wr) := ⟨hown, hbel⟩
            have hws := hbel.size
            clear hown hbel
            by_cases hkn : k < wd
            · have g1 : wr.cell? ⟨gt, k, none⟩ = some (.int .i64 (A t k)) := by simpa using (S3.out.2.2.of_block (HW.out.2.block _ S3.out.2.2.lt)).cell hkn
              go_wp2_with fail
              refine (sMul_any _ _ _).mono ?_
              rintro e w5 ⟨rfl, rfl⟩
              go_wp2_with (first | (at_builtin; refine push_law rfl (.tmp 65) (.tmp 72) 32 rfl 2 (.int .i64 0) 8 Try.underlying32 info2 rfl (by decide) wr _ rfl w3.heap.size u10 k _ rfl HW.out.1 1 rfl (by omega) hws ?_; intro v1 w1 hown1 hgrow1))
              have HN : Hid (w1.ownsRow w3.heap.size 2 1 v1 (k + 1) ((List.range (k + 1)).map fun j => .int .i64 (Rm.mulM (A t j) iv)) ∧ Below w3.heap.size w3 w1) := by
                rw [← range_push]
                exact ⟨hown1, push_below HW.out.1 hgrow1 HW.out.2 hws⟩
              clear hown1 hgrow1
              go_wp2
              exact ⟨⟨k + 1, by omega, by simp, HN.out⟩, by simp [intOf]; omega⟩
            · obtain rfl : k = wd := by omega
              obtain ⟨gn, cn, hv, hgb, hncp, nseg⟩ := owned_seg2 HW.out.1 (by omega)
              subst hv
              have SX : Hid (Sp wr b n k (fun i j => if i = t then A c j else A i j)) := S3.out.1.later HW.out.2
              obtain ⟨_, _, x1, ⟨x2, _⟩, _⟩ := SX.out.at hcn
              obtain ⟨w6, hw6⟩ : ∃ w6, w6 = wr.setCell ⟨b, c, none⟩ (.slice (some ⟨gn, 0, none⟩) k cn) := ⟨_, rfl⟩
              obtain ⟨S, hSd⟩ : ∃ S, S = Rm.scl (Rm.swp A c t) c := ⟨_, rfl⟩
              have S6 : Hid (Sp w6 b n k (clrTo S c 0) ∧ Below b w w6 ∧ Seg w6 gn 2 0 k (fun j => .int .i64 (S c j))) := by
                rw [hw6]
                have hne := SX.out.ne nseg
                have eS : ∀ j, S c j = Rm.mulM (A t j) iv := fun j => by rw [hSd, HIV.out]; simp [Rm.scl, Rm.swp]
                refine ⟨(SX.out.put hcn hncp nseg).congr fun i j hi _ => ?_, (S3.out.2.1.trans (HW.out.2.mono (Nat.le_of_lt S3.out.1.lt))).setCell (Nat.le_refl _) _, (nseg.setOther hne _).congr fun j _ => by rw [eS]⟩
                simp only [clrTo, Nat.not_lt_zero, if_false]
                by_cases e : i = c
                · subst e; rw [if_pos rfl, eS]
                · rw [if_neg e, hSd]
                  by_cases e2 : i = t
                  · subst e2; simp [Rm.scl, Rm.swp, e]
                  · simp [Rm.scl, Rm.swp, e, e2]
              have RS : Hid (Rm.Res n k S) := by rw [hSd]; exact Rm.res_scl (Rm.res_swp RA.out hcn htn)
              have ES : Hid (S = Rm.scl (Rm.swp A c t) c) := hSd
              have HW6 : Hid (w6 = wr.setCell ⟨b, c, none⟩ (.slice (some ⟨gn, 0, none⟩) k cn)) := hw6
              clear hw6 hSd nseg hgb HW S3 SX
              go_wp2_with fail
              rw [← HW6.out]
              clear x1 x2 HW6
              obtain ⟨wd, hwd'⟩ : ∃ wd, wd = k := ⟨_, rfl⟩
              subst hwd'
              go_loopw [12] (fun i wx => ∃ q : Nat, q ≤ n ∧ i = .int .i64 q ∧ Hid (Sp wx b n wd (clrTo S c q)) ∧ Hid (Below b w wx) ∧ Hid (Seg wx gn 2 0 wd (fun j => .int .i64 (S c j)))) (fun i _ => n - (intOf i).toNat)
              case atStart => exact ⟨0, Nat.zero_le _, rfl, S6.out.1, S6.out.2.1, S6.out.2.2⟩
              case round =>
                obtain ⟨q, hq, rfl, hSq, hBq, hGq⟩ := hrel
                clear S6
                by_cases hqn : q < n
                · by_cases hqc : q = c
                  · have h1 : (((q : Nat) : Int) == ((c : Nat) : Int)) = true := by rw [beq_iff_eq]; omega
                    have HN : Hid (Sp wr b n wd (clrTo S c (q + 1))) := hSq.out.congr fun i j _ _ => by
                      unfold clrTo
                      by_cases e : i < q
                      · rw [if_pos e, if_pos (by omega)]
                      · rw [if_neg e]
                        by_cases e2 : i < q + 1
                        · rw [if_pos e2, Rm.clr, if_pos (by omega), show i = c by omega]
                        · rw [if_neg e2]
                    clear hqc hSq
                    go_wp2
                    exact ⟨⟨q + 1, by omega, by simp, HN.out, hBq.out, hGq.out⟩, by simp [intOf]; omega⟩
                  · have h1 : (((q : Nat) : Int) == ((c : Nat) : Int)) = false := by rw [beq_eq_false_iff_ne]; omega
                    have HQC : Hid (q ≠ c) := hqc
                    clear hqc
                    obtain ⟨g, cp, y1, ⟨y0, _⟩, yseg0⟩ := hSq.out.at hqn
                    have yseg : Seg wr g 2 0 wd (fun j => .int .i64 (S q j)) := yseg0.congr fun j _ => by simp [clrTo]
                    clear yseg0
                    have y2 : wr.cell? ⟨g, c, none⟩ = some (.int .i64 (S q c)) := by simpa using yseg.cell hcw
                    have YS : Hid (Seg wr g 2 0 wd (fun j => .int .i64 (S q j))) := yseg
                    clear yseg
                    by_cases hz : S q c = 0
                    · have hz1 : (S q c == 0) = true := by rw [hz]; rfl
                      have HN : Hid (Sp wr b n wd (clrTo S c (q + 1))) := hSq.out.congr fun i j hi hj => by
                        unfold clrTo
                        by_cases e : i < q
                        · rw [if_pos e, if_pos (by omega)]
                        · rw [if_neg e]
                          by_cases e2 : i < q + 1
                          · obtain rfl : i = q := by omega
                            rw [if_pos e2, Rm.clr, if_neg HQC.out, Rm.clr1, hz, Rm.clr_nought (RS.out i j hi hj).1 (RS.out i j hi hj).2]
                          · rw [if_neg e2]
                      clear hz hSq y0
                      go_wp2
                      exact ⟨⟨q + 1, by omega, by simp, HN.out, hBq.out, hGq.out⟩, by simp [intOf]; omega⟩
                    · have hz1 : (S q c == 0) = false := by rw [beq_eq_false_iff_ne]; exact hz
                      clear hz
                      obtain ⟨wq, hwq⟩ : ∃ wq, wq = wr := ⟨_, rfl⟩
                      subst hwq
                      have Y1 : Hid (wq.cell? ⟨b, q, none⟩ = some (.slice (some ⟨g, 0, none⟩) wd cp)) := y1
                      go_wp2_with fail
                      clear y1 y2 hz1 h1
                      go_loopw [15, 14] (fun i v wx => ∃ k : Nat, k ≤ wd ∧ i = .int .i64 k ∧ wx.ownsRow wq.heap.size 2 1 v k ((List.range k).map fun j => .int .i64 (Rm.clr1 S c q j)) ∧ Below wq.heap.size wq wx) (fun i _ _ => wd - (intOf i).toNat)
                      case atStart => exact ⟨0, Nat.zero_le _, rfl, owns_empty wq 2, (Below.refl _ _).alloc (Nat.le_refl _) _⟩
                      case round =>
                        obtain ⟨k, hk, rfl, hown, hbel⟩ := hrel
                        have HW : Hid (wr.ownsRow wq.heap.size 2 1 u14 k ((List.range k).map fun j => .int .i64 (Rm.clr1 S c q j)) ∧ Below wq.heap.size wq wr) := ⟨hown, hbel⟩
                        have hws := hbel.size
                        clear hown hbel
                        by_cases hkn : k < wd
                        · have g0 : wr.cell? ⟨b, q, none⟩ = some (.slice (some ⟨g, 0, none⟩) wd cp) := (HW.out.2.cell (World.block_lt_of_cell? _ _ Y1.out)).trans Y1.out
                          have g1 : wr.cell? ⟨g, k, none⟩ = some (.int .i64 (S q k)) := by simpa using (YS.out.of_block (HW.out.2.block _ YS.out.lt)).cell hkn
                          have g2 : wr.cell? ⟨gn, k, none⟩ = some (.int .i64 (S c k)) := by simpa using (hGq.out.of_block (HW.out.2.block _ hGq.out.lt)).cell hkn
                          have m1 := Rm.mulM_lo (S q c) (S c k)
                          have m2 := Rm.mulM_hi (S q c) (S c k)
                          have mw : IntKind.i64.wrap (-(Rm.mulM (S q c) (S c k))) = -(Rm.mulM (S q c) (S c k)) := by rw [IntKind.wrap_i64]; omega
                          have HL : Hid (Rm.addM (S q k) (-(Rm.mulM (S q c) (S c k))) = Rm.clr1 S c q k) := Rm.less_eq _ _ _
                          go_wp2_with fail
                          go_region_law (first | (go_simp; go_at_call 79; refine (sMul_any _ _ _).mono ?_; rintro e w5 ⟨rfl, rfl⟩) | (go_simp; go_at_call 80; refine (sAdd_any _ _ _).mono ?_; rintro e w5 ⟨rfl, rfl⟩) | (refine step_push rfl (.tmp 110) (.tmp 126) 32 rfl 2 (.int .i64 0) 8 Try.underlying32 info2 rfl (by decide) wr.drew (.int .i64 (Rm.addM (S q k) (-(Rm.mulM (S q c) (S c k))))) rfl rfl wq.heap.size u14 k ((List.range k).map fun j => .int .i64 (Rm.clr1 S c q j)) (by simp [Act.eval]) (by exact HW.out.1) 1 (by simp [Act.eval]) (by omega) hws ?_; intro v1 w1 hown1 hgrow1))
                          all_goals
                            have HN : Hid (w1.ownsRow wq.heap.size 2 1 v1 (k + 1) ((List.range (k + 1)).map fun j => .int .i64 (Rm.clr1 S c q j)) ∧ Below wq.heap.size wq w1) := by
                              rw [← range_push]
                              rw [HL.out] at hown1
                              exact ⟨hown1, push_below (w := wr.drew) (by exact HW.out.1) hgrow1 HW.out.2.drew hws⟩
                            clear hown1 hgrow1
                            go_wp2
                            exact ⟨⟨k + 1, by omega, by simp, HN.out⟩, by simp [intOf]; omega⟩
                        · obtain rfl : k = wd := by omega
                          obtain ⟨gl, cl, hv, hgb, hlcp, lseg⟩ := owned_seg2 HW.out.1 (by omega)
                          subst hv
                          have SX : Hid (Sp wr b n k (clrTo S c q)) := hSq.out.later HW.out.2
                          obtain ⟨_, _, x1, ⟨x2, _⟩, _⟩ := SX.out.at hqn
                          have HN : Hid (Sp (wr.setCell ⟨b, q, none⟩ (.slice (some ⟨gl, 0, none⟩) k cl)) b n k (clrTo S c (q + 1)) ∧ Below b w (wr.setCell ⟨b, q, none⟩ (.slice (some ⟨gl, 0, none⟩) k cl)) ∧ Seg (wr.setCell ⟨b, q, none⟩ (.slice (some ⟨gl, 0, none⟩) k cl)) gn 2 0 k (fun j => .int .i64 (S c j))) := by
                            have hg2 : Seg wr gn 2 0 k (fun j => .int .i64 (S c j)) := hGq.out.of_block (HW.out.2.block _ hGq.out.lt)
                            refine ⟨(SX.out.put hqn hlcp lseg).congr fun i j hi hj => ?_, (hBq.out.trans (HW.out.2.mono (Nat.le_of_lt hSq.out.lt))).setCell (Nat.le_refl _) _, hg2.setOther (SX.out.ne hg2) _⟩
                            unfold clrTo
                            by_cases e : i = q
                            · subst e
                              rw [if_pos rfl, if_pos (by omega), Rm.clr, if_neg HQC.out]
                            · rw [if_neg e]
                              by_cases e2 : i < q
                              · rw [if_pos e2, if_pos (by omega)]
                              · rw [if_neg e2, if_neg (by omega)]
                          clear lseg hgb SX HW
                          go_wp2
                          exact ⟨⟨q + 1, by omega, by simp, HN.out.1, HN.out.2.1, HN.out.2.2⟩, by simp [intOf]; omega⟩
                · obtain rfl : q = n := by omega
                  have HN : Hid (Rm.elim q M (c + 1) = some (Rm.el1 A c t) ∧ Sp wr b q wd (Rm.el1 A c t)) := by
                    have h1 := Rm.elim_go hA.out (by rw [HT.out]; omega)
                    rw [HT.out, Int.toNat_natCast] at h1
                    refine ⟨h1, hSq.out.congr fun i j hi _ => ?_⟩
                    unfold clrTo Rm.el1
                    rw [if_pos hi, ES.out]
                  clear hSq
                  go_wp2
                  exact ⟨⟨c + 1, _, by omega, by simp, HN.out.1, HN.out.2, hBq.out⟩, by simp [intOf]; omega⟩
    · obtain rfl : c = n := by omega
      go_wp2
      go_ret
      exact ⟨true, rfl, hB.out, Or.inr ⟨rfl, A, hA.out, hS.out⟩⟩
end Go.Proofs.Ytboppklcmdfphaa
