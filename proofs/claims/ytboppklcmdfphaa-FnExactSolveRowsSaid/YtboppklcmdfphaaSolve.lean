/- The specification's solution of equations; SolveRows of both packages, whatever comes in: contracts. -/
import Derived.Test.YtboppklcmdfphaaSinv
import Derived.Test.YtboppklcmdfphaaIsolve
namespace Go.Proofs.Ytboppklcmdfphaa
open Go.RowKit
set_option linter.unusedVariables false
set_option maxHeartbeats 800000 in
theorem sSol_e1 {lo hi : Nat} {ma : Lie} {na : Nat} {La : Nat → Nat} {A : Rm.Mx} {w : World} (b m cap : Nat) (hA : Mat lo hi w ma na La A) (hna : na ≤ 1000000000000) (hLa : ∀ k, k < na → La k ≤ 1000000000000) (hc : faultOf na La ≠ 0) :
    Calls Try.prog 22 #[.slice (some ⟨ma.b, 0, none⟩) na ma.cap, .slice (some ⟨b, 0, none⟩) m cap] w fun e w' => e = .returned (.agg #[.int .i64 (faultOf na La), .slice none 0 0]) ∧ Below w.heap.size w w' := by
  have TA : ∀ o, Hid (Tops (w.alloc o) ma.b 0 na La) := fun o => hA.tops.alloc o
  have LA : Hid (∀ k, k < na → La k ≤ 9223372036854775807) := fun k hk => Nat.le_trans (hLa k hk) (by omega)
  have hc1 : (faultOf na La != 0) = true := by rw [bne_iff_ne]; exact hc
  clear hA hLa hc
  go_enter Try.func22, Try.ntmps22
  go_wp2_with fail
  refine (sFault_any _ _ _ _ La _ (by omega) LA.out (TA _).out).mono ?_
  rintro e w1 ⟨rfl, rfl⟩
  go_wp2
  refine bodyPost_ret (v := .agg #[.int .i64 (faultOf na La), .slice none 0 0]) (by simp [results, Try.results22, go_sem]) rfl ⟨rfl, ?_⟩
  repeat (first | exact Below.refl _ _ | (refine Below.setCell ?_ (by simp) _) | (refine Below.alloc ?_ (by simp <;> omega) _))
set_option maxHeartbeats 800000 in
theorem sSol_e2 {lo hi : Nat} {ma : Lie} {na : Nat} {La : Nat → Nat} {A : Rm.Mx} {w : World} (b m cap : Nat) (hA : Mat lo hi w ma na La A) (hna : na ≤ 1000000000000) (hm : m ≤ 1000000000000) (hLa : ∀ k, k < na → La k ≤ 1000000000000) (hc : faultOf na La = 0) (hne : m ≠ na) :
    Calls Try.prog 22 #[.slice (some ⟨ma.b, 0, none⟩) na ma.cap, .slice (some ⟨b, 0, none⟩) m cap] w fun e w' => e = .returned (.agg #[.int .i64 1, .slice none 0 0]) ∧ Below w.heap.size w w' := by
  have TA : ∀ o, Hid (Tops (w.alloc o) ma.b 0 na La) := fun o => hA.tops.alloc o
  have LA : Hid (∀ k, k < na → La k ≤ 9223372036854775807) := fun k hk => Nat.le_trans (hLa k hk) (by omega)
  have hc1 : (((m : Nat) : Int) != ((na : Nat) : Int)) = true := ne_bool hne
  have HC : Hid (faultOf na La = 0) := hc
  clear hA hLa hc hne
  go_enter Try.func22, Try.ntmps22
  go_wp2_with fail
  refine (sFault_any _ _ _ _ La _ (by omega) LA.out (TA _).out).mono ?_
  rintro e w1 ⟨rfl, rfl⟩
  rw [HC.out]
  go_wp2
  refine bodyPost_ret (v := .agg #[.int .i64 1, .slice none 0 0]) (by simp [results, Try.results22, go_sem]) rfl ⟨rfl, ?_⟩
  repeat (first | exact Below.refl _ _ | (refine Below.setCell ?_ (by simp) _) | (refine Below.alloc ?_ (by simp <;> omega) _))
set_option maxHeartbeats 1600000 in
set_option maxRecDepth 100000 in
theorem sSol_go {ma : Lie} {n b cap : Nat} {La : Nat → Nat} {A : Rm.Mx} {R : Nat → Int} {w : World} (hA : Mat 0 w.heap.size w ma n La A) (hR : Seg w b 2 0 n (fun i => .int .i64 (R i))) (hn : n ≤ 24) (h0 : 0 < n) (hLa : ∀ k, k < n → La k = n) (hc : faultOf n La = 0) :
    Calls Try.prog 22 #[.slice (some ⟨ma.b, 0, none⟩) n ma.cap, .slice (some ⟨b, 0, none⟩) n cap] w fun e w' => ∃ v, e = .returned (.agg #[.int .i64 (solCode n La A n R), v]) ∧ OutL w' (solCode n La A n R) v n (solOut A R n) ∧ Below w.heap.size w w' := by
  have TA : ∀ o, Hid (Tops (w.alloc o) ma.b 0 n La) := fun o => hA.tops.alloc o
  have LA : Hid (∀ k, k < n → La k = n) := hLa
  have MA : Hid (Mat 0 w.heap.size w ma n La A) := hA
  have HC : Hid (faultOf n La = 0) := hc
  have HRT : Hid (Seg w b 2 0 n (fun i => .int .i64 (R i))) := hR
  clear hA hLa hc hR
  go_enter Try.func22, Try.ntmps22
  go_wp2_with fail
  refine (sFault_any _ _ _ _ La _ (by omega) (fun k hk => by rw [LA.out k hk]; omega) (TA _).out).mono ?_
  rintro e w1 ⟨rfl, rfl⟩
  rw [HC.out]
  go_wp2_with fail
  have HI : Hid (SvIn 34 w ((w.alloc (.cells #[.int .i64 0, .slice none 0 0] 34)).alloc (.cells #[] 32)) 0 (n + 1) (solM0 A R n) (.slice (some ⟨w.heap.size + 1, 0, none⟩) 0 0) (fun _ => .nilIface)) := by
    refine ⟨heap_alloc2_old _ _ _, ?_, fun r hr => absurd hr (Nat.not_lt_zero _), ((Below.refl _ _).alloc (Nat.le_refl _) _).alloc (by simp) _⟩
    have := owns_empty (w.alloc (.cells #[.int .i64 0, .slice none 0 0] 34)) 32
    simpa using this
  clear TA
  go_loopw [8, 7] (fun c v wr => ∃ (i : Nat) (vs : Nat → Value), i ≤ n ∧ c = .int .i64 i ∧ SvIn 34 w wr i (n + 1) (solM0 A R n) v vs) (fun c _ _ => n - (intOf c).toNat)
  case atStart => exact ⟨0, _, Nat.zero_le _, rfl, HI.out⟩
  case round =>
    obtain ⟨i, vs, hi, rfl, hr⟩ := hrel
    clear HI
    have HO : Hid (SvIn 34 w wr i (n + 1) (solM0 A R n) u7 vs) := hr
    clear hr
    obtain ⟨wo, hwo⟩ : ∃ wo, wo = wr := ⟨_, rfl⟩
    subst hwo
    have hw0 := HO.out.below.size
    have hbx := HO.out.box.lt
    by_cases hin : i < n
    · have GA0 : Hid (wo.cell? ⟨ma.b, i, none⟩ = some (.slice (some ⟨ma.bs i, ma.os i, none⟩) n (ma.cs i))) := by
        show wo.cell? ⟨ma.b, i, none⟩ = _
        rw [HO.out.below.cell (by exact MA.out.bhi)]
        have := MA.out.cellRow hin
        rw [LA.out i hin] at this
        exact this
      have GA : Hid (∀ k, k < n → wo.cell? ⟨ma.bs i, ma.os i + k, none⟩ = some (.int .i64 (A i k))) := fun k hk => by
        rw [HO.out.below.cell (by exact MA.out.rhi i hin)]
        exact MA.out.cellAt hin (by rw [LA.out i hin]; exact hk)
      have GR : Hid (wo.cell? ⟨b, i, none⟩ = some (.int .i64 (R i))) := by
        show wo.cell? ⟨b, i, none⟩ = _
        simpa using (HRT.out.of_block (HO.out.below.block _ HRT.out.lt)).cell hin
      go_wp2_with fail
      go_loopw [10, 9] (fun c v wx => ∃ j : Nat, j ≤ n ∧ c = .int .i64 j ∧ wx.ownsRow wo.heap.size 2 1 v j ((List.range j).map fun c => .int .i64 (solM0 A R n i c)) ∧ Below wo.heap.size wo wx) (fun c _ _ => n - (intOf c).toNat)
      case atStart => exact ⟨0, Nat.zero_le _, rfl, owns_empty wo 2, (Below.refl _ _).alloc (Nat.le_refl _) _⟩
      case round =>
        obtain ⟨j, hj, rfl, hown, hbel⟩ := hrel
        have HR : Hid (wr.ownsRow wo.heap.size 2 1 u9 j ((List.range j).map fun c => .int .i64 (solM0 A R n i c)) ∧ Below wo.heap.size wo wr) := ⟨hown, hbel⟩
        have hws := hbel.size
        clear hown hbel
        by_cases hjn : j < n
        · have g0 : wr.cell? ⟨ma.b, i, none⟩ = some (.slice (some ⟨ma.bs i, ma.os i, none⟩) n (ma.cs i)) := (HR.out.2.cell (World.block_lt_of_cell? _ _ GA0.out)).trans GA0.out
          have g1 : wr.cell? ⟨ma.bs i, ma.os i + j, none⟩ = some (.int .i64 (A i j)) := (HR.out.2.cell (World.block_lt_of_cell? _ _ (GA.out j hjn))).trans (GA.out j hjn)
          have HV : Hid (Rm.md (A i j) = solM0 A R n i j) := by show Rm.md (A i j) = solM0 A R n i j; simp [solM0, hjn]
          go_wp2_with fail
          refine (l2Mod_any _ _).mono ?_
          rintro e w5 ⟨rfl, rfl⟩
          go_wp2_with (first | (at_builtin; refine push_law rfl (.tmp 38) (.tmp 47) 32 rfl 2 (.int .i64 0) 8 Try.underlying32 info2 rfl (by decide) wr _ rfl wo.heap.size u9 j _ rfl HR.out.1 1 rfl (by omega) hws ?_; intro v1 w1 hown1 hgrow1))
          have HN : Hid (w1.ownsRow wo.heap.size 2 1 v1 (j + 1) ((List.range (j + 1)).map fun c => .int .i64 (solM0 A R n i c)) ∧ Below wo.heap.size wo w1) := by
            rw [← range_push]
            rw [HV.out] at hown1
            exact ⟨hown1, push_below HR.out.1 hgrow1 HR.out.2 hws⟩
          clear hown1 hgrow1
          go_wp2
          exact ⟨⟨j + 1, by omega, by simp, HN.out⟩, by simp [intOf]; omega⟩
        · obtain rfl : j = n := by omega
          have g1 : wr.cell? ⟨b, i, none⟩ = some (.int .i64 (R i)) := (HR.out.2.cell (World.block_lt_of_cell? _ _ GR.out)).trans GR.out
          have HV : Hid (Rm.md (R i) = solM0 A R j i j) := by show Rm.md (R i) = solM0 A R j i j; simp [solM0]
          have HP : Hid (∀ v1 w1, w1.ownsRow wo.heap.size 2 1 v1 (j + 1) ((List.range j).map (fun c => .int .i64 (solM0 A R j i c)) ++ [.int .i64 (Rm.md (R i))]) → (wr.alloc (.cells #[.int .i64 (Rm.md (R i))] 2)).grownBy w1 u9.ownBlock →
              ∃ g cp, v1 = .slice (some ⟨g, 0, none⟩) (j + 1) cp ∧ wo.heap.size ≤ w1.heap.size ∧ Hid (wo.heap.size ≤ g ∧ j + 1 ≤ cp ∧ Seg w1 g 2 0 (j + 1) (fun c => .int .i64 (solM0 A R j i c)) ∧ Below wo.heap.size wo w1 ∧ w1.ownsRow (w.heap.size + 1) 32 1 u7 i ((List.range i).map vs))) := fun v1 w1 a1 a2 => by
            rw [HV.out, range_push (fun c => Value.int .i64 (solM0 A R j i c))] at a1
            have hb := push_below HR.out.1 a2 HR.out.2 hws
            obtain ⟨g, cp, hv, hg, hcp, hs⟩ := owned_seg2 a1 (Nat.succ_pos _)
            exact ⟨g, cp, hv, hb.size, hg, hcp, hs, hb, owns_later HO.out.own hb⟩
          go_wp2_with fail
          refine (l2Mod_any _ _).mono ?_
          rintro e w5 ⟨rfl, rfl⟩
          go_wp2_with (first | (at_builtin; refine push_law rfl (.tmp 50) (.tmp 56) 32 rfl 2 (.int .i64 0) 8 Try.underlying32 info2 rfl (by decide) wr _ rfl wo.heap.size u9 j _ rfl HR.out.1 1 rfl (by omega) hws ?_; intro v1 w1 hown1 hgrow1; obtain ⟨g, cp, hv, hz1, HG⟩ := HP.out v1 w1 hown1 hgrow1; subst hv; clear hown1 hgrow1) | (at_builtin; refine push_law rfl (.tmp 49) (.tmp 58) 22 rfl 32 (.slice none 0 0) 24 Try.underlying22 info38 rfl (by decide) w1 _ rfl (w.heap.size + 1) u7 i _ rfl HG.out.2.2.2.2 1 rfl (by omega) (by omega) ?_; intro v2 w2 hown2 hgrow2))
          exact ⟨⟨i + 1, _, by omega, by simp, sv_step HO.out HG.out.2.2.2.1 HG.out.2.2.2.2 HG.out.1 HG.out.2.1 HG.out.2.2.1 hown2 hgrow2⟩, by simp [intOf]; omega⟩
    · obtain rfl : i = n := by omega
      obtain ⟨gw, cw, hv, hgb, hcp, hseg⟩ := owned_seg2 HO.out.own h0
      subst hv
      have SP : Hid (Sp wo gw i (i + 1) (solM0 A R i)) := sv_sp HO.out hseg
      have hgw : w.heap.size + 1 ≤ gw := hgb
      clear hgb hseg hcp
      go_wp2_with fail
      refine (sClear_any SP.out hn (by omega) (by omega) (solM0_res A R i i (i + 1))).mono ?_
      rintro e w2 ⟨r, rfl, hbl, hcase⟩
      have HB2 : Hid (Below gw wo w2) := hbl
      have HCS : Hid ((r = false ∧ Rm.elim i (solM0 A R i) i = none) ∨ (r = true ∧ ∃ B, Rm.elim i (solM0 A R i) i = some B ∧ Sp w2 gw i (i + 1) B)) := hcase
      clear hbl hcase
      have B2 : Hid (Box w2 w.heap.size 34) := HO.out.box.later HB2.out (by omega)
      have BL2 : Hid (Below w.heap.size w w2) := HO.out.below.trans (HB2.out.mono (by omega))
      cases r
      · have hc4 : Hid (solCode i La A i R = 4) := by
          rcases HCS.out with ⟨_, h⟩ | ⟨h, _⟩
          · show solCode i La A i R = 4
            simp [solCode, HC.out, h]
          · cases h
        have c0 := B2.out.c0
        have c1 := B2.out.c1
        have f0 := B2.out.fz 0
        have f1 := B2.out.fz 1
        go_wp2
        refine bodyPost_ret (v := .agg #[.int .i64 4, .slice none 0 0]) (by simp [results, Try.results22, go_sem, c0, c1]) rfl ⟨.slice none 0 0, by rw [hc4.out], Or.inl ⟨by rw [hc4.out]; omega, rfl⟩, ?_⟩
        exact (BL2.out.setCell (Nat.le_refl _) _).setCell (Nat.le_refl _) _
      · obtain ⟨B, hB, hSp⟩ : ∃ B, Rm.elim i (solM0 A R i) i = some B ∧ Sp w2 gw i (i + 1) B := by
          rcases HCS.out with ⟨h, _⟩ | ⟨_, h⟩
          · cases h
          · exact h
        have hc0 : Hid (solCode i La A i R = 0 ∧ ∀ r, solOut A R i r = B r i) := ⟨by simp [solCode, HC.out, hB], fun r => by simp [solOut, hB]⟩
        obtain ⟨gs, cps, hfam⟩ := hSp.fam
        have HF : Hid (∀ r, r < i → w2.cell? ⟨gw, r, none⟩ = some (.slice (some ⟨gs r, 0, none⟩) (i + 1) (cps r)) ∧ i + 1 ≤ cps r ∧ Seg w2 (gs r) 2 0 (i + 1) (fun j => .int .i64 (B r j))) := hfam
        have hlt2 := B2.out.lt
        clear hB hSp hfam HCS HB2 SP
        go_wp2_with fail
        go_loopw [12, 11] (fun c v wx => ∃ k : Nat, k ≤ i ∧ c = .int .i64 k ∧ wx.ownsRow w2.heap.size 2 1 v k ((List.range k).map fun r => .int .i64 (B r i)) ∧ Below w2.heap.size w2 wx) (fun c _ _ => i - (intOf c).toNat)
        case atStart => exact ⟨0, Nat.zero_le _, rfl, owns_empty w2 2, (Below.refl _ _).alloc (Nat.le_refl _) _⟩
        case round =>
          obtain ⟨k, hk, rfl, hown, hbel⟩ := hrel
          have HR : Hid (wr.ownsRow w2.heap.size 2 1 u11 k ((List.range k).map fun r => .int .i64 (B r i)) ∧ Below w2.heap.size w2 wr) := ⟨hown, hbel⟩
          have hws := hbel.size
          clear hown hbel
          by_cases hki : k < i
          · have g1 : wr.cell? ⟨gw, k, none⟩ = some (.slice (some ⟨gs k, 0, none⟩) (i + 1) (cps k)) := (HR.out.2.cell (World.block_lt_of_cell? _ _ (HF.out k hki).1)).trans (HF.out k hki).1
            have g2 : wr.cell? ⟨gs k, i, none⟩ = some (.int .i64 (B k i)) := by
              have hs := (HF.out k hki).2.2
              simpa using (hs.of_block (HR.out.2.block _ hs.lt)).cell (show i < i + 1 by omega)
            go_wp2_with (first | (at_builtin; refine push_law rfl (.tmp 71) (.tmp 79) 32 rfl 2 (.int .i64 0) 8 Try.underlying32 info2 rfl (by decide) wr _ rfl w2.heap.size u11 k _ rfl HR.out.1 1 rfl (by omega) hws ?_; intro v1 w1 hown1 hgrow1))
            exact ⟨⟨k + 1, by omega, by simp, by rw [← range_push]; exact hown1, push_below HR.out.1 hgrow1 HR.out.2 hws⟩, by simp [intOf]; omega⟩
          · obtain rfl : k = i := by omega
            obtain ⟨go, co, hv, hgo, hseg⟩ := owned_seg HR.out.1 h0
            subst hv
            have HG : Hid (w2.heap.size ≤ go ∧ Seg wr go 2 0 k (fun r => .int .i64 (B r k))) := ⟨hgo, hseg⟩
            clear hgo hseg
            have BX : Hid (Box wr w.heap.size 34) := B2.out.later HR.out.2 B2.out.lt
            have c0 := BX.out.c0
            have c1 := BX.out.c1
            have f0 := BX.out.fz 0
            have f1 := BX.out.fz 1
            go_wp2
            refine bodyPost_ret (v := .agg #[.int .i64 0, .slice (some ⟨go, 0, none⟩) k co]) (by simp [results, Try.results22, go_sem, c0, c1]) rfl ⟨.slice (some ⟨go, 0, none⟩) k co, by rw [hc0.out.1], Or.inr ⟨hc0.out.1, ?_⟩, ?_⟩
            · have hgo := HG.out.1
              exact (((HG.out.2.setOther (by show go ≠ w.heap.size; omega) _).setOther (by show go ≠ w.heap.size; omega) _).rd (f := fun r => B r k)).congr fun r _ => (hc0.out.2 r).symm
            · exact ((BL2.out.trans (HR.out.2.mono (Nat.le_of_lt hlt2))).setCell (Nat.le_refl _) _).setCell (Nat.le_refl _) _
theorem iSolveRows_any {ma : Lie} {n m b cap : Nat} {La : Nat → Nat} {A : Rm.Mx} {R : Nat → Int} {w : World} (hA : Mat 0 w.heap.size w ma n La A) (hR : Seg w b 2 0 m (fun i => .int .i64 (R i))) (hna : n ≤ 1000000000000) (hm : m ≤ 1000000000000) (hLa : ∀ k, k < n → La k ≤ 1000000000000) :
    Calls Try.prog 24 #[.slice (some ⟨ma.b, 0, none⟩) n ma.cap, .slice (some ⟨b, 0, none⟩) m cap] w fun e w' => ∃ v, e = .returned (.agg #[.int .i64 (solCode n La A m R), v]) ∧ OwnL w.heap.size w'.heap.size w' (solCode n La A m R) v n (solOut A R n) ∧ Below w.heap.size w w' := by
  by_cases h1 : faultOf n La = 0
  · by_cases h2 : m = n
    · subst h2
      obtain ⟨q0, q1, q2⟩ := fault_right h1
      exact iSol_go hA hR q1 q0 q2 h1
    · rw [show solCode n La A m R = 1 by simp [solCode, h1, h2]]
      exact (iSol_e2 b m cap hA hna hm hLa h1 h2).mono fun e w' ⟨he, hb⟩ => ⟨_, he, Or.inl ⟨by omega, rfl⟩, hb⟩
  · rw [show solCode n La A m R = faultOf n La by simp [solCode, h1]]
    exact (iSol_e1 b m cap hA hna hLa h1).mono fun e w' ⟨he, hb⟩ => ⟨_, he, Or.inl ⟨h1, rfl⟩, hb⟩
theorem sSolveRows_any {ma : Lie} {n m b cap : Nat} {La : Nat → Nat} {A : Rm.Mx} {R : Nat → Int} {w : World} (hA : Mat 0 w.heap.size w ma n La A) (hR : Seg w b 2 0 m (fun i => .int .i64 (R i))) (hna : n ≤ 1000000000000) (hm : m ≤ 1000000000000) (hLa : ∀ k, k < n → La k ≤ 1000000000000) :
    Calls Try.prog 22 #[.slice (some ⟨ma.b, 0, none⟩) n ma.cap, .slice (some ⟨b, 0, none⟩) m cap] w fun e w' => ∃ v, e = .returned (.agg #[.int .i64 (solCode n La A m R), v]) ∧ OutL w' (solCode n La A m R) v n (solOut A R n) ∧ Below w.heap.size w w' := by
  by_cases h1 : faultOf n La = 0
  · by_cases h2 : m = n
    · subst h2
      obtain ⟨q0, q1, q2⟩ := fault_right h1
      exact sSol_go hA hR q1 q0 q2 h1
    · rw [show solCode n La A m R = 1 by simp [solCode, h1, h2]]
      exact (sSol_e2 b m cap hA hna hm hLa h1 h2).mono fun e w' ⟨he, hb⟩ => ⟨_, he, Or.inl ⟨by omega, rfl⟩, hb⟩
  · rw [show solCode n La A m R = faultOf n La by simp [solCode, h1]]
    exact (sSol_e1 b m cap hA hna hLa h1).mono fun e w' ⟨he, hb⟩ => ⟨_, he, Or.inl ⟨h1, rfl⟩, hb⟩
end Go.Proofs.Ytboppklcmdfphaa
