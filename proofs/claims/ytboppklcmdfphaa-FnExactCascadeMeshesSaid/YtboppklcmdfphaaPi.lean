/- InvRows of the specification over rows that are read alone; its code is ProgramMesh's. -/
import Derived.Test.YtboppklcmdfphaaSinv
import Derived.Test.YtboppklcmdfphaaPr
import Derived.Test.YtboppklcmdfphaaWi
namespace Go.Proofs.Ytboppklcmdfphaa
open Go.RowKit
set_option linter.unusedVariables false
set_option linter.unusedSimpArgs false
theorem rd_choose {w : World} {b off cap n : Nat} {La : Nat → Nat} {A : Rm.Mx} (h0 : 0 < n) (hLa : ∀ k, k < n → La k = n) (hA : RdMat w (.slice (some ⟨b, off, none⟩) n cap) n La A) :
    ∃ q : Nat → Nat × Nat × Nat, ∀ i, i < n → w.cell? ⟨b, off + i, none⟩ = some (.slice (some ⟨(q i).1, (q i).2.1, none⟩) n (q i).2.2) ∧ ∀ k, k < n → w.cell? ⟨(q i).1, (q i).2.1 + k, none⟩ = some (.int .i64 (A i k)) := by
  have key : ∀ i, ∃ q : Nat × Nat × Nat, i < n → w.cell? ⟨b, off + i, none⟩ = some (.slice (some ⟨q.1, q.2.1, none⟩) n q.2.2) ∧ ∀ k, k < n → w.cell? ⟨q.1, q.2.1 + k, none⟩ = some (.int .i64 (A i k)) := fun i => by
    by_cases hi : i < n
    · rcases hA with ⟨_, _, _, e⟩ | ⟨b', off', cap', vs, e, hv⟩
      · omega
      · simp only [Value.slice.injEq, Option.some.injEq, Addr.mk.injEq] at e
        obtain ⟨⟨rfl, rfl, _⟩, _, rfl⟩ := e
        have h1 := hv i hi
        rw [hLa i hi] at h1
        obtain ⟨rb, ro, rc, e2, h2⟩ := h1.2.get h0
        exact ⟨(rb, ro, rc), fun _ => ⟨by rw [h1.1, e2], h2⟩⟩
    · exact ⟨(0, 0, 0), fun h => absurd h hi⟩
  exact Classical.axiomOfChoice key
theorem alike_start (A : Rm.Mx) (n : Nat) : Rm.Alike n (invM0 A n) (rsm A) := by
  refine ⟨fun _ => 1, fun i hi => ⟨by show Rm.md 1 ≠ 0; decide, fun j hj => ?_⟩⟩
  have h1 := Rm.md_lo (A i j)
  have h2 := Rm.md_hi (A i j)
  rw [one_res (x := rsm A i j) h1 h2]
  simp [invM0, hj, rsm]
theorem inv_pcd (n : Nat) (L : Nat → Nat) (A : Rm.Mx) : invCode n L A = pcd n L A := by
  by_cases hf : faultOf n L = 0
  · have hp : pgo n L A = Rm.pg n (rsm A) n := by unfold pgo; rw [if_pos hf]
    unfold pcd
    rw [if_neg (by simp [hf]), hp]
    rcases Rm.both_pg (rsm_res A n n) (alike_start A n) n (Nat.le_refl _) with ⟨h1, h2⟩ | ⟨B, W, N, h1, h2, _⟩
    · simp [invCode, hf, h1, h2]
    · simp [invCode, hf, h1, h2]
  · simp [invCode, pcd, hf]
set_option maxHeartbeats 1600000 in
theorem sInvR_e1 {b off cap na : Nat} {La : Nat → Nat} {A : Rm.Mx} {w : World} (hA : RdMat w (.slice (some ⟨b, off, none⟩) na cap) na La A) (hna : na ≤ 1000000000000) (hLa : ∀ k, k < na → La k ≤ 1000000000000) (hc : faultOf na La ≠ 0) :
    Calls Try.prog 14 #[.slice (some ⟨b, off, none⟩) na cap] w fun e w' => e = .returned (.agg #[.int .i64 (faultOf na La), .slice none 0 0]) ∧ Below w.heap.size w w' := by
  have TA : ∀ o, Hid (Tops (w.alloc o) b off na La) := fun o => hA.tops.alloc o
  have LA : Hid (∀ k, k < na → La k ≤ 9223372036854775807) := fun k hk => Nat.le_trans (hLa k hk) (by omega)
  have hc1 : (faultOf na La != 0) = true := by rw [bne_iff_ne]; exact hc
  clear hA hLa hc
  go_enter Try.func14, Try.ntmps14
  go_wp2_with fail
  refine (sFault_any _ _ _ _ La _ (by omega) LA.out (TA _).out).mono ?_
  rintro e w1 ⟨rfl, rfl⟩
  go_wp2
  refine bodyPost_ret (v := .agg #[.int .i64 (faultOf na La), .slice none 0 0]) (by simp [results, Try.results14, go_sem]) rfl ⟨rfl, ?_⟩
  repeat (first | exact Below.refl _ _ | (refine Below.setCell ?_ (by simp) _) | (refine Below.alloc ?_ (by simp <;> omega) _))
set_option maxHeartbeats 1600000 in
set_option maxRecDepth 100000 in
theorem sInvR_go {b off cap n : Nat} {La : Nat → Nat} {A : Rm.Mx} {w : World} (hA : RdMat w (.slice (some ⟨b, off, none⟩) n cap) n La A) (hn : n ≤ 24) (h0 : 0 < n) (hLa : ∀ k, k < n → La k = n) (hc : faultOf n La = 0) :
    Calls Try.prog 14 #[.slice (some ⟨b, off, none⟩) n cap] w fun e w' => ∃ v, e = .returned (.agg #[.int .i64 (invCode n La A), v]) ∧ OutR w' (invCode n La A) v n (invOut A n) ∧ Below w.heap.size w w' := by
  have TA : ∀ o, Hid (Tops (w.alloc o) b off n La) := fun o => hA.tops.alloc o
  have LA : Hid (∀ k, k < n → La k = n) := hLa
  obtain ⟨q, hq⟩ := rd_choose h0 hLa hA
  have MA : Hid (∀ i, i < n → w.cell? ⟨b, off + i, none⟩ = some (.slice (some ⟨(q i).1, (q i).2.1, none⟩) n (q i).2.2) ∧ ∀ k, k < n → w.cell? ⟨(q i).1, (q i).2.1 + k, none⟩ = some (.int .i64 (A i k))) := hq
  clear hq
  have HC : Hid (faultOf n La = 0) := hc
  clear hA hLa hc
  go_enter Try.func14, Try.ntmps14
  go_wp2_with fail
  refine (sFault_any _ _ _ _ La _ (by omega) (fun k hk => by rw [LA.out k hk]; omega) (TA _).out).mono ?_
  rintro e w1 ⟨rfl, rfl⟩
  rw [HC.out]
  go_wp2_with fail
  have HI : Hid (SvIn 25 w ((w.alloc (.cells #[.int .i64 0, .slice none 0 0] 25)).alloc (.cells #[] 32)) 0 (n + n) (invM0 A n) (.slice (some ⟨w.heap.size + 1, 0, none⟩) 0 0) (fun _ => .nilIface)) := by
    refine ⟨heap_alloc2_old _ _ _, ?_, fun r hr => absurd hr (Nat.not_lt_zero _), ((Below.refl _ _).alloc (Nat.le_refl _) _).alloc (by simp) _⟩
    have := owns_empty (w.alloc (.cells #[.int .i64 0, .slice none 0 0] 25)) 32
    simpa using this
  clear TA
  go_loopw [6, 5] (fun c v wr => ∃ (i : Nat) (vs : Nat → Value), i ≤ n ∧ c = .int .i64 i ∧ SvIn 25 w wr i (n + n) (invM0 A n) v vs) (fun c _ _ => n - (intOf c).toNat)
  case atStart => exact ⟨0, _, Nat.zero_le _, rfl, HI.out⟩
  case round =>
    obtain ⟨i, vs, hi, rfl, hr⟩ := hrel
    clear HI
    have HO : Hid (SvIn 25 w wr i (n + n) (invM0 A n) u5 vs) := hr
    clear hr
    obtain ⟨wo, hwo⟩ : ∃ wo, wo = wr := ⟨_, rfl⟩
    subst hwo
    have hw0 := HO.out.below.size
    have hbx := HO.out.box.lt
    by_cases hin : i < n
    · have GA0 : Hid (wo.cell? ⟨b, off + i, none⟩ = some (.slice (some ⟨(q i).1, (q i).2.1, none⟩) n (q i).2.2)) := by
        show wo.cell? ⟨b, off + i, none⟩ = _
        rw [HO.out.below.cell (World.block_lt_of_cell? _ _ (MA.out i hin).1)]
        exact (MA.out i hin).1
      have GA : Hid (∀ k, k < n → wo.cell? ⟨(q i).1, (q i).2.1 + k, none⟩ = some (.int .i64 (A i k))) := fun k hk => by
        rw [HO.out.below.cell (World.block_lt_of_cell? _ _ ((MA.out i hin).2 k hk))]
        exact (MA.out i hin).2 k hk
      go_wp2_with fail
      go_loopw [8, 7] (fun c v wx => ∃ j : Nat, j ≤ n ∧ c = .int .i64 j ∧ wx.ownsRow wo.heap.size 2 1 v j ((List.range j).map fun c => .int .i64 (invM0 A n i c)) ∧ Below wo.heap.size wo wx) (fun c _ _ => n - (intOf c).toNat)
      case atStart => exact ⟨0, Nat.zero_le _, rfl, owns_empty wo 2, (Below.refl _ _).alloc (Nat.le_refl _) _⟩
      case round =>
        obtain ⟨j, hj, rfl, hown, hbel⟩ := hrel
        have HR : Hid (wr.ownsRow wo.heap.size 2 1 u7 j ((List.range j).map fun c => .int .i64 (invM0 A n i c)) ∧ Below wo.heap.size wo wr) := ⟨hown, hbel⟩
        have hws := hbel.size
        clear hown hbel
        by_cases hjn : j < n
        · have g0 : wr.cell? ⟨b, off + i, none⟩ = some (.slice (some ⟨(q i).1, (q i).2.1, none⟩) n ((q i).2.2)) := (HR.out.2.cell (World.block_lt_of_cell? _ _ GA0.out)).trans GA0.out
          have g1 : wr.cell? ⟨(q i).1, (q i).2.1 + j, none⟩ = some (.int .i64 (A i j)) := (HR.out.2.cell (World.block_lt_of_cell? _ _ (GA.out j hjn))).trans (GA.out j hjn)
          have HV : Hid (Rm.md (A i j) = invM0 A n i j) := by show Rm.md (A i j) = invM0 A n i j; simp [invM0, hjn]
          go_wp2_with fail
          refine (l2Mod_any _ _).mono ?_
          rintro e w5 ⟨rfl, rfl⟩
          go_wp2_with (first | (at_builtin; refine push_law rfl (.tmp 33) (.tmp 42) 32 rfl 2 (.int .i64 0) 8 Try.underlying32 info2 rfl (by decide) wr _ rfl wo.heap.size u7 j _ rfl HR.out.1 1 rfl (by omega) hws ?_; intro v1 w1 hown1 hgrow1))
          have HN : Hid (w1.ownsRow wo.heap.size 2 1 v1 (j + 1) ((List.range (j + 1)).map fun c => .int .i64 (invM0 A n i c)) ∧ Below wo.heap.size wo w1) := by
            rw [← range_push]
            rw [HV.out] at hown1
            exact ⟨hown1, push_below HR.out.1 hgrow1 HR.out.2 hws⟩
          clear hown1 hgrow1
          go_wp2
          exact ⟨⟨j + 1, by omega, by simp, HN.out⟩, by simp [intOf]; omega⟩
        · obtain rfl : j = n := by omega
          have HQ : Hid (wr.ownsRow wo.heap.size 2 1 u7 (j + 0) ((List.range (j + 0)).map fun c => .int .i64 (invM0 A j i c)) ∧ Below wo.heap.size wo wr) := HR.out
          clear HR
          go_wp2_with fail
          go_loopw [9, 7] (fun c v wx => ∃ k : Nat, k ≤ j ∧ c = .int .i64 k ∧ wx.ownsRow wo.heap.size 2 1 v (j + k) ((List.range (j + k)).map fun c => .int .i64 (invM0 A j i c)) ∧ Below wo.heap.size wo wx) (fun c _ _ => j - (intOf c).toNat)
          case atStart => exact ⟨0, Nat.zero_le _, rfl, HQ.out⟩
          case round =>
            obtain ⟨k, hk, rfl, hown, hbel⟩ := hrel
            clear HQ
            have HR : Hid (wr.ownsRow wo.heap.size 2 1 u7 (j + k) ((List.range (j + k)).map fun c => .int .i64 (invM0 A j i c)) ∧ Below wo.heap.size wo wr) := ⟨hown, hbel⟩
            have hws := hbel.size
            clear hown hbel
            by_cases hkn : k < j
            · by_cases hik : i = k
              · have h1 : (((i : Nat) : Int) == ((k : Nat) : Int)) = true := by rw [beq_iff_eq]; omega
                have HV : Hid ((1 : Int) = invM0 A j i (j + k)) := by show (1 : Int) = invM0 A j i (j + k); unfold invM0; rw [if_neg (by omega), if_pos (by omega)]
                clear hik
                go_wp2_with (first | (at_builtin; refine push_law rfl (.tmp 52) (.tmp 54) 32 rfl 2 (.int .i64 0) 8 Try.underlying32 info2 rfl (by decide) wr _ rfl wo.heap.size u7 (j + k) _ rfl HR.out.1 1 rfl (by omega) hws ?_; intro v1 w1 hown1 hgrow1))
                have HN : Hid (w1.ownsRow wo.heap.size 2 1 v1 (j + (k + 1)) ((List.range (j + (k + 1))).map fun c => .int .i64 (invM0 A j i c)) ∧ Below wo.heap.size wo w1) := by
                  rw [← Nat.add_assoc, ← range_push]
                  rw [HV.out] at hown1
                  exact ⟨hown1, push_below HR.out.1 hgrow1 HR.out.2 hws⟩
                clear hown1 hgrow1
                go_wp2
                exact ⟨⟨k + 1, by omega, by simp, HN.out⟩, by simp [intOf]; omega⟩
              · have h1 : (((i : Nat) : Int) == ((k : Nat) : Int)) = false := by rw [beq_eq_false_iff_ne]; omega
                have HV : Hid ((0 : Int) = invM0 A j i (j + k)) := by show (0 : Int) = invM0 A j i (j + k); unfold invM0; rw [if_neg (by omega), if_neg (by omega)]
                clear hik
                go_wp2_with (first | (at_builtin; refine push_law rfl (.tmp 52) (.tmp 54) 32 rfl 2 (.int .i64 0) 8 Try.underlying32 info2 rfl (by decide) wr _ rfl wo.heap.size u7 (j + k) _ rfl HR.out.1 1 rfl (by omega) hws ?_; intro v1 w1 hown1 hgrow1))
                have HN : Hid (w1.ownsRow wo.heap.size 2 1 v1 (j + (k + 1)) ((List.range (j + (k + 1))).map fun c => .int .i64 (invM0 A j i c)) ∧ Below wo.heap.size wo w1) := by
                  rw [← Nat.add_assoc, ← range_push]
                  rw [HV.out] at hown1
                  exact ⟨hown1, push_below HR.out.1 hgrow1 HR.out.2 hws⟩
                clear hown1 hgrow1
                go_wp2
                exact ⟨⟨k + 1, by omega, by simp, HN.out⟩, by simp [intOf]; omega⟩
            · obtain rfl : k = j := by omega
              have hO : Hid (wr.ownsRow (w.heap.size + 1) 32 1 u5 i ((List.range i).map vs)) := owns_later HO.out.own HR.out.2
              obtain ⟨g, cp, hv, hgb, hcp, hseg⟩ := owned_seg2 HR.out.1 (by omega)
              subst hv
              have HG : Hid (wo.heap.size ≤ g ∧ k + k ≤ cp ∧ Seg wr g 2 0 (k + k) (fun c => .int .i64 (invM0 A k i c))) := ⟨hgb, hcp, hseg⟩
              clear hgb hseg hcp
              go_wp2_with (first | (at_builtin; refine push_law rfl (.tmp 56) (.tmp 58) 22 rfl 32 (.slice none 0 0) 24 Try.underlying22 info38 rfl (by decide) wr _ rfl (w.heap.size + 1) u5 i _ rfl hO.out 1 rfl (by omega) (by omega) ?_; intro v1 w1 hown1 hgrow1))
              have HN : Hid (SvIn 25 w w1 (i + 1) (k + k) (invM0 A k) v1 (fun r => if r = i then .slice (some ⟨g, 0, none⟩) (k + k) cp else vs r)) := sv_step HO.out HR.out.2 hO.out HG.out.1 HG.out.2.1 HG.out.2.2 hown1 hgrow1
              clear hown1 hgrow1
              go_wp2
              exact ⟨⟨i + 1, _, by omega, by simp, HN.out⟩, by simp [intOf]; omega⟩
    · obtain rfl : i = n := by omega
      obtain ⟨gw, cw, hv, hgb, hcp, hseg⟩ := owned_seg2 HO.out.own h0
      subst hv
      have SP : Hid (Sp wo gw i (i + i) (invM0 A i)) := sv_sp HO.out hseg
      have hgw : w.heap.size + 1 ≤ gw := hgb
      clear hgb hseg hcp
      go_wp2_with fail
      refine (sClear_any SP.out hn (by omega) (by omega) (invM0_res A i i (i + i))).mono ?_
      rintro e w2 ⟨r, rfl, hbl, hcase⟩
      have HB2 : Hid (Below gw wo w2) := hbl
      have HCS : Hid ((r = false ∧ Rm.elim i (invM0 A i) i = none) ∨ (r = true ∧ ∃ B, Rm.elim i (invM0 A i) i = some B ∧ Sp w2 gw i (i + i) B)) := hcase
      clear hbl hcase
      have B2 : Hid (Box w2 w.heap.size 25) := HO.out.box.later HB2.out (by omega)
      have BL2 : Hid (Below w.heap.size w w2) := HO.out.below.trans (HB2.out.mono (by omega))
      cases r
      · have hc4 : Hid (invCode i La A = 4) := by
          rcases HCS.out with ⟨_, h⟩ | ⟨h, _⟩
          · show invCode i La A = 4
            simp [invCode, HC.out, h]
          · cases h
        have c0 := B2.out.c0
        have c1 := B2.out.c1
        have f0 := B2.out.fz 0
        have f1 := B2.out.fz 1
        go_wp2
        refine bodyPost_ret (v := .agg #[.int .i64 4, .slice none 0 0]) (by simp [results, Try.results14, go_sem, c0, c1]) rfl ⟨.slice none 0 0, by rw [hc4.out], Or.inl ⟨by rw [hc4.out]; omega, rfl⟩, ?_⟩
        exact (BL2.out.setCell (Nat.le_refl _) _).setCell (Nat.le_refl _) _
      · obtain ⟨B, hB, hSp⟩ : ∃ B, Rm.elim i (invM0 A i) i = some B ∧ Sp w2 gw i (i + i) B := by
          rcases HCS.out with ⟨h, _⟩ | ⟨_, h⟩
          · cases h
          · exact h
        have hc0 : Hid (invCode i La A = 0 ∧ ∀ r c, invOut A i r c = B r (i + c)) := ⟨by simp [invCode, HC.out, hB], fun r c => by simp [invOut, hB]⟩
        obtain ⟨gs, cps, hfam⟩ := hSp.fam
        have HF : Hid (∀ r, r < i → w2.cell? ⟨gw, r, none⟩ = some (.slice (some ⟨gs r, 0, none⟩) (i + i) (cps r)) ∧ i + i ≤ cps r ∧ Seg w2 (gs r) 2 0 (i + i) (fun j => .int .i64 (B r j))) := hfam
        have hlt2 := B2.out.lt
        clear hB hSp hfam HCS HB2 SP
        go_wp2_with fail
        go_loopw [12, 11] (fun c v wx => ∃ k : Nat, k ≤ i ∧ c = .int .i64 k ∧ wx.ownsRow w2.heap.size 32 1 v k ((List.range k).map fun r => .slice (some ⟨gs r, i, none⟩) i (cps r - i)) ∧ Below w2.heap.size w2 wx) (fun c _ _ => i - (intOf c).toNat)
        case atStart => exact ⟨0, Nat.zero_le _, rfl, owns_empty w2 32, (Below.refl _ _).alloc (Nat.le_refl _) _⟩
        case round =>
          obtain ⟨k, hk, rfl, hown, hbel⟩ := hrel
          have HR : Hid (wr.ownsRow w2.heap.size 32 1 u11 k ((List.range k).map fun r => .slice (some ⟨gs r, i, none⟩) i (cps r - i)) ∧ Below w2.heap.size w2 wr) := ⟨hown, hbel⟩
          have hws := hbel.size
          clear hown hbel
          by_cases hki : k < i
          · have g1 : wr.cell? ⟨gw, k, none⟩ = some (.slice (some ⟨gs k, 0, none⟩) (i + i) (cps k)) := (HR.out.2.cell (World.block_lt_of_cell? _ _ (HF.out k hki).1)).trans (HF.out k hki).1
            have g2 := (HF.out k hki).2.1
            go_wp2_with (first | (at_builtin; refine push_law rfl (.tmp 71) (.tmp 78) 22 rfl 32 (.slice none 0 0) 24 Try.underlying22 info38 rfl (by decide) wr _ rfl w2.heap.size u11 k _ rfl HR.out.1 1 rfl (by omega) hws ?_; intro v1 w1 hown1 hgrow1))
            exact ⟨⟨k + 1, by omega, by simp, by rw [← range_push]; exact hown1, push_below HR.out.1 hgrow1 HR.out.2 hws⟩, by simp [intOf]; omega⟩
          · obtain rfl : k = i := by omega
            obtain ⟨go, co, hv, hgo, hseg⟩ := owned_seg HR.out.1 h0
            subst hv
            have HG : Hid (w2.heap.size ≤ go ∧ Seg wr go 32 0 k (fun r => .slice (some ⟨gs r, k, none⟩) k (cps r - k))) := ⟨hgo, hseg⟩
            clear hgo hseg
            have BX : Hid (Box wr w.heap.size 25) := B2.out.later HR.out.2 B2.out.lt
            have c0 := BX.out.c0
            have c1 := BX.out.c1
            have f0 := BX.out.fz 0
            have f1 := BX.out.fz 1
            go_wp2
            refine bodyPost_ret (v := .agg #[.int .i64 0, .slice (some ⟨go, 0, none⟩) k co]) (by simp [results, Try.results14, go_sem, c0, c1]) rfl ⟨.slice (some ⟨go, 0, none⟩) k co, by rw [hc0.out.1], Or.inr ⟨hc0.out.1, ?_⟩, ?_⟩
            · have key : ∀ (x y : Value) (q : Nat), q ≠ w.heap.size → ((wr.setCell ⟨w.heap.size, 0, none⟩ x).setCell ⟨w.heap.size, 1, none⟩ y).heap[q]? = wr.heap[q]? := fun x y q hq => by
                rw [Below.heap_setCell _ _ _ _ hq, Below.heap_setCell _ _ _ _ hq]
              refine Or.inr ⟨go, 0, co, _, rfl, fun r hr => ⟨(HG.out.2.of_block (key _ _ go (by have := HG.out.1; omega))).cell hr, ?_⟩⟩
              have hs := (HF.out r hr).2.2
              have hs2 : Seg wr (gs r) 2 0 (k + k) (fun j => .int .i64 (B r j)) := hs.of_block (HR.out.2.block _ hs.lt)
              have hne : gs r ≠ w.heap.size := fun e => by
                obtain ⟨c, hc, _⟩ := hs2
                have hb := BX.out
                unfold Box at hb
                rw [e, hb] at hc
                simp at hc
              have hs3 := hs2.sub k k (Nat.le_refl _)
              rw [Nat.zero_add] at hs3
              exact ((hs3.of_block (key _ _ _ hne)).rd (f := fun c => B r (k + c))).congr fun c _ => (hc0.out.2 r c).symm
            · exact ((BL2.out.trans (HR.out.2.mono (Nat.le_of_lt hlt2))).setCell (Nat.le_refl _) _).setCell (Nat.le_refl _) _
theorem sInvR_any {b off cap n : Nat} {La : Nat → Nat} {A : Rm.Mx} {w : World} (hA : RdMat w (.slice (some ⟨b, off, none⟩) n cap) n La A) (hna : n ≤ 1000000000000) (hLa : ∀ k, k < n → La k ≤ 1000000000000) :
    Calls Try.prog 14 #[.slice (some ⟨b, off, none⟩) n cap] w fun e w' => ∃ v, e = .returned (.agg #[.int .i64 (invCode n La A), v]) ∧ OutR w' (invCode n La A) v n (invOut A n) ∧ Below w.heap.size w w' := by
  by_cases h1 : faultOf n La = 0
  · obtain ⟨q0, q1, q2⟩ := fault_right h1
    exact sInvR_go hA q1 q0 q2 h1
  · rw [show invCode n La A = faultOf n La by simp [invCode, h1]]
    exact (sInvR_e1 hA hna hLa h1).mono fun e w' ⟨he, hb⟩ => ⟨_, he, Or.inl ⟨h1, rfl⟩, hb⟩
end Go.Proofs.Ytboppklcmdfphaa
