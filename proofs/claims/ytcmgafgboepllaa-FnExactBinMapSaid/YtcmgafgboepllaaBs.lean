/- Maps put together: the specification. -/
import Derived.Test.YtcmgafgboepllaaBq
namespace Go.Proofs.Ytcmgafgboepllaa
open Go.RowKit Fl
set_option linter.unusedVariables false
set_option linter.unusedSimpArgs false
set_option maxRecDepth 20000 in
set_option maxHeartbeats 3200000 in
theorem sBin_form (ao : Option Addr) (n cap : Nat) (s b : Int) (hn : n ≤ 1000000000000) (h : ¬ Gd n s b) (w : World) : Calls Try.prog 49 #[.slice ao n cap, .int .i64 s, .int .i64 b] w fun e w' => e = .returned (Fx 1 (.slice none 0 0) 0) ∧ Below w.heap.size w w' := by
  have HG : Hid (¬ Gd n s b) := h
  clear h
  go_enter Try.func49, Try.ntmps49
  by_cases h1 : s < 1
  · skip
    go_wp2
    refine bodyPost_ret (v := Fx 1 (.slice none 0 0) 0) (by simp [results, Try.results49, go_sem]) rfl ⟨rfl, by go_grown⟩
  by_cases h2 : 20 < s
  · skip
    go_wp2
    refine bodyPost_ret (v := Fx 1 (.slice none 0 0) 0) (by simp [results, Try.results49, go_sem]) rfl ⟨rfl, by go_grown⟩
  obtain ⟨S, rfl⟩ := Int.eq_ofNat_of_zero_le (show 0 ≤ s by omega)
  obtain ⟨m, hm⟩ : ∃ m : Nat, m = S * S := ⟨_, rfl⟩
  have hm4 : m ≤ 400 := by rw [hm]; exact sq_le (by omega)
  have hmI : (S : Int) * (S : Int) = (m : Int) := by rw [hm]; simp
  clear hm
  by_cases h3 : (n : Int) ≠ (m : Int)
  · skip
    go_wp2
    refine bodyPost_ret (v := Fx 1 (.slice none 0 0) 0) (by simp [results, Try.results49, go_sem]) rfl ⟨rfl, by go_grown⟩
  by_cases h4 : b < 1
  · skip
    go_wp2
    refine bodyPost_ret (v := Fx 1 (.slice none 0 0) 0) (by simp [results, Try.results49, go_sem]) rfl ⟨rfl, by go_grown⟩
  by_cases h5 : (S : Int) < b
  · skip
    go_wp2
    refine bodyPost_ret (v := Fx 1 (.slice none 0 0) 0) (by simp [results, Try.results49, go_sem]) rfl ⟨rfl, by go_grown⟩
  obtain ⟨T, hT⟩ : ∃ T : Int, T = (S : Int).tmod b := ⟨_, rfl⟩
  have hT0 : T ≠ 0 := fun e => HG.out ⟨by omega, by omega, by rw [hmI]; omega, by omega, by omega, by rw [← hT]; exact e⟩
  have hb0 : b ≠ 0 := by omega
  have hTb : (T != 0) = true := by simp [hT0]
  have hTs : (S : Int).tmod b = T := hT.symm
  clear hT HG
  go_wp2
  refine bodyPost_ret (v := Fx 1 (.slice none 0 0) 0) (by simp [results, Try.results49, go_sem]) rfl ⟨rfl, by go_grown⟩
set_option maxRecDepth 20000 in
set_option maxHeartbeats 6400000 in
theorem sBin_good (bi off cap s b : Nat) (f : Nat → Int) (w : World) (hs : 1 ≤ s) (hs2 : s ≤ 20) (hb : 1 ≤ b) (hb2 : b ≤ s) (hd : s % b = 0) (hc : ∀ i, i < s * s → w.cell? ⟨bi, off + i, none⟩ = some (.int .i64 (f i))) :
    Calls Try.prog 49 #[.slice (some ⟨bi, off, none⟩) (s * s) cap, .int .i64 s, .int .i64 b] w fun e w' => ∃ v, e = .returned (Fx (rc f (s * s)) v 0) ∧ OwS 2 w.heap.size w'.heap.size w' v (if rc f (s * s) = 0 then s / b * (s / b) else 0) (fun i => .int .i64 (bst f s b (s * s) i)) ∧ Below w.heap.size w w' := by
  obtain ⟨m, hm⟩ : ∃ m : Nat, m = s * s := ⟨_, rfl⟩
  have hm4 : m ≤ 400 := by rw [hm]; exact sq_le (by omega)
  have hmI : (s : Int) * (s : Int) = (m : Int) := by rw [hm]; simp
  obtain ⟨q, hq⟩ : ∃ q : Nat, q = s / b := ⟨_, rfl⟩
  have hqI : (s : Int).tdiv (b : Int) = (q : Int) := by rw [hq]; exact (Int.ofNat_tdiv s b).symm
  have hq20 : q ≤ 20 := by rw [hq]; exact Nat.le_trans (Nat.div_le_self s b) hs2
  obtain ⟨Q, hQ⟩ : ∃ Q : Nat, Q = q * q := ⟨_, rfl⟩
  have hQI : (q : Int) * (q : Int) = (Q : Int) := by rw [hQ]; simp
  have hQ4 : Q ≤ 400 := by rw [hQ]; exact sq_le hq20
  have hdI : (s : Int).tmod (b : Int) = 0 := by rw [← Int.ofNat_tmod]; simp [hd]
  have HX : Hid (∀ t, t < m → bix s b t < Q) := fun t ht => by rw [hQ, hq]; exact bix_lt hb hd (by rw [← hm]; exact ht)
  have HQ : Hid (Q = s / b * (s / b)) := by show _ = _; rw [hQ, hq]
  rw [← hm] at hc ⊢
  rw [← HQ.out]
  have HC : Hid (∀ i, i < m → w.cell? ⟨bi, off + i, none⟩ = some (.int .i64 (f i))) := hc
  have Hm : Hid (m = s * s ∧ q = s / b) := ⟨hm, hq⟩
  have hs1I : (1 : Int) ≤ s := by omega
  have hb0 : (b : Int) ≠ 0 := by omega
  clear hc hm hq hQ HQ
  obtain ⟨R, hR⟩ : ∃ R, R = rc f m := ⟨_, rfl⟩
  obtain ⟨N0, hN0⟩ : ∃ N, N = if R = 0 then Q else 0 := ⟨_, rfl⟩
  rw [← hR, ← hN0]
  have HR3 : Hid (∀ k, k < m → ¬ okC f k → R = 3 ∧ N0 = 0) := fun k hk h => by
    have e : R = 3 := by rw [hR]; exact rc_bad hk h
    exact ⟨e, by rw [hN0, e]; rfl⟩
  have HR0 : Hid ((∀ i, i < m → okC f i) → R = 0 ∧ N0 = Q) := fun h => by
    have e : R = 0 := by rw [hR]; exact rc_ok h
    exact ⟨e, by rw [hN0, e]; rfl⟩
  clear hR hN0
  obtain ⟨sI, hsI⟩ : ∃ z : Int, z = (s : Int) := ⟨_, rfl⟩
  obtain ⟨bI, hbI⟩ : ∃ z : Int, z = (b : Int) := ⟨_, rfl⟩
  rw [← hsI, ← hbI]
  rw [← hsI] at hmI
  rw [← hsI, ← hbI] at hqI hdI
  have HSI : Hid (sI = s ∧ bI = b) := ⟨hsI, hbI⟩
  have hbs : ¬ sI < bI := by omega
  have hb1 : 1 ≤ bI := by omega
  have hs20 : sI ≤ 20 := by omega
  have hs1n : 1 ≤ sI := by omega
  have hbz : bI ≠ 0 := by omega
  have Hnat : Hid (1 ≤ s ∧ s ≤ 20 ∧ 1 ≤ b ∧ b ≤ s ∧ s % b = 0) := ⟨hs, hs2, hb, hb2, hd⟩
  clear hsI hbI hs hs2 hb hb2 hd hs1I hb0
  have hmk := run_make_row' (P := Try.prog) 64 2 (.int .i64 0) 8 Try.underlying64 info2 rfl .i64 .i64 Q (by omega) (by omega)
  go_enter Try.func49, Try.ntmps49
  go_wp2_with fail
  
  obtain ⟨W0, hW0⟩ : ∃ W, W = w.alloc (.cells #[.int .i64 0, .slice none 0 0, .int .i64 0] 66) := ⟨_, rfl⟩
  have hz0 : W0.heap.size = w.heap.size + 1 := by rw [hW0]; simp
  have K0 : Hid (Blk W0 w.heap.size #[.int .i64 0, .slice none 0 0, .int .i64 0] 66 ∧ Below w.heap.size w W0) := ⟨by rw [hW0]; exact Blk.new rfl, by rw [hW0]; exact (Below.refl _ _).alloc (Nat.le_refl _) _⟩
  rw [← hW0]
  clear hW0
  go_loopw [7] (fun i wr => ∃ k : Nat, k ≤ m ∧ i = .int .i64 (k : Int) ∧ Hid (wr = W0) ∧ Hid (∀ i, i < k → okC f i)) (fun i _ => m - (intOf i).toNat)
  case atStart => exact ⟨0, Nat.zero_le _, rfl, rfl, fun i hi => absurd hi (Nat.not_lt_zero _)⟩
  case round =>
    obtain ⟨k, hk, rfl, HW, HK⟩ := hrel
    by_cases hkm : k < m
    · have hkI : (k : Int) < m := by omega
      have c1 : wr.cell? ⟨bi, off + k, none⟩ = some (.int .i64 (f k)) := by rw [HW.out]; exact (K0.out.2.cell (World.block_lt_of_cell? _ _ (HC.out k hkm))).trans (HC.out k hkm)
      obtain ⟨z, hz⟩ : ∃ z, z = f k := ⟨_, rfl⟩
      rw [← hz] at c1
      have HZ : Hid (z = f k) := hz
      clear hz
      by_cases hg : 0 ≤ z ∧ z ≤ 1000000
      · have hg1 : 0 ≤ z := hg.1
        have hg2 : z ≤ 1000000 := hg.2
        clear hmk
        go_wp2
        go_roundw
        case rel => exact ⟨k + 1, by omega, by simp, HW, fun i hi => by
          by_cases e : i = k
          · subst e; have h := hg; rw [HZ.out] at h; exact h
          · exact HK.out i (by omega)⟩
        case measure => simp [intOf]; omega
      · have HR : Hid (R = 3 ∧ N0 = 0) := HR3.out k hkm (by unfold okC; rw [← HZ.out]; exact hg)
        have hwr := HW.out
        subst hwr
        have d0 := K0.out.1.cell (j := 0) (v := .int .i64 0) rfl
        have d1 := K0.out.1.cell (j := 1) (v := .slice none 0 0) rfl
        have d2 := K0.out.1.cell (j := 2) (v := .int .i64 0) rfl
        have e0 := K0.out.1.frozen 0
        have e1 := K0.out.1.frozen 1
        have e2 := K0.out.1.frozen 2
        have HB : Hid (Below w.heap.size w wr) := K0.out.2
        clear hmk K0 HK HC Hm HX HZ HW
        by_cases hg1 : z < 0
        · clear hg
          go_wp2
          refine bodyPost_ret (v := Fx 3 (.slice none 0 0) 0) (by simp [results, Try.results49, go_sem, d0, d1, d2, e0, e1, e2]) rfl ?_
          refine ⟨_, by rw [HR.out.1], by rw [HR.out.2]; exact Or.inl ⟨rfl, rfl⟩, ?_⟩
          exact ((HB.out.setCell (Nat.le_refl _) _).setCell (Nat.le_refl _) _).setCell (Nat.le_refl _) _
        · have hg2 : 1000000 < z := by omega
          clear hg
          go_wp2
          refine bodyPost_ret (v := Fx 3 (.slice none 0 0) 0) (by simp [results, Try.results49, go_sem, d0, d1, d2, e0, e1, e2]) rfl ?_
          refine ⟨_, by rw [HR.out.1], by rw [HR.out.2]; exact Or.inl ⟨rfl, rfl⟩, ?_⟩
          exact ((HB.out.setCell (Nat.le_refl _) _).setCell (Nat.le_refl _) _).setCell (Nat.le_refl _) _
    · obtain rfl : k = m := by omega
      have hkI : ¬ (k : Int) < k := by omega
      have HR : Hid (R = 0 ∧ N0 = Q) := HR0.out HK.out
      have HK2 : Hid (∀ i, i < k → okC f i) := HK.out
      have HBD : Hid (∀ t, t ≤ k → ∀ i, 0 ≤ bst f s b t i ∧ bst f s b t i ≤ t * 1000000) := bst_bd HK.out
      have hwr := HW.out
      subst hwr
      have S0 : Hid (Seg ((wr.alloc (.cells (madeCells #[.int .i64 0] Q) 2)).alloc (.cells #[.int .i64 0, .slice (some ⟨w.heap.size + 1, 0, none⟩) Q Q, .int .i64 0] 66)) (w.heap.size + 1) 2 0 Q (fun i => .int .i64 (bst f s b (0) i)) ∧ Blk ((wr.alloc (.cells (madeCells #[.int .i64 0] Q) 2)).alloc (.cells #[.int .i64 0, .slice (some ⟨w.heap.size + 1, 0, none⟩) Q Q, .int .i64 0] 66)) w.heap.size #[.int .i64 0, .slice none 0 0, .int .i64 0] 66 ∧ Below w.heap.size w ((wr.alloc (.cells (madeCells #[.int .i64 0] Q) 2)).alloc (.cells #[.int .i64 0, .slice (some ⟨w.heap.size + 1, 0, none⟩) Q Q, .int .i64 0] 66)) ∧ Blk ((wr.alloc (.cells (madeCells #[.int .i64 0] Q) 2)).alloc (.cells #[.int .i64 0, .slice (some ⟨w.heap.size + 1, 0, none⟩) Q Q, .int .i64 0] 66)) (w.heap.size + 2) #[.int .i64 0, .slice (some ⟨w.heap.size + 1, 0, none⟩) Q Q, .int .i64 0] 66) := by
        have sz : (wr.alloc (.cells (madeCells #[.int .i64 0] Q) 2)).heap.size = w.heap.size + 2 := by simp [hz0]
        have g := seg_made wr (.int .i64 0) Q 2
        rw [hz0] at g
        have bb : Below w.heap.size w (wr.alloc (.cells (madeCells #[.int .i64 0] Q) 2)) := K0.out.2.alloc (by omega) _
        have br := K0.out.1.alloc (.cells (madeCells #[.int .i64 0] Q) 2)
        exact ⟨(g.alloc _).congr (fun i _ => rfl), br.alloc _, bb.alloc (by omega) _, Blk.new (by omega)⟩
      clear K0 HK HW
      go_wp2_with fail
      obtain ⟨W1, hW1⟩ : ∃ W, W = (wr.alloc (.cells (madeCells #[.int .i64 0] Q) 2)).alloc (.cells #[.int .i64 0, .slice (some ⟨w.heap.size + 1, 0, none⟩) Q Q, .int .i64 0] 66) := ⟨_, rfl⟩
      rw [← hW1] at S0 ⊢
      clear hW1 hmk
      go_loopw [10] (fun i wx => ∃ y : Nat, y ≤ s ∧ i = .int .i64 (y : Int) ∧ Hid (Seg wx (w.heap.size + 1) 2 0 Q (fun i => .int .i64 (bst f s b (y * s) i)) ∧ Blk wx w.heap.size #[.int .i64 0, .slice none 0 0, .int .i64 0] 66 ∧ Below w.heap.size w wx ∧ Blk wx (w.heap.size + 2) #[.int .i64 0, .slice (some ⟨w.heap.size + 1, 0, none⟩) Q Q, .int .i64 0] 66)) (fun i _ => s - (intOf i).toNat)
      case atStart => exact ⟨0, Nat.zero_le _, rfl, by rw [Nat.zero_mul]; exact S0⟩
      case round =>
        clear S0
        rename_i wy _ _
        obtain ⟨y, hy, rfl, HY⟩ := hrel
        by_cases hys : y < s
        · have hyI : (y : Int) < sI := by rw [HSI.out.1]; omega
          go_wp2_with fail
          go_loopw [11] (fun i wx => ∃ x : Nat, x ≤ s ∧ i = .int .i64 (x : Int) ∧ Hid (Seg wx (w.heap.size + 1) 2 0 Q (fun i => .int .i64 (bst f s b (y * s + x) i)) ∧ Blk wx w.heap.size #[.int .i64 0, .slice none 0 0, .int .i64 0] 66 ∧ Below w.heap.size w wx ∧ Blk wx (w.heap.size + 2) #[.int .i64 0, .slice (some ⟨w.heap.size + 1, 0, none⟩) Q Q, .int .i64 0] 66)) (fun i _ => s - (intOf i).toNat)
          case atStart => exact ⟨0, Nat.zero_le _, rfl, HY⟩
          case round =>
            clear HY
            obtain ⟨x, hx, rfl, HX2⟩ := hrel
            by_cases hxs : x < s
            · have hxI : (x : Int) < sI := by rw [HSI.out.1]; omega
              obtain ⟨P, hP⟩ : ∃ P : Nat, P = y * s := ⟨_, rfl⟩
              have hPI : (y : Int) * sI = (P : Int) := by rw [hP, HSI.out.1]; simp
              obtain ⟨T, hT⟩ : ∃ T : Nat, T = P + x := ⟨_, rfl⟩
              have hTI : (P : Int) + (x : Int) = (T : Int) := by rw [hT]; simp
              have hTm : T < k := by
                have h1 : (y + 1) * s ≤ s * s := Nat.mul_le_mul_right s (by omega)
                rw [Nat.succ_mul] at h1
                rw [Hm.out.1]
                omega
              obtain ⟨yb, hyb⟩ : ∃ z : Nat, z = y / b := ⟨_, rfl⟩
              obtain ⟨xb, hxb⟩ : ∃ z : Nat, z = x / b := ⟨_, rfl⟩
              have hybI : (y : Int).tdiv bI = (yb : Int) := by rw [hyb, HSI.out.2]; exact (Int.ofNat_tdiv y b).symm
              have hxbI : (x : Int).tdiv bI = (xb : Int) := by rw [hxb, HSI.out.2]; exact (Int.ofNat_tdiv x b).symm
              obtain ⟨R1, hR1⟩ : ∃ z : Nat, z = yb * q := ⟨_, rfl⟩
              have hR1I : (yb : Int) * (q : Int) = (R1 : Int) := by rw [hR1]; simp
              obtain ⟨A, hA⟩ : ∃ A : Nat, A = R1 + xb := ⟨_, rfl⟩
              have hAI : (R1 : Int) + (xb : Int) = (A : Int) := by rw [hA]; simp
              have eA : A = bix s b T := by
                have := split_at (s := s) (t := T) (y := y) (x := x) hxs (by rw [hT, hP])
                unfold bix
                rw [this.1, this.2, ← Hm.out.2, hA, hR1, hyb, hxb]
              have hAQ : A < Q := by rw [eA]; exact HX.out T hTm
              have hAQI : (A : Int) < Q := by omega
              obtain ⟨zc, hzc⟩ : ∃ z, z = bst f s b T A := ⟨_, rfl⟩
              obtain ⟨zf, hzf⟩ : ∃ z, z = f T := ⟨_, rfl⟩
              have bc := HBD.out T (by omega) A
              have bf := HK2.out T hTm
              unfold okC at bf
              rw [← hzc] at bc
              rw [← hzf] at bf
              have hc1 : 0 ≤ zc := bc.1
              have hc2 : zc ≤ 400000000 := by omega
              have hf1 : 0 ≤ zf := bf.1
              have hf2 : zf ≤ 1000000 := bf.2
              have HE : Hid (zc = bst f s b T A ∧ zf = f T ∧ A = bix s b T ∧ T = y * s + x) := ⟨hzc, hzf, eA, by rw [hT, hP]⟩
              have HX3 : Hid (Seg wr (w.heap.size + 1) 2 0 Q (fun i => .int .i64 (bst f s b (T) i)) ∧ Blk wr w.heap.size #[.int .i64 0, .slice none 0 0, .int .i64 0] 66 ∧ Below w.heap.size w wr ∧ Blk wr (w.heap.size + 2) #[.int .i64 0, .slice (some ⟨w.heap.size + 1, 0, none⟩) Q Q, .int .i64 0] 66) := by rw [hT, hP]; exact HX2
              have g1 : wr.cell? ⟨w.heap.size + 1, A, none⟩ = some (.int .i64 zc) := by have h := HX3.out.1.cell hAQ; rw [Nat.zero_add] at h; rw [h, hzc]
              have g2 : wr.cell? ⟨bi, off + T, none⟩ = some (.int .i64 zf) := by rw [hzf]; exact (HX3.out.2.2.1.cell (World.block_lt_of_cell? _ _ (HC.out T hTm))).trans (HC.out T hTm)
              have g3 : wr.frozen? ⟨w.heap.size + 1, A, none⟩ = false := HX3.out.1.frozen A
              have g4 := HX3.out.2.2.2.cell (j := 1) (v := .slice (some ⟨w.heap.size + 1, 0, none⟩) Q Q) rfl
              have hTmI : (T : Int) < k := by omega
              have hyb20 : yb ≤ 20 := by rw [hyb]; exact Nat.le_trans (Nat.div_le_self y b) (by have := Hnat.out; omega)
              have hxb20 : xb ≤ 20 := by rw [hxb]; exact Nat.le_trans (Nat.div_le_self x b) (by have := Hnat.out; omega)
              have hR4 : R1 ≤ 400 := by omega
              have hP4 : P ≤ 400 := by omega
              have hxm : x ≤ 20 := by have := Hnat.out; omega
              have hym : y ≤ 20 := by have := Hnat.out; omega
              clear HX2 bc bf hzc hzf eA hA hR1 hyb hxb hT hP HX HBD HK2 HC
              go_wp2_with fail
              go_quiet (fail)
              obtain ⟨wq, hwq⟩ : ∃ W, W = wr.drewN nq := ⟨_, rfl⟩
              rw [← hwq]
              replace HX3 : Hid (Seg wq (w.heap.size + 1) 2 0 Q (fun i => .int .i64 (bst f s b (T) i)) ∧ Blk wq w.heap.size #[.int .i64 0, .slice none 0 0, .int .i64 0] 66 ∧ Below w.heap.size w wq ∧ Blk wq (w.heap.size + 2) #[.int .i64 0, .slice (some ⟨w.heap.size + 1, 0, none⟩) Q Q, .int .i64 0] 66) := by
                rw [hwq]
                exact ⟨HX3.out.1.of_block (by simp), HX3.out.2.1.drewN nq, below_drewN HX3.out.2.2.1 nq, HX3.out.2.2.2.drewN nq⟩
              replace g1 : wq.cell? ⟨w.heap.size + 1, A, none⟩ = some (.int .i64 zc) := by rw [hwq, World.cell?_drewN]; exact g1
              replace g2 : wq.cell? ⟨bi, off + T, none⟩ = some (.int .i64 zf) := by rw [hwq, World.cell?_drewN]; exact g2
              replace g3 : wq.frozen? ⟨w.heap.size + 1, A, none⟩ = false := HX3.out.1.frozen A
              replace g4 : wq.cell? ⟨w.heap.size + 1 + 1, 1, none⟩ = some (.slice (some ⟨w.heap.size + 1, 0, none⟩) Q Q) := HX3.out.2.2.2.cell (j := 1) rfl
              clear hwq
              go_wp2_with fail
              go_region
              have HN : Hid (Seg (wq.setCell ⟨w.heap.size + 1, A, none⟩ (.int .i64 (zc + zf))).drew (w.heap.size + 1) 2 0 Q (fun i => .int .i64 (bst f s b (y * s + (x + 1)) i)) ∧ Blk (wq.setCell ⟨w.heap.size + 1, A, none⟩ (.int .i64 (zc + zf))).drew w.heap.size #[.int .i64 0, .slice none 0 0, .int .i64 0] 66 ∧ Below w.heap.size w (wq.setCell ⟨w.heap.size + 1, A, none⟩ (.int .i64 (zc + zf))).drew ∧ Blk (wq.setCell ⟨w.heap.size + 1, A, none⟩ (.int .i64 (zc + zf))).drew (w.heap.size + 2) #[.int .i64 0, .slice (some ⟨w.heap.size + 1, 0, none⟩) Q Q, .int .i64 0] 66) := by
                have e : y * s + (x + 1) = T + 1 := by rw [HE.out.2.2.2]; rfl
                rw [e]
                exact ⟨bst_step HX3.out.1 HE.out.2.2.1 HE.out.1 HE.out.2.1 hAQ, HX3.out.2.1.setOther (by simp) _, (HX3.out.2.2.1.setCell (Nat.le_succ _) _).drew, HX3.out.2.2.2.setOther (by simp) _⟩
              obtain ⟨wn, hwn⟩ : ∃ W, W = (wq.setCell ⟨w.heap.size + 1, A, none⟩ (.int .i64 (zc + zf))).drew := ⟨_, rfl⟩
              rw [← hwn] at HN ⊢
              clear hwn HX3 g1 g2 g3 HE
              go_wp2
              exact ⟨⟨x + 1, by omega, by simp, HN⟩, by simp [intOf]; omega⟩
            · obtain rfl : x = s := by omega
              have hxI : ¬ (x : Int) < sI := by rw [HSI.out.1]; omega
              have HN : Hid (Seg wr (w.heap.size + 1) 2 0 Q (fun i => .int .i64 (bst f x b ((y + 1) * x) i)) ∧ Blk wr w.heap.size #[.int .i64 0, .slice none 0 0, .int .i64 0] 66 ∧ Below w.heap.size w wr ∧ Blk wr (w.heap.size + 2) #[.int .i64 0, .slice (some ⟨w.heap.size + 1, 0, none⟩) Q Q, .int .i64 0] 66) := by rw [Nat.succ_mul]; exact HX2
              clear HX2
              go_wp2
              exact ⟨⟨y + 1, by omega, by simp, HN⟩, by simp [intOf]; omega⟩
        · obtain rfl : y = s := by omega
          have hyI : ¬ (y : Int) < sI := by rw [HSI.out.1]; omega
          have d0 := HY.out.2.1.cell (j := 0) (v := .int .i64 0) rfl
          have d1 := HY.out.2.1.cell (j := 1) (v := .slice none 0 0) rfl
          have d2 := HY.out.2.1.cell (j := 2) (v := .int .i64 0) rfl
          have e0 := HY.out.2.1.frozen 0
          have e1 := HY.out.2.1.frozen 1
          have e2 := HY.out.2.1.frozen 2
          have x0 : wr.cell? ⟨w.heap.size + 1 + 1, 0, none⟩ = some (.int .i64 0) := HY.out.2.2.2.cell (j := 0) rfl
          have x1 : wr.cell? ⟨w.heap.size + 1 + 1, 1, none⟩ = some (.slice (some ⟨w.heap.size + 1, 0, none⟩) Q Q) := HY.out.2.2.2.cell (j := 1) rfl
          have x2 : wr.cell? ⟨w.heap.size + 1 + 1, 2, none⟩ = some (.int .i64 0) := HY.out.2.2.2.cell (j := 2) rfl
          have HF : Hid (R = 0 ∧ N0 = Q ∧ k = y * y) := ⟨HR.out.1, HR.out.2, Hm.out.1⟩
          clear HR HR0 HR3 HBD HK2 HX HC Hm Hnat HSI
          go_wp2
          refine bodyPost_ret (v := Fx 0 (.slice (some ⟨w.heap.size + 1, 0, none⟩) Q Q) 0) (by simp [results, Try.results49, go_sem, d0, d1, d2, e0, e1, e2]) rfl ?_
          have hlt := HY.out.1.lt
          refine ⟨_, by rw [HF.out.1], ?_, ((HY.out.2.2.1.setCell (Nat.le_refl _) _).setCell (Nat.le_refl _) _).setCell (Nat.le_refl _) _⟩
          rw [HF.out.2.1, HF.out.2.2]
          exact Or.inr ⟨w.heap.size + 1, Q, rfl, by omega, by simpa using hlt, ((HY.out.1.setOther (by simp) _).setOther (by simp) _).setOther (by simp) _⟩
end Go.Proofs.Ytcmgafgboepllaa
