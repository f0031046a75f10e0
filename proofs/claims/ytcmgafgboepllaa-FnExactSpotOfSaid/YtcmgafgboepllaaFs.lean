/- Books of flux: the specification. -/
import Derived.Test.YtcmgafgboepllaaFx
namespace Go.Proofs.Ytcmgafgboepllaa
open Go.RowKit Fl
set_option linter.unusedVariables false
set_option linter.unusedSimpArgs false
set_option maxRecDepth 20000 in
theorem sFlux_many (ao : Option Addr) (n cap c : Nat) (s : Int) (hn : n ≤ 1000000000000) (h : 400 < n) (w : World) : Calls Try.prog 43 #[.slice ao n cap, .int .i64 s, .float .f64 c] w fun e w' => e = .returned (Fx 2 (.slice none 0 0) 0) ∧ Below w.heap.size w w' := by
  have hI : (400 : Int) < n := by omega
  go_enter Try.func43, Try.ntmps43
  go_wp2
  refine bodyPost_ret (v := Fx 2 (.slice none 0 0) 0) (by simp [results, Try.results43, go_sem]) rfl ⟨rfl, by go_grown⟩
set_option maxRecDepth 20000 in
set_option maxHeartbeats 1600000 in
theorem sFlux_form (ao : Option Addr) (n cap c : Nat) (s : Int) (h : n ≤ 400) (hf : ¬ ((1 ≤ s ∧ s ≤ 20) ∧ okCell c)) (w : World) : Calls Try.prog 43 #[.slice ao n cap, .int .i64 s, .float .f64 c] w fun e w' => e = .returned (Fx 1 (.slice none 0 0) 0) ∧ Below w.heap.size w w' := by
  have hI : ¬ (400 : Int) < n := by omega
  by_cases h1 : s < 1
  · clear hf
    go_enter Try.func43, Try.ntmps43
    go_wp2
    refine bodyPost_ret (v := Fx 1 (.slice none 0 0) 0) (by simp [results, Try.results43, go_sem]) rfl ⟨rfl, by go_grown⟩
  by_cases h2 : 20 < s
  · clear hf
    go_enter Try.func43, Try.ntmps43
    go_wp2
    refine bodyPost_ret (v := Fx 1 (.slice none 0 0) 0) (by simp [results, Try.results43, go_sem]) rfl ⟨rfl, by go_grown⟩
  cases h3 : (FloatKind.f64.format.order c 0 == some Ordering.gt) with
  | false =>
    clear hf
    go_enter Try.func43, Try.ntmps43
    go_wp2
    refine bodyPost_ret (v := Fx 1 (.slice none 0 0) 0) (by simp [results, Try.results43, go_sem]) rfl ⟨rfl, by go_grown⟩
  | true =>
    cases h4 : (FloatKind.f64.format.order c K1000 == some Ordering.lt || FloatKind.f64.format.order c K1000 == some Ordering.eq) with
    | false =>
      clear hf
      go_enter Try.func43, Try.ntmps43
      go_wp2
      refine bodyPost_ret (v := Fx 1 (.slice none 0 0) 0) (by simp [results, Try.results43, go_sem]) rfl ⟨rfl, by go_grown⟩
    | true => exact absurd ⟨⟨by omega, by omega⟩, h3, h4⟩ hf
set_option maxRecDepth 20000 in
set_option maxHeartbeats 6400000 in
theorem sFlux_ok (bi off n cap c S : Nat) (C : Option Nat) (G : Nat → Nat → Nat) (w : World) (hn : n ≤ 400) (hS1 : 1 ≤ S) (hS : S ≤ 20) (hc : Fc c C) (ok : okCell c) (hcell : ∀ i, i < n → ∀ j, j < 2 → w.cell? ⟨bi, off + i * 2 + j, none⟩ = some (fcl (G i) j)) (hG : ∀ i, i < n → ∀ j, j < 2 → W64 (G i j)) :
    FX 43 #[.slice (some ⟨bi, off, none⟩) n cap, .int .i64 S, .float .f64 c] w 0 (S * S) (fcell G S C n) (flost G S C n) := by
  unfold FX
  have cp := cp_of hc.lx ok
  have h3 : (FloatKind.f64.format.order c 0 == some Ordering.gt) = true := ok.1
  have h4 : (FloatKind.f64.format.order c 4652007308841189376 == some Ordering.lt || FloatKind.f64.format.order c 4652007308841189376 == some Ordering.eq) = true := ok.2
  obtain ⟨m, hm⟩ : ∃ m : Nat, m = S * S := ⟨_, rfl⟩
  have hm4 : m ≤ 400 := by rw [hm]; exact sq_le20 hS
  obtain ⟨sI, hsI⟩ : ∃ z : Int, z = (S : Int) := ⟨_, rfl⟩
  have hmI : sI * sI = (m : Int) := by rw [hm, hsI]; simp
  have hs1 : 1 ≤ sI := by omega
  have hs2 : sI ≤ 20 := by omega
  have hnI : ¬ (400 : Int) < n := by omega
  have HS : Hid (m = S * S ∧ sI = S ∧ S ≤ 20) := ⟨hm, hsI, hS⟩
  have HC : Hid (∀ i, i < n → ∀ j, j < 2 → w.cell? ⟨bi, off + i * 2 + j, none⟩ = some (fcl (G i) j)) := hcell
  have HP : Hid (Fc c C ∧ CP c) := ⟨hc, cp⟩
  have HL : Hid (∀ i, i < n → ∀ j, j < 2 → ∀ W, Calls Try.prog 79 #[.float .f64 (G i j), .int .i64 sI, .float .f64 c] W fun e w' => e = .returned (.int .i64 (colV (dcol G S C i j))) ∧ Below W.heap.size W w') := fun i hi j hj W => by rw [hsI]; exact sCell_any (fc_own (hG i hi j hj)) hc cp hS W
  have HT : Hid (∀ i, i < n → ∀ j, j < 2 → ∀ T, dcol G S C i j = some T → T < S) := fun i hi j hj T h => by
    obtain ⟨v1, q1, r1, f1⟩ := flop .mul (by simp) (fc_own (mk_lt (S : Int))) hc w
    obtain ⟨v2, q2, r2, f2⟩ := flop .quo (by simp) f1 fc_two w
    obtain ⟨a, q3, r3, fa⟩ := flop .add (by simp) (fc_own (hG i hi j hj)) f2 w
    exact col_lt (a := a) fa hc cp hS h
  rw [← hm, ← hsI]
  clear hm hsI hcell hc cp ok hG hS1 hS
  have hmk := run_make_row' (P := Try.prog) 64 2 (.int .i64 0) 8 Try.underlying64 info2 rfl .i64 .i64 m (by omega) (by omega)
  obtain ⟨W0, hW0⟩ : ∃ W, W = w.alloc (.cells #[.int .i64 0, .slice none 0 0, .int .i64 0] 66) := ⟨_, rfl⟩
  have hz0 : W0.heap.size = w.heap.size + 1 := by rw [hW0]; simp
  have K0 : Hid (Blk W0 w.heap.size #[.int .i64 0, .slice none 0 0, .int .i64 0] 66 ∧ Below w.heap.size w W0) := ⟨by rw [hW0]; exact Blk.new rfl, by rw [hW0]; exact (Below.refl _ _).alloc (Nat.le_refl _) _⟩
  have S0 : Hid (Seg ((W0.alloc (.cells (madeCells #[.int .i64 0] m) 2)).alloc (.cells #[.int .i64 0, .slice (some ⟨w.heap.size + 1, 0, none⟩) m m, .int .i64 0] 66)) (w.heap.size + 1) 2 0 m (fun i => .int .i64 (fcell G S C (0) i)) ∧ Blk ((W0.alloc (.cells (madeCells #[.int .i64 0] m) 2)).alloc (.cells #[.int .i64 0, .slice (some ⟨w.heap.size + 1, 0, none⟩) m m, .int .i64 0] 66)) w.heap.size #[.int .i64 0, .slice none 0 0, .int .i64 0] 66 ∧ Below w.heap.size w ((W0.alloc (.cells (madeCells #[.int .i64 0] m) 2)).alloc (.cells #[.int .i64 0, .slice (some ⟨w.heap.size + 1, 0, none⟩) m m, .int .i64 0] 66)) ∧ Blk ((W0.alloc (.cells (madeCells #[.int .i64 0] m) 2)).alloc (.cells #[.int .i64 0, .slice (some ⟨w.heap.size + 1, 0, none⟩) m m, .int .i64 0] 66)) (w.heap.size + 2) #[.int .i64 0, .slice (some ⟨w.heap.size + 1, 0, none⟩) m m, .int .i64 (flost G S C (0))] 66) := by
    have sz : (W0.alloc (.cells (madeCells #[.int .i64 0] m) 2)).heap.size = w.heap.size + 2 := by simp [hz0]
    have g := seg_made W0 (.int .i64 0) m 2
    rw [hz0] at g
    have bb : Below w.heap.size w (W0.alloc (.cells (madeCells #[.int .i64 0] m) 2)) := K0.out.2.alloc (by omega) _
    have br := K0.out.1.alloc (.cells (madeCells #[.int .i64 0] m) 2)
    exact ⟨(g.alloc _).congr (fun i _ => rfl), br.alloc _, bb.alloc (by omega) _, Blk.new (by omega)⟩
  go_enter Try.func43, Try.ntmps43
  go_upto_region 5 with fail
  rw [← hW0]
  clear hW0 K0
  go_wp2_with fail
  obtain ⟨W1, hW1⟩ : ∃ W, W = (W0.alloc (.cells (madeCells #[.int .i64 0] m) 2)).alloc (.cells #[.int .i64 0, .slice (some ⟨w.heap.size + 1, 0, none⟩) m m, .int .i64 0] 66) := ⟨_, rfl⟩
  rw [← hW1] at S0 ⊢
  clear hW1 hmk
  go_loopw [8] (fun i wx => ∃ k : Nat, k ≤ n ∧ i = .int .i64 (k : Int) ∧ Hid (Seg wx (w.heap.size + 1) 2 0 m (fun i => .int .i64 (fcell G S C (k) i)) ∧ Blk wx w.heap.size #[.int .i64 0, .slice none 0 0, .int .i64 0] 66 ∧ Below w.heap.size w wx ∧ Blk wx (w.heap.size + 2) #[.int .i64 0, .slice (some ⟨w.heap.size + 1, 0, none⟩) m m, .int .i64 (flost G S C (k))] 66)) (fun i _ => n - (intOf i).toNat)
  case atStart => exact ⟨0, Nat.zero_le _, rfl, S0⟩
  case round =>
    clear S0
    obtain ⟨k, hk, rfl, HK⟩ := hrel
    by_cases hkn : k < n
    · have hkI : (k : Int) < n := by omega
      have old : ∀ W, Below wr.heap.size wr W → ∀ j, j < 2 → W.cell? ⟨bi, off + k * 2 + j, none⟩ = some (fcl (G k) j) := fun W b j hj => ((HK.out.2.2.1.trans (b.mono HK.out.2.2.1.size)).cell (World.block_lt_of_cell? _ _ (HC.out k hkn j hj))).trans (HC.out k hkn j hj)
      have g1 : wr.cell? ⟨bi, off + k * 2, none⟩ = some (.float .f64 (G k 0)) := old wr (Below.refl _ _) 0 (by omega)
      have OLD : Hid (∀ W, Below wr.heap.size wr W → ∀ j, j < 2 → W.cell? ⟨bi, off + k * 2 + j, none⟩ = some (fcl (G k) j)) := old
      clear old
      go_wp2_with fail
      refine (HL.out k hkn 0 (by omega) _).mono ?_
      rintro e w1 ⟨rfl, b1⟩
      have g2 : w1.cell? ⟨bi, off + k * 2 + 1, none⟩ = some (.float .f64 (G k 1)) := OLD.out w1 b1 1 (by omega)
      have HB1 : Hid (Below wr.heap.size wr w1) := b1
      clear b1
      obtain ⟨zx, hzx⟩ : ∃ z : Int, z = colV (dcol G S C k 0) := ⟨_, rfl⟩
      rw [← hzx]
      have HZx : Hid (zx = colV (dcol G S C k 0)) := hzx
      clear hzx
      go_wp2_with fail
      refine (HL.out k hkn 1 (by omega) _).mono ?_
      rintro e w2 ⟨rfl, b2⟩
      obtain ⟨zy, hzy⟩ : ∃ z : Int, z = colV (dcol G S C k 1) := ⟨_, rfl⟩
      rw [← hzy]
      have HZy : Hid (zy = colV (dcol G S C k 1)) := hzy
      clear hzy
      have HB2 : Hid (Below wr.heap.size wr w2) := HB1.out.trans (b2.mono HB1.out.size)
      clear b2 g1 g2
      have HK2 : Hid (Seg w2 (w.heap.size + 1) 2 0 m (fun i => .int .i64 (fcell G S C (k) i)) ∧ Blk w2 w.heap.size #[.int .i64 0, .slice none 0 0, .int .i64 0] 66 ∧ Below w.heap.size w w2 ∧ Blk w2 (w.heap.size + 2) #[.int .i64 0, .slice (some ⟨w.heap.size + 1, 0, none⟩) m m, .int .i64 (flost G S C (k))] 66) := ⟨HK.out.1.below HB2.out, HK.out.2.1.old HB2.out, HK.out.2.2.1.trans (HB2.out.mono HK.out.2.2.1.size), HK.out.2.2.2.old HB2.out⟩
      clear HK HB1 HB2 OLD
      obtain ⟨cx, hcx⟩ : ∃ z, z = dcol G S C k 0 := ⟨_, rfl⟩
      obtain ⟨cy, hcy⟩ : ∃ z, z = dcol G S C k 1 := ⟨_, rfl⟩
      rw [← hcx] at HZx
      rw [← hcy] at HZy
      have lb := flost_bd G S C k
      obtain ⟨zl, hzl⟩ : ∃ z, z = flost G S C k := ⟨_, rfl⟩
      rw [← hzl] at lb
      have lb1 : 0 ≤ zl := lb.1
      have lb2 : zl ≤ 400 := by omega
      have l1 : w2.cell? ⟨w.heap.size + 1 + 1, 2, none⟩ = some (.int .i64 zl) := by rw [hzl]; exact HK2.out.2.2.2.cell (j := 2) rfl
      have l2 : w2.frozen? ⟨w.heap.size + 1 + 1, 2, none⟩ = false := HK2.out.2.2.2.frozen 2
      have HZL : Hid (zl = flost G S C k ∧ cx = dcol G S C k 0 ∧ cy = dcol G S C k 1) := ⟨hzl, hcx, hcy⟩
      clear hzl lb hcx hcy
      have lostly : cx = none ∨ cy = none → Hid (Seg (w2.setCell ⟨w.heap.size + 1 + 1, 2, none⟩ (.int .i64 (zl + 1))) (w.heap.size + 1) 2 0 m (fun i => .int .i64 (fcell G S C (k + 1) i)) ∧ Blk (w2.setCell ⟨w.heap.size + 1 + 1, 2, none⟩ (.int .i64 (zl + 1))) w.heap.size #[.int .i64 0, .slice none 0 0, .int .i64 0] 66 ∧ Below w.heap.size w (w2.setCell ⟨w.heap.size + 1 + 1, 2, none⟩ (.int .i64 (zl + 1))) ∧ Blk (w2.setCell ⟨w.heap.size + 1 + 1, 2, none⟩ (.int .i64 (zl + 1))) (w.heap.size + 2) #[.int .i64 0, .slice (some ⟨w.heap.size + 1, 0, none⟩) m m, .int .i64 (flost G S C (k + 1))] 66) := fun h => by
        have hn : fxIn G S C k = none := by
          unfold fxIn
          rw [← HZL.out.2.1, ← HZL.out.2.2]
          rcases h with h | h
          · rw [h]
          · rw [h]; cases cx <;> rfl
        refine ⟨(fx_out HK2.out.1 hn).of_block (Below.heap_setCell _ _ _ _ (by simp)), HK2.out.2.1.setOther (by show (w.heap.size : Nat) ≠ w.heap.size + 1 + 1; omega) _, HK2.out.2.2.1.setCell (by show (w.heap.size : Nat) ≤ w.heap.size + 1 + 1; omega) _, HK2.out.2.2.2.set 2 _ ?_⟩
        rw [lost_out hn, ← HZL.out.1]
        rfl
      have LOST : Hid (cx = none ∨ cy = none → Hid (Seg (w2.setCell ⟨w.heap.size + 1 + 1, 2, none⟩ (.int .i64 (zl + 1))) (w.heap.size + 1) 2 0 m (fun i => .int .i64 (fcell G S C (k + 1) i)) ∧ Blk (w2.setCell ⟨w.heap.size + 1 + 1, 2, none⟩ (.int .i64 (zl + 1))) w.heap.size #[.int .i64 0, .slice none 0 0, .int .i64 0] 66 ∧ Below w.heap.size w (w2.setCell ⟨w.heap.size + 1 + 1, 2, none⟩ (.int .i64 (zl + 1))) ∧ Blk (w2.setCell ⟨w.heap.size + 1 + 1, 2, none⟩ (.int .i64 (zl + 1))) (w.heap.size + 2) #[.int .i64 0, .slice (some ⟨w.heap.size + 1, 0, none⟩) m m, .int .i64 (flost G S C (k + 1))] 66)) := lostly
      clear lostly
      cases cx with
      | none =>
        have HN := LOST.out (Or.inl rfl)
        obtain ⟨wn, hwn⟩ : ∃ W, W = (w2.setCell ⟨w.heap.size + 1 + 1, 2, none⟩ (.int .i64 (zl + 1))) := ⟨_, rfl⟩
        clear LOST HK2
        obtain rfl : zx = -1 := HZx.out
        
        clear HZy HZx
        go_wp2
        rw [← hwn] at HN ⊢
        exact ⟨⟨k + 1, by omega, by simp, HN⟩, by simp [intOf]; omega⟩
      | some X =>
        cases cy with
        | none =>
          have hX : X < S := HT.out k hkn 0 (by omega) X HZL.out.2.1.symm
          have hX20 : X ≤ 20 := by have := HS.out.2.2; omega
          have HN := LOST.out (Or.inr rfl)
          obtain ⟨wn, hwn⟩ : ∃ W, W = (w2.setCell ⟨w.heap.size + 1 + 1, 2, none⟩ (.int .i64 (zl + 1))) := ⟨_, rfl⟩
          obtain rfl : zx = (X : Int) := HZx.out
          obtain rfl : zy = -1 := HZy.out
          
          
          clear LOST HK2 HZx HZy
          go_wp2
          rw [← hwn] at HN ⊢
          exact ⟨⟨k + 1, by omega, by simp, HN⟩, by simp [intOf]; omega⟩
        | some Y =>
          have hX : X < S := HT.out k hkn 0 (by omega) X HZL.out.2.1.symm
          have hY : Y < S := HT.out k hkn 1 (by omega) Y HZL.out.2.2.symm
          obtain ⟨P, hP⟩ : ∃ P : Nat, P = Y * S := ⟨_, rfl⟩
          have hPI : (Y : Int) * sI = (P : Int) := by rw [hP, HS.out.2.1]; simp
          obtain ⟨A, hA⟩ : ∃ A : Nat, A = P + X := ⟨_, rfl⟩
          have hAI : (P : Int) + (X : Int) = (A : Int) := by rw [hA]; simp
          have hAm : A < m := by rw [hA, hP, HS.out.1]; exact idx_lt hX hY
          have hAmI : (A : Int) < m := by omega
          have hP4 : P ≤ 400 := by omega
          have hX20 : X ≤ 20 := by have := HS.out.2.2; omega
          have hY20 : Y ≤ 20 := by have := HS.out.2.2; omega
          have hin : fxIn G S C k = some A := by
            unfold fxIn
            rw [← HZL.out.2.1, ← HZL.out.2.2, hA, hP]
          have bc := fcell_bd G S C k A
          obtain ⟨zc, hzc⟩ : ∃ z, z = fcell G S C k A := ⟨_, rfl⟩
          rw [← hzc] at bc
          have bc1 : 0 ≤ zc := bc.1
          have bc2 : zc ≤ 400 := by omega
          have c1 : w2.cell? ⟨w.heap.size + 1, A, none⟩ = some (.int .i64 zc) := by have h := HK2.out.1.cell hAm; rw [Nat.zero_add] at h; rw [h, hzc]
          have c2 : w2.frozen? ⟨w.heap.size + 1, A, none⟩ = false := HK2.out.1.frozen A
          have c3 : w2.cell? ⟨w.heap.size + 1 + 1, 1, none⟩ = some (.slice (some ⟨w.heap.size + 1, 0, none⟩) m m) := HK2.out.2.2.2.cell (j := 1) rfl
          have HN : Hid (Seg (w2.setCell ⟨w.heap.size + 1, A, none⟩ (.int .i64 (zc + 1))) (w.heap.size + 1) 2 0 m (fun i => .int .i64 (fcell G S C (k + 1) i)) ∧ Blk (w2.setCell ⟨w.heap.size + 1, A, none⟩ (.int .i64 (zc + 1))) w.heap.size #[.int .i64 0, .slice none 0 0, .int .i64 0] 66 ∧ Below w.heap.size w (w2.setCell ⟨w.heap.size + 1, A, none⟩ (.int .i64 (zc + 1))) ∧ Blk (w2.setCell ⟨w.heap.size + 1, A, none⟩ (.int .i64 (zc + 1))) (w.heap.size + 2) #[.int .i64 0, .slice (some ⟨w.heap.size + 1, 0, none⟩) m m, .int .i64 (flost G S C (k + 1))] 66) := by
            refine ⟨fx_in HK2.out.1 hin hzc hAm, HK2.out.2.1.setOther (by simp) _, HK2.out.2.2.1.setCell (Nat.le_succ _) _, ?_⟩
            rw [lost_in hin]
            exact HK2.out.2.2.2.setOther (by simp) _
          obtain ⟨wn, hwn⟩ : ∃ W, W = (w2.setCell ⟨w.heap.size + 1, A, none⟩ (.int .i64 (zc + 1))) := ⟨_, rfl⟩
          obtain rfl : zx = (X : Int) := HZx.out
          obtain rfl : zy = (Y : Int) := HZy.out
          
          
          clear LOST HK2 hin hzc bc hA hP l1 l2 hX hY HZx HZy
          go_wp2
          rw [← hwn] at HN ⊢
          exact ⟨⟨k + 1, by omega, by simp, HN⟩, by simp [intOf]; omega⟩
    · obtain rfl : k = n := by omega
      have hkI : ¬ (k : Int) < k := by omega
      have d0 := HK.out.2.1.cell (j := 0) (v := .int .i64 0) rfl
      have d1 := HK.out.2.1.cell (j := 1) (v := .slice none 0 0) rfl
      have d2 := HK.out.2.1.cell (j := 2) (v := .int .i64 0) rfl
      have e0 := HK.out.2.1.frozen 0
      have e1 := HK.out.2.1.frozen 1
      have e2 := HK.out.2.1.frozen 2
      have x0 : wr.cell? ⟨w.heap.size + 1 + 1, 0, none⟩ = some (.int .i64 0) := HK.out.2.2.2.cell (j := 0) rfl
      have x1 : wr.cell? ⟨w.heap.size + 1 + 1, 1, none⟩ = some (.slice (some ⟨w.heap.size + 1, 0, none⟩) m m) := HK.out.2.2.2.cell (j := 1) rfl
      have x2 : wr.cell? ⟨w.heap.size + 1 + 1, 2, none⟩ = some (.int .i64 (flost G S C k)) := HK.out.2.2.2.cell (j := 2) rfl
      clear HC HL HT HP
      go_wp2
      refine bodyPost_ret (v := Fx 0 (.slice (some ⟨w.heap.size + 1, 0, none⟩) m m) (flost G S C k)) (by simp [results, Try.results43, go_sem, d0, d1, d2, e0, e1, e2]) rfl ?_
      have hlt := HK.out.1.lt
      refine ⟨_, rfl, ?_, ((HK.out.2.2.1.setCell (Nat.le_refl _) _).setCell (Nat.le_refl _) _).setCell (Nat.le_refl _) _⟩
      exact Or.inr ⟨w.heap.size + 1, m, rfl, by omega, by simpa using hlt, ((HK.out.1.setOther (by simp) _).setOther (by simp) _).setOther (by simp) _⟩
end Go.Proofs.Ytcmgafgboepllaa
