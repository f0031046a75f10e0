/- Cavities: what both packages answer, told in full; seen from the other side; a trip's parts. -/
import Derived.Test.YtkkajcdjkfbcgaaCv
import Derived.Test.YtkkajcdjkfbcgaaTs
namespace Go.Proofs.Ytkkajcdjkfbcgaa
open Go.RowKit
set_option linter.unusedVariables false
set_option linter.unusedSimpArgs false
/-- Can all be reckoned? -/
def cavK (L A B : Q) : Bool := cav L A B && sdK L A && sdK L B && mulK (sdQ L A) (sdQ L B) && hfK (mulQ (sdQ L A) (sdQ L B))
theorem cav_swap (L A B : Q) : cavK L B A = cavK L A B := by
  unfold cavK cav
  rw [mulK_comm (sdQ L B) (sdQ L A), (mul_comm' (sdQ L B) (sdQ L A)).2]
  cases L.ok <;> cases A.ok <;> cases B.ok <;> cases sdK L A <;> cases sdK L B <;> simp
theorem cav_x (L A B : Q) : ∃ (c : Int) (a b f : Q) (st : Bool), ((c = 0 ∧ cavK L A B = true ∧ a = sdQ L A ∧ b = sdQ L B ∧ f = hfQ (mulQ (sdQ L A) (sdQ L B)) ∧ st = (decide (0 ≤ (mulQ (sdQ L A) (sdQ L B)).n) && decide (cmpF (mulQ (sdQ L A) (sdQ L B)).n (mulQ (sdQ L A) (sdQ L B)).d 1 1 ≤ 0))) ∨ (c ≠ 0 ∧ cavK L A B = false)) ∧ (∀ w, Calls Try.prog 19 #[.agg #[.int .i64 L.n, .int .i64 L.d], .agg #[.int .i64 A.n, .int .i64 A.d], .agg #[.int .i64 B.n, .int .i64 B.d]] w fun e w' => e = .returned (.agg #[.int .i64 c, .int .i64 a.n, .int .i64 a.d, .int .i64 b.n, .int .i64 b.d, .int .i64 f.n, .int .i64 f.d, .bool st]) ∧ Below w.heap.size w w') ∧ (∀ w, Calls Try.prog 20 #[.agg #[.int .i64 L.n, .int .i64 L.d], .agg #[.int .i64 A.n, .int .i64 A.d], .agg #[.int .i64 B.n, .int .i64 B.d]] w fun e w' => e = .returned (.agg #[.int .i64 c, .int .i64 a.n, .int .i64 a.d, .int .i64 b.n, .int .i64 b.d, .int .i64 f.n, .int .i64 f.d, .bool st]) ∧ Below w.heap.size w w') := by
  cases hc : cav L A B
  · exact ⟨1, ⟨0, 0⟩, ⟨0, 0⟩, ⟨0, 0⟩, false, Or.inr ⟨by decide, by unfold cavK; rw [hc]; rfl⟩, fun w => scv_1 L A B w hc, fun w => icv_1 L A B w hc⟩
  obtain ⟨okL, okA, okB, hp⟩ := cav_t hc
  have SC : ∀ W, Calls Try.prog 60 #[.agg #[.int .i64 L.n, .int .i64 L.d], .agg #[.int .i64 A.n, .int .i64 A.d], .agg #[.int .i64 B.n, .int .i64 B.d]] W fun e w' => e = .returned (.bool true) ∧ Below W.heap.size W w' := fun W => by have := scav L A B W; rwa [hc] at this
  have FC : ∀ W, Calls Try.prog 67 #[.agg #[.int .i64 L.n, .int .i64 L.d], .agg #[.int .i64 A.n, .int .i64 A.d], .agg #[.int .i64 B.n, .int .i64 B.d]] W fun e w' => e = .returned (.int .i64 0) ∧ Below W.heap.size W w' := fun W => icavf_yes L A B W hc
  have TI := fun W => iint 1 W
  have T3 := fun (r : Nat) (g : Bool) (W : World) (h : flag r g W) => rdiff (addQ (mulQ (sdQ L A) (sdQ L B)) (mulQ (sdQ L A) (sdQ L B))) one r g W h
  have bad : (((((false || !sdK L A) || !sdK L B) || !mulK (sdQ L A) (sdQ L B)) || !addK (mulQ (sdQ L A) (sdQ L B)) (mulQ (sdQ L A) (sdQ L B))) || !subK (addQ (mulQ (sdQ L A) (sdQ L B)) (mulQ (sdQ L A) (sdQ L B))) one) = true → ∀ w, Calls Try.prog 20 #[.agg #[.int .i64 L.n, .int .i64 L.d], .agg #[.int .i64 A.n, .int .i64 A.d], .agg #[.int .i64 B.n, .int .i64 B.d]] w fun e w' => e = .returned (.agg #[.int .i64 3, .int .i64 0, .int .i64 0, .int .i64 0, .int .i64 0, .int .i64 0, .int .i64 0, .bool false]) ∧ Below w.heap.size w w' := fun hfl w =>
    icv_3 L A B _ _ _ _ _ _ _ _ _ _ 0 0 w FC (fun r g W h => iterm L A r g W h okA) (fun r g W h => iterm L B r g W h okB) (fun r g W h => rprod _ _ r g W h) (fun r g W h => rsum _ _ r g W h) TI T3 hfl
  cases hA : sdK L A
  · refine ⟨3, ⟨0, 0⟩, ⟨0, 0⟩, ⟨0, 0⟩, false, Or.inr ⟨by decide, by unfold cavK; rw [hA]; simp⟩, fun w => ?_, fun w => bad (by rw [hA]; rfl) w⟩
    exact scv_A L A B (sdQ L A) (sdQ L B) zQ zQ zQ false false 0 w (sdK L B) SC (fun W => by have := sside L A W okL; rwa [hA] at this) (fun W => sside L B W okL)
  cases hB : sdK L B
  · refine ⟨3, ⟨0, 0⟩, ⟨0, 0⟩, ⟨0, 0⟩, false, Or.inr ⟨by decide, by unfold cavK; rw [hB]; simp⟩, fun w => ?_, fun w => bad (by rw [hA, hB]; rfl) w⟩
    exact scv_B L A B (sdQ L A) (sdQ L B) zQ zQ zQ false false 0 w SC (fun W => by have := sside L A W okL; rwa [hA] at this) (fun W => by have := sside L B W okL; rwa [hB] at this)
  have SA : ∀ W, Calls Try.prog 61 #[.agg #[.int .i64 L.n, .int .i64 L.d], .agg #[.int .i64 A.n, .int .i64 A.d]] W fun e w' => e = .returned (.agg #[.bool true, .int .i64 (sdQ L A).n, .int .i64 (sdQ L A).d]) ∧ Below W.heap.size W w' := fun W => by have := sside L A W okL; rwa [hA] at this
  have SB : ∀ W, Calls Try.prog 61 #[.agg #[.int .i64 L.n, .int .i64 L.d], .agg #[.int .i64 B.n, .int .i64 B.d]] W fun e w' => e = .returned (.agg #[.bool true, .int .i64 (sdQ L B).n, .int .i64 (sdQ L B).d]) ∧ Below W.heap.size W w' := fun W => by have := sside L B W okL; rwa [hB] at this
  obtain ⟨a, ha⟩ : ∃ a, a = sdQ L A := ⟨_, rfl⟩
  obtain ⟨b, hb⟩ : ∃ b, b = sdQ L B := ⟨_, rfl⟩
  have TA := fun (r : Nat) (g : Bool) (W : World) (h : flag r g W) => iterm L A r g W h okA
  have TB := fun (r : Nat) (g : Bool) (W : World) (h : flag r g W) => iterm L B r g W h okB
  rw [hA] at TA
  rw [hB] at TB
  rw [hA, hB] at bad
  rw [← ha, ← hb] at bad
  rw [← ha] at SA TA
  rw [← hb] at SB TB
  have SO : ∀ W, Calls Try.prog 65 #[.agg #[.int .i64 1, .int .i64 1]] W fun e w' => e = .returned (.agg #[.bool true, .int .i64 1, .int .i64 1]) ∧ Below W.heap.size W w' := fun W => sof one W
  cases hM : mulK a b
  · refine ⟨3, ⟨0, 0⟩, ⟨0, 0⟩, ⟨0, 0⟩, false, Or.inr ⟨by decide, by unfold cavK; rw [← ha, ← hb, hM]; simp⟩, fun w => ?_, fun w => bad (by rw [hM]; rfl) w⟩
    exact scv_M L A B a b (mulQ a b) ⟨0, 0⟩ (leQ false ⟨0, 0⟩ one.ok one) false (leK false ⟨0, 0⟩ one.ok one) 0 w SC SA SB (fun W => by have := smul7 a b W; rwa [hM] at this) (fun W => sadd7_f _ _ false W) (fun W => sint 1 W) SO (fun W => sless false ⟨0, 0⟩ one.ok one W (by decide) (by decide))
  have SM : ∀ W, Calls Try.prog 62 #[.agg #[.int .i64 a.n, .int .i64 a.d], .agg #[.int .i64 b.n, .int .i64 b.d]] W fun e w' => e = .returned (.agg #[.bool true, .int .i64 (mulQ a b).n, .int .i64 (mulQ a b).d]) ∧ Below W.heap.size W w' := fun W => by have := smul7 a b W; rwa [hM] at this
  have mok := mul_right hM
  obtain ⟨m, hm⟩ : ∃ m, m = mulQ a b := ⟨_, rfl⟩
  rw [← hm] at SM mok bad
  have SL : ∀ W, Calls Try.prog 63 #[.agg #[.bool (addK m m), .int .i64 (addQ m m).n, .int .i64 (addQ m m).d], .agg #[.bool true, .int .i64 1, .int .i64 1]] W fun e w' => e = .returned (.agg #[.bool (hfK m), .int .i64 (hfQ m).n, .int .i64 (hfQ m).d]) ∧ Below W.heap.size W w' := fun W => sless (addK m m) (addQ m m) one.ok one W (by decide) (by decide)
  cases hH : hfK m
  · refine ⟨3, ⟨0, 0⟩, ⟨0, 0⟩, ⟨0, 0⟩, false, Or.inr ⟨by decide, by unfold cavK; rw [← ha, ← hb, ← hm, hH]; simp⟩, fun w => ?_, fun w => bad ?_ w⟩
    · exact scv_H L A B a b m (addQ m m) (hfQ m) (addK m m) false 0 w SC SA SB SM (fun W => sadd7_tt m m W) (fun W => sint 1 W) SO (by rw [hH] at SL; exact SL)
    · rw [hf_k] at hH
      cases h1 : addK m m
      · simp
      · rw [h1] at hH; simp at hH; rw [hH]; simp
  have h12 := hH
  rw [hf_k] at h12
  simp only [Bool.and_eq_true] at h12
  have hq := hf_q h12.1
  rw [hH] at SL
  have hfl : (((((false || !true) || !true) || !mulK a b) || !addK m m) || !subK (addQ m m) one) = false := by rw [hM, h12.1, h12.2]; rfl
  have TM : ∀ (r : Nat) (g : Bool) (W : World), flag r g W → Calls Try.prog 69 #[.pointer (some ⟨r, 0, none⟩), .agg #[.int .i64 a.n, .int .i64 a.d], .agg #[.int .i64 b.n, .int .i64 b.d]] W fun e w' => e = .returned (.agg #[.int .i64 m.n, .int .i64 m.d]) ∧ But r W.heap.size W w' ∧ flag r (g || !mulK a b) w' := fun r g W h => by rw [hm]; exact rprod a b r g W h
  refine ⟨0, a, b, hfQ m, decide (0 ≤ m.n) && decide (cmpF m.n m.d 1 1 ≤ 0), Or.inl ⟨rfl, by unfold cavK; rw [hc, hA, hB, ← ha, ← hb, hM, ← hm, hH]; rfl, ha, hb, by rw [← ha, ← hb, ← hm], by rw [← ha, ← hb, ← hm]⟩, fun w => ?_, fun w => ?_⟩
  · by_cases hn : 0 ≤ m.n
    · rw [show (decide (0 ≤ m.n) && decide (cmpF m.n m.d 1 1 ≤ 0)) = decide (cmpF m.n m.d 1 1 ≤ 0) by simp [hn]]
      exact scv_G1 L A B a b m (addQ m m) (hfQ m) (addK m m) true (cmpF m.n m.d 1 1) w hn (fun W => scmp m.n m.d 1 1 W) SC SA SB SM (fun W => sadd7_tt m m W) (fun W => sint 1 W) SO SL
    · rw [show (decide (0 ≤ m.n) && decide (cmpF m.n m.d 1 1 ≤ 0)) = false by simp [hn]]
      exact scv_G0 L A B a b m (addQ m m) (hfQ m) (addK m m) true 0 w hn (by simp [hn]) (by omega) SC SA SB SM (fun W => sadd7_tt m m W) (fun W => sint 1 W) SO SL
  · rw [hq]
    by_cases hn : 0 ≤ m.n
    · rw [show (decide (0 ≤ m.n) && decide (cmpF m.n m.d 1 1 ≤ 0)) = decide (cmpF m.n m.d 1 1 ≤ 0) by simp [hn]]
      exact icv_G1 L A B a b m (addQ m m) (subQ (addQ m m) one) true true (mulK a b) (addK m m) (subK (addQ m m) one) (cmpF m.n m.d 0 1) (cmpF m.n m.d 1 1) w FC TA TB TM (fun r g W h => rsum m m r g W h) TI (fun r g W h => rdiff (addQ m m) one r g W h) hfl ((cmp_nil mok).2 hn) (fun W => iint 0 W) (fun W => icmp m.n m.d 0 1 W) (fun W => icmp m.n m.d 1 1 W)
    · rw [show (decide (0 ≤ m.n) && decide (cmpF m.n m.d 1 1 ≤ 0)) = false by simp [hn]]
      have h0 : ¬ 0 ≤ cmpF m.n m.d 0 1 := fun h => hn ((cmp_nil mok).1 h)
      exact icv_G0 L A B a b m (addQ m m) (subQ (addQ m m) one) true true (mulK a b) (addK m m) (subK (addQ m m) one) (cmpF m.n m.d 0 1) (cmpF m.n m.d 1 1) w FC TA TB TM (fun r g W h => rsum m m r g W h) TI (fun r g W h => rdiff (addQ m m) one r g W h) hfl h0 (by simp [h0]) (fun W => iint 0 W) (fun W => icmp m.n m.d 0 1 W) (fun W => icmp m.n m.d 1 1 W)
/-- A trip's parts: none where a power can't be reckoned. -/
theorem trip_x (L A B : Q) (hc : cav L A B = true) : (poK A = true ∧ poK B = true ∧ ∀ w, TX 22 #[.agg #[.int .i64 L.n, .int .i64 L.d], .agg #[.int .i64 A.n, .int .i64 A.d], .agg #[.int .i64 B.n, .int .i64 B.d]] w 0 4 (trp L (poQ A) (poQ B))) ∨ (∃ F, ∀ w, TX 22 #[.agg #[.int .i64 L.n, .int .i64 L.d], .agg #[.int .i64 A.n, .int .i64 A.d], .agg #[.int .i64 B.n, .int .i64 B.d]] w 3 0 F) := by
  have SC : ∀ W, Calls Try.prog 60 #[.agg #[.int .i64 L.n, .int .i64 L.d], .agg #[.int .i64 A.n, .int .i64 A.d], .agg #[.int .i64 B.n, .int .i64 B.d]] W fun e w' => e = .returned (.bool true) ∧ Below W.heap.size W w' := fun W => by have := scav L A B W; rwa [hc] at this
  have SA := fun W => spow A W
  have SB := fun W => spow B W
  cases hA : poK A
  · rw [hA] at SA
    exact Or.inr ⟨_, fun w => str_A L A B (poQ A) (poQ B) w (poK B) SC SA SB⟩
  rw [hA] at SA
  cases hB : poK B
  · rw [hB] at SB
    exact Or.inr ⟨_, fun w => str_B L A B (poQ A) (poQ B) w SC SA SB⟩
  rw [hB] at SB
  exact Or.inl ⟨rfl, rfl, fun w => str_G L A B (poQ A) (poQ B) w SC SA SB⟩
end Go.Proofs.Ytkkajcdjkfbcgaa
