/- Cavities: both packages answer alike. -/
import Derived.Test.YtkkajcdjkfbcgaaCd
import Derived.Test.YtkkajcdjkfbcgaaCe
import Derived.Test.YtkkajcdjkfbcgaaCk
import Derived.Test.YtkkajcdjkfbcgaaCg
import Derived.Test.YtkkajcdjkfbcgaaCh
import Derived.Test.YtkkajcdjkfbcgaaCi
import Derived.Handy
namespace Go.Proofs.Ytkkajcdjkfbcgaa
open Go.RowKit
set_option linter.unusedVariables false
set_option linter.unusedSimpArgs false
theorem op_right' {a b c d n m : Int} (hm : m ≠ 0) (h : (opC a b c d n m == 0) = true) : rightB (opN a b c d n m) (opD a b c d n m) = true := by
  unfold opC at h
  unfold opN opD
  by_cases e : (rightB a b && rightB c d) = true
  · rw [if_pos e] at h
    rw [if_pos e, if_pos e]
    unfold resC at h
    unfold resN resD
    by_cases l : lowB n m = true
    · rw [if_pos l, if_pos l]
      have := low_fault n m hm
      rw [if_pos l] at this
      unfold fault at this
      by_cases q : rightB (Fm.rN n m) (Fm.rD n m) = true
      · exact q
      · rw [if_neg q] at this; omega
    · rw [if_neg l] at h; simp at h
  · rw [if_neg e] at h; simp at h
theorem den_ne {x y : Q} (hx : x.ok = true) (hy : y.ok = true) : x.d * y.d ≠ 0 := mul_ne (by have := (right_t hx).1; omega) (by have := (right_t hy).1; omega)
theorem add_right {x y : Q} (h : addK x y = true) : (addQ x y).ok = true := op_right' (den_ne (addK_ok h).1 (addK_ok h).2) h
theorem sub_right {x y : Q} (h : subK x y = true) : (subQ x y).ok = true := op_right' (den_ne (subK_ok h).1 (subK_ok h).2) h
theorem mul_right {x y : Q} (h : mulK x y = true) : (mulQ x y).ok = true := op_right' (den_ne (mulK_ok h).1 (mulK_ok h).2) h
set_option maxRecDepth 20000 in
set_option maxHeartbeats 1600000 in
theorem icv_1 (L A B : Q) (w : World) (hc : cav L A B = false) : Calls Try.prog 20 #[.agg #[.int .i64 L.n, .int .i64 L.d], .agg #[.int .i64 A.n, .int .i64 A.d], .agg #[.int .i64 B.n, .int .i64 B.d]] w fun e w' => e = .returned (.agg #[.int .i64 1, .int .i64 0, .int .i64 0, .int .i64 0, .int .i64 0, .int .i64 0, .int .i64 0, .bool false]) ∧ Below w.heap.size w w' := by
  go_enter Try.func20, Try.ntmps20
  go_wp2_with fail
  refine (icavf_no L A B _ hc).mono ?_
  rintro e w1 ⟨rfl, hb⟩
  have HO : Hid (Below w.heap.size w w1) := by refine box_step ?_ hb (by simp <;> omega); go_grown
  have X0 : Blk w1 (w.heap.size) #[.int .i64 L.n, .int .i64 L.d] 32 := Blk.old ((Blk.alloc (Blk.alloc (Blk.alloc (Blk.new (by simp)) _) _) _)) hb
  have K0 : Hid (w1.cell? ⟨w.heap.size, 0, none⟩ = some (.int .i64 L.n)) := X0.cell rfl
  have K1 : Hid (w1.cell? ⟨w.heap.size, 1, none⟩ = some (.int .i64 L.d)) := X0.cell rfl
  clear X0
  have X1 : Blk w1 (w.heap.size + 1) #[.int .i64 A.n, .int .i64 A.d] 32 := Blk.old ((Blk.alloc (Blk.alloc (Blk.new (by simp)) _) _)) hb
  have K2 : Hid (w1.cell? ⟨w.heap.size + 1, 0, none⟩ = some (.int .i64 A.n)) := X1.cell rfl
  have K3 : Hid (w1.cell? ⟨w.heap.size + 1, 1, none⟩ = some (.int .i64 A.d)) := X1.cell rfl
  clear X1
  have X2 : Blk w1 (w.heap.size + 1 + 1) #[.int .i64 B.n, .int .i64 B.d] 32 := Blk.old ((Blk.alloc (Blk.new (by simp)) _)) hb
  have K4 : Hid (w1.cell? ⟨w.heap.size + 1 + 1, 0, none⟩ = some (.int .i64 B.n)) := X2.cell rfl
  have K5 : Hid (w1.cell? ⟨w.heap.size + 1 + 1, 1, none⟩ = some (.int .i64 B.d)) := X2.cell rfl
  clear X2
  have RB : Hid (Blk w1 (w.heap.size + 1 + 1 + 1) #[.int .i64 0, .int .i64 0, .int .i64 0, .int .i64 0, .int .i64 0, .int .i64 0, .int .i64 0, .bool false] 36) := Blk.old (Blk.new (by simp)) hb
  clear hb
  have r0 := RB.out.cell (j := 0) rfl
  have r1 := RB.out.cell (j := 1) rfl
  have r2 := RB.out.cell (j := 2) rfl
  have r3 := RB.out.cell (j := 3) rfl
  have r4 := RB.out.cell (j := 4) rfl
  have r5 := RB.out.cell (j := 5) rfl
  have r6 := RB.out.cell (j := 6) rfl
  have r7 := RB.out.cell (j := 7) rfl
  have rf := RB.out.frozen
  go_wp2
  refine bodyPost_ret (v := .agg #[.int .i64 1, .int .i64 0, .int .i64 0, .int .i64 0, .int .i64 0, .int .i64 0, .int .i64 0, .bool false]) (by simp [results, Try.results20, go_sem, r0, r1, r2, r3, r4, r5, r6, r7, World.cell?_alloc_lt, RB.out.lt] <;> (repeat' (first | rfl | apply And.intro))) rfl ⟨rfl, ?_⟩
  have h := HO.out
  have hlt := RB.out.lt
  have hsz := h.size
  go_grown
theorem hf_k (m : Q) : hfK m = (addK m m && subK (addQ m m) one) := by
  unfold hfK leK aK
  rw [one_ok, subK_neg]
  cases addK m m <;> rfl
theorem hf_q {m : Q} (h : addK m m = true) : hfQ m = subQ (addQ m m) one := by
  unfold hfQ leQ aQ
  rw [one_ok, h, (sub_neg (addQ m m) one).2]
  rfl
theorem cmp_nil {m : Q} (h : m.ok = true) : (0 ≤ cmpF m.n m.d 0 1) ↔ 0 ≤ m.n := by
  unfold cmpF
  rw [show rightB m.n m.d = true from h, show rightB 0 1 = true by decide]
  simp
  split
  · rename_i h1; constructor <;> intro h2 <;> omega
  · rename_i h1
    split <;> constructor <;> intro h2 <;> omega
theorem cav_both (L A B : Q) : ∃ (c : Int) (a b f : Q) (st : Bool), (∀ w, Calls Try.prog 19 #[.agg #[.int .i64 L.n, .int .i64 L.d], .agg #[.int .i64 A.n, .int .i64 A.d], .agg #[.int .i64 B.n, .int .i64 B.d]] w fun e w' => e = .returned (.agg #[.int .i64 c, .int .i64 a.n, .int .i64 a.d, .int .i64 b.n, .int .i64 b.d, .int .i64 f.n, .int .i64 f.d, .bool st]) ∧ Below w.heap.size w w') ∧ (∀ w, Calls Try.prog 20 #[.agg #[.int .i64 L.n, .int .i64 L.d], .agg #[.int .i64 A.n, .int .i64 A.d], .agg #[.int .i64 B.n, .int .i64 B.d]] w fun e w' => e = .returned (.agg #[.int .i64 c, .int .i64 a.n, .int .i64 a.d, .int .i64 b.n, .int .i64 b.d, .int .i64 f.n, .int .i64 f.d, .bool st]) ∧ Below w.heap.size w w') := by
  cases hc : cav L A B
  · exact ⟨1, ⟨0, 0⟩, ⟨0, 0⟩, ⟨0, 0⟩, false, fun w => scv_1 L A B w hc, fun w => icv_1 L A B w hc⟩
  obtain ⟨okL, okA, okB, hp⟩ := cav_t hc
  have SC : ∀ W, Calls Try.prog 60 #[.agg #[.int .i64 L.n, .int .i64 L.d], .agg #[.int .i64 A.n, .int .i64 A.d], .agg #[.int .i64 B.n, .int .i64 B.d]] W fun e w' => e = .returned (.bool true) ∧ Below W.heap.size W w' := fun W => by have := scav L A B W; rwa [hc] at this
  have FC : ∀ W, Calls Try.prog 67 #[.agg #[.int .i64 L.n, .int .i64 L.d], .agg #[.int .i64 A.n, .int .i64 A.d], .agg #[.int .i64 B.n, .int .i64 B.d]] W fun e w' => e = .returned (.int .i64 0) ∧ Below W.heap.size W w' := fun W => icavf_yes L A B W hc
  have TI := fun W => iint 1 W
  have T3 := fun (r : Nat) (g : Bool) (W : World) (h : flag r g W) => rdiff (addQ (mulQ (sdQ L A) (sdQ L B)) (mulQ (sdQ L A) (sdQ L B))) one r g W h
  have bad : (((((false || !sdK L A) || !sdK L B) || !mulK (sdQ L A) (sdQ L B)) || !addK (mulQ (sdQ L A) (sdQ L B)) (mulQ (sdQ L A) (sdQ L B))) || !subK (addQ (mulQ (sdQ L A) (sdQ L B)) (mulQ (sdQ L A) (sdQ L B))) one) = true → ∀ w, Calls Try.prog 20 #[.agg #[.int .i64 L.n, .int .i64 L.d], .agg #[.int .i64 A.n, .int .i64 A.d], .agg #[.int .i64 B.n, .int .i64 B.d]] w fun e w' => e = .returned (.agg #[.int .i64 3, .int .i64 0, .int .i64 0, .int .i64 0, .int .i64 0, .int .i64 0, .int .i64 0, .bool false]) ∧ Below w.heap.size w w' := fun hfl w =>
    icv_3 L A B _ _ _ _ _ _ _ _ _ _ 0 0 w FC (fun r g W h => iterm L A r g W h okA) (fun r g W h => iterm L B r g W h okB) (fun r g W h => rprod _ _ r g W h) (fun r g W h => rsum _ _ r g W h) TI T3 hfl
  cases hA : sdK L A
  · refine ⟨3, ⟨0, 0⟩, ⟨0, 0⟩, ⟨0, 0⟩, false, fun w => ?_, fun w => bad (by rw [hA]; rfl) w⟩
    exact scv_A L A B (sdQ L A) (sdQ L B) zQ zQ zQ false false 0 w (sdK L B) SC (fun W => by have := sside L A W okL; rwa [hA] at this) (fun W => sside L B W okL)
  cases hB : sdK L B
  · refine ⟨3, ⟨0, 0⟩, ⟨0, 0⟩, ⟨0, 0⟩, false, fun w => ?_, fun w => bad (by rw [hA, hB]; rfl) w⟩
    exact scv_B L A B (sdQ L A) (sdQ L B) zQ zQ zQ false false 0 w SC (fun W => by have := sside L A W okL; rwa [hA] at this) (fun W => by have := sside L B W okL; rwa [hB] at this)
  have SA : ∀ W, Calls Try.prog 61 #[.agg #[.int .i64 L.n, .int .i64 L.d], .agg #[.int .i64 A.n, .int .i64 A.d]] W fun e w' => e = .returned (.agg #[.bool true, .int .i64 (sdQ L A).n, .int .i64 (sdQ L A).d]) ∧ Below W.heap.size W w' := fun W => by have := sside L A W okL; rwa [hA] at this
  have SB : ∀ W, Calls Try.prog 61 #[.agg #[.int .i64 L.n, .int .i64 L.d], .agg #[.int .i64 B.n, .int .i64 B.d]] W fun e w' => e = .returned (.agg #[.bool true, .int .i64 (sdQ L B).n, .int .i64 (sdQ L B).d]) ∧ Below W.heap.size W w' := fun W => by have := sside L B W okL; rwa [hB] at this
  obtain ⟨a, ha⟩ : ∃ a, a = sdQ L A := ⟨_, rfl⟩
  obtain ⟨b, hb⟩ : ∃ b, b = sdQ L B := ⟨_, rfl⟩
  have TA := fun (r : Nat) (g : Bool) (W : World) (h : flag r g W) => iterm L A r g W h okA
  have TB := fun (r : Nat) (g : Bool) (W : World) (h : flag r g W) => iterm L B r g W h okB
  rw [hA] at TA
  rw [hB] at TB
  rw [hA, hB] at bad
  rw [← ha, ← hb] at bad
  rw [← ha] at SA TA
  rw [← hb] at SB TB
  have SO : ∀ W, Calls Try.prog 65 #[.agg #[.int .i64 1, .int .i64 1]] W fun e w' => e = .returned (.agg #[.bool true, .int .i64 1, .int .i64 1]) ∧ Below W.heap.size W w' := fun W => sof one W
  cases hM : mulK a b
  · refine ⟨3, ⟨0, 0⟩, ⟨0, 0⟩, ⟨0, 0⟩, false, fun w => ?_, fun w => bad (by rw [hM]; rfl) w⟩
    exact scv_M L A B a b (mulQ a b) ⟨0, 0⟩ (leQ false ⟨0, 0⟩ one.ok one) false (leK false ⟨0, 0⟩ one.ok one) 0 w SC SA SB (fun W => by have := smul7 a b W; rwa [hM] at this) (fun W => sadd7_f _ _ false W) (fun W => sint 1 W) SO (fun W => sless false ⟨0, 0⟩ one.ok one W (by decide) (by decide))
  have SM : ∀ W, Calls Try.prog 62 #[.agg #[.int .i64 a.n, .int .i64 a.d], .agg #[.int .i64 b.n, .int .i64 b.d]] W fun e w' => e = .returned (.agg #[.bool true, .int .i64 (mulQ a b).n, .int .i64 (mulQ a b).d]) ∧ Below W.heap.size W w' := fun W => by have := smul7 a b W; rwa [hM] at this
  have mok := mul_right hM
  obtain ⟨m, hm⟩ : ∃ m, m = mulQ a b := ⟨_, rfl⟩
  rw [← hm] at SM mok bad
  have SL : ∀ W, Calls Try.prog 63 #[.agg #[.bool (addK m m), .int .i64 (addQ m m).n, .int .i64 (addQ m m).d], .agg #[.bool true, .int .i64 1, .int .i64 1]] W fun e w' => e = .returned (.agg #[.bool (hfK m), .int .i64 (hfQ m).n, .int .i64 (hfQ m).d]) ∧ Below W.heap.size W w' := fun W => sless (addK m m) (addQ m m) one.ok one W (by decide) (by decide)
  cases hH : hfK m
  · refine ⟨3, ⟨0, 0⟩, ⟨0, 0⟩, ⟨0, 0⟩, false, fun w => ?_, fun w => bad ?_ w⟩
    · exact scv_H L A B a b m (addQ m m) (hfQ m) (addK m m) false 0 w SC SA SB SM (fun W => sadd7_tt m m W) (fun W => sint 1 W) SO (by rw [hH] at SL; exact SL)
    · rw [hf_k] at hH
      cases h1 : addK m m
      · simp
      · rw [h1] at hH; simp at hH; rw [hH]; simp
  have h12 := hH
  rw [hf_k] at h12
  simp only [Bool.and_eq_true] at h12
  have hq := hf_q h12.1
  rw [hH] at SL
  have hfl : (((((false || !true) || !true) || !mulK a b) || !addK m m) || !subK (addQ m m) one) = false := by rw [hM, h12.1, h12.2]; rfl
  have TM : ∀ (r : Nat) (g : Bool) (W : World), flag r g W → Calls Try.prog 69 #[.pointer (some ⟨r, 0, none⟩), .agg #[.int .i64 a.n, .int .i64 a.d], .agg #[.int .i64 b.n, .int .i64 b.d]] W fun e w' => e = .returned (.agg #[.int .i64 m.n, .int .i64 m.d]) ∧ But r W.heap.size W w' ∧ flag r (g || !mulK a b) w' := fun r g W h => by rw [hm]; exact rprod a b r g W h
  refine ⟨0, a, b, hfQ m, decide (0 ≤ m.n) && decide (cmpF m.n m.d 1 1 ≤ 0), fun w => ?_, fun w => ?_⟩
  · by_cases hn : 0 ≤ m.n
    · rw [show (decide (0 ≤ m.n) && decide (cmpF m.n m.d 1 1 ≤ 0)) = decide (cmpF m.n m.d 1 1 ≤ 0) by simp [hn]]
      exact scv_G1 L A B a b m (addQ m m) (hfQ m) (addK m m) true (cmpF m.n m.d 1 1) w hn (fun W => scmp m.n m.d 1 1 W) SC SA SB SM (fun W => sadd7_tt m m W) (fun W => sint 1 W) SO SL
    · rw [show (decide (0 ≤ m.n) && decide (cmpF m.n m.d 1 1 ≤ 0)) = false by simp [hn]]
      exact scv_G0 L A B a b m (addQ m m) (hfQ m) (addK m m) true 0 w hn (by simp [hn]) (by omega) SC SA SB SM (fun W => sadd7_tt m m W) (fun W => sint 1 W) SO SL
  · rw [hq]
    by_cases hn : 0 ≤ m.n
    · rw [show (decide (0 ≤ m.n) && decide (cmpF m.n m.d 1 1 ≤ 0)) = decide (cmpF m.n m.d 1 1 ≤ 0) by simp [hn]]
      exact icv_G1 L A B a b m (addQ m m) (subQ (addQ m m) one) true true (mulK a b) (addK m m) (subK (addQ m m) one) (cmpF m.n m.d 0 1) (cmpF m.n m.d 1 1) w FC TA TB TM (fun r g W h => rsum m m r g W h) TI (fun r g W h => rdiff (addQ m m) one r g W h) hfl ((cmp_nil mok).2 hn) (fun W => iint 0 W) (fun W => icmp m.n m.d 0 1 W) (fun W => icmp m.n m.d 1 1 W)
    · rw [show (decide (0 ≤ m.n) && decide (cmpF m.n m.d 1 1 ≤ 0)) = false by simp [hn]]
      have h0 : ¬ 0 ≤ cmpF m.n m.d 0 1 := fun h => hn ((cmp_nil mok).1 h)
      exact icv_G0 L A B a b m (addQ m m) (subQ (addQ m m) one) true true (mulK a b) (addK m m) (subK (addQ m m) one) (cmpF m.n m.d 0 1) (cmpF m.n m.d 1 1) w FC TA TB TM (fun r g W h => rsum m m r g W h) TI (fun r g W h => rdiff (addQ m m) one r g W h) hfl h0 (by simp [h0]) (fun W => iint 0 W) (fun W => icmp m.n m.d 0 1 W) (fun W => icmp m.n m.d 1 1 W)
end Go.Proofs.Ytkkajcdjkfbcgaa
