/- JoinChains in both packages: contracts. -/
import Derived.Test.YtelejihgechmgaaJg
namespace Go.Proofs.Ytelejihgechmgaa
open Go.RowKit
set_option linter.unusedVariables false
set_option linter.unusedSimpArgs false
set_option maxRecDepth 20000 in
set_option maxHeartbeats 3200000 in
theorem sJoin_any {w : World} {ga gb n m ca cb : Nat} {S T : Nat → Mt.Sp} (ha : SegV w ga 75 n 4 (fun i j => scell (S i) j)) (hb : SegV w gb 75 m 4 (fun i j => scell (T i) j)) (hn : n ≤ 1048576) (hm : m ≤ 1048576) :
    Calls Try.prog 25 #[.slice (some ⟨ga, 0, none⟩) n ca, .slice (some ⟨gb, 0, none⟩) m cb] w fun e w' => ∃ v, e = .returned v ∧ OwJ w.heap.size w'.heap.size w' v (n + m) (jn n S T) ∧ Below w.heap.size w w' := by
  have HA : ∀ W, Below w.heap.size w W → Hid (SegV W ga 75 n 4 (fun i j => scell (S i) j) ∧ SegV W gb 75 m 4 (fun i j => scell (T i) j)) := fun W h => ⟨ha.below h, hb.below h⟩
  clear ha hb
  go_enter Try.func25, Try.ntmps25
  obtain ⟨w1, hw1⟩ : ∃ W, W = w.alloc (.cells #[] 75) := ⟨_, rfl⟩
  have hO1 : Hid (w1.ownsRow w.heap.size 75 4 (.slice (some ⟨w.heap.size, 0, none⟩) 0 0) 0 [] ∧ Below w.heap.size w w1) := by
    rw [hw1]
    exact ⟨ownsV_empty _ _ _, (Below.refl _ _).alloc (Nat.le_refl _) _⟩
  have HW1 : Hid (w1 = w.alloc (.cells #[] 75)) := hw1
  clear hw1
  have hsz := hO1.out.2.size
  have hn2 : n ≤ 2097152 := by omega
  have hm2 : m ≤ 2097152 := by omega
  go_wp2_with (first | (at_builtin; rw [← HW1.out]; refine pushJ rfl (.tmp 5) (.tmp 6) rfl w1 w.heap.size _ 0 [] (by simp [Act.eval]) hO1.out.1 ga n ca S (by simp [Act.eval]) (HA w1 hO1.out.2).out.1 (by omega) hn2 hsz ?_; intro v2 w2 ho2 hb2 hk2; have hO2 : Hid (w2.ownsRow w.heap.size 75 4 v2 n (flat (fun i => spl (S i)) n) ∧ Below w.heap.size w w2) := ⟨by rw [Nat.zero_add, List.nil_append] at ho2; exact ho2, hO1.out.2.trans hb2⟩; have hsz2 := hO2.out.2.size; clear ho2 hb2 hk2) | (at_builtin; refine pushJ rfl (.tmp 7) (.tmp 8) rfl w2 w.heap.size _ n (flat (fun i => spl (S i)) n) (by simp [Act.eval]) hO2.out.1 gb m cb T (by simp [Act.eval]) (HA w2 hO2.out.2).out.2 hn2 hm2 hsz2 ?_; intro v3 w3 ho3 hb3 hk3; have hO3 : Hid (w3.ownsRow w.heap.size 75 4 v3 (n + m) (flat (fun i => spl (jn n S T i)) (n + m)) ∧ Below w.heap.size w w3) := ⟨by rw [flat_jn]; exact ho3, hO2.out.2.trans hb3⟩; clear ho3 hb3 hk3))
  go_wp2
  go_ret
  exact ⟨_, rfl, OwJ.of hO3.out.1 (Nat.le_refl _), hO3.out.2⟩
set_option maxRecDepth 20000 in
set_option maxHeartbeats 3200000 in
theorem iJoin_any {w : World} {ga gb n m ca cb : Nat} {S T : Nat → Mt.Sp} (ha : SegV w ga 75 n 4 (fun i j => scell (S i) j)) (hb : SegV w gb 75 m 4 (fun i j => scell (T i) j)) (hn : n ≤ 1048576) (hm : m ≤ 1048576) :
    Calls Try.prog 26 #[.slice (some ⟨ga, 0, none⟩) n ca, .slice (some ⟨gb, 0, none⟩) m cb] w fun e w' => ∃ v, e = .returned v ∧ OwJ w.heap.size w'.heap.size w' v (n + m) (jn n S T) ∧ Below w.heap.size w w' := by
  have HA : ∀ W, Below w.heap.size w W → Hid (SegV W ga 75 n 4 (fun i j => scell (S i) j) ∧ SegV W gb 75 m 4 (fun i j => scell (T i) j)) := fun W h => ⟨ha.below h, hb.below h⟩
  clear ha hb
  go_enter Try.func26, Try.ntmps26
  go_wp2_with fail
  obtain ⟨w1, hw1⟩ : ∃ W, W = w.alloc (.cells #[.slice (some ⟨ga, 0, none⟩) n ca, .slice (some ⟨gb, 0, none⟩) m cb] 28) := ⟨_, rfl⟩
  have hB : Blk w1 w.heap.size #[.slice (some ⟨ga, 0, none⟩) n ca, .slice (some ⟨gb, 0, none⟩) m cb] 28 := by rw [hw1]; exact Blk.new rfl
  have hO1 : Below w.heap.size w w1 := by rw [hw1]; exact (Below.refl _ _).alloc (Nat.le_refl _) _
  rw [← hw1]
  clear hw1
  have hsz := hO1.size
  have q := HA w1 hO1
  refine (iConcat_any (hB.cell (j := 0) rfl) (hB.cell (j := 1) rfl) q.out.1 q.out.2 hn hm).mono ?_
  rintro e w2 ⟨v, rfl, ho, hb2⟩
  have hO3 : Hid (w2.ownsRow w1.heap.size 75 4 v (n + m) (flat (fun i => spl (jn n S T i)) (n + m)) ∧ Below w.heap.size w w2) := ⟨ho, hO1.trans (hb2.mono hsz)⟩
  clear ho hb2 q hB hO1 HA
  go_wp2_with fail
  go_wp2
  go_ret
  refine ⟨_, rfl, ?_, hO3.out.2⟩
  have h := OwJ.of hO3.out.1 (Nat.le_refl _)
  rcases h with h | ⟨g, cap, e, h1, h2, h3⟩
  · exact Or.inl h
  · exact Or.inr ⟨g, cap, e, by omega, h2, h3⟩
end Go.Proofs.Ytelejihgechmgaa
