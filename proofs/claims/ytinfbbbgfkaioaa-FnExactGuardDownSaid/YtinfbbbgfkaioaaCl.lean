/- Copies of lists of lights: contracts. -/
import Derived.Test.YtinfbbbgfkaioaaLk
namespace Go.Proofs.Ytinfbbbgfkaioaa
open Go.RowKit
set_option linter.unusedVariables false
set_option linter.unusedSimpArgs false
/-- A light's cells as a list. -/
def lrow (x : Li) (pv : Value) : List Value := [.int .i64 x.id, .int .i64 x.fr, .int .i64 x.tt, pv, .int .i64 x.fi, .int .i64 x.wd]
theorem lrow_at (x : Li) (pv : Value) : ∀ j, j < 6 → (lrow x pv)[j]? = some (lcell x pv j)
  | 0, _ => rfl
  | 1, _ => rfl
  | 2, _ => rfl
  | 3, _ => rfl
  | 4, _ => rfl
  | 5, _ => rfl
  | n + 6, h => absurd h (by omega)
theorem lrow_one (x : Li) (ao : Option Addr) (n c : Nat) : ∀ u ∈ lrow x (.slice ao n c), u.oneCell' = true := by
  intro u hu
  simp only [lrow, List.mem_cons, List.not_mem_nil, or_false] at hu
  rcases hu with rfl | rfl | rfl | rfl | rfl | rfl <;> rfl
theorem app_lits {ops : Array Oper} {rest : List Oper} {o : Oper} {a : Act} {Q : Exit → Act → World → Prop} (hgd : o.guard = none) (s x : Operand)
    (ho : o.op = .call { callee := .builtin .append, args := #[s, x], argTypes := #[30, 30] }) (w : World) (L : Nat → Li) (PO : Nat → Option Addr) (PN PC : Nat → Nat) (n : Nat)
    (hs : a.eval s = .slice (some ⟨w.heap.size, 0, none⟩) 0 0) (b off c : Nat) (hx : a.eval x = .slice (some ⟨b, off, none⟩) n c) (hc : ∀ i, i < n → ∀ j, j < 6 → w.cell? ⟨b, off + i * 6 + j, none⟩ = some (lcell (L i) (.slice (PO i) (PN i) (PC i)) j)) (hn : n ≤ 2000000)
    (h : ∀ g cap w', n ≤ cap → w.heap.size ≤ g → SegV w' g 80 n 6 (fun i j => lcell (L i) (.slice (PO i) (PN i) (PC i)) j) → Below w.heap.size w w' → wpList Try.prog ops Q rest (a.put o.dst (.slice (some ⟨g, 0, none⟩) n cap)) w') : wpList Try.prog ops Q (o :: rest) a (w.alloc (.cells #[] 80)) :=
  app_whole hgd s x 30 ho 80 (.agg #[.int .i64 0, .int .i64 0, .int .i64 0, .slice none 0 0, .int .i64 0, .int .i64 0]) 6 64 Try.underlying30 infoLi rfl (by decide) (by decide) w (fun i => lrow (L i) (.slice (PO i) (PN i) (PC i))) (fun _ => rfl) (fun i => lrow_one _ _ _ _) (fun i j => lcell (L i) (.slice (PO i) (PN i) (PC i)) j) n (fun i hi j hj => lrow_at _ _ j hj) hs b off c hx hc hn h
set_option maxRecDepth 20000 in
set_option maxHeartbeats 1600000 in
theorem cloneL_any {w : World} {ao : Option Addr} {n cap : Nat} {L : Nat → Li} (h : RdL w (.slice ao n cap) n L) (h0 : 0 < n) (hn : n ≤ 1048576) :
    Calls Try.prog 90 #[.slice ao n cap] w fun e w' => ∃ (g c : Nat) (PV : Nat → Value), e = .returned (.slice (some ⟨g, 0, none⟩) n c) ∧ n ≤ c ∧ w.heap.size ≤ g ∧ SegV w' g 80 n 6 (fun i j => lcell (L i) (PV i) j) ∧ (∀ i, i < n → RdRow w (PV i) (L i).np (L i).p) ∧ Below w.heap.size w w' := by
  obtain ⟨PV, h1, h2⟩ := h
  have hsh : ∀ i, ∃ q : Option Addr × Nat × Nat, i < n → PV i = .slice q.1 q.2.1 q.2.2 := fun i => by
    by_cases hi : i < n
    · obtain ⟨po, pc, e⟩ := (h2 i hi).shape
      exact ⟨⟨po, (L i).np, pc⟩, fun _ => e⟩
    · exact ⟨⟨none, 0, 0⟩, fun h => absurd h hi⟩
  obtain ⟨q, hq⟩ := Classical.axiomOfChoice hsh
  obtain ⟨b, off, rfl, -⟩ := h1.at h0
  have H : Hid (∀ i, i < n → ∀ j, j < 6 → w.cell? ⟨b, off + i * 6 + j, none⟩ = some (lcell (L i) (.slice (q i).1 (q i).2.1 (q i).2.2) j)) := by
    intro i hi j hj
    obtain ⟨b2, off2, e, hc⟩ := h1.at hi
    simp only [Option.some.injEq, Addr.mk.injEq] at e
    obtain ⟨rfl, rfl, _⟩ := e
    rw [← hq i hi]
    exact hc j hj
  have HR : Hid (∀ i, i < n → RdRow w (.slice (q i).1 (q i).2.1 (q i).2.2) (L i).np (L i).p) := fun i hi => by rw [← hq i hi]; exact h2 i hi
  clear h1 h2 hsh hq
  have q51 : ∀ (w : World), (binOp .eql 30 (.slice (some ⟨b, off, none⟩) n cap) (.slice none 0 0)).run Try.prog w = .ok (.bool false) w := fun w => run_eql_nil_slice w 30 80 (some ⟨b, off, none⟩) n cap 0 0 Try.underlying30
  go_enter Try.func90, Try.ntmps90
  go_wp2_with (first | (at_builtin; refine app_lits rfl (.tmp 5) (.tmp 6) rfl _ L (fun i => (q i).1) (fun i => (q i).2.1) (fun i => (q i).2.2) n rfl b off cap rfl H.out (by omega) ?_; intro g cp w1 hcp hg hsg hb1))
  have H1 : Hid (w.heap.size ≤ g ∧ SegV w1 g 80 n 6 (fun i j => lcell (L i) (.slice (q i).1 (q i).2.1 (q i).2.2) j) ∧ Below w.heap.size w w1) := ⟨hg, hsg, hb1⟩
  clear hg hsg hb1
  have HCP : Hid (n ≤ cp) := hcp
  clear hcp
  go_wp2
  go_ret
  exact ⟨g, cp, fun i => .slice (q i).1 (q i).2.1 (q i).2.2, rfl, HCP.out, H1.out.1, H1.out.2.1, HR.out, H1.out.2.2⟩
set_option maxRecDepth 20000 in
set_option maxHeartbeats 1600000 in
theorem copyL_any {w : World} {ao : Option Addr} {n cap : Nat} {L : Nat → Li} (h : RdL w (.slice ao n cap) n L) (h0 : 0 < n) (hf : LFew n L) (h1 : ∀ i, i < n → 0 < (L i).np) :
    Calls Try.prog 54 #[.slice ao n cap] w fun e w' => ∃ g c, e = .returned (.slice (some ⟨g, 0, none⟩) n c) ∧ n ≤ c ∧ OwLs w.heap.size w'.heap.size w' g n L ∧ Below w.heap.size w w' := by
  have H : Hid (RdL w (.slice ao n cap) n L) := h
  have HF : Hid (LFew n L ∧ ∀ i, i < n → 0 < (L i).np) := ⟨hf, h1⟩
  have hn : n ≤ 1048576 := hf.cn
  have hnI : (n : Int) ≤ 1048576 := by omega
  clear h hf h1
  go_enter Try.func54, Try.ntmps54
  go_wp2_with fail
  refine (cloneL_any H.out h0 hn).mono ?_
  rintro e Y ⟨G, C, PV, rfl, hC, hg, hsg, hrd, hbY⟩
  have HY : Hid (w.heap.size ≤ G ∧ SegV Y G 80 n 6 (fun i j => lcell (L i) (PV i) j) ∧ Below w.heap.size w Y) := ⟨hg, hsg, hbY⟩
  have HP : ∀ W, Below w.heap.size w W → Hid (∀ i, i < n → RdRow W (PV i) (L i).np (L i).p) := fun W hb i hi => (hrd i hi).later hb
  have HC : Hid (n ≤ C) := hC
  clear hg hsg hbY hrd H hC
  go_wp2_with fail
  go_loopw [9] (fun i wr => ∃ (k : Nat) (PB PC : Nat → Nat), k ≤ n ∧ i = .int .i64 k ∧ Hid (SegV wr G 80 n 6 (fun a j => lcell (L a) (if a < k then .slice (some ⟨PB a, 0, none⟩) (L a).np (PC a) else PV a) j) ∧ (∀ i, i < k → w.heap.size ≤ PB i ∧ PB i < wr.heap.size ∧ Seg wr (PB i) 2 0 (L i).np (fun q => .int .i64 ((L i).p q))) ∧ (∀ i j, i < k → j < k → PB i = PB j → i = j) ∧ Below w.heap.size w wr)) (fun i _ => n - (intOf i).toNat)
  case atStart => exact ⟨0, fun _ => 0, fun _ => 0, Nat.zero_le _, rfl, HY.out.2.1.congr (fun i _ j _ => by simp), fun i hi => absurd hi (Nat.not_lt_zero _), fun i j hi => absurd hi (Nat.not_lt_zero _), HY.out.2.2⟩
  case round =>
    obtain ⟨k, PB, PC, hk, rfl, HR⟩ := hrel
    by_cases hkn : k < n
    · have hp := (HP wr HR.out.2.2.2).out k hkn
      obtain ⟨po, pc, ep⟩ := hp.shape
      obtain ⟨m, hm⟩ : ∃ m, m = (L k).np := ⟨_, rfl⟩
      rw [← hm] at ep
      have a3 : wr.cell? ⟨G, k * 6 + 3, none⟩ = some (.slice po m pc) := by
        have := HR.out.1.cell hkn (show 3 < 6 by omega)
        simpa [lcell, ep] using this
      have HPk : Hid (RdRow wr (.slice po m pc) m (L k).p) := by rw [← ep, hm]; exact hp
      have HM : Hid (m = (L k).np) := hm
      have hm0 : 0 < m := by rw [hm]; exact HF.out.2 k hkn
      have hm1 : m ≤ 1048576 := by rw [hm]; exact HF.out.1.each hkn
      have hkI : (k : Int) < n := by omega
      clear hp ep hm HP
      go_wp2_with fail
      refine (clone_any HPk.out hm0 hm1).mono ?_
      rintro e w1 ⟨gp, cp, rfl, hg1, hsp, hb1⟩
      have HN : Hid (SegV w1 G 80 n 6 (fun a j => lcell (L a) (if a < k then .slice (some ⟨PB a, 0, none⟩) (L a).np (PC a) else PV a) j) ∧ Seg w1 gp 2 0 m (fun i => .int .i64 ((L k).p i)) ∧ Below wr.heap.size wr w1) := ⟨HR.out.1.below hb1, hsp, hb1⟩
      have e3 : w1.cell? ⟨G, k * 6 + 3, none⟩ = some (.slice po m pc) := kold hb1 a3
      have ef : ∀ j, w1.frozen? ⟨G, j, none⟩ = false := fun j => HN.out.1.frozen j
      have HG : Hid (wr.heap.size ≤ gp) := hg1
      have hwl := HN.out.1.lt
      clear hsp hb1 hg1 a3
      go_wp2
      go_roundw
      case rel =>
        obtain ⟨r1, r2, r3, r4⟩ := HR.out
        obtain ⟨n1, n2, n3⟩ := HN.out
        have q1 := HG.out
        have q2 := n2.lt
        have em := HM.out
        have hwr := r4.size
        have hlt := r1.lt
        have hgp : gp ≠ G := by omega
        have hGw := HY.out.1
        refine ⟨k + 1, fun i => if i = k then gp else PB i, fun i => if i = k then cp else PC i, by omega, by simp, ?_, ?_, ?_, ?_⟩
        · refine SegV.congr (SegV.set n1 hkn (show 3 < 6 by omega) (.slice (some ⟨gp, 0, none⟩) m cp)) fun i hi j hj => ?_
          by_cases e : i = k
          · subst e
            rw [em]
            match j, hj with
            | 0, _ => simp [lcell]
            | 1, _ => simp [lcell]
            | 2, _ => simp [lcell]
            | 3, _ => simp [lcell]
            | 4, _ => simp [lcell]
            | 5, _ => simp [lcell]
          · by_cases e2 : i < k
            · simp [e, e2, Nat.lt_succ_of_lt e2]
            · have : ¬ i < k + 1 := by omega
              simp [e, e2, this]
        · intro i hi
          by_cases e : i = k
          · subst e
            simp only [if_true]
            refine ⟨by omega, by simp; omega, ?_⟩
            rw [← em]
            exact n2.setOther (by exact hgp) _
          · obtain ⟨s1, s2, s3⟩ := r2 i (by omega)
            simp only [if_neg e]
            refine ⟨s1, by simp; have := n3.size; omega, ?_⟩
            have s4 : Seg w1 (PB i) 2 0 (L i).np (fun q => .int .i64 ((L i).p q)) := s3.of_block (n3.block _ s2)
            have hne : PB i ≠ G := fun e => by
              have := Seg.ne s3 (t' := 80) (b' := G) (off' := 0) (n' := 0) (g := fun _ => .int .i64 0) (by obtain ⟨c, hc, _⟩ := r1; exact ⟨c, hc, fun i hi => absurd hi (Nat.not_lt_zero _)⟩) (by decide)
              exact this e
            exact s4.setOther (by exact hne) _
        · intro i j hi hj e
          by_cases ei : i = k
          · by_cases ej : j = k
            · omega
            · simp only [if_pos ei, if_neg ej] at e
              have := (r2 j (by omega)).2.1
              omega
          · by_cases ej : j = k
            · simp only [if_neg ei, if_pos ej] at e
              have := (r2 i (by omega)).2.1
              omega
            · simp only [if_neg ei, if_neg ej] at e
              exact r3 i j (by omega) (by omega) e
        · exact (r4.trans (n3.mono hwr)).setCell (by exact hGw) _
      case measure => simp [intOf]; omega
    · obtain rfl : k = n := by omega
      have hO : Hid (OwLs w.heap.size wr.heap.size wr G k L ∧ Below w.heap.size w wr) := by
        obtain ⟨r1, r2, r3, r4⟩ := HR.out
        exact ⟨⟨PB, PC, HY.out.1, r1.lt, r1.congr fun a ha j _ => by simp [ha], r2, r3⟩, r4⟩
      clear HP
      go_wp2
      go_ret
      exact ⟨G, C, rfl, HC.out, hO.out.1, hO.out.2⟩
end Go.Proofs.Ytinfbbbgfkaioaa
