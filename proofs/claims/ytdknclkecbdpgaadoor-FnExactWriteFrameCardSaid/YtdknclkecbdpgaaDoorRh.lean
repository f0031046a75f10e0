/- Frames read, of the specification. -/
import Derived.Test.YtdknclkecbdpgaaDoorRg
namespace Go.Proofs.YtdknclkecbdpgaaDoor
open Go.RowKit
set_option linter.unusedVariables false
set_option linter.unusedSimpArgs false
theorem step_app {ops : Array Oper} {o : Oper} {a : Act} {K : Act → World → Prop} {Q : Exit → Act → World → Prop} {E : Prop} (hgd : o.guard = none) (s x : Operand)
    (ho : o.op = .call { callee := .builtin .append, args := #[s, x], argTypes := #[22, 22] }) (w : World) (k : Nat) (G : Nat → Int)
    (base : Nat) (v : Value) (n : Nat) (xs : List Value) (hs : a.eval s = v) (hown : w.ownsRow base 5 1 v n xs) (b off c : Nat) (hx : a.eval x = .slice (some ⟨b, off, none⟩) k c) (hc : ∀ i, i < k → w.cell? ⟨b, off + i, none⟩ = some (.int .u8 (G i))) (hk : k ≤ 1000000) (hn : n ≤ 1000000000) (hbase : base ≤ w.heap.size)
    (h : ∀ v' w', w'.ownsRow base 5 1 v' (n + k) (xs ++ vl (cF G) k) → w.grownBy w' v.ownBlock → K (a.put o.dst v') w') : if Region.wanted o (yielded ops a.tmps) = true then Oper.wp Tryd.prog o a w K Q else E := by
  have hw : Region.wanted o (yielded ops a.tmps) = true := by simp [Region.wanted, hgd]
  rw [if_pos hw]
  obtain ⟨i, h1, h2, h3, h4⟩ := info_parts info5
  refine wp_append_own _ s x 22 ho base 5 i (.int .u8 0) 1 1 Tryd.underlying22 h1 h2 h3 h4 rfl (by decide) v n xs hs hown ⟨b, off, none⟩ k c (vl (cF G) k) hx (by rw [vl_len]; omega) ?_ ?_ ?_ ?_ ?_ fun v' w' a1 a2 a3 => h v' w' a1 a2
  · intro j y hj
    have hjk : j < k := by
      have := (List.getElem?_eq_some_iff.1 hj).1
      rwa [vl_len] at this
    rw [vl_at _ hjk] at hj
    have e0 : (⟨b, off, none⟩ : Addr).add j = ⟨b, off + j, none⟩ := by
      unfold Addr.add
      split
      · rename_i h; subst h; rfl
      · simp
    rw [e0, hc j hjk]
    exact hj
  · intro u hu
    unfold vl at hu
    obtain ⟨j, _, rfl⟩ := List.mem_map.1 hu
    rfl
  · unfold maxLen; omega
  · omega
  · omega
set_option maxRecDepth 20000 in
set_option maxHeartbeats 3200000 in
theorem sR0 {w : World} {b off n cap : Nat} {F : Nat → Int} (hc : ∀ i, i < n → w.cell? ⟨b, off + i, none⟩ = some (.int .u8 (F i))) (hF : By n F) (hcap : n ≤ cap) (hm : n ≤ 1000000000000) (h1 : 100000 < n) :
    Calls Tryd.prog 38 #[.slice (some ⟨b, off, none⟩) n cap] w fun e w' => e = .returned (.agg #[.int .i64 2, .int .i64 0, .int .i64 0, .slice none 0 0]) ∧ Below w.heap.size w w' := by
  have HC : Hid (∀ W, Below w.heap.size w W → ∀ i, i < n → W.cell? ⟨b, off + i, none⟩ = some (.int .u8 (F i))) := fun W hb i hi => (hb.cell (World.block_lt_of_cell? _ _ (hc i hi))).trans (hc i hi)
  have HF : Hid (By n F) := hF

  obtain ⟨y0, hw0⟩ : ∃ W, W = w.alloc (.cells #[.int .i64 0, .int .i64 0, .int .i64 0, .slice none 0 0] 57) := ⟨_, rfl⟩
  have HB : Hid (Blk y0 w.heap.size #[.int .i64 0, .int .i64 0, .int .i64 0, .slice none 0 0] 57 ∧ Below w.heap.size w y0) := by rw [hw0]; exact ⟨Blk.new rfl, (Below.refl _ _).alloc (Nat.le_refl _) _⟩
  have hd : decide ((100000 : Int) < n) = true := by simp; omega
  clear hc hF
  go_enter Tryd.func38, Tryd.ntmps38
  go_wp2_with fail
  rw [← hw0]
  refine Calls.mono (many_any _ _ _ _) ?_
  rintro e wa ⟨rfl, hwa⟩
  subst hwa
  rw [hd]
  clear hw0
  have c0 := HB.out.1.cell (j := 0) (v := .int .i64 0) rfl
  have f0 := HB.out.1.frozen 0
  have c1 := HB.out.1.cell (j := 1) (v := .int .i64 0) rfl
  have f1 := HB.out.1.frozen 1
  have c2 := HB.out.1.cell (j := 2) (v := .int .i64 0) rfl
  have f2 := HB.out.1.frozen 2
  have c3 := HB.out.1.cell (j := 3) (v := .slice none 0 0) rfl
  have f3 := HB.out.1.frozen 3
  go_wp2
  exact bodyPost_ret (v := .agg #[.int .i64 2, .int .i64 0, .int .i64 0, .slice none 0 0]) (by simp [results, Tryd.results38, go_sem, c0, c1, c2, c3]) rfl ⟨rfl, (((HB.out.2.setCell (by simp) _).setCell (by simp) _).setCell (by simp) _).setCell (by simp) _⟩
set_option maxRecDepth 20000 in
set_option maxHeartbeats 3200000 in
theorem sR1 {w : World} {b off n cap : Nat} {F : Nat → Int} (hc : ∀ i, i < n → w.cell? ⟨b, off + i, none⟩ = some (.int .u8 (F i))) (hF : By n F) (hcap : n ≤ cap) (hm : n ≤ 1000000000000) (h1 : n ≤ 100000) (h2 : n < 7) :
    Calls Tryd.prog 38 #[.slice (some ⟨b, off, none⟩) n cap] w fun e w' => e = .returned (.agg #[.int .i64 5, .int .i64 0, .int .i64 0, .slice none 0 0]) ∧ Below w.heap.size w w' := by
  have HC : Hid (∀ W, Below w.heap.size w W → ∀ i, i < n → W.cell? ⟨b, off + i, none⟩ = some (.int .u8 (F i))) := fun W hb i hi => (hb.cell (World.block_lt_of_cell? _ _ (hc i hi))).trans (hc i hi)
  have HF : Hid (By n F) := hF

  obtain ⟨y0, hw0⟩ : ∃ W, W = w.alloc (.cells #[.int .i64 0, .int .i64 0, .int .i64 0, .slice none 0 0] 57) := ⟨_, rfl⟩
  have HB : Hid (Blk y0 w.heap.size #[.int .i64 0, .int .i64 0, .int .i64 0, .slice none 0 0] 57 ∧ Below w.heap.size w y0) := by rw [hw0]; exact ⟨Blk.new rfl, (Below.refl _ _).alloc (Nat.le_refl _) _⟩
  have hd : decide ((100000 : Int) < n) = false := by simp; omega
  have h2' : (n : Int) < 7 := by omega
  clear hc hF
  go_enter Tryd.func38, Tryd.ntmps38
  go_wp2_with fail
  rw [← hw0]
  refine Calls.mono (many_any _ _ _ _) ?_
  rintro e wa ⟨rfl, hwa⟩
  subst hwa
  rw [hd]
  clear hw0
  have c0 := HB.out.1.cell (j := 0) (v := .int .i64 0) rfl
  have f0 := HB.out.1.frozen 0
  have c1 := HB.out.1.cell (j := 1) (v := .int .i64 0) rfl
  have f1 := HB.out.1.frozen 1
  have c2 := HB.out.1.cell (j := 2) (v := .int .i64 0) rfl
  have f2 := HB.out.1.frozen 2
  have c3 := HB.out.1.cell (j := 3) (v := .slice none 0 0) rfl
  have f3 := HB.out.1.frozen 3
  go_wp2
  exact bodyPost_ret (v := .agg #[.int .i64 5, .int .i64 0, .int .i64 0, .slice none 0 0]) (by simp [results, Tryd.results38, go_sem, c0, c1, c2, c3]) rfl ⟨rfl, (((HB.out.2.setCell (by simp) _).setCell (by simp) _).setCell (by simp) _).setCell (by simp) _⟩
set_option maxRecDepth 20000 in
set_option maxHeartbeats 3200000 in
theorem sR2 {w : World} {b off n cap : Nat} {F : Nat → Int} (hc : ∀ i, i < n → w.cell? ⟨b, off + i, none⟩ = some (.int .u8 (F i))) (hF : By n F) (hcap : n ≤ cap) (hm : n ≤ 1000000000000) (h1 : n ≤ 100000) (h2 : 7 ≤ n) (h3 : two F 0 ≠ 23205) :
    Calls Tryd.prog 38 #[.slice (some ⟨b, off, none⟩) n cap] w fun e w' => e = .returned (.agg #[.int .i64 5, .int .i64 0, .int .i64 0, .slice none 0 0]) ∧ Below w.heap.size w w' := by
  have HC : Hid (∀ W, Below w.heap.size w W → ∀ i, i < n → W.cell? ⟨b, off + i, none⟩ = some (.int .u8 (F i))) := fun W hb i hi => (hb.cell (World.block_lt_of_cell? _ _ (hc i hi))).trans (hc i hi)
  have HF : Hid (By n F) := hF

  obtain ⟨y0, hw0⟩ : ∃ W, W = w.alloc (.cells #[.int .i64 0, .int .i64 0, .int .i64 0, .slice none 0 0] 57) := ⟨_, rfl⟩
  have HB : Hid (Blk y0 w.heap.size #[.int .i64 0, .int .i64 0, .int .i64 0, .slice none 0 0] 57 ∧ Below w.heap.size w y0) := by rw [hw0]; exact ⟨Blk.new rfl, (Below.refl _ _).alloc (Nat.le_refl _) _⟩
  have hd : decide ((100000 : Int) < n) = false := by simp; omega
  have h2' : ¬ (n : Int) < 7 := by omega
  have HT0 : Hid (∀ W, Below w.heap.size w W → Calls Tryd.prog 96 #[.slice (some ⟨b, off, none⟩) n cap, .int .i64 0] W fun e w' => e = .returned (.int .i64 (two F 0)) ∧ ∃ q, w' = W.drewN q) := fun W hb => sTwo_any (a := 0) (HC.out W hb) HF.out (by omega) h1
  obtain ⟨t0, ht0⟩ : ∃ t, t = two F 0 := ⟨_, rfl⟩
  rw [← ht0] at h3 HT0
  have h3' : (t0 != 23205) = true := by simp [h3]
  clear ht0
  clear hc hF
  go_enter Tryd.func38, Tryd.ntmps38
  go_wp2_with fail
  rw [← hw0]
  refine Calls.mono (many_any _ _ _ _) ?_
  rintro e wa ⟨rfl, hwa⟩
  subst hwa
  rw [hd]
  clear hw0
  go_wp2_with fail
  refine Calls.mono (HT0.out _ HB.out.2) ?_
  rintro e z1 ⟨rfl, q, hq⟩
  have hbb : Below wa.heap.size wa z1 := by rw [hq]; exact below_drewN (Below.refl _ _) q
  replace HB : Hid (Blk z1 w.heap.size #[.int .i64 0, .int .i64 0, .int .i64 0, .slice none 0 0] 57 ∧ Below w.heap.size w z1) := ⟨HB.out.1.later hbb, HB.out.2.trans (hbb.mono HB.out.2.size)⟩
  clear hbb
  clear hq
  have c0 := HB.out.1.cell (j := 0) (v := .int .i64 0) rfl
  have f0 := HB.out.1.frozen 0
  have c1 := HB.out.1.cell (j := 1) (v := .int .i64 0) rfl
  have f1 := HB.out.1.frozen 1
  have c2 := HB.out.1.cell (j := 2) (v := .int .i64 0) rfl
  have f2 := HB.out.1.frozen 2
  have c3 := HB.out.1.cell (j := 3) (v := .slice none 0 0) rfl
  have f3 := HB.out.1.frozen 3
  go_wp2
  exact bodyPost_ret (v := .agg #[.int .i64 5, .int .i64 0, .int .i64 0, .slice none 0 0]) (by simp [results, Tryd.results38, go_sem, c0, c1, c2, c3]) rfl ⟨rfl, (((HB.out.2.setCell (by simp) _).setCell (by simp) _).setCell (by simp) _).setCell (by simp) _⟩
set_option maxRecDepth 20000 in
set_option maxHeartbeats 3200000 in
theorem sR3 {w : World} {b off n cap : Nat} {F : Nat → Int} (hc : ∀ i, i < n → w.cell? ⟨b, off + i, none⟩ = some (.int .u8 (F i))) (hF : By n F) (hcap : n ≤ cap) (hm : n ≤ 1000000000000) (h1 : n ≤ 100000) (h2 : 7 ≤ n) (h3 : two F 0 = 23205) {l : Int} (hl : two F 3 = l) (h4 : 1000 < l) :
    Calls Tryd.prog 38 #[.slice (some ⟨b, off, none⟩) n cap] w fun e w' => e = .returned (.agg #[.int .i64 5, .int .i64 0, .int .i64 0, .slice none 0 0]) ∧ Below w.heap.size w w' := by
  have HC : Hid (∀ W, Below w.heap.size w W → ∀ i, i < n → W.cell? ⟨b, off + i, none⟩ = some (.int .u8 (F i))) := fun W hb i hi => (hb.cell (World.block_lt_of_cell? _ _ (hc i hi))).trans (hc i hi)
  have HF : Hid (By n F) := hF

  obtain ⟨y0, hw0⟩ : ∃ W, W = w.alloc (.cells #[.int .i64 0, .int .i64 0, .int .i64 0, .slice none 0 0] 57) := ⟨_, rfl⟩
  have HB : Hid (Blk y0 w.heap.size #[.int .i64 0, .int .i64 0, .int .i64 0, .slice none 0 0] 57 ∧ Below w.heap.size w y0) := by rw [hw0]; exact ⟨Blk.new rfl, (Below.refl _ _).alloc (Nat.le_refl _) _⟩
  have hd : decide ((100000 : Int) < n) = false := by simp; omega
  have h2' : ¬ (n : Int) < 7 := by omega
  have HT0 : Hid (∀ W, Below w.heap.size w W → Calls Tryd.prog 96 #[.slice (some ⟨b, off, none⟩) n cap, .int .i64 0] W fun e w' => e = .returned (.int .i64 (two F 0)) ∧ ∃ q, w' = W.drewN q) := fun W hb => sTwo_any (a := 0) (HC.out W hb) HF.out (by omega) h1
  rw [h3] at HT0
  have HT3 : Hid (∀ W, Below w.heap.size w W → Calls Tryd.prog 96 #[.slice (some ⟨b, off, none⟩) n cap, .int .i64 3] W fun e w' => e = .returned (.int .i64 (two F 3)) ∧ ∃ q, w' = W.drewN q) := fun W hb => sTwo_any (a := 3) (HC.out W hb) HF.out (by omega) h1
  rw [hl] at HT3
  have hl9 : l < 65536 := by rw [← hl]; exact (two_bd hF (by omega)).2
  clear hl
  clear hc hF
  go_enter Tryd.func38, Tryd.ntmps38
  go_wp2_with fail
  rw [← hw0]
  refine Calls.mono (many_any _ _ _ _) ?_
  rintro e wa ⟨rfl, hwa⟩
  subst hwa
  rw [hd]
  clear hw0
  go_wp2_with fail
  refine Calls.mono (HT0.out _ HB.out.2) ?_
  rintro e z1 ⟨rfl, q, hq⟩
  have hbb : Below wa.heap.size wa z1 := by rw [hq]; exact below_drewN (Below.refl _ _) q
  replace HB : Hid (Blk z1 w.heap.size #[.int .i64 0, .int .i64 0, .int .i64 0, .slice none 0 0] 57 ∧ Below w.heap.size w z1) := ⟨HB.out.1.later hbb, HB.out.2.trans (hbb.mono HB.out.2.size)⟩
  clear hbb
  clear hq
  go_wp2_with fail
  refine Calls.mono (HT3.out _ HB.out.2) ?_
  rintro e z2 ⟨rfl, q, hq⟩
  have hbb : Below z1.heap.size z1 z2 := by rw [hq]; exact below_drewN (Below.refl _ _) q
  replace HB : Hid (Blk z2 w.heap.size #[.int .i64 0, .int .i64 0, .int .i64 0, .slice none 0 0] 57 ∧ Below w.heap.size w z2) := ⟨HB.out.1.later hbb, HB.out.2.trans (hbb.mono HB.out.2.size)⟩
  clear hbb
  clear hq
  have c0 := HB.out.1.cell (j := 0) (v := .int .i64 0) rfl
  have f0 := HB.out.1.frozen 0
  have c1 := HB.out.1.cell (j := 1) (v := .int .i64 0) rfl
  have f1 := HB.out.1.frozen 1
  have c2 := HB.out.1.cell (j := 2) (v := .int .i64 0) rfl
  have f2 := HB.out.1.frozen 2
  have c3 := HB.out.1.cell (j := 3) (v := .slice none 0 0) rfl
  have f3 := HB.out.1.frozen 3
  go_wp2
  exact bodyPost_ret (v := .agg #[.int .i64 5, .int .i64 0, .int .i64 0, .slice none 0 0]) (by simp [results, Tryd.results38, go_sem, c0, c1, c2, c3]) rfl ⟨rfl, (((HB.out.2.setCell (by simp) _).setCell (by simp) _).setCell (by simp) _).setCell (by simp) _⟩
set_option maxRecDepth 20000 in
set_option maxHeartbeats 3200000 in
theorem sR4 {w : World} {b off n cap : Nat} {F : Nat → Int} (hc : ∀ i, i < n → w.cell? ⟨b, off + i, none⟩ = some (.int .u8 (F i))) (hF : By n F) (hcap : n ≤ cap) (hm : n ≤ 1000000000000) (h1 : n ≤ 100000) (h2 : 7 ≤ n) (h3 : two F 0 = 23205) {l : Nat} (hl : two F 3 = l) (h4 : l ≤ 1000) (h5 : n < 7 + l) :
    Calls Tryd.prog 38 #[.slice (some ⟨b, off, none⟩) n cap] w fun e w' => e = .returned (.agg #[.int .i64 5, .int .i64 0, .int .i64 0, .slice none 0 0]) ∧ Below w.heap.size w w' := by
  have HC : Hid (∀ W, Below w.heap.size w W → ∀ i, i < n → W.cell? ⟨b, off + i, none⟩ = some (.int .u8 (F i))) := fun W hb i hi => (hb.cell (World.block_lt_of_cell? _ _ (hc i hi))).trans (hc i hi)
  have HF : Hid (By n F) := hF

  obtain ⟨y0, hw0⟩ : ∃ W, W = w.alloc (.cells #[.int .i64 0, .int .i64 0, .int .i64 0, .slice none 0 0] 57) := ⟨_, rfl⟩
  have HB : Hid (Blk y0 w.heap.size #[.int .i64 0, .int .i64 0, .int .i64 0, .slice none 0 0] 57 ∧ Below w.heap.size w y0) := by rw [hw0]; exact ⟨Blk.new rfl, (Below.refl _ _).alloc (Nat.le_refl _) _⟩
  have hd : decide ((100000 : Int) < n) = false := by simp; omega
  have h2' : ¬ (n : Int) < 7 := by omega
  have h4' : ¬ (1000 : Int) < l := by omega
  have h5' : (n : Int) < 7 + l := by omega
  have HT0 : Hid (∀ W, Below w.heap.size w W → Calls Tryd.prog 96 #[.slice (some ⟨b, off, none⟩) n cap, .int .i64 0] W fun e w' => e = .returned (.int .i64 (two F 0)) ∧ ∃ q, w' = W.drewN q) := fun W hb => sTwo_any (a := 0) (HC.out W hb) HF.out (by omega) h1
  rw [h3] at HT0
  have HT3 : Hid (∀ W, Below w.heap.size w W → Calls Tryd.prog 96 #[.slice (some ⟨b, off, none⟩) n cap, .int .i64 3] W fun e w' => e = .returned (.int .i64 (two F 3)) ∧ ∃ q, w' = W.drewN q) := fun W hb => sTwo_any (a := 3) (HC.out W hb) HF.out (by omega) h1
  rw [hl] at HT3
  clear hl
  clear hc hF
  go_enter Tryd.func38, Tryd.ntmps38
  go_wp2_with fail
  rw [← hw0]
  refine Calls.mono (many_any _ _ _ _) ?_
  rintro e wa ⟨rfl, hwa⟩
  subst hwa
  rw [hd]
  clear hw0
  go_wp2_with fail
  refine Calls.mono (HT0.out _ HB.out.2) ?_
  rintro e z1 ⟨rfl, q, hq⟩
  have hbb : Below wa.heap.size wa z1 := by rw [hq]; exact below_drewN (Below.refl _ _) q
  replace HB : Hid (Blk z1 w.heap.size #[.int .i64 0, .int .i64 0, .int .i64 0, .slice none 0 0] 57 ∧ Below w.heap.size w z1) := ⟨HB.out.1.later hbb, HB.out.2.trans (hbb.mono HB.out.2.size)⟩
  clear hbb
  clear hq
  go_wp2_with fail
  refine Calls.mono (HT3.out _ HB.out.2) ?_
  rintro e z2 ⟨rfl, q, hq⟩
  have hbb : Below z1.heap.size z1 z2 := by rw [hq]; exact below_drewN (Below.refl _ _) q
  replace HB : Hid (Blk z2 w.heap.size #[.int .i64 0, .int .i64 0, .int .i64 0, .slice none 0 0] 57 ∧ Below w.heap.size w z2) := ⟨HB.out.1.later hbb, HB.out.2.trans (hbb.mono HB.out.2.size)⟩
  clear hbb
  clear hq
  have c0 := HB.out.1.cell (j := 0) (v := .int .i64 0) rfl
  have f0 := HB.out.1.frozen 0
  have c1 := HB.out.1.cell (j := 1) (v := .int .i64 0) rfl
  have f1 := HB.out.1.frozen 1
  have c2 := HB.out.1.cell (j := 2) (v := .int .i64 0) rfl
  have f2 := HB.out.1.frozen 2
  have c3 := HB.out.1.cell (j := 3) (v := .slice none 0 0) rfl
  have f3 := HB.out.1.frozen 3
  go_wp2
  exact bodyPost_ret (v := .agg #[.int .i64 5, .int .i64 0, .int .i64 0, .slice none 0 0]) (by simp [results, Tryd.results38, go_sem, c0, c1, c2, c3]) rfl ⟨rfl, (((HB.out.2.setCell (by simp) _).setCell (by simp) _).setCell (by simp) _).setCell (by simp) _⟩
set_option maxRecDepth 20000 in
set_option maxHeartbeats 3200000 in
theorem sR5 {w : World} {b off n cap : Nat} {F : Nat → Int} (hc : ∀ i, i < n → w.cell? ⟨b, off + i, none⟩ = some (.int .u8 (F i))) (hF : By n F) (hcap : n ≤ cap) (hm : n ≤ 1000000000000) (h1 : n ≤ 100000) (h2 : 7 ≤ n) (h3 : two F 0 = 23205) {l : Nat} (hl : two F 3 = l) (h4 : l ≤ 1000) (h5 : 7 + l ≤ n) (h6 : cs (fun i => F (2 + i)) (3 + l) ≠ two F (5 + l)) :
    Calls Tryd.prog 38 #[.slice (some ⟨b, off, none⟩) n cap] w fun e w' => e = .returned (.agg #[.int .i64 1, .int .i64 0, .int .i64 0, .slice none 0 0]) ∧ Below w.heap.size w w' := by
  have HC : Hid (∀ W, Below w.heap.size w W → ∀ i, i < n → W.cell? ⟨b, off + i, none⟩ = some (.int .u8 (F i))) := fun W hb i hi => (hb.cell (World.block_lt_of_cell? _ _ (hc i hi))).trans (hc i hi)
  have HF : Hid (By n F) := hF

  obtain ⟨y0, hw0⟩ : ∃ W, W = w.alloc (.cells #[.int .i64 0, .int .i64 0, .int .i64 0, .slice none 0 0] 57) := ⟨_, rfl⟩
  have HB : Hid (Blk y0 w.heap.size #[.int .i64 0, .int .i64 0, .int .i64 0, .slice none 0 0] 57 ∧ Below w.heap.size w y0) := by rw [hw0]; exact ⟨Blk.new rfl, (Below.refl _ _).alloc (Nat.le_refl _) _⟩
  have hd : decide ((100000 : Int) < n) = false := by simp; omega
  have h2' : ¬ (n : Int) < 7 := by omega
  have h4' : ¬ (1000 : Int) < l := by omega
  have h5' : ¬ (n : Int) < 7 + l := by omega
  have HT0 : Hid (∀ W, Below w.heap.size w W → Calls Tryd.prog 96 #[.slice (some ⟨b, off, none⟩) n cap, .int .i64 0] W fun e w' => e = .returned (.int .i64 (two F 0)) ∧ ∃ q, w' = W.drewN q) := fun W hb => sTwo_any (a := 0) (HC.out W hb) HF.out (by omega) h1
  rw [h3] at HT0
  have HT3 : Hid (∀ W, Below w.heap.size w W → Calls Tryd.prog 96 #[.slice (some ⟨b, off, none⟩) n cap, .int .i64 3] W fun e w' => e = .returned (.int .i64 (two F 3)) ∧ ∃ q, w' = W.drewN q) := fun W hb => sTwo_any (a := 3) (HC.out W hb) HF.out (by omega) h1
  rw [hl] at HT3
  have HT5 : Hid (∀ W, Below w.heap.size w W → Calls Tryd.prog 96 #[.slice (some ⟨b, off, none⟩) n cap, .int .i64 (5 + (l : Int))] W fun e w' => e = .returned (.int .i64 (two F (5 + l))) ∧ ∃ q, w' = W.drewN q) := fun W hb => by have h9 := sTwo_any (a := 5 + l) (cap := cap) (HC.out W hb) HF.out (by omega) h1; rwa [show ((5 + l : Nat) : Int) = 5 + (l : Int) by omega] at h9
  have hcp : (5 : Int) + l ≤ cap := by omega
  have HSM : Hid (∀ W, Below w.heap.size w W → Calls Tryd.prog 25 #[.slice (some ⟨b, off + 2, none⟩) (5 + l - 2) (cap - 2)] W fun e w' => e = .returned (.int .i64 (cs (fun i => F (2 + i)) (3 + l))) ∧ Below W.heap.size W w') := fun W hb => by
    rw [show 5 + l - 2 = 3 + l by omega]
    have e9 : sumV (fun i => F (2 + i)) (3 + l) = cs (fun i => F (2 + i)) (3 + l) := by unfold sumV; rw [if_neg (by omega)]
    rw [← e9]
    exact (sSum_any (v := .slice (some ⟨b, off + 2, none⟩) (3 + l) (cap - 2)) (n := 3 + l) (F := fun i => F (2 + i)) (Or.inr ⟨b, off + 2, cap - 2, rfl, fun i hi => by rw [Nat.add_assoc]; exact HC.out W hb (2 + i) (by omega)⟩) (HF.out.from_ 2 (by omega)) (by omega)).mono fun _ _ ⟨x1, x2⟩ => ⟨x1, by rw [x2]; exact Below.refl _ _⟩
  obtain ⟨s, hs⟩ : ∃ s, s = cs (fun i => F (2 + i)) (3 + l) := ⟨_, rfl⟩
  obtain ⟨t, ht⟩ : ∃ t, t = two F (5 + l) := ⟨_, rfl⟩
  rw [← hs] at h6 HSM
  rw [← ht] at h6 HT5
  have h6' : (s != t) = true := by simp [h6]
  clear hl hs ht
  clear hc hF
  go_enter Tryd.func38, Tryd.ntmps38
  go_wp2_with fail
  rw [← hw0]
  refine Calls.mono (many_any _ _ _ _) ?_
  rintro e wa ⟨rfl, hwa⟩
  subst hwa
  rw [hd]
  clear hw0
  go_wp2_with fail
  refine Calls.mono (HT0.out _ HB.out.2) ?_
  rintro e z1 ⟨rfl, q, hq⟩
  have hbb : Below wa.heap.size wa z1 := by rw [hq]; exact below_drewN (Below.refl _ _) q
  replace HB : Hid (Blk z1 w.heap.size #[.int .i64 0, .int .i64 0, .int .i64 0, .slice none 0 0] 57 ∧ Below w.heap.size w z1) := ⟨HB.out.1.later hbb, HB.out.2.trans (hbb.mono HB.out.2.size)⟩
  clear hbb
  clear hq
  go_wp2_with fail
  refine Calls.mono (HT3.out _ HB.out.2) ?_
  rintro e z2 ⟨rfl, q, hq⟩
  have hbb : Below z1.heap.size z1 z2 := by rw [hq]; exact below_drewN (Below.refl _ _) q
  replace HB : Hid (Blk z2 w.heap.size #[.int .i64 0, .int .i64 0, .int .i64 0, .slice none 0 0] 57 ∧ Below w.heap.size w z2) := ⟨HB.out.1.later hbb, HB.out.2.trans (hbb.mono HB.out.2.size)⟩
  clear hbb
  clear hq
  go_wp2_with fail
  refine Calls.mono (HSM.out _ HB.out.2) ?_
  rintro e z3 ⟨rfl, b9⟩
  have hbb : Below z2.heap.size z2 z3 := b9
  replace HB : Hid (Blk z3 w.heap.size #[.int .i64 0, .int .i64 0, .int .i64 0, .slice none 0 0] 57 ∧ Below w.heap.size w z3) := ⟨HB.out.1.later hbb, HB.out.2.trans (hbb.mono HB.out.2.size)⟩
  clear hbb
  clear b9
  go_wp2_with fail
  refine Calls.mono (HT5.out _ HB.out.2) ?_
  rintro e z4 ⟨rfl, q, hq⟩
  have hbb : Below z3.heap.size z3 z4 := by rw [hq]; exact below_drewN (Below.refl _ _) q
  replace HB : Hid (Blk z4 w.heap.size #[.int .i64 0, .int .i64 0, .int .i64 0, .slice none 0 0] 57 ∧ Below w.heap.size w z4) := ⟨HB.out.1.later hbb, HB.out.2.trans (hbb.mono HB.out.2.size)⟩
  clear hbb
  clear hq
  have c0 := HB.out.1.cell (j := 0) (v := .int .i64 0) rfl
  have f0 := HB.out.1.frozen 0
  have c1 := HB.out.1.cell (j := 1) (v := .int .i64 0) rfl
  have f1 := HB.out.1.frozen 1
  have c2 := HB.out.1.cell (j := 2) (v := .int .i64 0) rfl
  have f2 := HB.out.1.frozen 2
  have c3 := HB.out.1.cell (j := 3) (v := .slice none 0 0) rfl
  have f3 := HB.out.1.frozen 3
  go_wp2
  exact bodyPost_ret (v := .agg #[.int .i64 1, .int .i64 0, .int .i64 0, .slice none 0 0]) (by simp [results, Tryd.results38, go_sem, c0, c1, c2, c3]) rfl ⟨rfl, (((HB.out.2.setCell (by simp) _).setCell (by simp) _).setCell (by simp) _).setCell (by simp) _⟩
set_option maxRecDepth 20000 in
set_option maxHeartbeats 3200000 in
theorem sR6 {w : World} {b off n cap : Nat} {F : Nat → Int} (hc : ∀ i, i < n → w.cell? ⟨b, off + i, none⟩ = some (.int .u8 (F i))) (hF : By n F) (hcap : n ≤ cap) (hm : n ≤ 1000000000000) (h1 : n ≤ 100000) (h2 : 7 ≤ n) (h3 : two F 0 = 23205) {l : Nat} (hl : two F 3 = l) (h4 : l ≤ 1000) (h5 : 7 + l ≤ n) (h6 : cs (fun i => F (2 + i)) (3 + l) = two F (5 + l)) :
    Calls Tryd.prog 38 #[.slice (some ⟨b, off, none⟩) n cap] w fun e w' => ∃ v, e = .returned (.agg #[.int .i64 0, .int .i64 (7 + (l : Int)), .int .i64 (F 2), v]) ∧ OwS 5 w.heap.size w'.heap.size w' v l (cF (fun i => F (5 + i))) ∧ Below w.heap.size w w' := by
  have HC : Hid (∀ W, Below w.heap.size w W → ∀ i, i < n → W.cell? ⟨b, off + i, none⟩ = some (.int .u8 (F i))) := fun W hb i hi => (hb.cell (World.block_lt_of_cell? _ _ (hc i hi))).trans (hc i hi)
  have HF : Hid (By n F) := hF

  obtain ⟨y0, hw0⟩ : ∃ W, W = w.alloc (.cells #[.int .i64 0, .int .i64 0, .int .i64 0, .slice none 0 0] 57) := ⟨_, rfl⟩
  have HB : Hid (Blk y0 w.heap.size #[.int .i64 0, .int .i64 0, .int .i64 0, .slice none 0 0] 57 ∧ Below w.heap.size w y0) := by rw [hw0]; exact ⟨Blk.new rfl, (Below.refl _ _).alloc (Nat.le_refl _) _⟩
  have hd : decide ((100000 : Int) < n) = false := by simp; omega
  have h2' : ¬ (n : Int) < 7 := by omega
  have h4' : ¬ (1000 : Int) < l := by omega
  have h5' : ¬ (n : Int) < 7 + l := by omega
  have HT0 : Hid (∀ W, Below w.heap.size w W → Calls Tryd.prog 96 #[.slice (some ⟨b, off, none⟩) n cap, .int .i64 0] W fun e w' => e = .returned (.int .i64 (two F 0)) ∧ ∃ q, w' = W.drewN q) := fun W hb => sTwo_any (a := 0) (HC.out W hb) HF.out (by omega) h1
  rw [h3] at HT0
  have HT3 : Hid (∀ W, Below w.heap.size w W → Calls Tryd.prog 96 #[.slice (some ⟨b, off, none⟩) n cap, .int .i64 3] W fun e w' => e = .returned (.int .i64 (two F 3)) ∧ ∃ q, w' = W.drewN q) := fun W hb => sTwo_any (a := 3) (HC.out W hb) HF.out (by omega) h1
  rw [hl] at HT3
  have HT5 : Hid (∀ W, Below w.heap.size w W → Calls Tryd.prog 96 #[.slice (some ⟨b, off, none⟩) n cap, .int .i64 (5 + (l : Int))] W fun e w' => e = .returned (.int .i64 (two F (5 + l))) ∧ ∃ q, w' = W.drewN q) := fun W hb => by have h9 := sTwo_any (a := 5 + l) (cap := cap) (HC.out W hb) HF.out (by omega) h1; rwa [show ((5 + l : Nat) : Int) = 5 + (l : Int) by omega] at h9
  have hcp : (5 : Int) + l ≤ cap := by omega
  have HSM : Hid (∀ W, Below w.heap.size w W → Calls Tryd.prog 25 #[.slice (some ⟨b, off + 2, none⟩) (5 + l - 2) (cap - 2)] W fun e w' => e = .returned (.int .i64 (cs (fun i => F (2 + i)) (3 + l))) ∧ Below W.heap.size W w') := fun W hb => by
    rw [show 5 + l - 2 = 3 + l by omega]
    have e9 : sumV (fun i => F (2 + i)) (3 + l) = cs (fun i => F (2 + i)) (3 + l) := by unfold sumV; rw [if_neg (by omega)]
    rw [← e9]
    exact (sSum_any (v := .slice (some ⟨b, off + 2, none⟩) (3 + l) (cap - 2)) (n := 3 + l) (F := fun i => F (2 + i)) (Or.inr ⟨b, off + 2, cap - 2, rfl, fun i hi => by rw [Nat.add_assoc]; exact HC.out W hb (2 + i) (by omega)⟩) (HF.out.from_ 2 (by omega)) (by omega)).mono fun _ _ ⟨x1, x2⟩ => ⟨x1, by rw [x2]; exact Below.refl _ _⟩
  rw [← h6] at HT5
  obtain ⟨s, hs⟩ : ∃ s, s = cs (fun i => F (2 + i)) (3 + l) := ⟨_, rfl⟩
  rw [← hs] at HSM HT5
  clear hl hs h6
  obtain ⟨kd, hkd⟩ : ∃ k, k = F 2 := ⟨_, rfl⟩
  rw [← hkd]
  have HKD : Hid (kd = F 2) := hkd
  clear hkd
  clear hc hF
  go_enter Tryd.func38, Tryd.ntmps38
  go_wp2_with fail
  rw [← hw0]
  refine Calls.mono (many_any _ _ _ _) ?_
  rintro e wa ⟨rfl, hwa⟩
  subst hwa
  rw [hd]
  clear hw0
  go_wp2_with fail
  refine Calls.mono (HT0.out _ HB.out.2) ?_
  rintro e z1 ⟨rfl, q, hq⟩
  have hbb : Below wa.heap.size wa z1 := by rw [hq]; exact below_drewN (Below.refl _ _) q
  replace HB : Hid (Blk z1 w.heap.size #[.int .i64 0, .int .i64 0, .int .i64 0, .slice none 0 0] 57 ∧ Below w.heap.size w z1) := ⟨HB.out.1.later hbb, HB.out.2.trans (hbb.mono HB.out.2.size)⟩
  clear hbb
  clear hq
  go_wp2_with fail
  refine Calls.mono (HT3.out _ HB.out.2) ?_
  rintro e z2 ⟨rfl, q, hq⟩
  have hbb : Below z1.heap.size z1 z2 := by rw [hq]; exact below_drewN (Below.refl _ _) q
  replace HB : Hid (Blk z2 w.heap.size #[.int .i64 0, .int .i64 0, .int .i64 0, .slice none 0 0] 57 ∧ Below w.heap.size w z2) := ⟨HB.out.1.later hbb, HB.out.2.trans (hbb.mono HB.out.2.size)⟩
  clear hbb
  clear hq
  go_wp2_with fail
  refine Calls.mono (HSM.out _ HB.out.2) ?_
  rintro e z3 ⟨rfl, b9⟩
  have hbb : Below z2.heap.size z2 z3 := b9
  replace HB : Hid (Blk z3 w.heap.size #[.int .i64 0, .int .i64 0, .int .i64 0, .slice none 0 0] 57 ∧ Below w.heap.size w z3) := ⟨HB.out.1.later hbb, HB.out.2.trans (hbb.mono HB.out.2.size)⟩
  clear hbb
  clear b9
  go_wp2_with fail
  refine Calls.mono (HT5.out _ HB.out.2) ?_
  rintro e z4 ⟨rfl, q, hq⟩
  have hbb : Below z3.heap.size z3 z4 := by rw [hq]; exact below_drewN (Below.refl _ _) q
  replace HB : Hid (Blk z4 w.heap.size #[.int .i64 0, .int .i64 0, .int .i64 0, .slice none 0 0] 57 ∧ Below w.heap.size w z4) := ⟨HB.out.1.later hbb, HB.out.2.trans (hbb.mono HB.out.2.size)⟩
  clear hbb
  clear hq
  have g2 := HC.out z4 HB.out.2 2 (by omega)
  obtain ⟨q0, q1⟩ := HF.out 2 (by omega)
  rw [← HKD.out] at g2 q0 q1
  have HL0 : Hid ((z4.drew.alloc (.cells #[] 5)).ownsRow z4.drew.heap.size 5 1 (.slice (some ⟨z4.heap.size, 0, none⟩) 0 0) 0 []) := owns_empty _ _ _
  have HC5 : Hid (∀ i, i < 5 + l - 5 → (z4.drew.alloc (.cells #[] 5)).cell? ⟨b, off + 5 + i, none⟩ = some (.int .u8 (F (5 + i)))) := fun i hi => caold (by rw [Nat.add_assoc]; exact HC.out _ HB.out.2 (5 + i) (by omega))
  have q2 : ∀ ob, (z4.alloc ob).cell? ⟨b, off + 2, none⟩ = some (.int .u8 kd) := fun ob => caold g2
  have u1 : IntKind.i64.wrap (7 + (l : Int)) = 7 + l := wr64' (by omega) (by omega)
  have u2 : IntKind.i64.wrap (5 + (l : Int)) = 5 + l := wr64' (by omega) (by omega)
  have u3 : (2 : Int) < n := by omega
  have u4 : (0 : Int) ≤ 5 + l := by omega
  have u5 : (5 : Int) ≤ 5 + l := by omega
  have u6 : ¬ cap = 5 := by omega
  have u7 : IntKind.i64.wrap kd = kd := wr64' (by omega) (by omega)
  go_wp2_with fail
  go_region_law (first | (refine step_app rfl (.tmp 45) (.tmp 49) rfl (z4.drew.alloc (.cells #[] 5)) (5 + l - 5) (fun i => F (5 + i)) z4.drew.heap.size (.slice (some ⟨z4.heap.size, 0, none⟩) 0 0) 0 _ (by simp [Act.eval, Act.put]) HL0.out b (off + 5) (cap - 5) (by simp [Act.eval, Act.put] <;> omega) HC5.out (by omega) (by omega) (by simp) ?_; intro v1 w3 own3 grow3; rw [show 0 + (5 + l - 5) = l by omega, show 5 + l - 5 = l by omega, List.nil_append] at own3; have b3 : Below z4.heap.size z4 w3 := (((Below.refl _ _).drew).alloc (Nat.le_refl _) _).grown grow3 (by simp) (fun k hk => (HL0.out.lt k hk).1); have H3 : Hid (OwS 5 z4.heap.size w3.heap.size w3 v1 l (cF (fun i => F (5 + i))) ∧ Blk w3 w.heap.size #[.int .i64 0, .int .i64 0, .int .i64 0, .slice none 0 0] 57 ∧ Below w.heap.size w w3 ∧ w.heap.size < z4.heap.size) := ⟨owned_vl own3, HB.out.1.later b3, HB.out.2.trans (b3.mono HB.out.2.size), HB.out.1.lt⟩; have g3 : w3.cell? ⟨b, off + 2, none⟩ = some (.int .u8 kd) := (b3.cell (World.block_lt_of_cell? _ _ g2)).trans g2; clear own3 grow3 b3; obtain ⟨ao2, cap2, rfl⟩ := H3.out.1.form; have c0 := H3.out.2.1.cell (j := 0) (v := .int .i64 0) rfl; have f0 := H3.out.2.1.frozen 0; have c1 := H3.out.2.1.cell (j := 1) (v := .int .i64 0) rfl; have f1 := H3.out.2.1.frozen 1; have c2 := H3.out.2.1.cell (j := 2) (v := .int .i64 0) rfl; have f2 := H3.out.2.1.frozen 2; have c3 := H3.out.2.1.cell (j := 3) (v := .slice none 0 0) rfl; have f3 := H3.out.2.1.frozen 3))
  all_goals
    go_wp2
    obtain ⟨a1, a2, a3, a4⟩ := H3.out
    refine bodyPost_ret (v := .agg #[.int .i64 0, .int .i64 (7 + (l : Int)), .int .i64 kd, .slice ao2 l cap2]) (by simp [results, Tryd.results38, go_sem, c0, c1, c2, c3]) rfl ⟨_, rfl, ?_, (((((a3.setCell (by simp) _).setCell (by simp) _).setCell (by simp) _).setCell (by simp) _))⟩
    rcases a1 with ⟨e1, e2⟩ | ⟨g, cp, e1, r1, r2, r3⟩
    · exact Or.inl ⟨e1, e2⟩
    · exact Or.inr ⟨g, cp, e1, by omega, by simpa using r2, (((r3.setOther (by simp; omega) _).setOther (by simp; omega) _).setOther (by simp; omega) _).setOther (by simp; omega) _⟩
end Go.Proofs.YtdknclkecbdpgaaDoor
