/- ReadFrame, of both packages: the answers in full. -/
import Derived.Test.YtdknclkecbdpgaaDoorRh
import Derived.Test.YtdknclkecbdpgaaDoorAn
namespace Go.Proofs.YtdknclkecbdpgaaDoor
open Go.RowKit
set_option linter.unusedVariables false
set_option linter.unusedSimpArgs false
/-- What is answered: a code, how many bytes, a kind, and bytes in memory of its own. -/
def FR (fn : FuncId) (args : Array Value) (w : World) (c u k : Int) (N : Nat) (f : Nat → Int) : Prop :=
  Calls Tryd.prog fn args w fun e w' => ∃ v, e = .returned (.agg #[.int .i64 c, .int .i64 u, .int .i64 k, v]) ∧ OwS 5 w.heap.size w'.heap.size w' v N (cF f) ∧ Below w.heap.size w w'
theorem FR.of_none {fn : FuncId} {args : Array Value} {w : World} {c : Int} {f : Nat → Int} (h : Calls Tryd.prog fn args w fun e w' => e = .returned (.agg #[.int .i64 c, .int .i64 0, .int .i64 0, .slice none 0 0]) ∧ Below w.heap.size w w') : FR fn args w c 0 0 0 f :=
  h.mono fun _ _ ⟨e, b⟩ => ⟨_, e, Or.inl ⟨rfl, rfl⟩, b⟩
set_option maxRecDepth 20000 in
set_option maxHeartbeats 3200000 in
theorem iRF_bad {w : World} {v : Value} {c : Int} (h0 : c ≠ 0) (hA : ∀ W, Below w.heap.size w W → Calls Tryd.prog 97 #[v] W fun e w' => e = .returned (.tuple #[zfr, .iface 128 (.agg #[.int .i64 c])]) ∧ Below W.heap.size W w') (hE : Et w) (f : Nat → Int) :
    FR 39 #[v] w c 0 0 0 f := by
  refine FR.of_none ?_
  have HA : Hid (∀ W, Below w.heap.size w W → Calls Tryd.prog 97 #[v] W fun e w' => e = .returned (.tuple #[zfr, .iface 128 (.agg #[.int .i64 c])]) ∧ Below W.heap.size W w') := hA
  have HE : Hid (Et w) := hE
  have HK : Hid (∀ W, Et W → Calls Tryd.prog 81 #[.iface 128 (.agg #[.int .i64 c])] W fun e w' => e = .returned (.int .i64 c) ∧ Below W.heap.size W w') := fun W hW => by have := code_any c W hW; rwa [er_c h0] at this
  have hcb : (c != 0) = true := by simp [h0]
  obtain ⟨w0, hw0⟩ : ∃ W, W = w.alloc (.cells #[.int .i64 0, .int .i64 0, .int .i64 0, .slice none 0 0] 57) := ⟨_, rfl⟩
  have H0 : Hid (Blk w0 w.heap.size #[.int .i64 0, .int .i64 0, .int .i64 0, .slice none 0 0] 57 ∧ Below w.heap.size w w0) := by rw [hw0]; exact ⟨Blk.new rfl, (Below.refl _ _).alloc (Nat.le_refl _) _⟩
  clear hA hE h0
  go_enter Tryd.func39, Tryd.ntmps39
  go_wp2_with fail
  rw [← hw0]
  clear hw0
  refine Calls.mono (HA.out _ H0.out.2) ?_
  rintro e w1 ⟨rfl, b1⟩
  obtain ⟨w2, hw2⟩ : ∃ W, W = w1.alloc (.cells #[.int .i64 0, .slice none 0 0] 49) := ⟨_, rfl⟩
  have H2 : Hid (Blk w2 w.heap.size #[.int .i64 0, .int .i64 0, .int .i64 0, .slice none 0 0] 57 ∧ Below w.heap.size w w2) := by rw [hw2]; exact ⟨(H0.out.1.later b1).alloc _, (H0.out.2.trans (b1.mono H0.out.2.size)).alloc (Nat.le_trans H0.out.2.size b1.size) _⟩
  clear b1 H0 HA
  go_wp2_with fail
  rw [← hw2]
  clear hw2
  refine Calls.mono (HK.out _ (HE.out.later H2.out.2)) ?_
  rintro e w3 ⟨rfl, b1⟩
  have H3 : Hid (Blk w3 w.heap.size #[.int .i64 0, .int .i64 0, .int .i64 0, .slice none 0 0] 57 ∧ Below w.heap.size w w3) := ⟨H2.out.1.later b1, H2.out.2.trans (b1.mono H2.out.2.size)⟩
  clear b1 H2 HK
  have c0 := H3.out.1.cell (j := 0) (v := .int .i64 0) rfl
  have f0 := H3.out.1.frozen 0
  have c1 := H3.out.1.cell (j := 1) (v := .int .i64 0) rfl
  have f1 := H3.out.1.frozen 1
  have c2 := H3.out.1.cell (j := 2) (v := .int .i64 0) rfl
  have f2 := H3.out.1.frozen 2
  have c3 := H3.out.1.cell (j := 3) (v := .slice none 0 0) rfl
  have f3 := H3.out.1.frozen 3
  go_wp2
  exact bodyPost_ret (v := .agg #[.int .i64 c, .int .i64 0, .int .i64 0, .slice none 0 0]) (by simp [results, Tryd.results39, go_sem, c0, c1, c2, c3]) rfl ⟨rfl, (((H3.out.2.setCell (by simp) _).setCell (by simp) _).setCell (by simp) _).setCell (by simp) _⟩
set_option maxRecDepth 20000 in
set_option maxHeartbeats 3200000 in
theorem iRF_ok {w : World} {v : Value} {kd : Int} {l : Nat} {f : Nat → Int} (hl : l ≤ 1000) (hA : ∀ W, Below w.heap.size w W → Calls Tryd.prog 97 #[v] W fun e w' => ∃ v', e = .returned (.tuple #[.agg #[.int .i64 kd, v'], .nilIface]) ∧ OwS 5 W.heap.size w'.heap.size w' v' l (cF f) ∧ Below W.heap.size W w') (hE : Et w) :
    FR 39 #[v] w 0 (7 + (l : Int)) kd l f := by
  unfold FR
  have HA : Hid (∀ W, Below w.heap.size w W → Calls Tryd.prog 97 #[v] W fun e w' => ∃ v', e = .returned (.tuple #[.agg #[.int .i64 kd, v'], .nilIface]) ∧ OwS 5 W.heap.size w'.heap.size w' v' l (cF f) ∧ Below W.heap.size W w') := hA
  have HE : Hid (Et w) := hE
  have HK : Hid (∀ W, Et W → Calls Tryd.prog 81 #[.nilIface] W fun e w' => e = .returned (.int .i64 0) ∧ Below W.heap.size W w') := fun W hW => code_any 0 W hW
  obtain ⟨w0, hw0⟩ : ∃ W, W = w.alloc (.cells #[.int .i64 0, .int .i64 0, .int .i64 0, .slice none 0 0] 57) := ⟨_, rfl⟩
  have H0 : Hid (Blk w0 w.heap.size #[.int .i64 0, .int .i64 0, .int .i64 0, .slice none 0 0] 57 ∧ Below w.heap.size w w0) := by rw [hw0]; exact ⟨Blk.new rfl, (Below.refl _ _).alloc (Nat.le_refl _) _⟩
  clear hA hE
  go_enter Tryd.func39, Tryd.ntmps39
  go_wp2_with fail
  rw [← hw0]
  clear hw0
  refine Calls.mono (HA.out _ H0.out.2) ?_
  rintro e w1 ⟨v1, rfl, ho, b1⟩
  obtain ⟨ao, cp, rfl⟩ := ho.form
  obtain ⟨w2, hw2⟩ : ∃ W, W = w1.alloc (.cells #[.int .i64 kd, .slice ao l cp] 49) := ⟨_, rfl⟩
  have hz : w.heap.size < w0.heap.size := H0.out.1.lt
  have b2 : Below w1.heap.size w1 w2 := by rw [hw2]; exact (Below.refl _ _).alloc (Nat.le_refl _) _
  have H2 : Hid (Blk w2 w.heap.size #[.int .i64 0, .int .i64 0, .int .i64 0, .slice none 0 0] 57 ∧ Below w.heap.size w w2 ∧ Blk w2 w1.heap.size #[.int .i64 kd, .slice ao l cp] 49 ∧ OwS 5 w0.heap.size w1.heap.size w2 (.slice ao l cp) l (cF f)) := ⟨(H0.out.1.later b1).later b2, (H0.out.2.trans (b1.mono H0.out.2.size)).trans (b2.mono (Nat.le_trans H0.out.2.size b1.size)), by rw [hw2]; exact Blk.new rfl, ho.later b2⟩
  have hz2 : w.heap.size < w1.heap.size := Nat.lt_of_lt_of_le hz b1.size
  clear b1 b2 H0 HA ho
  go_wp2_with fail
  rw [← hw2]
  clear hw2
  refine Calls.mono (HK.out _ (HE.out.later H2.out.2.1)) ?_
  rintro e w3 ⟨rfl, b1⟩
  have H3 : Hid (Blk w3 w.heap.size #[.int .i64 0, .int .i64 0, .int .i64 0, .slice none 0 0] 57 ∧ Below w.heap.size w w3 ∧ Blk w3 w1.heap.size #[.int .i64 kd, .slice ao l cp] 49 ∧ OwS 5 w0.heap.size w1.heap.size w3 (.slice ao l cp) l (cF f) ∧ w1.heap.size ≤ w3.heap.size) := ⟨H2.out.1.later b1, H2.out.2.1.trans (b1.mono H2.out.2.1.size), H2.out.2.2.1.later b1, H2.out.2.2.2.later b1, Nat.le_trans (Nat.le_of_lt H2.out.2.2.1.lt) b1.size⟩
  clear b1 H2 HK
  have c0 := H3.out.1.cell (j := 0) (v := .int .i64 0) rfl
  have f0 := H3.out.1.frozen 0
  have c1 := H3.out.1.cell (j := 1) (v := .int .i64 0) rfl
  have f1 := H3.out.1.frozen 1
  have c2 := H3.out.1.cell (j := 2) (v := .int .i64 0) rfl
  have f2 := H3.out.1.frozen 2
  have c3 := H3.out.1.cell (j := 3) (v := .slice none 0 0) rfl
  have f3 := H3.out.1.frozen 3
  have d0 := H3.out.2.2.1.cell (j := 0) (v := .int .i64 kd) rfl
  have d1 := H3.out.2.2.1.cell (j := 1) (v := .slice ao l cp) rfl
  have hne : ¬ w1.heap.size = w.heap.size := by omega
  have hne2 : ¬ w.heap.size = w1.heap.size := by omega
  go_wp2
  obtain ⟨q1, q2, q3, q4, q5⟩ := H3.out
  refine bodyPost_ret (v := .agg #[.int .i64 0, .int .i64 (7 + (l : Int)), .int .i64 kd, .slice ao l cp]) (by simp [results, Tryd.results39, go_sem, c0, c1, c2, c3]) rfl ⟨_, rfl, ?_, (((q2.setCell (by simp) _).setCell (by simp) _).setCell (by simp) _).setCell (by simp) _⟩
  rcases q4 with ⟨e1, e2⟩ | ⟨g, cq, e1, r1, r2, r3⟩
  · exact Or.inl ⟨e1, e2⟩
  · exact Or.inr ⟨g, cq, e1, by omega, by simp; omega, (((r3.setOther (by simp; omega) _).setOther (by simp; omega) _).setOther (by simp; omega) _).setOther (by simp; omega) _⟩
/-- Both packages read the same frame. -/
theorem rf_both (n : Nat) (F : Nat → Int) (hF : By n F) (hm : n ≤ 1000000000000) : ∃ (c u k : Int) (N : Nat) (f : Nat → Int), N ≤ 1000 ∧ (c = 0 → u = 7 + (N : Int) ∧ 7 + N ≤ n) ∧
    (∀ (W : World) (b off cap : Nat), n ≤ cap → (∀ i, i < n → W.cell? ⟨b, off + i, none⟩ = some (.int .u8 (F i))) → FR 38 #[.slice (some ⟨b, off, none⟩) n cap] W c u k N f) ∧
    (∀ (W : World) (b off cap : Nat), n ≤ cap → (∀ i, i < n → W.cell? ⟨b, off + i, none⟩ = some (.int .u8 (F i))) → Et W → FR 39 #[.slice (some ⟨b, off, none⟩) n cap] W c u k N f) := by
  have lat : ∀ (W : World) (b off : Nat), (∀ i, i < n → W.cell? ⟨b, off + i, none⟩ = some (.int .u8 (F i))) → ∀ X, Below W.heap.size W X → ∀ i, i < n → X.cell? ⟨b, off + i, none⟩ = some (.int .u8 (F i)) := fun W b off h X hb i hi => (hb.cell (World.block_lt_of_cell? _ _ (h i hi))).trans (h i hi)
  by_cases h1 : 100000 < n
  · exact ⟨2, 0, 0, 0, F, by omega, fun h => by omega, fun W b off cap hc h => FR.of_none (sR0 h hF hc hm h1), fun W b off cap hc h hE => iRF_bad (by decide) (fun X hX => iA0 (lat W b off h X hX) hF hc hm h1 (hE.later hX)) hE F⟩
  have n1 : n ≤ 100000 := by omega
  by_cases h2 : n < 7
  · exact ⟨5, 0, 0, 0, F, by omega, fun h => by omega, fun W b off cap hc h => FR.of_none (sR1 h hF hc hm n1 h2), fun W b off cap hc h hE => iRF_bad (by decide) (fun X hX => iA1 (lat W b off h X hX) hF hc hm n1 h2 (hE.later hX)) hE F⟩
  have n2 : 7 ≤ n := by omega
  by_cases h3 : two F 0 = 23205
  · have h3b := two_bd hF (a := 3) (by omega)
    obtain ⟨l, hl⟩ := Int.eq_ofNat_of_zero_le h3b.1
    by_cases h4 : l ≤ 1000
    · by_cases h5 : n < 7 + l
      · exact ⟨5, 0, 0, 0, F, by omega, fun h => by omega, fun W b off cap hc h => FR.of_none (sR4 h hF hc hm n1 n2 h3 hl h4 h5), fun W b off cap hc h hE => iRF_bad (by decide) (fun X hX => iA4 (lat W b off h X hX) hF hc hm n1 n2 h3 hl h4 h5 (hE.later hX)) hE F⟩
      · by_cases h6 : cs (fun i => F (2 + i)) (3 + l) = two F (5 + l)
        · exact ⟨0, 7 + (l : Int), F 2, l, fun i => F (5 + i), h4, fun _ => ⟨rfl, by omega⟩, fun W b off cap hc h => sR6 h hF hc hm n1 n2 h3 hl h4 (by omega) h6, fun W b off cap hc h hE => iRF_ok h4 (fun X hX => iA6 (lat W b off h X hX) hF hc hm n1 n2 h3 hl h4 (by omega) h6 (hE.later hX)) hE⟩
        · exact ⟨1, 0, 0, 0, F, by omega, fun h => by omega, fun W b off cap hc h => FR.of_none (sR5 h hF hc hm n1 n2 h3 hl h4 (by omega) h6), fun W b off cap hc h hE => iRF_bad (by decide) (fun X hX => iA5 (lat W b off h X hX) hF hc hm n1 n2 h3 hl h4 (by omega) h6 (hE.later hX)) hE F⟩
    · exact ⟨5, 0, 0, 0, F, by omega, fun h => by omega, fun W b off cap hc h => FR.of_none (sR3 h hF hc hm n1 n2 h3 (l := (l : Int)) hl (by omega)), fun W b off cap hc h hE => iRF_bad (by decide) (fun X hX => iA3 (lat W b off h X hX) hF hc hm n1 n2 h3 (l := (l : Int)) hl (by omega) (hE.later hX)) hE F⟩
  · exact ⟨5, 0, 0, 0, F, by omega, fun h => by omega, fun W b off cap hc h => FR.of_none (sR2 h hF hc hm n1 n2 h3), fun W b off cap hc h hE => iRF_bad (by decide) (fun X hX => iA2 (lat W b off h X hX) hF hc hm n1 n2 h3 (hE.later hX)) hE F⟩
end Go.Proofs.YtdknclkecbdpgaaDoor
