/- At every list of fields the program's MixModes answers as the specification, all NaNs being one, in memory of its own that neither the argument's marks nor a second call reach, where the law's own bound on the lengths does not answer first; nothing that was there is changed. -/
import Derived.Test.YtgidoceflkdklaaMs
import Derived.Handy
import Derived.Deep.RegionHeld3
import Derived.Deep.DeepCutAuto
namespace Go.Proofs.Ytgidoceflkdklaa.LawMixModes
open Go.ChangeShapes Go.WideShapes Go.ChangeAt Go.RowKit Go.Joins Fl
set_option linter.unusedVariables false

theorem mix_both (n : Nat) (L : Nat → Nat) (F : Nat → Nat → Nat → Nat) (o : Nat → Nat → Option Nat × Option Nat) (hn : n ≤ 1000000000000) (hf : ∀ i, i < n → ∀ j, j < L i → Zc (F i j 0) (F i j 1) (o i j)) :
    ∃ (c : Int) (N : Nat) (O : Nat → Option Nat × Option Nat), N ≤ 1024 ∧ (∀ lo hi W v, OwM lo hi W v n L F → ZX 49 #[v] W c N O) ∧ (∀ lo hi W v, OwM lo hi W v n L F → ZX 51 #[v] W c N O) := by
  by_cases h : mf n L = 0
  · obtain ⟨h0, h1, h2⟩ := mf_ok h
    have hle := Wv.wf_le (h2 0 h0).1
    refine ⟨0, L 0, mixC o n, by omega, fun lo hi W v hv => ?_, fun lo hi W v hv => ?_⟩
    all_goals
      obtain ⟨b, bs, rfl, hm⟩ := hv
      have hc : ∀ i, i < n → W.cell? ⟨b, 0 + i, none⟩ = some (.slice (some ⟨bs i, 0, none⟩) (L i) (L i)) ∧ RdM W (.slice (some ⟨bs i, 0, none⟩) (L i) (L i)) (L i) 2 (F i) := fun i hi => ⟨hm.top.cell hi, Or.inr ⟨bs i, 0, L i, rfl, fun k hk j hj => by rw [Nat.zero_add]; exact (hm.row i hi).cell hk hj⟩⟩
    · exact sMix_good b 0 n n _ L F o W h hc hf
    · exact iMix_good b 0 n n _ L F o W h hc hf
  · refine ⟨mf n L, 0, fun _ => (none, none), by omega, fun lo hi W v hv => ?_, fun lo hi W v hv => ?_⟩
    all_goals
      obtain ⟨b, bs, rfl, hm⟩ := hv
      have hc : ∀ i, i < n → W.cell? ⟨b, 0 + i, none⟩ = some (.slice (some ⟨bs i, 0, none⟩) (L i) (L i)) ∧ ∃ ao c, (Value.slice (some ⟨bs i, 0, none⟩) (L i) (L i)) = .slice ao (L i) c := fun i hi => ⟨hm.top.cell hi, _, _, rfl⟩
    · exact sMix_bad b 0 n n _ L W hn hc h
    · exact iMix_bad b 0 n n _ L W hn hc h
theorem OwM.form {lo hi : Nat} {w : World} {v : Value} {n : Nat} {L : Nat → Nat} {F : Nat → Nat → Nat → Nat} (h : OwM lo hi w v n L F) : ∃ b, v = .slice (some ⟨b, 0, none⟩) n n := by
  obtain ⟨b, bs, rfl, _⟩ := h
  exact ⟨b, rfl⟩
theorem OwM.under {lo hi : Nat} {w w' : World} {v : Value} {n : Nat} {L : Nat → Nat} {F : Nat → Nat → Nat → Nat} (h : OwM lo hi w v n L F) {a c : Nat} (k : Within a c w w') (hh : hi ≤ a ∨ c ≤ lo) : OwM lo hi w' v n L F := by
  obtain ⟨b, bs, e, h⟩ := h
  have key : ∀ g, lo ≤ g → g < hi → g < w.heap.size → w'.heap[g]? = w.heap[g]? := fun g h1 h2 h3 => by
    rcases hh with hh | hh
    · exact k.below.block g (by omega)
    · exact k.above g (by omega) h3
  exact ⟨b, bs, e, h.top.of_block (key _ h.blo h.bhi h.top.lt), fun i hi => (h.row i hi).of_block (key _ (h.rlo i hi) (h.rhi i hi) (h.row i hi).lt), h.blo, h.bhi, h.rlo, h.rhi, h.bne, h.apart⟩
set_option maxRecDepth 100000 in
set_option maxHeartbeats 6400000 in
theorem walk {w : World} {v : Value} {n : Nat} {LF : (Nat → Nat) × (Nat → Nat → Nat → Nat)} (h : RdZZ w v n LF.1 LF.2) (hn : n ≤ 9223372036854775807) (hf : ∀ i, i < n → LF.1 i ≤ 9223372036854775807 ∧ ∀ j, j < LF.1 i → Zc (LF.2 i j 0) (LF.2 i j 1) (clZ (LF.2 i) j)) :
    Calls Try.prog 12 #[v] w fun e w' => e = .returned (.bool true) ∧ Below w.heap.size w w' := by
  obtain ⟨L, F⟩ := LF
  obtain ⟨ao, cap, rfl⟩ := h.form
  have H : Hid (RdZZ w (.slice ao n cap) n L F) := h
  have HF : Hid (∀ i, i < n → ∀ j, j < L i → Zc (F i j 0) (F i j 1) (clZ (F i) j)) := fun i hi => (hf i hi).2
  have SZ : Hid (∀ W, Below w.heap.size w W → Calls Try.prog 48 #[.slice ao n cap, .int .i64 1048576] W fun e w' => ∃ r, e = .returned (.int .i64 r) ∧ W = w' ∧ Told n L 1048576 r) := fun W hb => szZZ_any (h.later hb) 1048576 (by decide) (by decide) hn fun i hi => (hf i hi).1
  clear h hf
  go_enter Try.func12, Try.ntmps12
  go_wp2_with fail
  refine (SZ.out _ (Below.refl _ _)).mono ?_
  rintro e wx ⟨r, rfl, rfl, ht⟩
  clear SZ
  rcases ht with rfl | ⟨hr0, hr⟩
  · go_wp2
    go_ret
    exact ⟨rfl, Below.refl _ _⟩
  have hr1 : ¬ r < 0 := by omega
  have hn2 : n ≤ 1000000000000 := by omega
  have HLs : Hid (∀ i, i < n → L i ≤ 1000000000000) := fun i hi => by have := le_Sm (L := L) hi; omega
  have hSm : 1 + n + 2 * Sm L n ≤ 10000000 := by omega
  obtain ⟨c, N, O, hN, SC0, IC0⟩ := mix_both n L F (fun i j => clZ (F i) j) hn2 HF.out
  have SC : Hid (∀ lo hi W v, OwM lo hi W v n L F → ZX 49 #[v] W c N O) := SC0
  have IC : Hid (∀ lo hi W v, OwM lo hi W v n L F → ZX 51 #[v] W c N O) := IC0
  clear SC0 IC0
  have hN2 : N ≤ 1000000000000 := by omega
  obtain ⟨M, hM⟩ : ∃ M : Int, M = 1 + 2 * N := ⟨_, rfl⟩
  have hM0 : ¬ M < 0 := by omega
  have hM1 : M ≤ 10000 := by omega
  have MK : Hid (∀ (lo hi : Nat) (W : World) (v : Value) (f : Nat → Nat → Nat), lo ≤ W.heap.size → OwZ lo hi W v N f → Calls Try.prog 26 #[Zl c v, .int .i64 1] W fun e w' => e = .returned (.int .i64 M) ∧ OwZ lo hi w' v N (mz 1) ∧ Within lo hi W w' ∧ W.heap.size ≤ w'.heap.size) := fun lo hi W v f hl h => by rw [hM]; exact markZList_own h hl 1 (by omega) (by omega)
  have HL : Hid (∀ (lo hi : Nat) (W : World) (v : Value), OwZ lo hi W v N (mz 1) → Calls Try.prog 27 #[Zl c v, .int .i64 1] W fun e w' => e = .returned (.int .i64 M) ∧ Below W.heap.size W w') := fun lo hi W v h => by rw [hM]; exact heldZList_own h (by omega) (by omega)
  clear hM
  obtain ⟨K1, hK1⟩ : ∃ M : Int, M = 1 + 2 * Sm L n := ⟨_, rfl⟩
  have hK10 : ¬ K1 < 0 := by omega
  have hK11 : K1 ≤ 10000000 := by omega
  have MZ : Hid (∀ (lo hi : Nat) (W : World) (v : Value) (F : Nat → Nat → Nat → Nat), OwM lo hi W v n L F → Calls Try.prog 53 #[v, .int .i64 1] W fun e w' => e = .returned (.int .i64 K1) ∧ True ∧ Within lo hi W w' ∧ w'.heap.size = W.heap.size) := fun lo hi W v f h => by rw [hK1]; exact markZZ_own h 1 (by omega) (by omega)
  clear hK1 hSm hr hr0
  have HO : Hid (Below w.heap.size w w) := Below.refl _ _
  go_wp2_with fail
  refine (toZZ_any (H.out.later HO.out) hn2 HLs.out).mono ?_
  rintro e w1 ⟨vSA, rfl, sx, b⟩
  obtain ⟨bSA, rfl⟩ := OwM.form sx
  have SA : Hid (OwM w.heap.size w1.heap.size w1 (.slice (some ⟨bSA, 0, none⟩) n n) n L F) := sx
  clear sx
  have Z1 : Hid (w.heap.size ≤ w1.heap.size) := b.size
  replace HO : Hid (Below w.heap.size w w1) := HO.out.trans (b.mono HO.out.size)
  clear b
  go_wp2_with fail
  refine (SC.out _ _ _ _ SA.out).mono ?_
  rintro e w2 ⟨vs, Fs, rfl, os, cs, b⟩
  obtain ⟨sao, scap, rfl⟩ := os.form
  have OS : Hid (OwZ w1.heap.size w2.heap.size w2 (.slice sao N scap) N Fs) := os
  have COS : Hid (∀ i, i < N → Zc (Fs i 0) (Fs i 1) (O i)) := cs
  clear os cs
  replace SA : Hid (OwM w.heap.size w1.heap.size w2 (.slice (some ⟨bSA, 0, none⟩) n n) n L F) := SA.out.later b
  have Z2 : Hid (w1.heap.size ≤ w2.heap.size) := b.size
  replace HO : Hid (Below w.heap.size w w2) := HO.out.trans (b.mono HO.out.size)
  clear b
  go_upto_region 6 with fail
  obtain ⟨w3, hwd⟩ : ∃ W, W = w2.alloc (.cells #[.int .i64 c, .slice sao N scap] 36) := ⟨_, rfl⟩
  have BS : Hid (Blk w3 w2.heap.size #[.int .i64 c, .slice sao N scap] 36) := by show Blk _ _ _ _; rw [hwd]; exact Blk.new rfl
  have b : Below w2.heap.size w2 w3 := by rw [hwd]; exact (Below.refl _ _).alloc (Nat.le_refl _) _
  have Y3 : Hid (w2.heap.size + 1 ≤ w3.heap.size) := by show _ ≤ _; rw [hwd]; simp
  rw [← hwd]
  clear hwd
  replace SA : Hid (OwM w.heap.size w1.heap.size w3 (.slice (some ⟨bSA, 0, none⟩) n n) n L F) := SA.out.later b
  replace OS : Hid (OwZ w1.heap.size w2.heap.size w3 (.slice sao N scap) N Fs) := OS.out.later b
  have Z3 : Hid (w2.heap.size ≤ w3.heap.size) := b.size
  replace HO : Hid (Below w.heap.size w w3) := HO.out.trans (b.mono HO.out.size)
  clear b
  clear SA
  go_wp2_with fail
  refine (toZZ_any (H.out.later HO.out) hn2 HLs.out).mono ?_
  rintro e w4 ⟨vSX, rfl, sx, b⟩
  obtain ⟨bSX, rfl⟩ := OwM.form sx
  have SX : Hid (OwM w3.heap.size w4.heap.size w4 (.slice (some ⟨bSX, 0, none⟩) n n) n L F) := sx
  clear sx
  replace OS : Hid (OwZ w1.heap.size w2.heap.size w4 (.slice sao N scap) N Fs) := OS.out.later b
  replace BS : Hid (Blk w4 w2.heap.size #[.int .i64 c, .slice sao N scap] 36) := BS.out.later b
  have Z4 : Hid (w3.heap.size ≤ w4.heap.size) := b.size
  replace HO : Hid (Below w.heap.size w w4) := HO.out.trans (b.mono HO.out.size)
  clear b
  go_wp2_with fail
  refine (IC.out _ _ _ _ SX.out).mono ?_
  rintro e w5 ⟨vg, Fg, rfl, og, cg, b⟩
  obtain ⟨gao, gcap, rfl⟩ := og.form
  have OG : Hid (OwZ w4.heap.size w5.heap.size w5 (.slice gao N gcap) N Fg) := og
  have COG : Hid (∀ i, i < N → Zc (Fg i 0) (Fg i 1) (O i)) := cg
  clear og cg
  replace OS : Hid (OwZ w1.heap.size w2.heap.size w5 (.slice sao N scap) N Fs) := OS.out.later b
  replace BS : Hid (Blk w5 w2.heap.size #[.int .i64 c, .slice sao N scap] 36) := BS.out.later b
  replace SX : Hid (OwM w3.heap.size w4.heap.size w5 (.slice (some ⟨bSX, 0, none⟩) n n) n L F) := SX.out.later b
  have Z5 : Hid (w4.heap.size ≤ w5.heap.size) := b.size
  replace HO : Hid (Below w.heap.size w w5) := HO.out.trans (b.mono HO.out.size)
  clear b
  go_upto_region 8 with fail
  obtain ⟨w6, hwd⟩ : ∃ W, W = w5.alloc (.cells #[.int .i64 c, .slice gao N gcap] 36) := ⟨_, rfl⟩
  have BG : Hid (Blk w6 w5.heap.size #[.int .i64 c, .slice gao N gcap] 36) := by show Blk _ _ _ _; rw [hwd]; exact Blk.new rfl
  have b : Below w5.heap.size w5 w6 := by rw [hwd]; exact (Below.refl _ _).alloc (Nat.le_refl _) _
  have Y6 : Hid (w5.heap.size + 1 ≤ w6.heap.size) := by show _ ≤ _; rw [hwd]; simp
  rw [← hwd]
  clear hwd
  replace OS : Hid (OwZ w1.heap.size w2.heap.size w6 (.slice sao N scap) N Fs) := OS.out.later b
  replace BS : Hid (Blk w6 w2.heap.size #[.int .i64 c, .slice sao N scap] 36) := BS.out.later b
  replace SX : Hid (OwM w3.heap.size w4.heap.size w6 (.slice (some ⟨bSX, 0, none⟩) n n) n L F) := SX.out.later b
  replace OG : Hid (OwZ w4.heap.size w5.heap.size w6 (.slice gao N gcap) N Fg) := OG.out.later b
  have Z6 : Hid (w5.heap.size ≤ w6.heap.size) := b.size
  replace HO : Hid (Below w.heap.size w w6) := HO.out.trans (b.mono HO.out.size)
  clear b
  have ca0 := BG.out.cell (j := 0) (v := .int .i64 c) rfl
  have ca1 := BG.out.cell (j := 1) (v := .slice gao N gcap) rfl
  have cb0 := BS.out.cell (j := 0) (v := .int .i64 c) rfl
  have cb1 := BS.out.cell (j := 1) (v := .slice sao N scap) rfl
  go_wp2_with fail
  refine (eqZList_same OG.out.rd OS.out.rd hN2 COG.out COS.out).mono ?_
  rintro e w7 ⟨rfl, b⟩
  replace OS : Hid (OwZ w1.heap.size w2.heap.size w7 (.slice sao N scap) N Fs) := OS.out.later b
  replace BS : Hid (Blk w7 w2.heap.size #[.int .i64 c, .slice sao N scap] 36) := BS.out.later b
  replace SX : Hid (OwM w3.heap.size w4.heap.size w7 (.slice (some ⟨bSX, 0, none⟩) n n) n L F) := SX.out.later b
  replace OG : Hid (OwZ w4.heap.size w5.heap.size w7 (.slice gao N gcap) N Fg) := OG.out.later b
  replace BG : Hid (Blk w7 w5.heap.size #[.int .i64 c, .slice gao N gcap] 36) := BG.out.later b
  have Z7 : Hid (w6.heap.size ≤ w7.heap.size) := b.size
  replace HO : Hid (Below w.heap.size w w7) := HO.out.trans (b.mono HO.out.size)
  clear b
  clear ca0 ca1 cb0 cb1
  go_wp2_with fail
  refine (toZZ_any (H.out.later HO.out) hn2 HLs.out).mono ?_
  rintro e w8 ⟨vSY, rfl, sx, b⟩
  obtain ⟨bSY, rfl⟩ := OwM.form sx
  have SY : Hid (OwM w7.heap.size w8.heap.size w8 (.slice (some ⟨bSY, 0, none⟩) n n) n L F) := sx
  clear sx
  replace OS : Hid (OwZ w1.heap.size w2.heap.size w8 (.slice sao N scap) N Fs) := OS.out.later b
  replace BS : Hid (Blk w8 w2.heap.size #[.int .i64 c, .slice sao N scap] 36) := BS.out.later b
  replace SX : Hid (OwM w3.heap.size w4.heap.size w8 (.slice (some ⟨bSX, 0, none⟩) n n) n L F) := SX.out.later b
  replace OG : Hid (OwZ w4.heap.size w5.heap.size w8 (.slice gao N gcap) N Fg) := OG.out.later b
  replace BG : Hid (Blk w8 w5.heap.size #[.int .i64 c, .slice gao N gcap] 36) := BG.out.later b
  have Z8 : Hid (w7.heap.size ≤ w8.heap.size) := b.size
  replace HO : Hid (Below w.heap.size w w8) := HO.out.trans (b.mono HO.out.size)
  clear b
  go_wp2_with fail
  refine (eqZZ_any SX.out.rd SY.out.rd hn2 HLs.out HF.out).mono ?_
  rintro e w9 ⟨rfl, b⟩
  replace OS : Hid (OwZ w1.heap.size w2.heap.size w9 (.slice sao N scap) N Fs) := OS.out.later b
  replace BS : Hid (Blk w9 w2.heap.size #[.int .i64 c, .slice sao N scap] 36) := BS.out.later b
  replace SX : Hid (OwM w3.heap.size w4.heap.size w9 (.slice (some ⟨bSX, 0, none⟩) n n) n L F) := SX.out.later b
  replace OG : Hid (OwZ w4.heap.size w5.heap.size w9 (.slice gao N gcap) N Fg) := OG.out.later b
  replace BG : Hid (Blk w9 w5.heap.size #[.int .i64 c, .slice gao N gcap] 36) := BG.out.later b
  replace SY : Hid (OwM w7.heap.size w8.heap.size w9 (.slice (some ⟨bSY, 0, none⟩) n n) n L F) := SY.out.later b
  have Z9 : Hid (w8.heap.size ≤ w9.heap.size) := b.size
  replace HO : Hid (Below w.heap.size w w9) := HO.out.trans (b.mono HO.out.size)
  clear b
  clear SY
  go_wp2_with fail
  refine (MZ.out _ _ _ _ _ SX.out).mono ?_
  rintro e w10 ⟨rfl, sm, wi, zm⟩
  have Z10 : Hid (w9.heap.size ≤ w10.heap.size) := Nat.le_of_eq zm.symm
  replace OS : Hid (OwZ w1.heap.size w2.heap.size w10 (.slice sao N scap) N Fs) := OS.out.under wi (by have := Z1.out; have := Z2.out; have := Y3.out; have := Z3.out; have := Z4.out; have := Z5.out; have := Y6.out; have := Z6.out; have := Z7.out; have := Z8.out; have := Z9.out; have := Z10.out; omega)
  replace BS : Hid (Blk w10 w2.heap.size #[.int .i64 c, .slice sao N scap] 36) := BS.out.under wi (by have := Z1.out; have := Z2.out; have := Y3.out; have := Z3.out; have := Z4.out; have := Z5.out; have := Y6.out; have := Z6.out; have := Z7.out; have := Z8.out; have := Z9.out; have := Z10.out; omega)
  replace OG : Hid (OwZ w4.heap.size w5.heap.size w10 (.slice gao N gcap) N Fg) := OG.out.under wi (by have := Z1.out; have := Z2.out; have := Y3.out; have := Z3.out; have := Z4.out; have := Z5.out; have := Y6.out; have := Z6.out; have := Z7.out; have := Z8.out; have := Z9.out; have := Z10.out; omega)
  replace BG : Hid (Blk w10 w5.heap.size #[.int .i64 c, .slice gao N gcap] 36) := BG.out.under wi (by have := Z1.out; have := Z2.out; have := Y3.out; have := Z3.out; have := Z4.out; have := Z5.out; have := Y6.out; have := Z6.out; have := Z7.out; have := Z8.out; have := Z9.out; have := Z10.out; omega)
  clear SX sm
  replace HO : Hid (Below w.heap.size w w10) := HO.out.trans (wi.below.mono (by have := Z1.out; have := Z2.out; have := Y3.out; have := Z3.out; have := Z4.out; have := Z5.out; have := Y6.out; have := Z6.out; have := Z7.out; have := Z8.out; have := Z9.out; have := Z10.out; omega))
  clear wi zm
  have ca0 := BG.out.cell (j := 0) (v := .int .i64 c) rfl
  have ca1 := BG.out.cell (j := 1) (v := .slice gao N gcap) rfl
  have cb0 := BS.out.cell (j := 0) (v := .int .i64 c) rfl
  have cb1 := BS.out.cell (j := 1) (v := .slice sao N scap) rfl
  go_wp2_with fail
  refine (eqZList_same OG.out.rd OS.out.rd hN2 COG.out COS.out).mono ?_
  rintro e w11 ⟨rfl, b⟩
  replace OS : Hid (OwZ w1.heap.size w2.heap.size w11 (.slice sao N scap) N Fs) := OS.out.later b
  replace BS : Hid (Blk w11 w2.heap.size #[.int .i64 c, .slice sao N scap] 36) := BS.out.later b
  replace OG : Hid (OwZ w4.heap.size w5.heap.size w11 (.slice gao N gcap) N Fg) := OG.out.later b
  replace BG : Hid (Blk w11 w5.heap.size #[.int .i64 c, .slice gao N gcap] 36) := BG.out.later b
  have Z11 : Hid (w10.heap.size ≤ w11.heap.size) := b.size
  replace HO : Hid (Below w.heap.size w w11) := HO.out.trans (b.mono HO.out.size)
  clear b
  clear ca0 ca1 cb0 cb1
  have cg0 := BG.out.cell (j := 0) (v := .int .i64 c) rfl
  have cg1 := BG.out.cell (j := 1) (v := .slice gao N gcap) rfl
  go_wp2_with fail
  refine (MK.out _ _ _ _ _ (by have := Z1.out; have := Z2.out; have := Y3.out; have := Z3.out; have := Z4.out; have := Z5.out; have := Y6.out; have := Z6.out; have := Z7.out; have := Z8.out; have := Z9.out; have := Z10.out; have := Z11.out; omega) OG.out).mono ?_
  rintro e w12 ⟨rfl, sm, wi, zm⟩
  have Z12 : Hid (w11.heap.size ≤ w12.heap.size) := zm
  replace OS : Hid (OwZ w1.heap.size w2.heap.size w12 (.slice sao N scap) N Fs) := OS.out.under wi (by have := Z1.out; have := Z2.out; have := Y3.out; have := Z3.out; have := Z4.out; have := Z5.out; have := Y6.out; have := Z6.out; have := Z7.out; have := Z8.out; have := Z9.out; have := Z10.out; have := Z11.out; have := Z12.out; omega)
  replace BS : Hid (Blk w12 w2.heap.size #[.int .i64 c, .slice sao N scap] 36) := BS.out.under wi (by have := Z1.out; have := Z2.out; have := Y3.out; have := Z3.out; have := Z4.out; have := Z5.out; have := Y6.out; have := Z6.out; have := Z7.out; have := Z8.out; have := Z9.out; have := Z10.out; have := Z11.out; have := Z12.out; omega)
  replace BG : Hid (Blk w12 w5.heap.size #[.int .i64 c, .slice gao N gcap] 36) := BG.out.under wi (by have := Z1.out; have := Z2.out; have := Y3.out; have := Z3.out; have := Z4.out; have := Z5.out; have := Y6.out; have := Z6.out; have := Z7.out; have := Z8.out; have := Z9.out; have := Z10.out; have := Z11.out; have := Z12.out; omega)
  replace OG : Hid (OwZ w4.heap.size w5.heap.size w12 (.slice gao N gcap) N (mz 1)) := sm
  replace HO : Hid (Below w.heap.size w w12) := HO.out.trans (wi.below.mono (by have := Z1.out; have := Z2.out; have := Y3.out; have := Z3.out; have := Z4.out; have := Z5.out; have := Y6.out; have := Z6.out; have := Z7.out; have := Z8.out; have := Z9.out; have := Z10.out; have := Z11.out; have := Z12.out; omega))
  clear wi zm sm
  clear cg0 cg1
  clear COG
  have cg0 := BG.out.cell (j := 0) (v := .int .i64 c) rfl
  have cg1 := BG.out.cell (j := 1) (v := .slice gao N gcap) rfl
  go_wp2_with fail
  refine (HL.out _ _ _ _ OG.out).mono ?_
  rintro e w13 ⟨rfl, b⟩
  replace OS : Hid (OwZ w1.heap.size w2.heap.size w13 (.slice sao N scap) N Fs) := OS.out.later b
  replace BS : Hid (Blk w13 w2.heap.size #[.int .i64 c, .slice sao N scap] 36) := BS.out.later b
  replace OG : Hid (OwZ w4.heap.size w5.heap.size w13 (.slice gao N gcap) N (mz 1)) := OG.out.later b
  replace BG : Hid (Blk w13 w5.heap.size #[.int .i64 c, .slice gao N gcap] 36) := BG.out.later b
  have Z13 : Hid (w12.heap.size ≤ w13.heap.size) := b.size
  replace HO : Hid (Below w.heap.size w w13) := HO.out.trans (b.mono HO.out.size)
  clear b
  clear cg0 cg1
  go_wp2_with fail
  refine (toZZ_any (H.out.later HO.out) hn2 HLs.out).mono ?_
  rintro e w14 ⟨vSH, rfl, sx, b⟩
  obtain ⟨bSH, rfl⟩ := OwM.form sx
  have SH : Hid (OwM w13.heap.size w14.heap.size w14 (.slice (some ⟨bSH, 0, none⟩) n n) n L F) := sx
  clear sx
  replace OS : Hid (OwZ w1.heap.size w2.heap.size w14 (.slice sao N scap) N Fs) := OS.out.later b
  replace BS : Hid (Blk w14 w2.heap.size #[.int .i64 c, .slice sao N scap] 36) := BS.out.later b
  replace OG : Hid (OwZ w4.heap.size w5.heap.size w14 (.slice gao N gcap) N (mz 1)) := OG.out.later b
  replace BG : Hid (Blk w14 w5.heap.size #[.int .i64 c, .slice gao N gcap] 36) := BG.out.later b
  have Z14 : Hid (w13.heap.size ≤ w14.heap.size) := b.size
  replace HO : Hid (Below w.heap.size w w14) := HO.out.trans (b.mono HO.out.size)
  clear b
  go_wp2_with fail
  refine (IC.out _ _ _ _ SH.out).mono ?_
  rintro e w15 ⟨vh, Fh, rfl, oh, ch, b⟩
  obtain ⟨hao, hcap, rfl⟩ := oh.form
  have OH : Hid (OwZ w14.heap.size w15.heap.size w15 (.slice hao N hcap) N Fh) := oh
  have COH : Hid (∀ i, i < N → Zc (Fh i 0) (Fh i 1) (O i)) := ch
  clear oh ch
  replace OS : Hid (OwZ w1.heap.size w2.heap.size w15 (.slice sao N scap) N Fs) := OS.out.later b
  replace BS : Hid (Blk w15 w2.heap.size #[.int .i64 c, .slice sao N scap] 36) := BS.out.later b
  replace OG : Hid (OwZ w4.heap.size w5.heap.size w15 (.slice gao N gcap) N (mz 1)) := OG.out.later b
  replace BG : Hid (Blk w15 w5.heap.size #[.int .i64 c, .slice gao N gcap] 36) := BG.out.later b
  replace SH : Hid (OwM w13.heap.size w14.heap.size w15 (.slice (some ⟨bSH, 0, none⟩) n n) n L F) := SH.out.later b
  have Z15 : Hid (w14.heap.size ≤ w15.heap.size) := b.size
  replace HO : Hid (Below w.heap.size w w15) := HO.out.trans (b.mono HO.out.size)
  clear b
  go_upto_region 25 with fail
  obtain ⟨w16, hwd⟩ : ∃ W, W = w15.alloc (.cells #[.int .i64 c, .slice hao N hcap] 36) := ⟨_, rfl⟩
  have BH : Hid (Blk w16 w15.heap.size #[.int .i64 c, .slice hao N hcap] 36) := by show Blk _ _ _ _; rw [hwd]; exact Blk.new rfl
  have b : Below w15.heap.size w15 w16 := by rw [hwd]; exact (Below.refl _ _).alloc (Nat.le_refl _) _
  have Y16 : Hid (w15.heap.size + 1 ≤ w16.heap.size) := by show _ ≤ _; rw [hwd]; simp
  rw [← hwd]
  clear hwd
  replace OS : Hid (OwZ w1.heap.size w2.heap.size w16 (.slice sao N scap) N Fs) := OS.out.later b
  replace BS : Hid (Blk w16 w2.heap.size #[.int .i64 c, .slice sao N scap] 36) := BS.out.later b
  replace OG : Hid (OwZ w4.heap.size w5.heap.size w16 (.slice gao N gcap) N (mz 1)) := OG.out.later b
  replace BG : Hid (Blk w16 w5.heap.size #[.int .i64 c, .slice gao N gcap] 36) := BG.out.later b
  replace SH : Hid (OwM w13.heap.size w14.heap.size w16 (.slice (some ⟨bSH, 0, none⟩) n n) n L F) := SH.out.later b
  replace OH : Hid (OwZ w14.heap.size w15.heap.size w16 (.slice hao N hcap) N Fh) := OH.out.later b
  have Z16 : Hid (w15.heap.size ≤ w16.heap.size) := b.size
  replace HO : Hid (Below w.heap.size w w16) := HO.out.trans (b.mono HO.out.size)
  clear b
  clear SH
  have ca0 := BH.out.cell (j := 0) (v := .int .i64 c) rfl
  have ca1 := BH.out.cell (j := 1) (v := .slice hao N hcap) rfl
  have cb0 := BS.out.cell (j := 0) (v := .int .i64 c) rfl
  have cb1 := BS.out.cell (j := 1) (v := .slice sao N scap) rfl
  go_wp2_with fail
  refine (eqZList_same OH.out.rd OS.out.rd hN2 COH.out COS.out).mono ?_
  rintro e w17 ⟨rfl, b⟩
  replace OS : Hid (OwZ w1.heap.size w2.heap.size w17 (.slice sao N scap) N Fs) := OS.out.later b
  replace BS : Hid (Blk w17 w2.heap.size #[.int .i64 c, .slice sao N scap] 36) := BS.out.later b
  replace OG : Hid (OwZ w4.heap.size w5.heap.size w17 (.slice gao N gcap) N (mz 1)) := OG.out.later b
  replace BG : Hid (Blk w17 w5.heap.size #[.int .i64 c, .slice gao N gcap] 36) := BG.out.later b
  replace OH : Hid (OwZ w14.heap.size w15.heap.size w17 (.slice hao N hcap) N Fh) := OH.out.later b
  replace BH : Hid (Blk w17 w15.heap.size #[.int .i64 c, .slice hao N hcap] 36) := BH.out.later b
  have Z17 : Hid (w16.heap.size ≤ w17.heap.size) := b.size
  replace HO : Hid (Below w.heap.size w w17) := HO.out.trans (b.mono HO.out.size)
  clear b
  clear ca0 ca1 cb0 cb1
  have cg0 := BG.out.cell (j := 0) (v := .int .i64 c) rfl
  have cg1 := BG.out.cell (j := 1) (v := .slice gao N gcap) rfl
  go_wp2_with fail
  refine (HL.out _ _ _ _ OG.out).mono ?_
  rintro e w18 ⟨rfl, b⟩
  replace OS : Hid (OwZ w1.heap.size w2.heap.size w18 (.slice sao N scap) N Fs) := OS.out.later b
  replace BS : Hid (Blk w18 w2.heap.size #[.int .i64 c, .slice sao N scap] 36) := BS.out.later b
  replace OG : Hid (OwZ w4.heap.size w5.heap.size w18 (.slice gao N gcap) N (mz 1)) := OG.out.later b
  replace BG : Hid (Blk w18 w5.heap.size #[.int .i64 c, .slice gao N gcap] 36) := BG.out.later b
  replace OH : Hid (OwZ w14.heap.size w15.heap.size w18 (.slice hao N hcap) N Fh) := OH.out.later b
  replace BH : Hid (Blk w18 w15.heap.size #[.int .i64 c, .slice hao N hcap] 36) := BH.out.later b
  have Z18 : Hid (w17.heap.size ≤ w18.heap.size) := b.size
  replace HO : Hid (Below w.heap.size w w18) := HO.out.trans (b.mono HO.out.size)
  clear b
  clear cg0 cg1
  go_wp2
  go_ret
  exact ⟨rfl, HO.out⟩

set_option maxRecDepth 100000 in
theorem lifted (os : Os) (started : os.Started) (H : Type) (enc : TypeId × Value → H) :
    ReturnsInHanded {} Try.checked os 12 .any (Rows.fnExactMixModesSpec.pre6 enc Try.prog Try.f12 Rows.fnExactMixModesRow.domain false) (Rows.fnExactMixModesSpec.post enc Try.prog Try.f12 false true false false) := by
  refine returnsInHanded_of_change (C := Try.checked) own started (by kernel_rfl) Try.func12
    (ChangeSpec.witness6 (enc := enc) (C := Try.checked) false ⟨#[], #[.slice none 0 0], []⟩ 8 (by kernel_rfl) (by kernel_rfl) (by kernel_rfl) (by kernel_rfl)) ?_
  intro W base args ds gs before hval0 hW hcnd _
  have hval : ∀ (j : Nat) t v, Try.f12.params[j]? = some t → args[j]? = some v → Value.okWide Try.prog W .any base t v := hval0
  have hW' := hW
  obtain ⟨p, q, hA0, hV, rfl, hfz, hnd⟩ := hW
  have hA : DataW.TrodAll enc Try.prog W 0 (fun _ => true) true Try.f12.params.toList args.toList ds p := hA0
  rw [Try.params12] at hA hval
  obtain ⟨v0, vs0, d0, ds0, p0, q0, hargs, rfl, rfl, h0, r0⟩ := trodAll_cons hA
  obtain ⟨rfl, rfl, rfl⟩ := trodAll_nil r0
  obtain rfl : args = #[v0] := by cases args; simp_all
  obtain ⟨rfl, rfl⟩ := trodVars_none hV
  have k0 := h0
  have lt0 : ∀ x ∈ p0, x.block < W.heap.size := by obtain ⟨m, hm⟩ := k0; exact DataW.trod_lt m _ _ _ hm
  obtain ⟨n0, F0, R0, nb0, fb0⟩ := open_zmat (hval 0 59 v0 rfl rfl) h0
  clear hA0 hval0
  refine (walk R0 nb0 fb0).mono fun e W' ⟨he, bel⟩ => ?_
  subst he
  exact ⟨_, rfl, _, _, _, [], _, [], hW', trodAll_mk1 (shut_bool Try.underlying4 _), (trodAll_cons_mk (Below.trod laidOut (by kernel_rfl) (of_decide_eq_true (by kernel_rfl)) k0 bel lt0) trodAll_mk0), rfl, bel.frame _, fun h => by cases h⟩

theorem over : Rows.fnExactMixModesRow.holds Try.pinned (OpenSpec.ofChange Rows.fnExactMixModesSpec) :=
  OpenClaim.holds_of_wide 12 Try.f12 rfl rfl rfl rfl rfl rfl rfl ⟨rfl, rfl, rfl, rfl, rfl⟩ rfl rfl rfl rfl rfl (by kernel_rfl) Try.func12 (by kernel_rfl)
    (of_decide_eq_true (by kernel_rfl)) (by unfold Func.isWrapper; first | (rw [if_pos (by decide +kernel)]; kernel_rfl) | (rw [if_neg (by decide +kernel)]; exact ⟨rfl, rfl⟩))
    (fun os started H enc _ => lifted os started H enc)
end Go.Proofs.Ytgidoceflkdklaa.LawMixModes
namespace Go.Proofs.Ytgidoceflkdklaa
theorem mixModes_holds : Rows.FnExactMixModesSaid := LawMixModes.over
#print axioms mixModes_holds
end Go.Proofs.Ytgidoceflkdklaa
