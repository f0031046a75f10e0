/- Phase steps, encoded: both packages. -/
import Derived.Test.YtdknclkecbdpgaaDoorLs
namespace Go.Proofs.YtdknclkecbdpgaaDoor
open Go.RowKit
set_option linter.unusedVariables false
set_option linter.unusedSimpArgs false
theorem wr64 {x : Int} (h0 : -9223372036854775808 ≤ x) (h1 : x < 9223372036854775808) : IntKind.i64.wrap x = x := by
  simp only [IntKind.wrap, IntKind.bits, IntKind.signed]
  simp
  omega
/-- The phase behind k symbols. -/
def ph (F : Nat → Int) : Nat → Int
  | 0 => 0
  | k + 1 => (ph F k + F k) % 4
theorem ph_bd (F : Nat → Int) : ∀ k, 0 ≤ ph F k ∧ ph F k < 4
  | 0 => by simp [ph]
  | k + 1 => by unfold ph; omega
abbrev iF (f : Nat → Int) : Nat → Value := fun i => .int .i64 (f i)
set_option maxRecDepth 20000 in
set_option maxHeartbeats 3200000 in
theorem iPhE_ok {w : World} {v : Value} {n : Nat} {F : Nat → Int} (h : RdI w v n F) (hc : symc F n = 0) (hE : Et w) :
    FB 2 59 #[v] w 0 (n + 1) (iF (ph F)) := by
  unfold FB
  obtain ⟨hn, hok⟩ := symc_0 hc
  have HK : Hid (∀ i, i < n → 0 ≤ F i ∧ F i < 4) := okS_at hok
  obtain ⟨ao, cap, rfl⟩ := h.form
  have H : Hid (RdI w (.slice ao n cap) n F) := h
  have HS : Hid (∀ W, RdI W (.slice ao n cap) n F → Calls Tryd.prog 111 #[.slice ao n cap] W fun e w' => e = .returned (er 0) ∧ w' = W) := fun W hW => by rw [← hc]; exact iSym_any hW (by omega)
  have HE : Hid (Et w) := hE
  obtain ⟨w0, hw0⟩ : ∃ W, W = w.alloc (.cells #[.int .i64 0, .slice none 0 0] 35) := ⟨_, rfl⟩
  have H0 : Hid (Blk w0 w.heap.size #[.int .i64 0, .slice none 0 0] 35 ∧ Below w.heap.size w w0) := by rw [hw0]; exact ⟨Blk.new rfl, (Below.refl _ _).alloc (Nat.le_refl _) _⟩
  clear h hc hE hok
  go_enter Tryd.func59, Tryd.ntmps59
  go_wp2_with fail
  rw [← hw0]
  refine Calls.mono (HS.out _ (H.out.later H0.out.2)) ?_
  rintro e wa ⟨rfl, rfl⟩
  clear hw0
  go_wp2_with fail
  refine Calls.mono (code_any 0 _ (HE.out.later H0.out.2)) ?_
  rintro e w1 ⟨rfl, hb⟩
  have H1 : Hid (Blk w1 w.heap.size #[.int .i64 0, .slice none 0 0] 35 ∧ Below w.heap.size w w1) := ⟨H0.out.1.later hb, H0.out.2.trans (hb.mono H0.out.2.size)⟩
  clear hb H0 HS HE
  go_wp2_with fail
  have HL0 : Hid (Ls w (w1.alloc (.cells #[.int .i64 0] 2)) w1.heap.size 2 (.slice (some ⟨w1.heap.size, 0, none⟩) 1 1) 1 (iF (ph F)) #[.int .i64 0, .slice none 0 0] 35) := ⟨owns_one _ _ _ rfl, H1.out.1.alloc _, H1.out.2.alloc H1.out.2.size _, H1.out.1.lt, by simp⟩
  clear H1
  go_loopw [4, 5, 19] (fun p v i wr => ∃ k : Nat, k ≤ n ∧ i = .int .i64 k ∧ p = .int .i64 (ph F k) ∧ Hid (Ls w wr w1.heap.size 2 v (k + 1) (iF (ph F)) #[.int .i64 0, .slice none 0 0] 35)) (fun _ _ i _ => n - (intOf i).toNat)
  case atStart => exact ⟨0, Nat.zero_le _, rfl, rfl, HL0⟩
  case round =>
    obtain ⟨k, hk, rfl, rfl, HL⟩ := hrel
    clear HL0
    by_cases hkn : k < n
    · rcases H.out with ⟨ao', cap', e1, e2⟩ | ⟨b, off, cap', e1, hcell⟩
      · omega
      cases e1
      have g1 : wr.cell? ⟨b, off + k, none⟩ = some (.int .i64 (F k)) := (HL.out.below.cell (World.block_lt_of_cell? _ _ (hcell k hkn))).trans (hcell k hkn)
      obtain ⟨f0, f1⟩ := HK.out k hkn
      obtain ⟨p0, p1⟩ := ph_bd F k
      have hP : ph F (k + 1) = (ph F k + F k) % 4 := rfl
      obtain ⟨f, hf⟩ : ∃ f, f = F k := ⟨_, rfl⟩
      obtain ⟨p, hp⟩ : ∃ p, p = ph F k := ⟨_, rfl⟩
      rw [← hf] at g1 f0 f1 hP
      rw [← hp] at p0 p1 hP ⊢
      have HP : Hid (ph F (k + 1) = (p + f) % 4) := hP
      clear hf hp hP hcell
      have t1 : (p + f).tmod 4 = (p + f) % 4 := Int.tmod_eq_emod_of_nonneg (by omega)
      go_wp2_with (first | (at_builtin; refine push_law rfl (.tmp 27) (.tmp 29) 24 rfl 2 (.int .i64 0) 1 8 Tryd.underlying24 info2 rfl (by decide) (by decide) _ [_] rfl (by simp [Value.oneCell']) w1.heap.size u5 (k + 1) _ rfl HL.out.own 1 rfl (by omega) HL.out.lt ?_; intro v1 w3 own3 grow3 nn3))
      have HN : Hid (Ls w w3 w1.heap.size 2 v1 (k + 1 + 1) (iF (ph F)) #[.int .i64 0, .slice none 0 0] 35) := HL.out.push' own3 (by show _ = vl _ _ ++ [Value.int IntKind.i64 (ph F (k + 1))]; rw [HP.out]) grow3
      clear own3 grow3 nn3 HL
      go_wp2
      go_roundw
      case rel => exact ⟨k + 1, by omega, by simp, by rw [HP.out], HN⟩
      case measure => simp [intOf]; omega
    · obtain rfl : k = n := by omega
      have c0 := HL.out.box.cell (j := 0) (v := .int .i64 0) rfl
      have c1 := HL.out.box.cell (j := 1) (v := .slice none 0 0) rfl
      have f0 := HL.out.box.frozen 0
      have f1 := HL.out.box.frozen 1
      obtain ⟨ao2, cap2, rfl⟩ := HL.out.form
      go_wp2
      refine bodyPost_ret (v := .agg #[.int .i64 0, .slice ao2 (k + 1) cap2]) (by simp [results, Tryd.results59, go_sem, c0, c1]) rfl ⟨_, rfl, ?_⟩
      exact HL.out.told _ _
set_option maxRecDepth 20000 in
set_option maxHeartbeats 3200000 in
theorem iPhE_bad {w : World} {v : Value} {n : Nat} {F : Nat → Int} (h : RdI w v n F) (hm : n ≤ 1000000000000) (hc : symc F n ≠ 0) (hE : Et w) :
    FB 2 59 #[v] w (symc F n) 0 (iF F) := by
  unfold FB
  obtain ⟨ao, cap, rfl⟩ := h.form
  obtain ⟨c, hcc⟩ : ∃ c, c = symc F n := ⟨_, rfl⟩
  rw [← hcc] at hc ⊢
  have H : Hid (RdI w (.slice ao n cap) n F) := h
  have HS : Hid (∀ W, RdI W (.slice ao n cap) n F → Calls Tryd.prog 111 #[.slice ao n cap] W fun e w' => e = .returned (er c) ∧ w' = W) := fun W hW => by rw [hcc]; exact iSym_any hW hm
  have HE : Hid (Et w) := hE
  have hcb : (c != 0) = true := by simp [hc]
  obtain ⟨w0, hw0⟩ : ∃ W, W = w.alloc (.cells #[.int .i64 0, .slice none 0 0] 35) := ⟨_, rfl⟩
  have H0 : Hid (Blk w0 w.heap.size #[.int .i64 0, .slice none 0 0] 35 ∧ Below w.heap.size w w0) := by rw [hw0]; exact ⟨Blk.new rfl, (Below.refl _ _).alloc (Nat.le_refl _) _⟩
  clear h hE hcc hc
  go_enter Tryd.func59, Tryd.ntmps59
  go_wp2_with fail
  rw [← hw0]
  refine Calls.mono (HS.out _ (H.out.later H0.out.2)) ?_
  rintro e wa ⟨rfl, rfl⟩
  clear hw0
  go_wp2_with fail
  refine Calls.mono (code_any c _ (HE.out.later H0.out.2)) ?_
  rintro e w1 ⟨rfl, hb⟩
  have H1 : Hid (Blk w1 w.heap.size #[.int .i64 0, .slice none 0 0] 35 ∧ Below w.heap.size w w1) := ⟨H0.out.1.later hb, H0.out.2.trans (hb.mono H0.out.2.size)⟩
  clear hb H0 HS HE
  have c0 := H1.out.1.cell (j := 0) (v := .int .i64 0) rfl
  have c1 := H1.out.1.cell (j := 1) (v := .slice none 0 0) rfl
  have f0 := H1.out.1.frozen 0
  have f1 := H1.out.1.frozen 1
  go_wp2
  refine bodyPost_ret (v := .agg #[.int .i64 c, .slice none 0 0]) (by simp [results, Tryd.results59, go_sem, c0, c1]) rfl ⟨_, rfl, Or.inl ⟨rfl, rfl⟩, (H1.out.2.setCell (by simp) _).setCell (by simp) _⟩
set_option maxRecDepth 20000 in
set_option maxHeartbeats 3200000 in
theorem iPhD_bad {w : World} {v : Value} {n : Nat} {F : Nat → Int} (h : RdI w v n F) (hm : n ≤ 1000000000000) (hc : symc F n ≠ 0) (hE : Et w) :
    FB 2 66 #[v] w (symc F n) 0 (iF F) := by
  unfold FB
  obtain ⟨ao, cap, rfl⟩ := h.form
  obtain ⟨c, hcc⟩ : ∃ c, c = symc F n := ⟨_, rfl⟩
  rw [← hcc] at hc ⊢
  have H : Hid (RdI w (.slice ao n cap) n F) := h
  have HS : Hid (∀ W, RdI W (.slice ao n cap) n F → Calls Tryd.prog 111 #[.slice ao n cap] W fun e w' => e = .returned (er c) ∧ w' = W) := fun W hW => by rw [hcc]; exact iSym_any hW hm
  have HE : Hid (Et w) := hE
  have hcb : (c != 0) = true := by simp [hc]
  obtain ⟨w0, hw0⟩ : ∃ W, W = w.alloc (.cells #[.int .i64 0, .slice none 0 0] 35) := ⟨_, rfl⟩
  have H0 : Hid (Blk w0 w.heap.size #[.int .i64 0, .slice none 0 0] 35 ∧ Below w.heap.size w w0) := by rw [hw0]; exact ⟨Blk.new rfl, (Below.refl _ _).alloc (Nat.le_refl _) _⟩
  clear h hE hcc hc
  go_enter Tryd.func66, Tryd.ntmps66
  go_wp2_with fail
  rw [← hw0]
  refine Calls.mono (HS.out _ (H.out.later H0.out.2)) ?_
  rintro e wa ⟨rfl, rfl⟩
  clear hw0
  go_wp2_with fail
  refine Calls.mono (code_any c _ (HE.out.later H0.out.2)) ?_
  rintro e w1 ⟨rfl, hb⟩
  have H1 : Hid (Blk w1 w.heap.size #[.int .i64 0, .slice none 0 0] 35 ∧ Below w.heap.size w w1) := ⟨H0.out.1.later hb, H0.out.2.trans (hb.mono H0.out.2.size)⟩
  clear hb H0 HS HE
  have c0 := H1.out.1.cell (j := 0) (v := .int .i64 0) rfl
  have c1 := H1.out.1.cell (j := 1) (v := .slice none 0 0) rfl
  have f0 := H1.out.1.frozen 0
  have f1 := H1.out.1.frozen 1
  go_wp2
  refine bodyPost_ret (v := .agg #[.int .i64 c, .slice none 0 0]) (by simp [results, Tryd.results66, go_sem, c0, c1]) rfl ⟨_, rfl, Or.inl ⟨rfl, rfl⟩, (H1.out.2.setCell (by simp) _).setCell (by simp) _⟩
set_option maxRecDepth 20000 in
set_option maxHeartbeats 3200000 in
theorem sPhE_bad {w : World} {v : Value} {n : Nat} {F : Nat → Int} (h : RdI w v n F) (hm : n ≤ 1000000000000) (hc : symc F n ≠ 0) :
    FB 2 57 #[v] w (symc F n) 0 (iF F) := by
  unfold FB
  obtain ⟨ao, cap, rfl⟩ := h.form
  obtain ⟨c, hcc⟩ : ∃ c, c = symc F n := ⟨_, rfl⟩
  rw [← hcc] at hc ⊢
  have H : Hid (RdI w (.slice ao n cap) n F) := h
  have HS : Hid (∀ W, RdI W (.slice ao n cap) n F → Calls Tryd.prog 110 #[.slice ao n cap] W fun e w' => e = .returned (.int .i64 c) ∧ w' = W) := fun W hW => by rw [hcc]; exact sSym_any hW hm
  have hcb : (c != 0) = true := by simp [hc]
  obtain ⟨w0, hw0⟩ : ∃ W, W = w.alloc (.cells #[.int .i64 0, .slice none 0 0] 35) := ⟨_, rfl⟩
  have H0 : Hid (Blk w0 w.heap.size #[.int .i64 0, .slice none 0 0] 35 ∧ Below w.heap.size w w0) := by rw [hw0]; exact ⟨Blk.new rfl, (Below.refl _ _).alloc (Nat.le_refl _) _⟩
  clear h hcc hc
  go_enter Tryd.func57, Tryd.ntmps57
  go_wp2_with fail
  rw [← hw0]
  refine Calls.mono (HS.out _ (H.out.later H0.out.2)) ?_
  rintro e w1 ⟨rfl, rfl⟩
  have H1 : Hid (Blk w1 w.heap.size #[.int .i64 0, .slice none 0 0] 35 ∧ Below w.heap.size w w1) := H0.out
  clear hw0 H0 HS
  have c0 := H1.out.1.cell (j := 0) (v := .int .i64 0) rfl
  have c1 := H1.out.1.cell (j := 1) (v := .slice none 0 0) rfl
  have f0 := H1.out.1.frozen 0
  have f1 := H1.out.1.frozen 1
  go_wp2
  refine bodyPost_ret (v := .agg #[.int .i64 c, .slice none 0 0]) (by simp [results, Tryd.results57, go_sem, c0, c1]) rfl ⟨_, rfl, Or.inl ⟨rfl, rfl⟩, (H1.out.2.setCell (by simp) _).setCell (by simp) _⟩
set_option maxRecDepth 20000 in
set_option maxHeartbeats 3200000 in
theorem sPhD_bad {w : World} {v : Value} {n : Nat} {F : Nat → Int} (h : RdI w v n F) (hm : n ≤ 1000000000000) (hc : symc F n ≠ 0) :
    FB 2 65 #[v] w (symc F n) 0 (iF F) := by
  unfold FB
  obtain ⟨ao, cap, rfl⟩ := h.form
  obtain ⟨c, hcc⟩ : ∃ c, c = symc F n := ⟨_, rfl⟩
  rw [← hcc] at hc ⊢
  have H : Hid (RdI w (.slice ao n cap) n F) := h
  have HS : Hid (∀ W, RdI W (.slice ao n cap) n F → Calls Tryd.prog 110 #[.slice ao n cap] W fun e w' => e = .returned (.int .i64 c) ∧ w' = W) := fun W hW => by rw [hcc]; exact sSym_any hW hm
  have hcb : (c != 0) = true := by simp [hc]
  obtain ⟨w0, hw0⟩ : ∃ W, W = w.alloc (.cells #[.int .i64 0, .slice none 0 0] 35) := ⟨_, rfl⟩
  have H0 : Hid (Blk w0 w.heap.size #[.int .i64 0, .slice none 0 0] 35 ∧ Below w.heap.size w w0) := by rw [hw0]; exact ⟨Blk.new rfl, (Below.refl _ _).alloc (Nat.le_refl _) _⟩
  clear h hcc hc
  go_enter Tryd.func65, Tryd.ntmps65
  go_wp2_with fail
  rw [← hw0]
  refine Calls.mono (HS.out _ (H.out.later H0.out.2)) ?_
  rintro e w1 ⟨rfl, rfl⟩
  have H1 : Hid (Blk w1 w.heap.size #[.int .i64 0, .slice none 0 0] 35 ∧ Below w.heap.size w w1) := H0.out
  clear hw0 H0 HS
  have c0 := H1.out.1.cell (j := 0) (v := .int .i64 0) rfl
  have c1 := H1.out.1.cell (j := 1) (v := .slice none 0 0) rfl
  have f0 := H1.out.1.frozen 0
  have f1 := H1.out.1.frozen 1
  go_wp2
  refine bodyPost_ret (v := .agg #[.int .i64 c, .slice none 0 0]) (by simp [results, Tryd.results65, go_sem, c0, c1]) rfl ⟨_, rfl, Or.inl ⟨rfl, rfl⟩, (H1.out.2.setCell (by simp) _).setCell (by simp) _⟩
set_option maxRecDepth 20000 in
set_option maxHeartbeats 3200000 in
theorem sPhE_ok {w : World} {v : Value} {n : Nat} {F : Nat → Int} (h : RdI w v n F) (hc : symc F n = 0) :
    FB 2 57 #[v] w 0 (n + 1) (iF (ph F)) := by
  unfold FB
  obtain ⟨hn, hok⟩ := symc_0 hc
  have HK : Hid (∀ i, i < n → 0 ≤ F i ∧ F i < 4) := okS_at hok
  obtain ⟨ao, cap, rfl⟩ := h.form
  have H : Hid (RdI w (.slice ao n cap) n F) := h
  have HS : Hid (∀ W, RdI W (.slice ao n cap) n F → Calls Tryd.prog 110 #[.slice ao n cap] W fun e w' => e = .returned (.int .i64 0) ∧ w' = W) := fun W hW => by rw [← hc]; exact sSym_any hW (by omega)
  obtain ⟨w0, hw0⟩ : ∃ W, W = w.alloc (.cells #[.int .i64 0, .slice none 0 0] 35) := ⟨_, rfl⟩
  have H0 : Hid (Blk w0 w.heap.size #[.int .i64 0, .slice none 0 0] 35 ∧ Below w.heap.size w w0) := by rw [hw0]; exact ⟨Blk.new rfl, (Below.refl _ _).alloc (Nat.le_refl _) _⟩
  clear h hc hok
  go_enter Tryd.func57, Tryd.ntmps57
  go_wp2_with fail
  rw [← hw0]
  refine Calls.mono (HS.out _ (H.out.later H0.out.2)) ?_
  rintro e w1 ⟨rfl, rfl⟩
  have H1 : Hid (Blk w1 w.heap.size #[.int .i64 0, .slice none 0 0] 35 ∧ Below w.heap.size w w1) := H0.out
  clear hw0 H0 HS
  go_wp2_with fail
  have HL0 : Hid (Ls w (w1.alloc (.cells #[.int .i64 0] 2)) w1.heap.size 2 (.slice (some ⟨w1.heap.size, 0, none⟩) 1 1) 1 (iF (ph F)) #[.int .i64 0, .slice none 0 0] 35) := ⟨owns_one _ _ _ rfl, H1.out.1.alloc _, H1.out.2.alloc H1.out.2.size _, H1.out.1.lt, by simp⟩
  clear H1
  go_loopw [4, 5] (fun v i wr => ∃ k : Nat, k ≤ n ∧ i = .int .i64 k ∧ Hid (Ls w wr w1.heap.size 2 v (k + 1) (iF (ph F)) #[.int .i64 0, .slice none 0 0] 35)) (fun _ i _ => n - (intOf i).toNat)
  case atStart => exact ⟨0, Nat.zero_le _, rfl, HL0⟩
  case round =>
    obtain ⟨k, hk, rfl, HL⟩ := hrel
    clear HL0
    by_cases hkn : k < n
    · rcases H.out with ⟨ao', cap', e1, e2⟩ | ⟨b, off, cap', e1, hcell⟩
      · omega
      cases e1
      have g1 : wr.cell? ⟨b, off + k, none⟩ = some (.int .i64 (F k)) := (HL.out.below.cell (World.block_lt_of_cell? _ _ (hcell k hkn))).trans (hcell k hkn)
      obtain ⟨f0, f1⟩ := HK.out k hkn
      obtain ⟨p0, p1⟩ := ph_bd F k
      have hP : ph F (k + 1) = (ph F k + F k) % 4 := rfl
      rcases owned_vl HL.out.own with ⟨_, e2⟩ | ⟨g, cp, rfl, _, _, hs⟩
      · omega
      have g2 : wr.cell? ⟨g, k, none⟩ = some (.int .i64 (ph F k)) := by simpa using hs.cell (i := k) (by omega)
      obtain ⟨f, hf⟩ : ∃ f, f = F k := ⟨_, rfl⟩
      obtain ⟨p, hp⟩ : ∃ p, p = ph F k := ⟨_, rfl⟩
      rw [← hf] at g1 f0 f1 hP
      rw [← hp] at p0 p1 hP g2
      have HP : Hid (ph F (k + 1) = (p + f) % 4) := hP
      clear hf hp hP hcell hs
      have t1 : (p + f).tmod 4 = (p + f) % 4 := Int.tmod_eq_emod_of_nonneg (by omega)
      have q1 : ∀ ob, (wr.alloc ob).cell? ⟨b, off + k, none⟩ = some (.int .i64 f) := fun ob => caold g1
      have q2 : ∀ ob, (wr.alloc ob).cell? ⟨g, k, none⟩ = some (.int .i64 p) := fun ob => caold g2
      have hkn2 : k + 1 ≤ 1000000000 := by omega
      have hlt1 : (k : Int) < (k : Int) + 1 := by omega
      have hwr : IntKind.i64.wrap (p + f) = p + f := wr64 (by omega) (by omega)
      go_wp2_with fail
      go_region_law (first | (refine step_push rfl (.tmp 19) (.tmp 30) 24 rfl 2 (.int .i64 0) 1 8 Tryd.underlying24 info2 rfl (by decide) (by decide) wr.drew [.int .i64 ((p + f) % 4)] rfl (by intro u hu; simp at hu; subst hu; rfl) w1.heap.size (.slice (some ⟨g, 0, none⟩) (k + 1) cp) (k + 1) _ (by simp [Act.eval]) HL.out.own 1 (by simp [Act.eval]) hkn2 HL.out.lt ?_; rintro v1 w3 own3 grow3 ⟨g3, cp3, rfl⟩))
      all_goals
        have HN : Hid (Ls w w3 w1.heap.size 2 (.slice (some ⟨g3, 0, none⟩) (k + 1 + 1) cp3) (k + 1 + 1) (iF (ph F)) #[.int .i64 0, .slice none 0 0] 35) := HL.out.drew.push' own3 (by show _ = vl _ _ ++ [Value.int IntKind.i64 (ph F (k + 1))]; rw [HP.out]) grow3
        clear own3 grow3 HL q1 q2 g1 g2
        go_wp2
        exact ⟨⟨k + 1, by omega, by simp, HN⟩, by simp [intOf]; omega⟩
    · obtain rfl : k = n := by omega
      have c0 := HL.out.box.cell (j := 0) (v := .int .i64 0) rfl
      have c1 := HL.out.box.cell (j := 1) (v := .slice none 0 0) rfl
      have f0 := HL.out.box.frozen 0
      have f1 := HL.out.box.frozen 1
      obtain ⟨ao2, cap2, rfl⟩ := HL.out.form
      go_wp2
      refine bodyPost_ret (v := .agg #[.int .i64 0, .slice ao2 (k + 1) cap2]) (by simp [results, Tryd.results57, go_sem, c0, c1]) rfl ⟨_, rfl, ?_⟩
      exact HL.out.told _ _
end Go.Proofs.YtdknclkecbdpgaaDoor
