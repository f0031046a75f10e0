/- Phase steps, decoded: both packages. -/
import Derived.Test.YtdknclkecbdpgaaDoorPh
namespace Go.Proofs.YtdknclkecbdpgaaDoor
open Go.RowKit
set_option linter.unusedVariables false
set_option linter.unusedSimpArgs false
/-- A step less the one ahead. -/
def dp (F : Nat → Int) (i : Nat) : Int := (F (i + 1) - F i) % 4
theorem mod4_any (x : Int) (h0 : -4 < x) (h1 : x < 4) (w : World) : Calls Tryd.prog 113 #[.int .i64 x, .int .i64 4] w fun e w' => e = .returned (.int .i64 (x % 4)) ∧ w' = w := by
  by_cases hx : x < 0
  · obtain ⟨y, rfl⟩ : ∃ y, x = -y := ⟨-x, by omega⟩
    have t : (-y).tmod 4 = -y := by rw [Int.neg_tmod, Int.tmod_eq_emod_of_nonneg (by omega)]; omega
    have e : (-y) % 4 = -y + 4 := by omega
    rw [e]
    go_enter Tryd.func113, Tryd.ntmps113
    go_wp2
    go_ret
    exact ⟨by simp [t], rfl⟩
  · have t : x.tmod 4 = x := by rw [Int.tmod_eq_emod_of_nonneg (by omega)]; omega
    have e : x % 4 = x := by omega
    rw [e]
    go_enter Tryd.func113, Tryd.ntmps113
    go_wp2
    go_ret
    exact ⟨by simp [t], rfl⟩
set_option maxRecDepth 20000 in
set_option maxHeartbeats 3200000 in
theorem sPhD_ok {w : World} {v : Value} {n : Nat} {F : Nat → Int} (h : RdI w v n F) (hc : symc F n = 0) :
    FB 2 65 #[v] w 0 (n - 1) (iF (dp F)) := by
  unfold FB
  obtain ⟨hn, hok⟩ := symc_0 hc
  have HK : Hid (∀ i, i < n → 0 ≤ F i ∧ F i < 4) := okS_at hok
  obtain ⟨ao, cap, rfl⟩ := h.form
  have H : Hid (RdI w (.slice ao n cap) n F) := h
  have HS : Hid (∀ W, RdI W (.slice ao n cap) n F → Calls Tryd.prog 110 #[.slice ao n cap] W fun e w' => e = .returned (.int .i64 0) ∧ w' = W) := fun W hW => by rw [← hc]; exact sSym_any hW (by omega)
  obtain ⟨w0, hw0⟩ : ∃ W, W = w.alloc (.cells #[.int .i64 0, .slice none 0 0] 35) := ⟨_, rfl⟩
  have H0 : Hid (Blk w0 w.heap.size #[.int .i64 0, .slice none 0 0] 35 ∧ Below w.heap.size w w0) := by rw [hw0]; exact ⟨Blk.new rfl, (Below.refl _ _).alloc (Nat.le_refl _) _⟩
  clear h hc hok
  go_enter Tryd.func65, Tryd.ntmps65
  go_wp2_with fail
  rw [← hw0]
  refine Calls.mono (HS.out _ (H.out.later H0.out.2)) ?_
  rintro e w1 ⟨rfl, rfl⟩
  have H1 : Hid (Blk w1 w.heap.size #[.int .i64 0, .slice none 0 0] 35 ∧ Below w.heap.size w w1) := H0.out
  clear hw0 H0 HS
  go_wp2_with fail
  have HL0 : Hid (Ls w (w1.alloc (.cells #[] 2)) w1.heap.size 2 (.slice (some ⟨w1.heap.size, 0, none⟩) 0 0) 0 (iF (dp F)) #[.int .i64 0, .slice none 0 0] 35) := Ls.start _ _ H1.out.2 H1.out.1 _
  clear H1
  go_loopw [4, 5] (fun v i wr => ∃ k : Nat, k ≤ n - 1 ∧ i = .int .i64 ((k : Int) + 1) ∧ Hid (Ls w wr w1.heap.size 2 v k (iF (dp F)) #[.int .i64 0, .slice none 0 0] 35)) (fun _ i _ => n - (intOf i).toNat)
  case atStart => exact ⟨0, Nat.zero_le _, rfl, HL0⟩
  case round =>
    obtain ⟨k, hk, rfl, HL⟩ := hrel
    clear HL0
    by_cases hkn : k + 1 < n
    · rcases H.out with ⟨ao', cap', e1, e2⟩ | ⟨b, off, cap', e1, hcell⟩
      · omega
      cases e1
      have g0 : wr.cell? ⟨b, off + k, none⟩ = some (.int .i64 (F k)) := (HL.out.below.cell (World.block_lt_of_cell? _ _ (hcell k (by omega)))).trans (hcell k (by omega))
      have g1 : wr.cell? ⟨b, off + (k + 1), none⟩ = some (.int .i64 (F (k + 1))) := (HL.out.below.cell (World.block_lt_of_cell? _ _ (hcell (k + 1) hkn))).trans (hcell (k + 1) hkn)
      obtain ⟨f0, f1⟩ := HK.out k (by omega)
      obtain ⟨p0, p1⟩ := HK.out (k + 1) hkn
      have hP : dp F k = (F (k + 1) - F k) % 4 := rfl
      obtain ⟨f, hf⟩ : ∃ f, f = F k := ⟨_, rfl⟩
      obtain ⟨p, hp⟩ : ∃ p, p = F (k + 1) := ⟨_, rfl⟩
      rw [← hf] at g0 f0 f1 hP
      rw [← hp] at p0 p1 hP g1
      have HP : Hid (dp F k = (p - f) % 4) := hP
      clear hf hp hP hcell
      have t1 : (p - f + 4).tmod 4 = (p - f) % 4 := by rw [Int.tmod_eq_emod_of_nonneg (by omega)]; omega
      have q0 : ∀ ob, (wr.alloc ob).cell? ⟨b, off + k, none⟩ = some (.int .i64 f) := fun ob => caold g0
      have q1 : ∀ ob, (wr.alloc ob).cell? ⟨b, off + (k + 1), none⟩ = some (.int .i64 p) := fun ob => caold g1
      obtain ⟨ao3, cp, rfl⟩ := HL.out.form
      have hkn2 : k ≤ 1000000000 := by omega
      have hkn3 : (k : Int) + 1 < n := by omega
      have hkn4 : (k : Int) < n := by omega
      have hwr : IntKind.i64.wrap (p - f) = p - f := wr64 (by omega) (by omega)
      have hwr2 : IntKind.i64.wrap (p - f + 4) = p - f + 4 := wr64 (by omega) (by omega)
      have hwr3 : IntKind.i64.wrap (k : Int) = k := wr64 (by omega) (by omega)
      have hk0 : (0 : Int) ≤ (k : Int) + 1 := by omega
      go_wp2_with fail
      go_region_law (first | (refine step_push rfl (.tmp 19) (.tmp 32) 24 rfl 2 (.int .i64 0) 1 8 Tryd.underlying24 info2 rfl (by decide) (by decide) wr.drew [.int .i64 ((p - f) % 4)] rfl (by intro u hu; simp at hu; subst hu; rfl) w1.heap.size (.slice ao3 k cp) k _ (by simp [Act.eval]) HL.out.own 1 (by simp [Act.eval]) hkn2 HL.out.lt ?_; rintro v1 w3 own3 grow3 ⟨g3, cp3, rfl⟩))
      all_goals
        have HN : Hid (Ls w w3 w1.heap.size 2 (.slice (some ⟨g3, 0, none⟩) (k + 1) cp3) (k + 1) (iF (dp F)) #[.int .i64 0, .slice none 0 0] 35) := HL.out.drew.push' own3 (by show _ = vl _ _ ++ [Value.int IntKind.i64 (dp F k)]; rw [HP.out]) grow3
        clear own3 grow3 HL q1 q0 g1 g0
        go_wp2
        exact ⟨⟨k + 1, by omega, by simp, HN⟩, by simp [intOf]; omega⟩
    · obtain rfl : k = n - 1 := by omega
      have c0 := HL.out.box.cell (j := 0) (v := .int .i64 0) rfl
      have c1 := HL.out.box.cell (j := 1) (v := .slice none 0 0) rfl
      have f0 := HL.out.box.frozen 0
      have f1 := HL.out.box.frozen 1
      obtain ⟨ao2, cap2, rfl⟩ := HL.out.form
      go_wp2
      refine bodyPost_ret (v := .agg #[.int .i64 0, .slice ao2 (n - 1) cap2]) (by simp [results, Tryd.results65, go_sem, c0, c1]) rfl ⟨_, rfl, ?_⟩
      exact HL.out.told _ _
set_option maxRecDepth 20000 in
set_option maxHeartbeats 3200000 in
theorem iPhD_ok {w : World} {v : Value} {n : Nat} {F : Nat → Int} (h : RdI w v n F) (hc : symc F n = 0) (hE : Et w) :
    FB 2 66 #[v] w 0 (n - 1) (iF (dp F)) := by
  unfold FB
  obtain ⟨hn, hok⟩ := symc_0 hc
  have HK : Hid (∀ i, i < n → 0 ≤ F i ∧ F i < 4) := okS_at hok
  obtain ⟨ao, cap, rfl⟩ := h.form
  have H : Hid (RdI w (.slice ao n cap) n F) := h
  have HS : Hid (∀ W, RdI W (.slice ao n cap) n F → Calls Tryd.prog 111 #[.slice ao n cap] W fun e w' => e = .returned (er 0) ∧ w' = W) := fun W hW => by rw [← hc]; exact iSym_any hW (by omega)
  have HE : Hid (Et w) := hE
  obtain ⟨w0, hw0⟩ : ∃ W, W = w.alloc (.cells #[.int .i64 0, .slice none 0 0] 35) := ⟨_, rfl⟩
  have H0 : Hid (Blk w0 w.heap.size #[.int .i64 0, .slice none 0 0] 35 ∧ Below w.heap.size w w0) := by rw [hw0]; exact ⟨Blk.new rfl, (Below.refl _ _).alloc (Nat.le_refl _) _⟩
  clear h hc hok hE
  go_enter Tryd.func66, Tryd.ntmps66
  go_wp2_with fail
  rw [← hw0]
  refine Calls.mono (HS.out _ (H.out.later H0.out.2)) ?_
  rintro e wa ⟨rfl, rfl⟩
  clear hw0
  go_wp2_with fail
  refine Calls.mono (code_any 0 _ (HE.out.later H0.out.2)) ?_
  rintro e w1 ⟨rfl, hb⟩
  have H1 : Hid (Blk w1 w.heap.size #[.int .i64 0, .slice none 0 0] 35 ∧ Below w.heap.size w w1) := ⟨H0.out.1.later hb, H0.out.2.trans (hb.mono H0.out.2.size)⟩
  clear hb H0 HS HE
  go_wp2_with fail
  have HL0 : Hid (Ls w (w1.alloc (.cells #[] 2)) w1.heap.size 2 (.slice (some ⟨w1.heap.size, 0, none⟩) 0 0) 0 (iF (dp F)) #[.int .i64 0, .slice none 0 0] 35) := Ls.start _ _ H1.out.2 H1.out.1 _
  clear H1
  go_loopw [4, 5] (fun v i wr => ∃ k : Nat, k ≤ n - 1 ∧ i = .int .i64 ((k : Int) + 1) ∧ Hid (Ls w wr w1.heap.size 2 v k (iF (dp F)) #[.int .i64 0, .slice none 0 0] 35)) (fun _ i _ => n - (intOf i).toNat)
  case atStart => exact ⟨0, Nat.zero_le _, rfl, HL0⟩
  case round =>
    obtain ⟨k, hk, rfl, HL⟩ := hrel
    clear HL0
    by_cases hkn : k + 1 < n
    · rcases H.out with ⟨ao', cap', e1, e2⟩ | ⟨b, off, cap', e1, hcell⟩
      · omega
      cases e1
      have g0 : wr.cell? ⟨b, off + k, none⟩ = some (.int .i64 (F k)) := (HL.out.below.cell (World.block_lt_of_cell? _ _ (hcell k (by omega)))).trans (hcell k (by omega))
      have g1 : wr.cell? ⟨b, off + (k + 1), none⟩ = some (.int .i64 (F (k + 1))) := (HL.out.below.cell (World.block_lt_of_cell? _ _ (hcell (k + 1) hkn))).trans (hcell (k + 1) hkn)
      obtain ⟨f0, f1⟩ := HK.out k (by omega)
      obtain ⟨p0, p1⟩ := HK.out (k + 1) hkn
      have hP : dp F k = (F (k + 1) - F k) % 4 := rfl
      obtain ⟨f, hf⟩ : ∃ f, f = F k := ⟨_, rfl⟩
      obtain ⟨p, hp⟩ : ∃ p, p = F (k + 1) := ⟨_, rfl⟩
      rw [← hf] at g0 f0 f1 hP
      rw [← hp] at p0 p1 hP g1
      have HP : Hid (dp F k = (p - f) % 4) := hP
      clear hf hp hP hcell
      have t1 : (p - f + 4).tmod 4 = (p - f) % 4 := by rw [Int.tmod_eq_emod_of_nonneg (by omega)]; omega
      have q0 : ∀ ob, (wr.alloc ob).cell? ⟨b, off + k, none⟩ = some (.int .i64 f) := fun ob => caold g0
      have q1 : ∀ ob, (wr.alloc ob).cell? ⟨b, off + (k + 1), none⟩ = some (.int .i64 p) := fun ob => caold g1
      obtain ⟨ao3, cp, rfl⟩ := HL.out.form
      have hkn2 : k ≤ 1000000000 := by omega
      have hkn3 : (k : Int) + 1 < n := by omega
      have hkn4 : (k : Int) < n := by omega
      have hwr : IntKind.i64.wrap (p - f) = p - f := wr64 (by omega) (by omega)
      have hwr2 : IntKind.i64.wrap (p - f + 4) = p - f + 4 := wr64 (by omega) (by omega)
      have hwr3 : IntKind.i64.wrap (k : Int) = k := wr64 (by omega) (by omega)
      have hk0 : (0 : Int) ≤ (k : Int) + 1 := by omega
      go_wp2_with fail
      go_region_law (first | (go_simp; go_at_call 113; refine Calls.mono (mod4_any _ (by omega) (by omega) _) ?_; rintro e w5 ⟨rfl, rfl⟩) | (refine step_push rfl (.tmp 20) (.tmp 32) 24 rfl 2 (.int .i64 0) 1 8 Tryd.underlying24 info2 rfl (by decide) (by decide) wr.drew [.int .i64 ((p - f) % 4)] rfl (by intro u hu; simp at hu; subst hu; rfl) w1.heap.size (.slice ao3 k cp) k _ (by simp [Act.eval]) HL.out.own 1 (by simp [Act.eval]) hkn2 HL.out.lt ?_; rintro v1 w3 own3 grow3 ⟨g3, cp3, rfl⟩))
      all_goals
        have HN : Hid (Ls w w3 w1.heap.size 2 (.slice (some ⟨g3, 0, none⟩) (k + 1) cp3) (k + 1) (iF (dp F)) #[.int .i64 0, .slice none 0 0] 35) := HL.out.drew.push' own3 (by show _ = vl _ _ ++ [Value.int IntKind.i64 (dp F k)]; rw [HP.out]) grow3
        clear own3 grow3 HL q1 q0 g1 g0
        go_wp2
        exact ⟨⟨k + 1, by omega, by simp, HN⟩, by simp [intOf]; omega⟩
    · obtain rfl : k = n - 1 := by omega
      have c0 := HL.out.box.cell (j := 0) (v := .int .i64 0) rfl
      have c1 := HL.out.box.cell (j := 1) (v := .slice none 0 0) rfl
      have f0 := HL.out.box.frozen 0
      have f1 := HL.out.box.frozen 1
      obtain ⟨ao2, cap2, rfl⟩ := HL.out.form
      go_wp2
      refine bodyPost_ret (v := .agg #[.int .i64 0, .slice ao2 (n - 1) cap2]) (by simp [results, Tryd.results66, go_sem, c0, c1]) rfl ⟨_, rfl, ?_⟩
      exact HL.out.told _ _
end Go.Proofs.YtdknclkecbdpgaaDoor
