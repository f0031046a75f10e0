/- Rows changed about and cleared, as the mesh is programmed: contracts of the program's. -/
import Derived.Test.YtboppklcmdfphaaCw
import Derived.Test.YtboppklcmdfphaaFi
import Derived.Test.YtboppklcmdfphaaElimall
namespace Go.Proofs.Ytboppklcmdfphaa
open Go.RowKit
set_option linter.unusedVariables false
set_option linter.unusedSimpArgs false
theorem one_res {x : Int} (h0 : 0 ≤ x) (h1 : x < 998244353) : Rm.mulM 1 x = x := by rw [Rm.mulM_eq]; omega
theorem nought_l (x : Int) : Rm.mulM 0 x = 0 := by rw [Rm.mulM_eq]; simp
theorem add_nought {x : Int} (h0 : 0 ≤ x) (h1 : x < 998244353) : Rm.addM x 0 = x := by rw [Rm.addM_eq]; omega
theorem nought_add {x : Int} (h0 : 0 ≤ x) (h1 : x < 998244353) : Rm.addM 0 x = x := by rw [Rm.addM_eq]; omega
theorem cpl_swap {F : Rm.Mx} {n wd c p : Nat} (hr : Rm.Res n wd F) (hc : c < n) (hp : p < n) (hne : c ≠ p) {r t : Nat} (hrn : r < n) (ht : t < wd) :
    cpl F c p (Rm.md (Rm.swapC c p).a) (Rm.md (Rm.swapC c p).b) (Rm.md (Rm.swapC c p).c) (Rm.md (Rm.swapC c p).d) wd r t = Rm.swp F c p r t := by
  have h1 := hr c t hc ht
  have h2 := hr p t hp ht
  unfold cpl Rm.swp
  rw [if_pos ht]
  simp only [Rm.swapC, Rm.mulM_mdl, nought_l, one_res h1.1 h1.2, one_res h2.1 h2.2, add_nought h1.1 h1.2, nought_add h2.1 h2.2]
  by_cases e1 : r = p
  · subst e1
    rw [if_pos rfl, if_neg (fun h => hne h.symm), if_pos rfl]
  · rw [if_neg e1]
    by_cases e2 : r = c
    · rw [if_pos e2, if_pos e2]
    · rw [if_neg e2, if_neg e2, if_neg e1]
theorem cpl_leak {F : Rm.Mx} {n wd c k : Nat} (hr : Rm.Res n wd F) (hc : c < n) (hk : k < n) (hne : c ≠ k) (f : Int) {r t : Nat} (hrn : r < n) (ht : t < wd) :
    cpl F c k (Rm.md (Rm.leakC c k (-f)).a) (Rm.md (Rm.leakC c k (-f)).b) (Rm.md (Rm.leakC c k (-f)).c) (Rm.md (Rm.leakC c k (-f)).d) wd r t = if r = k then Rm.addM (F k t) (-(Rm.mulM f (F c t))) else F r t := by
  have h1 := hr c t hc ht
  have h2 := hr k t hk ht
  unfold cpl
  rw [if_pos ht]
  simp only [Rm.leakC, Rm.mulM_mdl, nought_l, one_res h1.1 h1.2, one_res h2.1 h2.2, add_nought h1.1 h1.2]
  by_cases e1 : r = k
  · rw [if_pos e1, if_pos e1, Rm.less_eq, Rm.addM_eq, Rm.addM_eq, Int.add_comm]
  · rw [if_neg e1, if_neg e1]
    by_cases e2 : r = c
    · rw [if_pos e2, e2]
    · rw [if_neg e2]
set_option maxRecDepth 20000 in
set_option maxHeartbeats 1600000 in
theorem lift_any {lo hi : Nat} {w : World} {m : Lie} {n : Nat} {F : Rm.Mx} (h : Gm lo hi w m n (fun _ => n) F) (hr : Rm.Res n n F) (c p : Nat) (hc : c < n) (hp : p < n) (hn : n ≤ 24) (hhi : hi ≤ w.heap.size) (hlo : lo ≤ w.heap.size) :
    Calls Try.prog 83 #[.slice (some ⟨m.b, 0, none⟩) n m.cap, .int .i64 c, .int .i64 p] w fun e w' => ∃ v, e = .returned v ∧ Gm lo hi w' m n (fun _ => n) (Rm.swp F c p) ∧ OwL w.heap.size w' v (Rm.lift1 c p) ∧ Within lo hi w w' := by
  by_cases hpc : p = c
  · subst hpc
    have H : Hid (Gm lo hi w m n (fun _ => n) F) := h
    clear h
    go_enter Try.func83, Try.ntmps83
    go_wp2
    go_ret
    refine ⟨_, rfl, H.out.congr (fun r t _ _ => ?_), ?_, Within.refl _ _ _⟩
    · unfold Rm.swp
      by_cases e : r = p
      · rw [if_pos e, e]
      · rw [if_neg e, if_neg e]
    · rw [show Rm.lift1 p p = [] by simp [Rm.lift1]]
      exact OwL.nil _ _
  · have hne : c ≠ p := fun e => hpc e.symm
    have H : Hid (Gm lo hi w m n (fun _ => n) F ∧ hi ≤ w.heap.size ∧ lo ≤ w.heap.size ∧ Rm.Res n n F) := ⟨h, hhi, hlo, hr⟩
    have h1 : (((p : Nat) : Int) == ((c : Nat) : Int)) = false := by rw [beq_eq_false_iff_ne]; omega
    clear h hhi hlo hr hpc
    go_enter Try.func83, Try.ntmps83
    go_wp2_with fail
    refine (swap_any _ _ _).mono ?_
    rintro e w1 ⟨rfl, hb1⟩
    have z1 := hb1.size
    go_wp2_with fail
    obtain ⟨X, hX⟩ : ∃ X, X = w1.alloc (.cells #[.int .i64 (c : Int), .int .i64 (p : Int), .int .i64 0, .int .i64 1, .int .i64 1, .int .i64 0] 77) := ⟨_, rfl⟩
    have HX : Hid (Blk X w1.heap.size #[.int .i64 (c : Int), .int .i64 (p : Int), .int .i64 0, .int .i64 1, .int .i64 1, .int .i64 0] 77 ∧ Below w.heap.size w X ∧ w1.heap.size < X.heap.size) := by
      rw [hX]; exact ⟨Blk.new rfl, hb1.alloc z1 _, by simp⟩
    rw [← hX]
    clear hX hb1
    refine (coupler_any (Rm.swapC c p) _).mono ?_
    rintro e w2 ⟨rfl, hb2⟩
    have HY : Hid (Blk w2 w1.heap.size #[.int .i64 (c : Int), .int .i64 (p : Int), .int .i64 0, .int .i64 1, .int .i64 1, .int .i64 0] 77 ∧ Below w.heap.size w w2 ∧ w1.heap.size < w2.heap.size) := ⟨HX.out.1.old hb2, HX.out.2.1.trans (hb2.mono (by have := HX.out.2.1.size; omega)), by have := hb2.size; have := HX.out.2.2; omega⟩
    have HG : Hid (Gm lo hi w2 m n (fun _ => n) F) := H.out.1.keep fun k _ hk => HY.out.2.1.block k (by have := H.out.2.1; omega)
    clear HX hb2
    go_wp2_with fail
    refine (couple_any HG.out c p _ _ _ _ hc hp hne (by omega) (by omega) (by have := H.out.2.1; have := HY.out.2.2; omega) (by have := H.out.2.2.1; have := HY.out.2.2; omega)).mono ?_
    rintro e w3 ⟨rfl, hg3, hw3⟩
    have hBk : Blk w3 w1.heap.size #[.int .i64 (c : Int), .int .i64 (p : Int), .int .i64 0, .int .i64 1, .int .i64 1, .int .i64 0] 77 := HY.out.1.within hw3 (by have := H.out.2.1; omega)
    have y0 := hBk.cell (j := 0) rfl
    have y1 := hBk.cell (j := 1) rfl
    have y2 := hBk.cell (j := 2) rfl
    have y3 := hBk.cell (j := 3) rfl
    have y4 := hBk.cell (j := 4) rfl
    have y5 := hBk.cell (j := 5) rfl
    have HZ : Hid (Gm lo hi w3 m n (fun _ => n) (Rm.swp F c p) ∧ Within lo hi w w3 ∧ w.heap.size ≤ w3.heap.size) := by
      have hh := H.out
      have h2 := HY.out.2.1
      refine ⟨hg3.congr fun r t hr ht => cpl_swap H.out.2.2.2 hc hp hne hr ht, Within.trans ⟨h2.mono hh.2.2.1, fun q h1 h3 => h2.block q h3⟩ hw3, by have := h2.size; have := hw3.below.size; omega⟩
    clear hg3 hw3 hBk HY HG
    go_wp2
    go_ret
    refine ⟨_, rfl, HZ.out.1.alloc _ (by have := H.out.2.1; have := HZ.out.2.2; omega), ?_, HZ.out.2.1.alloc (by have := H.out.2.2.1; have := HZ.out.2.2; omega) _⟩
    rw [show Rm.lift1 c p = [Rm.swapC c p] by simp [Rm.lift1, Ne.symm hne]]
    exact ⟨rfl, Or.inr ⟨w3.heap.size, 1, _, rfl, HZ.out.2.2, heap_alloc_new _ _, Nat.le_refl _, by unfold maxLen; simp, rfl, rfl⟩⟩
set_option maxRecDepth 20000 in
set_option maxHeartbeats 3200000 in
theorem clear_gd {lo hi : Nat} {w : World} {m : Lie} {n : Nat} {F : Rm.Mx} (h : Gm lo hi w m n (fun _ => n) F) (hr : Rm.Res n n F) (c : Nat) (hc : c < n) (hn : n ≤ 24) (hhi : hi ≤ w.heap.size) (hlo : lo ≤ w.heap.size) :
    Calls Try.prog 84 #[.slice (some ⟨m.b, 0, none⟩) n m.cap, .int .i64 c] w fun e w' => ∃ v, e = .returned v ∧ Gm lo hi w' m n (fun _ => n) (Rm.clrP F c n) ∧ OwL w.heap.size w' v (Rm.nk F c n) ∧ Within lo hi w w' := by
  have H : Hid (Gm lo hi w m n (fun _ => n) F ∧ hi ≤ w.heap.size ∧ lo ≤ w.heap.size ∧ Rm.Res n n F) := ⟨h, hhi, hlo, hr⟩
  have g1 : w.cell? ⟨m.b, c, none⟩ = some (.slice (some ⟨m.bs c, m.os c, none⟩) n (m.cs c)) := h.cellRow hc
  have g2 : w.cell? ⟨m.bs c, m.os c + c, none⟩ = some (.int .i64 (F c c)) := h.cellAt hc hc
  clear h hhi hlo hr
  go_enter Try.func84, Try.ntmps84
  go_wp2_with fail
  refine (inverse_any _ _).mono ?_
  rintro e w1 ⟨rfl, rfl⟩
  obtain ⟨u, hu⟩ : ∃ u, u = Rm.invM (F c c) := ⟨_, rfl⟩
  have HU : Hid (u = Rm.invM (F c c)) := hu
  rw [← hu]
  clear hu
  go_wp2_with fail
  clear g1 g2
  go_loopw [5, 19] (fun v s wr => ∃ k : Nat, k ≤ n ∧ s = .int .i64 k ∧ Hid (Gm lo hi wr m n (fun _ => n) (Rm.clrP F c k) ∧ OwL w.heap.size wr v (Rm.nk F c k) ∧ Within lo hi w wr ∧ w.heap.size ≤ wr.heap.size)) (fun _ s _ => n - (intOf s).toNat)
  case atStart => exact ⟨0, Nat.zero_le _, rfl, H.out.1.congr (fun r t _ _ => by simp [Rm.clrP]), OwL.nil _ _, Within.refl _ _ _, Nat.le_refl _⟩
  case round =>
    obtain ⟨k, hk, rfl, HS⟩ := hrel
    by_cases hkn : k < n
    · have hlen := Rm.nk_len F c k
      have hlk : (Rm.nk F c k).length ≤ 24 := by split at hlen <;> omega
      clear hlen
      by_cases hkc : k = c
      · have h1 : (((k : Nat) : Int) == ((c : Nat) : Int)) = true := by rw [beq_iff_eq]; omega
        have HN : Hid (Gm lo hi wr m n (fun _ => n) (Rm.clrP F c (k + 1)) ∧ OwL w.heap.size wr u5 (Rm.nk F c (k + 1)) ∧ Within lo hi w wr ∧ w.heap.size ≤ wr.heap.size) := by
          refine ⟨HS.out.1.congr (fun r t _ _ => ?_), ?_, HS.out.2.2⟩
          · unfold Rm.clrP
            by_cases e : r < k ∧ r ≠ c ∧ F r c ≠ 0
            · rw [if_pos e, if_pos (by omega)]
            · rw [if_neg e, if_neg (by omega)]
          · rw [Rm.nk, if_pos (Or.inl hkc)]; exact HS.out.2.1
        clear HS hkc
        go_wp2
        exact ⟨⟨k + 1, by omega, by simp, HN⟩, by simp [intOf]; omega⟩
      · have h1 : (((k : Nat) : Int) == ((c : Nat) : Int)) = false := by rw [beq_eq_false_iff_ne]; omega
        have hck : c ≠ k := fun e => hkc e.symm
        have g1 : wr.cell? ⟨m.b, k, none⟩ = some (.slice (some ⟨m.bs k, m.os k, none⟩) n (m.cs k)) := HS.out.1.cellRow hkn
        have g2 : wr.cell? ⟨m.bs k, m.os k + c, none⟩ = some (.int .i64 (F k c)) := by have := HS.out.1.cellAt hkn hc; simpa [Rm.clrP] using this
        by_cases hz : F k c = 0
        · have hz1 : (F k c == 0) = true := by simp [hz]
          have HN : Hid (Gm lo hi wr m n (fun _ => n) (Rm.clrP F c (k + 1)) ∧ OwL w.heap.size wr u5 (Rm.nk F c (k + 1)) ∧ Within lo hi w wr ∧ w.heap.size ≤ wr.heap.size) := by
            refine ⟨HS.out.1.congr (fun r t _ _ => ?_), ?_, HS.out.2.2⟩
            · unfold Rm.clrP
              by_cases e : r < k ∧ r ≠ c ∧ F r c ≠ 0
              · rw [if_pos e, if_pos ⟨by omega, e.2⟩]
              · rw [if_neg e, if_neg (fun e' => e ⟨by
                  by_cases q : r = k
                  · subst q; exact absurd hz e'.2.2
                  · omega, e'.2⟩)]
            · rw [Rm.nk, if_pos (Or.inr hz)]; exact HS.out.2.1
          clear HS hkc hck hz
          go_wp2
          exact ⟨⟨k + 1, by omega, by simp, HN⟩, by simp [intOf]; omega⟩
        · have hz1 : (F k c == 0) = false := by simpa using hz
          have HZ : Hid (F k c ≠ 0) := hz
          clear hz hkc
          obtain ⟨f, hf⟩ : ∃ f, f = Rm.mulM (F k c) u := ⟨_, rfl⟩
          have HFF : Hid (f = Rm.fac F c k) := by show f = Rm.fac F c k; rw [hf, HU.out]; rfl
          have hf0 : 0 ≤ f := by rw [hf]; exact Rm.mulM_lo _ _
          have hf1 : f < 998244353 := by rw [hf]; exact Rm.mulM_hi _ _
          go_wp2_with fail
          refine (times_any _ _ _).mono ?_
          rintro e w1 ⟨rfl, rfl⟩
          rw [← hf]
          clear hf
          go_wp2_with fail
          refine (leak_any _ _ _ _).mono ?_
          rintro e w2 ⟨rfl, hb2⟩
          have z2 := hb2.size
          go_wp2_with fail
          refine (coupler_any (Rm.leakC c k (-f)) _).mono ?_
          rintro e w3 ⟨rfl, hb3⟩
          have z3 := hb3.size
          have H3 : Hid (Gm lo hi w3 m n (fun _ => n) (Rm.clrP F c k) ∧ OwL w.heap.size w3 u5 (Rm.nk F c k) ∧ Within lo hi w w3 ∧ w.heap.size ≤ w3.heap.size) := by
            obtain ⟨s1, s2, s3, s4⟩ := HS.out
            have hh := H.out
            have hb : Below wr.heap.size wr w3 := hb2.trans (hb3.mono z2)
            exact ⟨s1.keep (fun q _ h2 => hb.block q (by omega)), s2.later hb, s3.trans ⟨hb.mono (by omega), fun q _ h2 => hb.block q h2⟩, by omega⟩
          clear HS hb2 hb3 g1 g2 z2 z3
          go_wp2_with fail
          refine (couple_any H3.out.1 c k _ _ _ _ hc hkn hck (by omega) (by omega) (by have := H.out.2.1; have := H3.out.2.2.2; omega) (by have := H.out.2.2.1; have := H3.out.2.2.2; omega)).mono ?_
          rintro e w4 ⟨rfl, hg4, hw4⟩
          have H4 : Hid (Gm lo hi w4 m n (fun _ => n) (Rm.clrP F c (k + 1)) ∧ OwL w.heap.size w4 u5 (Rm.nk F c k) ∧ Within lo hi w w4 ∧ w.heap.size ≤ w4.heap.size) := by
            obtain ⟨s1, s2, s3, s4⟩ := H3.out
            have hh := H.out
            refine ⟨hg4.congr (fun r t hrn ht => ?_), ?_, s3.trans hw4, by have := hw4.below.size; omega⟩
            · rw [cpl_leak (Rm.res_clrP hh.2.2.2) hc hkn hck f hrn ht]
              have e1 : Rm.clrP F c k k t = F k t := by simp [Rm.clrP]
              have e2 : Rm.clrP F c k c t = F c t := by simp [Rm.clrP]
              rw [e1, e2, HFF.out]
              unfold Rm.clrP
              by_cases q : r = k
              · subst q
                rw [if_pos rfl, if_pos ⟨by omega, fun e => hck e.symm, HZ.out⟩]
                rfl
              · rw [if_neg q]
                by_cases e : r < k ∧ r ≠ c ∧ F r c ≠ 0
                · rw [if_pos e, if_pos ⟨by omega, e.2⟩]
                · rw [if_neg e, if_neg (fun e' => e ⟨by omega, e'.2⟩)]
            · refine ⟨s2.1, ?_⟩
              rcases s2.2 with h | ⟨g, cap, cur, hv, hg, hb, rest⟩
              · exact Or.inl h
              · exact Or.inr ⟨g, cap, cur, hv, hg, (hw4.above g (by omega) (Array.getElem?_eq_some_iff.1 hb).1).trans hb, rest⟩
          clear H3 hg4 hw4
          go_wp2_with fail
          refine (leak_any _ _ _ _).mono ?_
          rintro e w5 ⟨rfl, hb5⟩
          have H5 : Hid (Gm lo hi w5 m n (fun _ => n) (Rm.clrP F c (k + 1)) ∧ OwL w.heap.size w5 u5 (Rm.nk F c k) ∧ Within lo hi w w5 ∧ w.heap.size ≤ w5.heap.size) := by
            obtain ⟨s1, s2, s3, s4⟩ := H4.out
            have hh := H.out
            exact ⟨s1.keep (fun q _ h2 => hb5.block q (by omega)), s2.later hb5, s3.trans ⟨hb5.mono (by omega), fun q _ h2 => hb5.block q h2⟩, by have := hb5.size; omega⟩
          have hz5 : w.heap.size ≤ w5.heap.size := H5.out.2.2.2
          clear H4 hb5
          go_wp2_with (first | (at_builtin; refine pushC rfl (.tmp 52) (.tmp 57) rfl w5 (Rm.leakC c k f) w.heap.size u5 _ rfl H5.out.2.1 rfl (by omega) hz5 ?_; intro v1 w6 hown6 hgr6 hnn6))
          have HN : Hid (Gm lo hi w6 m n (fun _ => n) (Rm.clrP F c (k + 1)) ∧ OwL w.heap.size w6 v1 (Rm.nk F c (k + 1)) ∧ Within lo hi w w6 ∧ w.heap.size ≤ w6.heap.size) := by
            obtain ⟨s1, s2, s3, s4⟩ := H5.out
            have hh := H.out
            have hB : Below w.heap.size w5 w6 := ((Below.refl w.heap.size w5).alloc s4 _).grown hgr6 (by simp; omega) fun q hq => (World.ownsRow.lt s2 q hq).1
            refine ⟨s1.keep (fun q _ h2 => hB.block q (by omega)), ?_, ⟨s3.below.trans (hB.mono hh.2.2.1), fun q h1 h2 => (hB.block q h2).trans (s3.above q h1 h2)⟩, Nat.le_trans s4 hB.size⟩
            · rw [Rm.nk, if_neg (by rintro (e | e); exact hck e.symm; exact HZ.out e), ← HFF.out]
              exact hown6
          clear H5 hown6 hgr6
          go_wp2
          exact ⟨⟨k + 1, by omega, by simp, HN⟩, by simp [intOf]; omega⟩
    · obtain rfl : k = n := by omega
      go_wp2
      go_ret
      exact ⟨_, rfl, HS.out.1, HS.out.2.1, HS.out.2.2.1⟩
end Go.Proofs.Ytboppklcmdfphaa
