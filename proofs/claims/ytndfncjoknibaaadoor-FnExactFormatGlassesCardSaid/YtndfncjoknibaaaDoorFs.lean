/- The specification's FormatGlasses: its contract. -/
import Derived.Test.YtndfncjoknibaaaDoorFt
import Derived.Deep.DeepCutAuto
import Derived.Test.YtndfncjoknibaaaDoorStill
namespace Go.Proofs.YtndfncjoknibaaaDoor
open Go.RowKit Fl
set_option linter.unusedVariables false
theorem num_any (z : Int) (h0 : -1000000000000 ≤ z) (h1 : z ≤ 1000000000000) (w : World) : Calls Tryd.prog 65 #[.int .i64 z] w fun e w' => e = .returned (.string (numB z)) ∧ Below w.heap.size w w' := sint z w h0 h1
theorem num_size {z : Int} (h0 : -1000000000000 ≤ z) (h1 : z ≤ 1000000000000) : (numB z).size ≤ 21 := by
  have := itoa_len z h0 h1
  show (Lib.itoa z).toArray.size ≤ 21
  simpa using this
theorem bad_no {G : Nat → Gl} {k n : Nat} (hk : k < n) (h : ¬ Good G k) : ¬ OkAll G n := fun a => h (a.2.1 k hk)
theorem kind_size (kd : Int) : (kindB' kd).size ≤ 7 := by unfold kindB'; split <;> decide
theorem spH_size {o : ByteArray} {g : Gl} (h : Right g) : (spH o g).size ≤ o.size + 100 := by
  have h1 := num_size (z := g.lo) (by have := h.lo; omega) (by have := h.lo; omega)
  have h2 := num_size (z := g.hi) (by have := h.hi; omega) (by have := h.hi; omega)
  have h3 := kind_size g.kd
  have h4 := h.nm
  have h5 : (⟨#[103, 108, 97, 115, 115, 32]⟩ : ByteArray).size = 6 := rfl
  have h6 : (⟨#[32]⟩ : ByteArray).size = 1 := rfl
  unfold spH
  simp only [ByteArray.size_append, h5, h6]
  omega
theorem sp_size {o : ByteArray} {g : Gl} (h : Right g) {k : Nat} (hk : k ≤ g.n) : (sp o g k).size ≤ o.size + 100 + 22 * k := by
  induction k with
  | zero => have := spH_size (o := o) h; simp only [sp]; omega
  | succ k ih =>
    have h1 := ih (by omega)
    have h2 := num_size (h.fs k (by omega)).1 (h.fs k (by omega)).2
    have h6 : (⟨#[32]⟩ : ByteArray).size = 1 := rfl
    simp only [sp, ByteArray.size_append, h6]
    omega
theorem good_of {G : Nat → Gl} {n k : Nat} (h : Found G (G k).s n k) (h1 : gf (G k) = 0) (h2 : zeroSh (G k).x) : Good G k := by
  rcases h.ex with ⟨e, _⟩ | ⟨i, _, e, _, h3⟩
  · omega
  · obtain rfl : k = i := by omega
    exact ⟨h1, h2, h3⟩
theorem found_of {G : Nat → Gl} {n k : Nat} {r : Int} (h : Found G (G k).s n r) (hk : k < n) (g : Good G k) : r = k := by
  rcases h.ex with ⟨_, h1⟩ | ⟨i, _, rfl, h2, h3⟩
  · exact absurd rfl (h1 k hk)
  · by_cases e : i = k
    · rw [e]
    · rcases Nat.lt_or_ge i k with l | l
      · exact absurd h2 (g.2.2 i l)
      · exact absurd rfl (h3 k (by omega))
/-- The tail of a round: from the head of a line on. -/
structure GCopy (w : World) (b : Nat) (g : Gl) (k : Value) : Prop where
  six : Six w b (.string g.s) (.int .i64 g.kd) (.int .i64 g.lo) (.int .i64 g.hi) k (.float .f64 g.x)
  row : RdRow w k g.n g.f
theorem GCopy.later {w w' : World} {b : Nat} {g : Gl} {k : Value} (h : GCopy w b g k) (hb : Below w.heap.size w w') : GCopy w' b g k := ⟨h.six.later hb, h.row.later hb⟩
set_option maxHeartbeats 6400000 in
set_option maxRecDepth 10000 in
theorem sFmt_some (b off n cap : Nat) (G : Nat → Gl) (w : World) (hn : n ≤ 1000000000) (hg : ∀ i, i < n → (G i).n ≤ 1000000000000)
    (hc : ∀ i, i < n → ∃ k, SixAt w b (off + i * 6) (G i) k ∧ RdRow w k (G i).n (G i).f) :
    Calls Tryd.prog 34 #[.slice (some ⟨b, off, none⟩) n cap] w fun e w' => ∃ t, e = .returned (.string t) ∧ Fm G n t ∧ Below w.heap.size w w' := by
  have HC : Hid (∀ i, i < n → ∃ k, SixAt w b (off + i * 6) (G i) k ∧ RdRow w k (G i).n (G i).f) := hc
  have HG : Hid (∀ i, i < n → (G i).n ≤ 1000000000000) := hg
  have HL : Hid (∀ W, Below w.heap.size w W → RdG W (.slice (some ⟨b, off, none⟩) n cap) n G) := fun W h => RdG.later (Or.inr ⟨b, off, cap, rfl, hc⟩) h
  clear hc hg
  have hst := st64
  go_enter Tryd.func34, Tryd.ntmps34
  go_wp2_with fail
  go_loopw [3, 4] (fun s i wr => ∃ (k : Nat) (o : ByteArray), k ≤ n ∧ i = .int .i64 k ∧ s = .string o ∧ Hid (o = textB G k ∧ k ≤ 100 ∧ (∀ i, i < k → Good G i)) ∧ o.size ≤ 4000 ∧ Below w.heap.size w wr) (fun _ i _ => n - (intOf i).toNat)
  case atStart => exact ⟨0, ⟨#[]⟩, Nat.zero_le _, rfl, rfl, ⟨rfl, by omega, fun i hi => by omega⟩, by decide, Below.refl _ _⟩
  case round =>
    obtain ⟨k, o, hk, rfl, rfl, HA, hos, hR⟩ := hrel
    by_cases hkn : k < n
    · obtain ⟨kv, h6, hrow⟩ := HC.out k hkn
      obtain ⟨c0, c1, c2, c3, c4, c5⟩ := h6.later hR
      obtain ⟨ao, cp, rfl⟩ := hrow.shape
      obtain ⟨Y, hY⟩ : ∃ Y, Y = wr.alloc (.cells #[.string (G k).s, .int .i64 (G k).kd, .int .i64 (G k).lo, .int .i64 (G k).hi, .slice ao (G k).n cp, .float .f64 (G k).x] 28) := ⟨_, rfl⟩
      obtain ⟨q, hq⟩ : ∃ q, q = wr.heap.size := ⟨_, rfl⟩
      have HY : Hid (Below w.heap.size w Y ∧ GCopy Y q (G k) (.slice ao (G k).n cp)) := by
        have h1 : Below wr.heap.size wr Y := by rw [hY]; exact (Below.refl _ _).alloc (Nat.le_refl _) _
        have h2 : Below w.heap.size w Y := hR.trans (h1.mono hR.size)
        exact ⟨h2, ⟨by rw [hY, hq]; exact six_new _ _ _ _ _ _ _ _, hrow.later h2⟩⟩
      have hgk := HG.out k hkn
      clear h6 hrow hR
      by_cases h100 : 100 ≤ k
      · have HN : Hid (¬ OkAll G n) := fun a => by have := a.1; omega
        go_wp2_with fail
        rw [← hY]
        go_ret
        exact ⟨_, rfl, Or.inr ⟨HN.out, rfl⟩, HY.out.1⟩
      · have h100' : (k : Int) < 100 := by omega
        go_upto_region 6 with fail
        rw [← hY, ← hq]
        clear hY hq c0 c1 c2 c3 c4 c5
        obtain ⟨c0, c1, c2, c3, c4, c5⟩ := HY.out.2.six
        go_wp2_with fail
        refine (sGF_any HY.out.2.row hgk).mono ?_
        rintro e w1 ⟨rfl, b1⟩
        have A1 : Hid (Below w.heap.size w w1 ∧ GCopy w1 q (G k) (.slice ao (G k).n cp)) := ⟨box_step HY.out.1 b1 (by omega), HY.out.2.later b1⟩
        clear b1 c0 c1 c2 c3 c4 c5 HY
        obtain ⟨c0, c1, c2, c3, c4, c5⟩ := A1.out.2.six
        generalize hcode : gfault (G k).s (G k).kd (G k).lo (G k).hi (G k).n (G k).f (G k).x = code
        by_cases hz : code = 0
        · subst hz
          have HG0 : Hid (gf (G k) = 0) := hcode
          clear hcode
          by_cases hsh : FloatKind.f64.format.order (G k).x 0 = some .eq
          · have hsb : (FloatKind.f64.format.order (G k).x 0 == some .eq) = true := by simpa using hsh
            have HZ : Hid (zeroSh (G k).x) := hsh
            go_wp2_with fail
            refine (sFind_any (HL.out _ A1.out.1) (by omega) (G k).s).mono ?_
            rintro e w2 ⟨r, rfl, hf, b2⟩
            have A2 : Hid (Below w.heap.size w w2 ∧ GCopy w2 q (G k) (.slice ao (G k).n cp)) := ⟨box_step A1.out.1 b2 (by omega), A1.out.2.later b2⟩
            have HF : Hid (Found G (G k).s n r) := hf
            clear b2 hf c0 c1 c2 c3 c4 c5 hsh hsb
            by_cases hrk : r = k
            · subst hrk
              have HGD : Hid (Good G k) := good_of HF.out HG0.out HZ.out
              have HRt : Hid (Right (G k)) := right_of HG0.out
              have l1 : -1000000000000 ≤ (G k).lo := by have := HRt.out.lo; omega
              have l2 : (G k).lo ≤ 1000000000000 := by have := HRt.out.lo; omega
              have l3 : -1000000000000 ≤ (G k).hi := by have := HRt.out.hi; omega
              have l4 : (G k).hi ≤ 1000000000000 := by have := HRt.out.hi; omega
              have z1 : (G k).s.size ≤ 20 := HRt.out.nm
              have z2 := num_size l1 l2
              have z3 := num_size l3 l4
              have y0 : ∀ x : Kept w2.heap.size w2, x.w.cell? ⟨q, 0, none⟩ = some (.string (G k).s) := fun x => (A2.out.2.later x.h).six.c0
              have y2 : ∀ x : Kept w2.heap.size w2, x.w.cell? ⟨q, 2, none⟩ = some (.int .i64 (G k).lo) := fun x => (A2.out.2.later x.h).six.c2
              have y3 : ∀ x : Kept w2.heap.size w2, x.w.cell? ⟨q, 3, none⟩ = some (.int .i64 (G k).hi) := fun x => (A2.out.2.later x.h).six.c3
              have c1 := A2.out.2.six.c1
              have hR2 : Below w2.heap.size w2 w2 := Below.refl _ _
              rcases HRt.out.kn with ⟨ek, en⟩ | ⟨ek, en⟩
              ·
                have hK : kindB' (G k).kd = ⟨#[32, 115, 105, 120, 32]⟩ := by rw [ek]; rfl
                have HSP : Hid (o ++ ⟨#[103, 108, 97, 115, 115, 32]⟩ ++ (G k).s ++ ⟨#[32, 115, 105, 120, 32]⟩ ++ numB (G k).lo ++ ⟨#[32]⟩ ++ numB (G k).hi = spH o (G k)) := (show _ = spH o (G k) by unfold spH; rw [hK])
                have hpos : 0 < (G k).n := by rw [en]; omega
                clear hK en
                go_wp2_with fail
                refine wp_region_kept w2.heap.size (by kernel_rfl) (by kernel_rfl) ?_
                intro hne
                repeat (go_big_quiet_step ((go_at_call 65; exact Calls.kept_of (Nat.le_refl _) (num_any _ (by assumption) (by assumption) _))))
                refine wpQuiet_nil ?_
                rintro w4 ⟨xk, hxk⟩
                have hR4 := xk.h
                rw [← hxk] at hR4
                clear hxk xk hne
                all_goals
                  rw [HSP.out]
                  clear HSP ek y0 y2 y3 c1
                  have A4 : Hid (Below w.heap.size w w4 ∧ GCopy w4 q (G k) (.slice ao (G k).n cp)) := ⟨box_step A2.out.1 hR4 (by omega), A2.out.2.later hR4⟩
                  clear hR4 hR2 l1 l2 l3 l4 z1 z2 z3
                  obtain ⟨kb, ko, kc, he, hkc⟩ := rd_some A4.out.2.row hpos
                  obtain ⟨rfl, rfl⟩ : ao = some ⟨kb, ko, none⟩ ∧ cp = kc := by simpa using he
                  have HKC : Hid (∀ i, i < (G k).n → w4.cell? ⟨kb, ko + i, none⟩ = some (.int .i64 ((G k).f i))) := hkc
                  clear he hkc
                  go_wp2_with fail
                  go_loopw [3, 7] (fun s i wr => ∃ m : Nat, m ≤ (G k).n ∧ i = .int .i64 m ∧ s = .string (sp o (G k) m) ∧ Below w4.heap.size w4 wr) (fun _ i _ => (G k).n - (intOf i).toNat)
                  case atStart => exact ⟨0, Nat.zero_le _, rfl, rfl, Below.refl _ _⟩
                  case round =>
                    obtain ⟨m, hm, rfl, rfl, hR⟩ := hrel
                    have hs1 := sp_size (o := o) HRt.out hm
                    have hs3 : (G k).n ≤ 6 := by rcases HRt.out.kn with h | h <;> omega
                    by_cases hlt : m < (G k).n
                    · obtain ⟨c0, c1, c2, c3, c4, c5⟩ := (A4.out.2.later hR).six
                      have g1 : wr.cell? ⟨kb, ko + m, none⟩ = some (.int .i64 ((G k).f m)) := (hR.cell (World.block_lt_of_cell? _ _ (HKC.out m hlt))).trans (HKC.out m hlt)
                      obtain ⟨f1, f2⟩ := HRt.out.fs m hlt
                      have hs2 := num_size f1 f2
                      have HSS : Hid (sp o (G k) m ++ ⟨#[32]⟩ ++ numB ((G k).f m) = sp o (G k) (m + 1)) := rfl
                      have HB : Hid (Below w4.heap.size w4 wr) := hR
                      clear hR
                      generalize sp o (G k) m = om at *
                      go_wp2_with fail
                      refine (num_any _ f1 f2 _).mono ?_
                      rintro e w5 ⟨rfl, b5⟩
                      have HB5 : Hid (Below w4.heap.size w4 w5) := box_step HB.out b5 (Nat.le_refl _)
                      clear b5 c0 c1 c2 c3 c4 c5 g1 f1 f2
                      go_wp2
                      go_roundw
                      case rel => exact ⟨m + 1, by omega, by simp, by rw [HSS.out], HB5.out⟩
                      case measure => simp [intOf]; omega
                    · obtain rfl : m = (G k).n := by omega
                      obtain ⟨c0, c1, c2, c3, c4, c5⟩ := (A4.out.2.later hR).six
                      have HT1 : Hid (sp o (G k) (G k).n ++ ⟨#[10]⟩ = textB G (k + 1)) := (show _ = textB G (k + 1) by rw [sp_line o HRt.out]; show _ = textB G k ++ lineB (G k); rw [← HA.out.1])
                      have HB : Hid (Below w.heap.size w wr) := box_step A4.out.1 hR (by omega)
                      clear hR
                      have hs4 : (sp o (G k) (G k).n).size ≤ 5000 := by omega
                      generalize sp o (G k) (G k).n = om at *
                      clear hs1
                      have h10 : (om ++ ⟨#[10]⟩ : ByteArray).size = om.size + 1 := by rw [ByteArray.size_append]; rfl
                      by_cases hbig : 4000 < om.size + 1
                      · have HN : Hid (¬ OkAll G n) := fun a => by
                          have h1 := text_mono G (show k + 1 ≤ n by omega)
                          rw [← HT1.out, h10] at h1
                          have := a.2.2
                          omega
                        have hbig' : (4000 : Int) < (om.size : Int) + 1 := by omega
                        go_wp2
                        go_ret
                        exact ⟨_, rfl, Or.inr ⟨HN.out, rfl⟩, HB.out⟩
                      · have hbig' : ¬ (4000 : Int) < (om.size : Int) + 1 := by omega
                        go_wp2
                        go_roundw
                        case rel => exact ⟨k + 1, _, by omega, by simp, rfl, ⟨HT1.out, by omega, fun i hi => by by_cases e : i = k; exact (by rw [e]; exact HGD.out); exact HA.out.2.2 i (by omega)⟩, by rw [h10]; omega, HB.out⟩
                        case measure => simp [intOf]; omega
              ·
                have hK : kindB' (G k).kd = ⟨#[32, 116, 104, 114, 101, 101, 32]⟩ := by rw [ek]; rfl
                have HSP : Hid (o ++ ⟨#[103, 108, 97, 115, 115, 32]⟩ ++ (G k).s ++ ⟨#[32, 116, 104, 114, 101, 101, 32]⟩ ++ numB (G k).lo ++ ⟨#[32]⟩ ++ numB (G k).hi = spH o (G k)) := (show _ = spH o (G k) by unfold spH; rw [hK])
                have hpos : 0 < (G k).n := by rw [en]; omega
                clear hK en
                go_wp2_with fail
                refine wp_region_kept w2.heap.size (by kernel_rfl) (by kernel_rfl) ?_
                intro hne
                repeat (go_big_quiet_step ((go_at_call 65; exact Calls.kept_of (Nat.le_refl _) (num_any _ (by assumption) (by assumption) _))))
                refine wpQuiet_nil ?_
                rintro w4 ⟨xk, hxk⟩
                have hR4 := xk.h
                rw [← hxk] at hR4
                clear hxk xk hne
                all_goals
                  rw [HSP.out]
                  clear HSP ek y0 y2 y3 c1
                  have A4 : Hid (Below w.heap.size w w4 ∧ GCopy w4 q (G k) (.slice ao (G k).n cp)) := ⟨box_step A2.out.1 hR4 (by omega), A2.out.2.later hR4⟩
                  clear hR4 hR2 l1 l2 l3 l4 z1 z2 z3
                  obtain ⟨kb, ko, kc, he, hkc⟩ := rd_some A4.out.2.row hpos
                  obtain ⟨rfl, rfl⟩ : ao = some ⟨kb, ko, none⟩ ∧ cp = kc := by simpa using he
                  have HKC : Hid (∀ i, i < (G k).n → w4.cell? ⟨kb, ko + i, none⟩ = some (.int .i64 ((G k).f i))) := hkc
                  clear he hkc
                  go_wp2_with fail
                  go_loopw [3, 7] (fun s i wr => ∃ m : Nat, m ≤ (G k).n ∧ i = .int .i64 m ∧ s = .string (sp o (G k) m) ∧ Below w4.heap.size w4 wr) (fun _ i _ => (G k).n - (intOf i).toNat)
                  case atStart => exact ⟨0, Nat.zero_le _, rfl, rfl, Below.refl _ _⟩
                  case round =>
                    obtain ⟨m, hm, rfl, rfl, hR⟩ := hrel
                    have hs1 := sp_size (o := o) HRt.out hm
                    have hs3 : (G k).n ≤ 6 := by rcases HRt.out.kn with h | h <;> omega
                    by_cases hlt : m < (G k).n
                    · obtain ⟨c0, c1, c2, c3, c4, c5⟩ := (A4.out.2.later hR).six
                      have g1 : wr.cell? ⟨kb, ko + m, none⟩ = some (.int .i64 ((G k).f m)) := (hR.cell (World.block_lt_of_cell? _ _ (HKC.out m hlt))).trans (HKC.out m hlt)
                      obtain ⟨f1, f2⟩ := HRt.out.fs m hlt
                      have hs2 := num_size f1 f2
                      have HSS : Hid (sp o (G k) m ++ ⟨#[32]⟩ ++ numB ((G k).f m) = sp o (G k) (m + 1)) := rfl
                      have HB : Hid (Below w4.heap.size w4 wr) := hR
                      clear hR
                      generalize sp o (G k) m = om at *
                      go_wp2_with fail
                      refine (num_any _ f1 f2 _).mono ?_
                      rintro e w5 ⟨rfl, b5⟩
                      have HB5 : Hid (Below w4.heap.size w4 w5) := box_step HB.out b5 (Nat.le_refl _)
                      clear b5 c0 c1 c2 c3 c4 c5 g1 f1 f2
                      go_wp2
                      go_roundw
                      case rel => exact ⟨m + 1, by omega, by simp, by rw [HSS.out], HB5.out⟩
                      case measure => simp [intOf]; omega
                    · obtain rfl : m = (G k).n := by omega
                      obtain ⟨c0, c1, c2, c3, c4, c5⟩ := (A4.out.2.later hR).six
                      have HT1 : Hid (sp o (G k) (G k).n ++ ⟨#[10]⟩ = textB G (k + 1)) := (show _ = textB G (k + 1) by rw [sp_line o HRt.out]; show _ = textB G k ++ lineB (G k); rw [← HA.out.1])
                      have HB : Hid (Below w.heap.size w wr) := box_step A4.out.1 hR (by omega)
                      clear hR
                      have hs4 : (sp o (G k) (G k).n).size ≤ 5000 := by omega
                      generalize sp o (G k) (G k).n = om at *
                      clear hs1
                      have h10 : (om ++ ⟨#[10]⟩ : ByteArray).size = om.size + 1 := by rw [ByteArray.size_append]; rfl
                      by_cases hbig : 4000 < om.size + 1
                      · have HN : Hid (¬ OkAll G n) := fun a => by
                          have h1 := text_mono G (show k + 1 ≤ n by omega)
                          rw [← HT1.out, h10] at h1
                          have := a.2.2
                          omega
                        have hbig' : (4000 : Int) < (om.size : Int) + 1 := by omega
                        go_wp2
                        go_ret
                        exact ⟨_, rfl, Or.inr ⟨HN.out, rfl⟩, HB.out⟩
                      · have hbig' : ¬ (4000 : Int) < (om.size : Int) + 1 := by omega
                        go_wp2
                        go_roundw
                        case rel => exact ⟨k + 1, _, by omega, by simp, rfl, ⟨HT1.out, by omega, fun i hi => by by_cases e : i = k; exact (by rw [e]; exact HGD.out); exact HA.out.2.2 i (by omega)⟩, by rw [h10]; omega, HB.out⟩
                        case measure => simp [intOf]; omega
            · have hrb : (r != (k : Int)) = true := by simpa using hrk
              have HN : Hid (¬ OkAll G n) := bad_no hkn (fun h => hrk (found_of HF.out hkn h))
              go_wp2
              go_ret
              exact ⟨_, rfl, Or.inr ⟨HN.out, rfl⟩, A2.out.1⟩
          · have hsb : (FloatKind.f64.format.order (G k).x 0 == some .eq) = false := by simpa using hsh
            have HN : Hid (¬ OkAll G n) := bad_no hkn (fun h => hsh h.2.1)
            go_wp2
            go_ret
            exact ⟨_, rfl, Or.inr ⟨HN.out, rfl⟩, A1.out.1⟩
        · have HN : Hid (¬ OkAll G n) := bad_no hkn (fun h => hz (hcode.symm.trans h.1))
          clear hcode
          go_wp2
          go_ret
          exact ⟨_, rfl, Or.inr ⟨HN.out, rfl⟩, A1.out.1⟩
    · obtain rfl : k = n := by omega
      have HF : Hid (Fm G k o) := by
        obtain ⟨h1, h2, h3⟩ := HA.out
        exact Or.inl ⟨⟨h2, h3, by rw [← h1]; exact hos⟩, h1⟩
      go_wp2
      go_ret
      exact ⟨_, rfl, HF.out, hR⟩
set_option maxHeartbeats 800000 in
theorem sFmt_none (ao : Option Addr) (cap : Nat) (G : Nat → Gl) (w : World) :
    Calls Tryd.prog 34 #[.slice ao 0 cap] w fun e w' => ∃ t, e = .returned (.string t) ∧ Fm G 0 t ∧ Below w.heap.size w w' := by
  go_enter Tryd.func34, Tryd.ntmps34
  go_wp2_with fail
  refine wp_loop_rounds 1 ?_
  rw [rounds_succ]
  go_wp2
  go_ret
  exact ⟨_, rfl, Or.inl ⟨⟨by omega, fun i hi => by omega, (show (⟨#[]⟩ : ByteArray).size ≤ 4000 by decide)⟩, rfl⟩, Below.refl _ _⟩
theorem sFmt_any {w : World} {v : Value} {n : Nat} {G : Nat → Gl} (h : RdG w v n G) (hn : n ≤ 1000000000) (hg : ∀ i, i < n → (G i).n ≤ 1000000000000) :
    Calls Tryd.prog 34 #[v] w fun e w' => ∃ t, e = .returned (.string t) ∧ Fm G n t ∧ Below w.heap.size w w' := by
  rcases h with ⟨ao, cap, rfl, rfl⟩ | ⟨b, off, cap, rfl, hc⟩
  · exact sFmt_none ao cap G w
  · exact sFmt_some b off n cap G w hn hg hc
end Go.Proofs.YtndfncjoknibaaaDoor
