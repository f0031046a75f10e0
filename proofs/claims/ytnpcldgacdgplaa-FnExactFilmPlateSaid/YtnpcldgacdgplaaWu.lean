/- Whether a stack and a light go together: both packages. Whether a stack and a light go together, as the program asks: a closure over the light. -/
import Derived.Test.YtnpcldgacdgplaaWd
import Derived.Test.YtnpcldgacdgplaaSg
namespace Go.Proofs.Ytnpcldgacdgplaa
open Go.RowKit Fl
set_option linter.unusedVariables false
set_option linter.unusedSimpArgs false
def allB (P : Nat → Bool) (G : Nat → Fi) : Nat → Bool
  | 0 => true
  | k + 1 => allB P G k && P (G k).i
theorem allB_no {P : Nat → Bool} {G : Nat → Fi} {k : Nat} (h : P (G k).i = false) : ∀ {n : Nat}, k < n → allB P G n = false
  | 0, h0 => by omega
  | n + 1, h0 => by
    simp only [allB, Bool.and_eq_false_iff]
    by_cases e : k = n
    · subst e; exact Or.inr h
    · exact Or.inl (allB_no h (by omega))
theorem allB_of {P : Nat → Bool} {G : Nat → Fi} : ∀ {n : Nat}, allB P G n = true → ∀ k, k < n → P (G k).i = true
  | 0, _, k, hk => by omega
  | n + 1, h, k, hk => by
    simp only [allB, Bool.and_eq_true] at h
    by_cases e : k = n
    · subst e; exact h.2
    · exact allB_of h.1 k (by omega)
theorem allB_congr {P Q : Nat → Bool} {G : Nat → Fi} : ∀ {n : Nat}, (∀ k, k < n → P (G k).i = Q (G k).i) → allB P G n = allB Q G n
  | 0, _ => rfl
  | n + 1, h => by simp only [allB]; rw [allB_congr (fun k hk => h k (by omega)), h n (by omega)]
def togB (P : Nat → Bool) (i o n : Nat) (G : Nat → Fi) : Bool := allB P G n && P i && P o
/-- What the specification asks of an index. -/
def lefB (i s x : Nat) : Bool := gt0 (leftC (cl i) (cl s) (cl x))
/-- What the program asks of it. -/
def fwdB (i s x : Nat) : Bool := gt0 (fwdC (cl i) (cl s) (cl x))
set_option maxHeartbeats 3200000 in
theorem sTog_any {i o s : Nat} {v : Value} {n : Nat} {G : Nat → Fi} {w : World} (hi : i < 18446744073709551616) (ho : o < 18446744073709551616) (hs : s < 18446744073709551616) (h : RdV w v n 3 (fun i j => fcell (G i) j)) (hn : n ≤ 1000000000000) (ok : ∀ k, k < n → FiOk (G k)) (nm pol : Int) :
    Calls Try.prog 39 #[Sv i o v, Lv nm s pol] w fun e w' => e = .returned (.bool (togB (lefB i s) i o n G)) ∧ Below w.heap.size w w' := by
  obtain ⟨r, hr⟩ : ∃ r, togB (lefB i s) i o n G = r := ⟨_, rfl⟩
  rw [hr]
  obtain ⟨X, hX⟩ : ∃ X, X = (w.alloc (.cells #[.float .f64 i, .float .f64 o, v] 30)).alloc (.cells #[.int .i64 nm, .float .f64 s, .int .i64 pol] 37) := ⟨_, rfl⟩
  have BX : Hid (Below w.heap.size w X) := by
    have h : Below w.heap.size w X := by rw [hX]; exact ((Below.refl _ _).alloc (Nat.le_refl _) _).alloc (by simp) _
    exact h
  have k0 : ∀ W, Below X.heap.size X W → W.cell? ⟨w.heap.size, 0, none⟩ = some (.float .f64 i) := fun W h => (h.cell (by rw [hX]; simp <;> omega)).trans (by rw [hX]; exact cell_alloc_old (cell_alloc_new rfl rfl))
  have k1 : ∀ W, Below X.heap.size X W → W.cell? ⟨w.heap.size, 1, none⟩ = some (.float .f64 o) := fun W h => (h.cell (by rw [hX]; simp <;> omega)).trans (by rw [hX]; exact cell_alloc_old (cell_alloc_new rfl rfl))
  have k2 : ∀ W, Below X.heap.size X W → W.cell? ⟨w.heap.size, 2, none⟩ = some v := fun W h => (h.cell (by rw [hX]; simp <;> omega)).trans (by rw [hX]; exact cell_alloc_old (cell_alloc_new rfl rfl))
  have l0 : ∀ W, Below X.heap.size X W → W.cell? ⟨w.heap.size + 1, 0, none⟩ = some (.int .i64 nm) := fun W h => (h.cell (by rw [hX]; simp <;> omega)).trans (by rw [hX]; exact cell_alloc_new (by simp) rfl)
  have l1 : ∀ W, Below X.heap.size X W → W.cell? ⟨w.heap.size + 1, 1, none⟩ = some (.float .f64 s) := fun W h => (h.cell (by rw [hX]; simp <;> omega)).trans (by rw [hX]; exact cell_alloc_new (by simp) rfl)
  have l2 : ∀ W, Below X.heap.size X W → W.cell? ⟨w.heap.size + 1, 2, none⟩ = some (.int .i64 pol) := fun W h => (h.cell (by rw [hX]; simp <;> omega)).trans (by rw [hX]; exact cell_alloc_new (by simp) rfl)
  have hR : RdV X v n 3 (fun i j => fcell (G i) j) := h.later BX.out
  have later : ∀ (wr : World) (p : Addr) {v : Value}, X.cell? p = some v → Below X.heap.size X wr → wr.cell? p = some v := fun wr p v h hb => (hb.cell (World.block_lt_of_cell? _ _ h)).trans h
  have H1 : Hid (∀ w, FV 69 #[Sv i o v, Lv nm s pol, .float .f64 i] w (leftC (cl i) (cl s) (cl i))) := sLeft_any (fc_own hi) (fc_own hs) (fc_own hi) o v nm pol
  have H2 : Hid (∀ w, FV 69 #[Sv i o v, Lv nm s pol, .float .f64 o] w (leftC (cl i) (cl s) (cl o))) := sLeft_any (fc_own hi) (fc_own hs) (fc_own ho) o v nm pol
  have H3 : Hid (∀ k, k < n → ∀ w, FV 69 #[Sv i o v, Lv nm s pol, .float .f64 (G k).i] w (leftC (cl i) (cl s) (cl (G k).i))) := fun k hk => sLeft_any (fc_own hi) (fc_own hs) (fc_own (ok k hk).hi) o v nm pol
  have hB0 : Below X.heap.size X X := Below.refl _ _
  clear h hi ho hs ok
  cases p1 : lefB i s i with
  | false =>
    obtain rfl : false = r := by rw [← hr]; unfold togB; rw [p1]; simp
    clear hr hR later H2 H3
    unfold lefB at p1
    go_enter Try.func39, Try.ntmps39
    go_upto_region 1 with fail
    rw [← hX]
    clear hX
    go_wp2_with fail
    refine (H1.out _).mono ?_
    rintro e w1 ⟨x, rfl, hx, b1⟩
    have hv := gt_of_fc hx
    rw [p1] at hv
    have A1 : Hid (Below w.heap.size w w1) := BX.out.trans (b1.mono BX.out.size)
    clear b1 k0 k1 k2 l0 l1 l2 hB0
    go_wp2
    go_ret
    exact ⟨rfl, A1.out⟩
  | true =>
    cases p2 : lefB i s o with
    | false =>
      obtain rfl : false = r := by rw [← hr]; unfold togB; rw [p2]; simp
      clear hr hR later H3
      unfold lefB at p1 p2
      go_enter Try.func39, Try.ntmps39
      go_upto_region 1 with fail
      rw [← hX]
      clear hX
      go_wp2_with fail
      refine (H1.out _).mono ?_
      rintro e w1 ⟨x, rfl, hx, b1⟩
      have hv := gt_of_fc hx
      rw [p1] at hv
      go_wp2_with fail
      refine (H2.out _).mono ?_
      rintro e w2 ⟨y, rfl, hy, b2⟩
      have hv2 := gt_of_fc hy
      rw [p2] at hv2
      have A1 : Hid (Below w.heap.size w w2) := BX.out.trans ((box_step b1 b2 (Nat.le_refl _)).mono BX.out.size)
      clear b1 b2 k0 k1 k2 l0 l1 l2 hB0
      go_wp2
      go_ret
      exact ⟨rfl, A1.out⟩
    | true =>
      have HR : Hid ((∀ k, k < n → lefB i s (G k).i = false → false = r) ∧ (allB (lefB i s) G n = true → true = r)) := by
        constructor
        · intro k hk hb
          rw [← hr]; unfold togB; rw [allB_no hb hk]; simp
        · intro hb
          rw [← hr]; unfold togB; rw [hb, p1, p2]; rfl
      clear hr
      obtain ⟨ao, cap, rfl⟩ := hR.form
      unfold lefB at p1 p2
      go_enter Try.func39, Try.ntmps39
      go_upto_region 1 with fail
      rw [← hX]
      clear hX
      go_wp2_with fail
      refine (H1.out _).mono ?_
      rintro e w1 ⟨x, rfl, hx, b1⟩
      have hv := gt_of_fc hx
      rw [p1] at hv
      go_wp2_with fail
      refine (H2.out _).mono ?_
      rintro e w2 ⟨y, rfl, hy, b2⟩
      have hv2 := gt_of_fc hy
      rw [p2] at hv2
      have hB2 : Below X.heap.size X w2 := box_step b1 b2 (Nat.le_refl _)
      clear b1 b2 hx hy p1 p2
      go_wp2_with fail
      clear H1 H2
      go_loopw [5] (fun i' wr => ∃ k : Nat, k ≤ n ∧ i' = .int .i64 k ∧ Hid (allB (lefB i s) G k = true) ∧ Below X.heap.size X wr) (fun i' _ => n - (intOf i').toNat)
      case atStart => exact ⟨0, Nat.zero_le _, rfl, rfl, hB2⟩
      case round =>
        obtain ⟨k, hk, rfl, hb, hB⟩ := hrel
        by_cases hkn : k < n
        · rcases hR with ⟨_, _, _, e0⟩ | ⟨b, off, cap', e0, hc⟩
          · omega
          simp only [Value.slice.injEq] at e0
          obtain ⟨rfl, _, rfl⟩ := e0
          have g0 : ∀ W, Below X.heap.size X W → W.cell? ⟨b, off + k * 3, none⟩ = some (.float .f64 (G k).i) := fun W h => later W _ (hc k hkn 0 (by omega)) h
          have HK : Hid ((lefB i s (G k).i = false → false = r) ∧ (lefB i s (G k).i = true → allB (lefB i s) G (k + 1) = true)) := ⟨HR.out.1 k hkn, fun h => by simp only [allB, hb.out, h]; rfl⟩
          have HM := H3.out k hkn
          have HM' : Hid (∀ w, FV 69 #[Sv i o (.slice (some ⟨b, off, none⟩) n cap), Lv nm s pol, .float .f64 (G k).i] w (leftC (cl i) (cl s) (cl (G k).i))) := HM
          clear hc later HR H3 HM hB0 hB2
          generalize (G k).i = z at *
          cases q : lefB i s z with
          | false =>
            obtain rfl := HK.out.1 q
            unfold lefB at q
            go_wp2_with fail
            go_region_held (fun W => Below X.heap.size X W) (first | assumption | exact Below.drew ‹_›)
              (first | (go_at_call 69; refine (HM'.out _).mono ?_; rintro e w3 ⟨u, rfl, hu, b3⟩; have hR3 := box_step ‹_› b3 (Nat.le_refl _); have hvu := gt_of_fc hu; rw [q] at hvu))
            have A1 : Hid (Below w.heap.size w w3) := BX.out.trans (hR3.mono BX.out.size)
            clear hR3 b3 k0 k1 k2 l0 l1 l2 g0 hB
            go_wp2
            go_ret
            exact ⟨rfl, A1.out⟩
          | true =>
            have HA := HK.out.2 q
            have HA' : Hid (allB (lefB i s) G (k + 1) = true) := HA
            clear HA
            unfold lefB at q
            go_wp2_with fail
            go_region_held (fun W => Below X.heap.size X W) (first | assumption | exact Below.drew ‹_›)
              (first | (go_at_call 69; refine (HM'.out _).mono ?_; rintro e w3 ⟨u, rfl, hu, b3⟩; have hR3 := box_step ‹_› b3 (Nat.le_refl _); have hvu := gt_of_fc hu; rw [q] at hvu))
            have A1 : Hid (Below X.heap.size X w3) := hR3
            clear hR3 b3 k0 k1 k2 l0 l1 l2 g0 hB
            go_wp2
            go_roundw
            case rel => exact ⟨k + 1, by omega, by simp, HA', A1.out⟩
            case measure => simp [intOf]; omega
        · obtain rfl : k = n := by omega
          obtain rfl := HR.out.2 hb.out
          have d2 := k2 _ hB
          have A1 : Hid (Below w.heap.size w wr) := BX.out.trans (hB.mono BX.out.size)
          clear hR later k0 k1 k2 l0 l1 l2 hB
          go_wp2
          go_ret
          exact ⟨rfl, A1.out⟩
end Go.Proofs.Ytnpcldgacdgplaa
namespace Go.Proofs.Ytnpcldgacdgplaa
open Go.RowKit Fl
set_option linter.unusedVariables false
set_option linter.unusedSimpArgs false
/-- The closure's contract, over a world and all that come behind it. -/
theorem medium_later {n b k : Nat} {c : Option Nat} {pol : Int} {X : World} (hn : n < 18446744073709551616) (h : Med X b k c pol) : ∀ W, Below X.heap.size X W →
    Calls Try.prog 77 #[.float .f64 n, .pointer (some ⟨b, 0, none⟩), .pointer (some ⟨k, 0, none⟩)] W fun e w' => ∃ f a, e = .returned (.agg #[.float .f64 f, .float .f64 a]) ∧ Fc f (rootC (opC .sub (opC .mul (cl n) (cl n)) c)) ∧ Fc a (admC pol (cl n) (rootC (opC .sub (opC .mul (cl n) (cl n)) c))) ∧ Below W.heap.size W w' :=
  fun W hW => medium_any (fc_own hn) (h.later hW)
set_option maxHeartbeats 3200000 in
theorem iTog_any {i o s : Nat} {v : Value} {n : Nat} {G : Nat → Fi} {w : World} (hi : i < 18446744073709551616) (ho : o < 18446744073709551616) (hs : s < 18446744073709551616) (h : RdV w v n 3 (fun i j => fcell (G i) j)) (hn : n ≤ 1000000000000) (ok : ∀ k, k < n → FiOk (G k)) (nm pol : Int) :
    Calls Try.prog 42 #[Sv i o v, Lv nm s pol] w fun e w' => e = .returned (.bool (togB (fwdB i s) i o n G)) ∧ Below w.heap.size w w' := by
  obtain ⟨r, hr⟩ : ∃ r, togB (fwdB i s) i o n G = r := ⟨_, rfl⟩
  rw [hr]
  have HR : Hid ((∀ k, k < n → fwdB i s (G k).i = false → false = r) ∧ (allB (fwdB i s) G n = true → (fwdB i s i && fwdB i s o) = r)) := by
    constructor
    · intro k hk hb
      rw [← hr]; unfold togB; rw [allB_no hb hk]; simp
    · intro hb
      rw [← hr]; unfold togB; rw [hb]; simp
  clear hr
  obtain ⟨X, hX⟩ : ∃ X, X = (w.alloc (.cells #[.float .f64 i, .float .f64 o, v] 30)).alloc (.cells #[.int .i64 nm, .float .f64 s, .int .i64 pol] 37) := ⟨_, rfl⟩
  have BX : Hid (Below w.heap.size w X) := by
    have h : Below w.heap.size w X := by rw [hX]; exact ((Below.refl _ _).alloc (Nat.le_refl _) _).alloc (by simp) _
    exact h
  have x0 : X.cell? ⟨w.heap.size, 0, none⟩ = some (.float .f64 i) := by rw [hX]; exact cell_alloc_old (cell_alloc_new rfl rfl)
  have x1 : X.cell? ⟨w.heap.size, 1, none⟩ = some (.float .f64 o) := by rw [hX]; exact cell_alloc_old (cell_alloc_new rfl rfl)
  have x2 : X.cell? ⟨w.heap.size, 2, none⟩ = some v := by rw [hX]; exact cell_alloc_old (cell_alloc_new rfl rfl)
  have y0 : X.cell? ⟨w.heap.size + 1, 0, none⟩ = some (.int .i64 nm) := by rw [hX]; exact cell_alloc_new (by simp) rfl
  have y1 : X.cell? ⟨w.heap.size + 1, 1, none⟩ = some (.float .f64 s) := by rw [hX]; exact cell_alloc_new (by simp) rfl
  have y2 : X.cell? ⟨w.heap.size + 1, 2, none⟩ = some (.int .i64 pol) := by rw [hX]; exact cell_alloc_new (by simp) rfl
  have hR : RdV X v n 3 (fun i j => fcell (G i) j) := h.later BX.out
  obtain ⟨ao, cap, rfl⟩ := h.form
  have H0 : Hid (∀ w, Calls Try.prog 44 #[Sv i o (.slice ao n cap), Lv nm s pol] w fun e w' => ∃ b k, e = .returned (Cl b k) ∧ Med w' b k (sideC (cl i) (cl s)) pol ∧ Below w.heap.size w w') := media_any (fc_own hi) (fc_own hs) o _ nm pol
  have HO : Hid (i < 18446744073709551616 ∧ o < 18446744073709551616 ∧ ∀ k, k < n → FiOk (G k)) := ⟨hi, ho, ok⟩
  clear h hi ho hs ok
  have hst := st64
  have hfd := field_f
  go_enter Try.func42, Try.ntmps42
  go_upto_region 1 with fail
  rw [← hX]
  clear hX
  go_wp2_with fail
  refine (H0.out _).mono ?_
  rintro e Y ⟨B, K, rfl, hM, bY⟩
  have BY : Hid (Below w.heap.size w Y) := BX.out.trans (bY.mono BX.out.size)
  have HM : Hid (Med Y B K (sideC (cl i) (cl s)) pol) := hM
  have c0 := old_cell bY (World.block_lt_of_cell? _ _ x0) x0
  have c1 := old_cell bY (World.block_lt_of_cell? _ _ x1) x1
  have c2 := old_cell bY (World.block_lt_of_cell? _ _ x2) x2
  have hY : RdV Y (.slice ao n cap) n 3 (fun i j => fcell (G i) j) := hR.later bY
  have later : ∀ (wr : World) (p : Addr) {v : Value}, Y.cell? p = some v → Below Y.heap.size Y wr → wr.cell? p = some v := fun wr p v h hb => (hb.cell (World.block_lt_of_cell? _ _ h)).trans h
  have E1 : Hid (∀ W, Below Y.heap.size Y W → Calls Try.prog 77 #[.float .f64 i, .pointer (some ⟨B, 0, none⟩), .pointer (some ⟨K, 0, none⟩)] W fun e w' => ∃ f a, e = .returned (.agg #[.float .f64 f, .float .f64 a]) ∧ (FloatKind.f64.format.order f 0 == some .gt) = fwdB i s i ∧ Below W.heap.size W w') :=
    fun W hW => (medium_later HO.out.1 HM.out W hW).mono fun e w' ⟨f, a, h1, h2, _, h4⟩ => ⟨f, a, h1, gt_of_fc h2, h4⟩
  have E2 : Hid (∀ W, Below Y.heap.size Y W → Calls Try.prog 77 #[.float .f64 o, .pointer (some ⟨B, 0, none⟩), .pointer (some ⟨K, 0, none⟩)] W fun e w' => ∃ f a, e = .returned (.agg #[.float .f64 f, .float .f64 a]) ∧ (FloatKind.f64.format.order f 0 == some .gt) = fwdB i s o ∧ Below W.heap.size W w') :=
    fun W hW => (medium_later HO.out.2.1 HM.out W hW).mono fun e w' ⟨f, a, h1, h2, _, h4⟩ => ⟨f, a, h1, gt_of_fc h2, h4⟩
  have E3 : Hid (∀ k, k < n → ∀ W, Below Y.heap.size Y W → Calls Try.prog 77 #[.float .f64 (G k).i, .pointer (some ⟨B, 0, none⟩), .pointer (some ⟨K, 0, none⟩)] W fun e w' => ∃ f a, e = .returned (.agg #[.float .f64 f, .float .f64 a]) ∧ (FloatKind.f64.format.order f 0 == some .gt) = fwdB i s (G k).i ∧ Below W.heap.size W w') :=
    fun k hk W hW => (medium_later (HO.out.2.2 k hk).hi HM.out W hW).mono fun e w' ⟨f, a, h1, h2, _, h4⟩ => ⟨f, a, h1, gt_of_fc h2, h4⟩
  clear bY x0 x1 x2 y0 y1 y2 hR hM H0 HO HM
  go_wp2_with fail
  go_loopw [7, 14] (fun _ i' wr => ∃ k : Nat, k ≤ n ∧ i' = .int .i64 k ∧ Hid (allB (fwdB i s) G k = true) ∧ Below Y.heap.size Y wr) (fun _ i' _ => n - (intOf i').toNat)
  case atStart => exact ⟨0, Nat.zero_le _, rfl, rfl, Below.refl _ _⟩
  case round =>
    obtain ⟨k, hk, rfl, hb, hB⟩ := hrel
    by_cases hkn : k < n
    · rcases hY with ⟨_, _, _, e0⟩ | ⟨b, off, cap', e0, hc⟩
      · omega
      simp only [Value.slice.injEq] at e0
      obtain ⟨rfl, _, rfl⟩ := e0
      have g0 : wr.cell? ⟨b, off + k * 3, none⟩ = some (.float .f64 (G k).i) := later wr _ (hc k hkn 0 (by omega)) hB
      have g1 : wr.cell? ⟨b, off + k * 3 + 1, none⟩ = some (.float .f64 (G k).k) := later wr _ (hc k hkn 1 (by omega)) hB
      have g2 : wr.cell? ⟨b, off + k * 3 + 2, none⟩ = some (.int .i64 (G k).t) := later wr _ (hc k hkn 2 (by omega)) hB
      have HK : Hid ((fwdB i s (G k).i = false → false = r) ∧ (fwdB i s (G k).i = true → allB (fwdB i s) G (k + 1) = true)) := ⟨HR.out.1 k hkn, fun h => by simp only [allB, hb.out, h]; rfl⟩
      have HE := E3.out k hkn
      have HE' : Hid (∀ W, Below Y.heap.size Y W → Calls Try.prog 77 #[.float .f64 (G k).i, .pointer (some ⟨B, 0, none⟩), .pointer (some ⟨K, 0, none⟩)] W fun e w' => ∃ f a, e = .returned (.agg #[.float .f64 f, .float .f64 a]) ∧ (FloatKind.f64.format.order f 0 == some .gt) = fwdB i s (G k).i ∧ Below W.heap.size W w') := HE
      clear hc later HR E1 E2 E3 HE c0 c1 c2
      have hsz := hB.size
      generalize G k = g at *
      cases q : fwdB i s g.i with
      | false =>
        obtain rfl := HK.out.1 q
        rw [q] at HE'
        go_wp2_with fail
        refine (HE'.out _ ?_).mono ?_
        · go_grown
        rintro e w3 ⟨f, a, rfl, hf, b3⟩
        have A1 : Hid (Below w.heap.size w w3) := by
          refine BY.out.trans (Below.mono (box_step ?_ b3 (Nat.le_refl _)) BY.out.size)
          go_grown
        clear b3 g0 g1 g2 hB
        go_wp2
        go_ret
        exact ⟨rfl, A1.out⟩
      | true =>
        have HA := HK.out.2 q
        have HA' : Hid (allB (fwdB i s) G (k + 1) = true) := HA
        clear HA
        rw [q] at HE'
        go_wp2_with fail
        refine (HE'.out _ ?_).mono ?_
        · go_grown
        rintro e w3 ⟨f, a, rfl, hf, b3⟩
        have A1 : Hid (Below Y.heap.size Y w3) := by
          have h : Below Y.heap.size Y w3 := by
            refine box_step ?_ b3 (Nat.le_refl _)
            go_grown
          exact h
        clear b3 g0 g1 g2 hB
        go_wp2
        go_roundw
        case rel => exact ⟨k + 1, by omega, by simp, HA', A1.out⟩
        case measure => simp [intOf]; omega
    · obtain rfl : k = n := by omega
      have hz := HR.out.2 hb.out
      have d0 := later _ _ c0 hB
      have d1 := later _ _ c1 hB
      have HB : Hid (Below Y.heap.size Y wr) := hB
      clear hY E3 HR c0 c1 c2 hB
      cases q1 : fwdB i s i with
      | false =>
        rw [q1] at E1 hz
        obtain rfl : false = r := by simpa using hz
        clear later hz q1
        go_wp2_with fail
        refine (E1.out _ HB.out).mono ?_
        rintro e w3 ⟨f, a, rfl, hf, b3⟩
        go_wp2
        go_ret
        exact ⟨rfl, BY.out.trans ((box_step HB.out b3 (Nat.le_refl _)).mono BY.out.size)⟩
      | true =>
        rw [q1] at E1 hz
        simp only [Bool.true_and] at hz
        rw [hz] at E2
        clear hz q1
        go_wp2_with fail
        refine (E1.out _ HB.out).mono ?_
        rintro e w3 ⟨f, a, rfl, hf, b3⟩
        have HB3 : Hid (Below Y.heap.size Y w3) := box_step HB.out b3 (Nat.le_refl _)
        have e1 := old_cell b3 (World.block_lt_of_cell? _ _ d1) d1
        clear b3 d0 d1 later
        go_wp2_with fail
        refine (E2.out _ HB3.out).mono ?_
        rintro e w4 ⟨f', a', rfl, hf', b4⟩
        go_wp2
        go_ret
        exact ⟨rfl, BY.out.trans ((box_step HB3.out b4 (Nat.le_refl _)).mono BY.out.size)⟩
/-- Where stack and light have no fault, both ask the same. -/
theorem tog_same {i o s n : Nat} {G : Nat → Fi} (hi : i < 18446744073709551616) (ho : o < 18446744073709551616) (hs : s < 18446744073709551616) (ok : ∀ k, k < n → FiOk (G k)) (mi : medB i = true) (mo : medB o = true) (ms : sideB s = true) (mf : ∀ k, k < n → filmBad (G k) = false) :
    togB (fwdB i s) i o n G = togB (lefB i s) i o n G := by
  have one : ∀ x, x < 18446744073709551616 → medB x = true → fwdB i s x = lefB i s x := by
    intro x hx mx
    obtain ⟨l, e, b⟩ := left_bd (med_pos hi mi) (side_bd hs ms) (med_pos hx mx)
    unfold fwdB lefB fwdC
    rw [e]
    exact gt0_root b
  unfold togB
  rw [one i hi mi, one o ho mo, allB_congr fun k hk => one _ (ok k hk).hi (film_ok (mf k hk)).1]
end Go.Proofs.Ytnpcldgacdgplaa
