/- A stack's fault, in both packages: one value, the calls. -/
import Derived.Test.YtnpcldgacdgplaaSf
import Derived.Deep.DeepCutAuto
namespace Go.Proofs.Ytnpcldgacdgplaa
open Go.RowKit Fl
set_option linter.unusedVariables false
set_option linter.unusedSimpArgs false
set_option maxHeartbeats 1600000 in
theorem iStack_any {a o : Nat} {v : Value} {n : Nat} {G : Nat → Fi} {w : World} (h : RdV w v n 3 (fun i j => fcell (G i) j)) : Calls Try.prog 12 #[Sv a o v] w fun e w' => e = .returned (.int .i64 (sfault a o n G)) ∧ Below w.heap.size w w' := by
  obtain ⟨ao, cap, rfl⟩ := h.form
  by_cases hn : 40 < n
  · rw [sf_many hn]
    clear h
    go_enter Try.func12, Try.ntmps12
    go_wp2
    go_ret
    refine ⟨rfl, ?_⟩
    go_grown
  have H1 : Hid (∀ w, Calls Try.prog 32 #[.float .f64 a] w fun e w' => e = .returned (.bool (medB a)) ∧ w = w') := iMed_any a
  have H2 : Hid (∀ w, Calls Try.prog 32 #[.float .f64 o] w fun e w' => e = .returned (.bool (medB o)) ∧ w = w') := iMed_any o
  have H3 : Hid (∀ W, Below w.heap.size w W → Calls Try.prog 33 #[.slice ao n cap, .func (.func 34) #[] #[]] W fun e w' => e = .returned (.bool (anyBad G n)) ∧ Below W.heap.size W w') := fun W hW => contains_any (h.later hW) (by omega)
  clear h
  have hn' : ¬ (40 : Int) < n := by omega
  cases ha : medB a with
  | false =>
    rw [sf_a hn ha]
    rw [ha] at H1
    clear ha hn
    go_enter Try.func12, Try.ntmps12
    go_wp2_with (go_at_call 32; refine (H1.out _).mono ?_; rintro e w' ⟨rfl, rfl⟩)
    go_ret
    refine ⟨rfl, ?_⟩
    go_grown
  | true =>
    cases ho : medB o with
    | false =>
      rw [sf_o hn ho]
      rw [ha] at H1
      rw [ho] at H2
      clear ha hn ho
      go_enter Try.func12, Try.ntmps12
      go_wp2_with fail
      refine (H1.out _).mono ?_
      rintro e w' ⟨rfl, rfl⟩
      go_wp2_with fail
      refine (H2.out _).mono ?_
      rintro e w' ⟨rfl, rfl⟩
      go_wp2
      go_ret
      refine ⟨rfl, ?_⟩
      go_grown
    | true =>
      have hs : sfault a o n G = if anyBad G n then 3 else 0 := by
        cases hb : anyBad G n
        · exact sf_ok hn ha ho hb
        · exact sf_bad hn hb
      rw [hs]
      rw [ha] at H1
      rw [ho] at H2
      clear ha hn ho hs
      generalize anyBad G n = z at *
      cases z <;>
      · go_enter Try.func12, Try.ntmps12
        go_wp2_with fail
        refine (H1.out _).mono ?_
        rintro e w' ⟨rfl, rfl⟩
        go_wp2_with fail
        refine (H2.out _).mono ?_
        rintro e w' ⟨rfl, rfl⟩
        go_wp2_with fail
        refine (H3.out _ ?_).mono ?_
        · go_grown
        rintro e w1 ⟨rfl, hb1⟩
        go_wp2
        go_ret
        exact ⟨rfl, box_step1 hb1⟩
theorem keep_bits {x : Nat} {b : Bool} (h : keepB x = b) : (gtB x 0 && leB x 4607182418800017408) = b := h
set_option maxHeartbeats 3200000 in
theorem sStack_any {a o : Nat} {v : Value} {n : Nat} {G : Nat → Fi} {w : World} (h : RdV w v n 3 (fun i j => fcell (G i) j)) : Calls Try.prog 10 #[Sv a o v] w fun e w' => e = .returned (.int .i64 (sfault a o n G)) ∧ Below w.heap.size w w' := by
  by_cases hn : 40 < n
  · obtain ⟨ao, cap, rfl⟩ := h.form
    rw [sf_many hn]
    clear h
    go_enter Try.func10, Try.ntmps10
    go_wp2
    go_ret
    refine ⟨rfl, ?_⟩
    go_grown
  have H1 : Hid (∀ w, Calls Try.prog 30 #[.float .f64 a] w fun e w' => e = .returned (.bool (medB a)) ∧ w = w') := sMed_any a
  have H2 : Hid (∀ w, Calls Try.prog 30 #[.float .f64 o] w fun e w' => e = .returned (.bool (medB o)) ∧ w = w') := sMed_any o
  cases ha : medB a with
  | false =>
    obtain ⟨ao, cap, rfl⟩ := h.form
    have hn' : ¬ (40 : Int) < n := by omega
    rw [sf_a hn ha]
    rw [ha] at H1
    clear ha hn h
    go_enter Try.func10, Try.ntmps10
    go_wp2_with (go_at_call 30; refine (H1.out _).mono ?_; rintro e w' ⟨rfl, rfl⟩)
    go_ret
    refine ⟨rfl, ?_⟩
    go_grown
  | true =>
    cases ho : medB o with
    | false =>
      obtain ⟨ao, cap, rfl⟩ := h.form
      have hn' : ¬ (40 : Int) < n := by omega
      rw [sf_o hn ho]
      rw [ha] at H1
      rw [ho] at H2
      clear ha hn ho h
      go_enter Try.func10, Try.ntmps10
      go_wp2_with fail
      refine (H1.out _).mono ?_
      rintro e w' ⟨rfl, rfl⟩
      go_wp2_with fail
      refine (H2.out _).mono ?_
      rintro e w' ⟨rfl, rfl⟩
      go_wp2
      go_ret
      refine ⟨rfl, ?_⟩
      go_grown
    | true =>
      obtain ⟨r, hr⟩ : ∃ r, sfault a o n G = r := ⟨_, rfl⟩
      have HR : Hid ((∀ k, k < n → filmBad (G k) = true → 3 = r) ∧ (anyBad G n = false → 0 = r)) := by
        constructor
        · intro k hk hb
          rw [← hr, sf_bad hn (anyBad_of hb hk)]
        · intro hb
          rw [← hr, sf_ok hn ha ho hb]
      rw [hr]
      rw [ha] at H1
      rw [ho] at H2
      clear ha ho hr
      obtain ⟨X, hX⟩ : ∃ X, X = w.alloc (.cells #[.float .f64 a, .float .f64 o, v] 30) := ⟨_, rfl⟩
      have BX : Hid (Below w.heap.size w X) := by
        have h : Below w.heap.size w X := by rw [hX]; exact (Below.refl _ _).alloc (Nat.le_refl _) _
        exact h
      have c0 : X.cell? ⟨w.heap.size, 0, none⟩ = some (.float .f64 a) := by rw [hX]; simp
      have c1 : X.cell? ⟨w.heap.size, 1, none⟩ = some (.float .f64 o) := by rw [hX]; simp
      have c2 : X.cell? ⟨w.heap.size, 2, none⟩ = some v := by rw [hX]; simp
      have h' : RdV X v n 3 (fun i j => fcell (G i) j) := h.later BX.out
      have later : ∀ (wr : World) (p : Addr) {v : Value}, X.cell? p = some v → Below X.heap.size X wr → wr.cell? p = some v := fun wr p v h hb => (hb.cell (World.block_lt_of_cell? _ _ h)).trans h
      have hst := st64
      obtain ⟨ao, cap, rfl⟩ := h.form
      have hn' : ¬ (40 : Int) < n := by omega
      go_enter Try.func10, Try.ntmps10
      go_upto_region 1 with fail
      rw [← hX]
      clear hX h
      go_wp2_with fail
      refine (H1.out _).mono ?_
      rintro e w' ⟨rfl, rfl⟩
      go_wp2_with fail
      refine (H2.out _).mono ?_
      rintro e w' ⟨rfl, rfl⟩
      go_wp2_with fail
      clear H1 H2
      go_loopw [3, 4] (fun i _ wr => ∃ k : Nat, k ≤ n ∧ i = .int .i64 k ∧ Hid (anyBad G k = false) ∧ Below X.heap.size X wr) (fun i _ _ => n - (intOf i).toNat)
      case atStart => exact ⟨0, Nat.zero_le _, rfl, rfl, Below.refl _ _⟩
      case round =>
        obtain ⟨k, hk, rfl, hb, hB⟩ := hrel
        have d2 := later _ _ c2 hB
        have HB : Hid (Below X.heap.size X wr) := hB
        by_cases hkn : k < n
        · rcases h' with ⟨_, _, _, e0⟩ | ⟨b, off, cap', e0, hc⟩
          · omega
          simp only [Value.slice.injEq] at e0
          obtain ⟨rfl, _, rfl⟩ := e0
          have g0 : wr.cell? ⟨b, off + k * 3, none⟩ = some (.float .f64 (G k).i) := later _ _ (hc k hkn 0 (by omega)) hB
          have g1 : wr.cell? ⟨b, off + k * 3 + 1, none⟩ = some (.float .f64 (G k).k) := later _ _ (hc k hkn 1 (by omega)) hB
          have g2 : wr.cell? ⟨b, off + k * 3 + 2, none⟩ = some (.int .i64 (G k).t) := later _ _ (hc k hkn 2 (by omega)) hB
          have HK : Hid ((filmBad (G k) = true → 3 = r) ∧ (filmBad (G k) = false → anyBad G (k + 1) = false)) := ⟨HR.out.1 k hkn, fun h => by simp only [anyBad, hb.out, h]; rfl⟩
          have HM : Hid (∀ w, Calls Try.prog 30 #[.float .f64 (G k).i] w fun e w' => e = .returned (.bool (medB (G k).i)) ∧ w = w') := sMed_any _
          clear hB hc later c0 c1 c2 HR
          generalize G k = g at *
          obtain ⟨x, y, t⟩ := g
          simp only at g0 g1 g2 HM
          have FB : Hid (∀ m : Bool, medB x = m → filmBad ⟨x, y, t⟩ = (!m || !(gtB y 0 && leB y 4607182418800017408) || decide (t < 0) || decide (1000000 < t))) := by
            intro m hm
            subst hm
            rfl
          cases hm : medB x with
          | false =>
            have F := HK.out.1 (by rw [FB.out _ hm]; rfl)
            rw [hm] at HM
            clear hm
            subst F
            go_wp2_with (go_at_call 30; refine (HM.out _).mono ?_; rintro e w' ⟨rfl, rfl⟩)
            go_ret
            refine ⟨rfl, BX.out.trans (Below.mono ?_ BX.out.size)⟩
            have := HB.out
            have := HB.out.size
            go_grown
          | true =>
            have F := FB.out _ hm
            rw [hm] at HM
            clear hm FB
            unfold gtB leB at F
            rcases o1 : FloatKind.f64.format.order y 0 with _ | p1 <;> rcases o2 : FloatKind.f64.format.order y 4607182418800017408 with _ | p2 <;> (try cases p1) <;> (try cases p2) <;> by_cases t1 : t < 0 <;> by_cases t2 : 1000000 < t <;> (try (exfalso; omega)) <;> simp [o1, o2, t1, t2] at F
            all_goals
              go_wp2_with (go_at_call 30; refine (HM.out _).mono ?_; rintro e w' ⟨rfl, rfl⟩)
              first
              | (have Z := HK.out.1 F
                 subst Z
                 go_ret
                 refine ⟨rfl, BX.out.trans (Below.mono ?_ BX.out.size)⟩
                 have := HB.out
                 have := HB.out.size
                 go_grown)
              | (have Z := HK.out.2 F
                 go_roundw
                 case rel =>
                   refine ⟨k + 1, by omega, by simp, Z, ?_⟩
                   have := HB.out
                   have := HB.out.size
                   go_grown
                 case measure => simp [intOf]; omega)
        · obtain rfl : k = n := by omega
          clear h' later c0 c1 c2 hB
          have Z := HR.out.2 hb.out
          subst Z
          go_wp2
          go_ret
          exact ⟨rfl, BX.out.trans (HB.out.mono BX.out.size)⟩
end Go.Proofs.Ytnpcldgacdgplaa
