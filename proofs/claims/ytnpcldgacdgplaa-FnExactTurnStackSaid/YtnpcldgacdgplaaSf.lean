/- A stack's fault, in both packages: one value. -/
import Derived.Test.YtnpcldgacdgplaaTs
namespace Go.Proofs.Ytnpcldgacdgplaa
open Go.RowKit Fl
set_option linter.unusedVariables false
set_option linter.unusedSimpArgs false
def filmBad (g : Fi) : Bool := !medB g.i || !keepB g.k || decide (g.t < 0) || decide (1000000 < g.t)
def anyBad (G : Nat → Fi) : Nat → Bool
  | 0 => false
  | k + 1 => anyBad G k || filmBad (G k)
theorem anyBad_of {G : Nat → Fi} {k : Nat} (h : filmBad (G k) = true) : ∀ {n : Nat}, k < n → anyBad G n = true
  | 0, h0 => by omega
  | n + 1, h0 => by
    simp only [anyBad, Bool.or_eq_true]
    by_cases e : k = n
    · subst e; exact Or.inr h
    · exact Or.inl (anyBad_of h (by omega))
theorem anyBad_no {G : Nat → Fi} : ∀ {n : Nat}, anyBad G n = false → ∀ k, k < n → filmBad (G k) = false
  | 0, _, k, hk => by omega
  | n + 1, h, k, hk => by
    simp only [anyBad, Bool.or_eq_false_iff] at h
    by_cases e : k = n
    · subst e; exact h.2
    · exact anyBad_no h.1 k (by omega)
def sfault (a o n : Nat) (G : Nat → Fi) : Int := if 40 < n then 2 else if medB a = false ∨ medB o = false ∨ anyBad G n = true then 3 else 0
theorem sf_many {a o n : Nat} {G : Nat → Fi} (h : 40 < n) : sfault a o n G = 2 := by unfold sfault; rw [if_pos h]
theorem sf_a {a o n : Nat} {G : Nat → Fi} (hn : ¬ 40 < n) (h : medB a = false) : sfault a o n G = 3 := by unfold sfault; rw [if_neg hn, if_pos (Or.inl h)]
theorem sf_o {a o n : Nat} {G : Nat → Fi} (hn : ¬ 40 < n) (h : medB o = false) : sfault a o n G = 3 := by unfold sfault; rw [if_neg hn, if_pos (Or.inr (Or.inl h))]
theorem sf_bad {a o n : Nat} {G : Nat → Fi} (hn : ¬ 40 < n) (h : anyBad G n = true) : sfault a o n G = 3 := by unfold sfault; rw [if_neg hn, if_pos (Or.inr (Or.inr h))]
theorem sf_ok {a o n : Nat} {G : Nat → Fi} (hn : ¬ 40 < n) (h1 : medB a = true) (h2 : medB o = true) (h3 : anyBad G n = false) : sfault a o n G = 0 := by unfold sfault; rw [if_neg hn, if_neg (by simp [h1, h2, h3])]
theorem sf_zero {a o n : Nat} {G : Nat → Fi} (h : sfault a o n G = 0) : n ≤ 40 ∧ medB a = true ∧ medB o = true ∧ ∀ k, k < n → filmBad (G k) = false := by
  unfold sfault at h
  split at h
  · omega
  · split at h
    · omega
    · rename_i h1 h2
      simp only [not_or, Bool.not_eq_false, Bool.not_eq_true] at h2
      exact ⟨by omega, h2.1, h2.2.1, anyBad_no h2.2.2⟩
theorem film_ok {g : Fi} (h : filmBad g = false) : medB g.i = true ∧ keepB g.k = true ∧ 0 ≤ g.t ∧ g.t ≤ 1000000 := by
  simp only [filmBad, Bool.or_eq_false_iff, Bool.not_eq_false', decide_eq_false_iff_not] at h
  exact ⟨h.1.1.1, h.1.1.2, by omega, by omega⟩
theorem iMed_any (x : Nat) (w : World) : Calls Try.prog 32 #[.float .f64 x] w fun e w' => e = .returned (.bool (medB x)) ∧ w = w' := by
  unfold medB geB leB
  rcases h1 : FloatKind.f64.format.order x 4607182418800017408 with _ | o1 <;> rcases h2 : FloatKind.f64.format.order x 4621819117588971520 with _ | o2 <;> (try cases o1) <;> (try cases o2) <;>
  · go_enter Try.func32, Try.ntmps32
    go_wp2
    go_ret
    exact ⟨by simp, rfl⟩
theorem sMed_any (x : Nat) (w : World) : Calls Try.prog 30 #[.float .f64 x] w fun e w' => e = .returned (.bool (medB x)) ∧ w = w' := by
  unfold medB geB leB
  rcases h1 : FloatKind.f64.format.order x 4607182418800017408 with _ | o1 <;> rcases h2 : FloatKind.f64.format.order x 4621819117588971520 with _ | o2 <;> (try cases o1) <;> (try cases o2) <;>
  · go_enter Try.func30, Try.ntmps30
    go_wp2
    go_ret
    exact ⟨by simp, rfl⟩
theorem iKeep_any (x : Nat) (w : World) : Calls Try.prog 67 #[.float .f64 x] w fun e w' => e = .returned (.bool (keepB x)) ∧ w = w' := by
  unfold keepB gtB leB
  rcases h1 : FloatKind.f64.format.order x 0 with _ | o1 <;> rcases h2 : FloatKind.f64.format.order x 4607182418800017408 with _ | o2 <;> (try cases o1) <;> (try cases o2) <;>
  · go_enter Try.func67, Try.ntmps67
    go_wp2
    go_ret
    exact ⟨by simp, rfl⟩
set_option maxHeartbeats 1600000 in
theorem beyond_any (g : Fi) (w : World) : Calls Try.prog 34 #[Fv g] w fun e w' => e = .returned (.bool (filmBad g)) ∧ Below w.heap.size w w' := by
  obtain ⟨a, b, t⟩ := g
  have H1 : Hid (∀ w, Calls Try.prog 32 #[.float .f64 a] w fun e w' => e = .returned (.bool (medB a)) ∧ w = w') := iMed_any a
  have H2 : Hid (∀ w, Calls Try.prog 67 #[.float .f64 b] w fun e w' => e = .returned (.bool (keepB b)) ∧ w = w') := iKeep_any b
  unfold filmBad
  simp only
  generalize medB a = b1 at *
  generalize keepB b = b2 at *
  by_cases t1 : t < 0 <;> by_cases t2 : 1000000 < t <;> (try (exfalso; omega)) <;> cases b1 <;> cases b2 <;>
  · go_enter Try.func34, Try.ntmps34
    go_wp2_with (first | (go_at_call 32; refine (H1.out _).mono ?_; rintro e w' ⟨rfl, rfl⟩) | (go_at_call 67; refine (H2.out _).mono ?_; rintro e w' ⟨rfl, rfl⟩))
    go_ret
    refine ⟨by simp [t1, t2], ?_⟩
    go_grown
set_option maxHeartbeats 1600000 in
theorem index_some (b off n cap : Nat) (G : Nat → Fi) (w : World) (hn : n ≤ 1000000000000) (hc : ∀ i, i < n → ∀ j, j < 3 → w.cell? ⟨b, off + i * 3 + j, none⟩ = some (fcell (G i) j)) :
    Calls Try.prog 66 #[.slice (some ⟨b, off, none⟩) n cap, .func (.func 34) #[] #[]] w fun e w' => ∃ r : Int, e = .returned (.int .i64 r) ∧ decide (0 ≤ r) = anyBad G n ∧ Below w.heap.size w w' := by
  have later : ∀ (wr : World) (p : Addr) {v : Value}, w.cell? p = some v → Below w.heap.size w wr → wr.cell? p = some v := fun wr p v h hb => (hb.cell (World.block_lt_of_cell? _ _ h)).trans h
  go_enter Try.func66, Try.ntmps66
  go_wp2_with fail
  go_loopw [5, 8] (fun _ i wr => ∃ k : Nat, k ≤ n ∧ i = .int .i64 k ∧ Hid (anyBad G k = false) ∧ Below w.heap.size w wr) (fun _ i _ => n - (intOf i).toNat)
  case atStart => exact ⟨0, Nat.zero_le _, rfl, rfl, Below.refl _ _⟩
  case round =>
    obtain ⟨k, hk, rfl, ha, hb⟩ := hrel
    by_cases hkn : k < n
    · have HB : Hid (Below w.heap.size w wr) := hb
      have g0 : wr.cell? ⟨b, off + k * 3, none⟩ = some (.float .f64 (G k).i) := later _ _ (hc k hkn 0 (by omega)) hb
      have g1 : wr.cell? ⟨b, off + k * 3 + 1, none⟩ = some (.float .f64 (G k).k) := later _ _ (hc k hkn 1 (by omega)) hb
      have g2 : wr.cell? ⟨b, off + k * 3 + 2, none⟩ = some (.int .i64 (G k).t) := later _ _ (hc k hkn 2 (by omega)) hb
      have H : Hid (∀ w, Calls Try.prog 34 #[Fv (G k)] w fun e w' => e = .returned (.bool (filmBad (G k))) ∧ Below w.heap.size w w') := beyond_any (G k)
      clear hb hc later
      cases hq : filmBad (G k) with
      | true =>
        rw [hq] at H
        have HQ : Hid (anyBad G n = true) := anyBad_of hq hkn
        clear hq
        go_wp2_with (go_at_call 34; refine (H.out _).mono ?_; rintro e w1 ⟨rfl, hb1⟩)
        go_ret
        exact ⟨_, rfl, by rw [HQ.out]; simp, box_step HB.out hb1 (Nat.le_refl _)⟩
      | false =>
        rw [hq] at H
        have HQ : Hid (anyBad G (k + 1) = false) := by
          have h : anyBad G (k + 1) = false := by simp only [anyBad, ha.out, hq]; rfl
          exact h
        clear hq
        go_wp2_with (go_at_call 34; refine (H.out _).mono ?_; rintro e w1 ⟨rfl, hb1⟩)
        have HB1 : Hid (Below w.heap.size w w1) := box_step HB.out hb1 (Nat.le_refl _)
        go_roundw
        case rel => exact ⟨k + 1, by omega, by simp, HQ, HB1.out⟩
        case measure => simp [intOf]; omega
    · obtain rfl : k = n := by omega
      have HB : Hid (Below w.heap.size w wr) := hb
      clear hc later hb
      go_wp2
      go_ret
      exact ⟨_, rfl, by rw [ha.out]; simp, HB.out⟩
set_option maxHeartbeats 800000 in
theorem index_none (ao : Option Addr) (cap : Nat) (G : Nat → Fi) (w : World) :
    Calls Try.prog 66 #[.slice ao 0 cap, .func (.func 34) #[] #[]] w fun e w' => ∃ r : Int, e = .returned (.int .i64 r) ∧ decide (0 ≤ r) = anyBad G 0 ∧ Below w.heap.size w w' := by
  go_enter Try.func66, Try.ntmps66
  go_wp2_with fail
  refine wp_loop_rounds 1 ?_
  rw [rounds_succ]
  go_wp2
  go_ret
  exact ⟨_, rfl, rfl, Below.refl _ _⟩
theorem index_any {w : World} {v : Value} {n : Nat} {G : Nat → Fi} (h : RdV w v n 3 (fun i j => fcell (G i) j)) (hn : n ≤ 1000000000000) :
    Calls Try.prog 66 #[v, .func (.func 34) #[] #[]] w fun e w' => ∃ r : Int, e = .returned (.int .i64 r) ∧ decide (0 ≤ r) = anyBad G n ∧ Below w.heap.size w w' := by
  rcases h with ⟨ao, cap, rfl, rfl⟩ | ⟨b, off, cap, rfl, hc⟩
  · exact index_none ao cap G w
  · exact index_some b off n cap G w hn hc
set_option maxHeartbeats 800000 in
theorem contains_any {w : World} {v : Value} {n : Nat} {G : Nat → Fi} (h : RdV w v n 3 (fun i j => fcell (G i) j)) (hn : n ≤ 1000000000000) :
    Calls Try.prog 33 #[v, .func (.func 34) #[] #[]] w fun e w' => e = .returned (.bool (anyBad G n)) ∧ Below w.heap.size w w' := by
  have H : Hid (Calls Try.prog 66 #[v, .func (.func 34) #[] #[]] w fun e w' => ∃ r : Int, e = .returned (.int .i64 r) ∧ decide (0 ≤ r) = anyBad G n ∧ Below w.heap.size w w') := index_any h hn
  generalize anyBad G n = z at *
  clear h
  go_enter Try.func33, Try.ntmps33
  go_wp2_with fail
  refine (H.out).mono ?_
  rintro e w1 ⟨r, rfl, hr, hb⟩
  go_wp2
  go_ret
  subst hr
  exact ⟨rfl, hb⟩
end Go.Proofs.Ytnpcldgacdgplaa
