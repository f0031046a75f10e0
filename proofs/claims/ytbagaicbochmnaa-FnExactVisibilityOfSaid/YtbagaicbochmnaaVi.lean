/- VisibilityOf, of the program and of the specification. -/
import Derived.Test.YtbagaicbochmnaaQlow
import Derived.Test.YtbagaicbochmnaaMods
import Derived.Handy
import Derived.Deep.DeepCutAuto
import Derived.Deep.RegionHeld3
namespace Go.Proofs.Ytbagaicbochmnaa
open Go.RowKit
set_option linter.unusedVariables false
def bmin (a b : Int) : Int := if a ≤ b then a else b
def bmax (a b : Int) : Int := if a ≤ b then b else a
/-- The least and the greatest of the first k numbers (of the first one where k is 0). -/
def mnU (f : Nat → Int) : Nat → Int
  | 0 => f 0
  | k + 1 => bmin (mnU f k) (f k)
def mxU (f : Nat → Int) : Nat → Int
  | 0 => f 0
  | k + 1 => bmax (mxU f k) (f k)
theorem mnU_le (f : Nat → Int) : ∀ k j, j < k → mnU f k ≤ f j
  | 0, _, h => absurd h (Nat.not_lt_zero _)
  | k + 1, j, h => by
    have e : mnU f (k + 1) = bmin (mnU f k) (f k) := rfl
    rw [e]
    unfold bmin
    by_cases h1 : j = k
    · subst h1; split <;> omega
    · have := mnU_le f k j (by omega)
      split <;> omega
theorem mxU_ge (f : Nat → Int) : ∀ k j, j < k → f j ≤ mxU f k
  | 0, _, h => absurd h (Nat.not_lt_zero _)
  | k + 1, j, h => by
    have e : mxU f (k + 1) = bmax (mxU f k) (f k) := rfl
    rw [e]
    unfold bmax
    by_cases h1 : j = k
    · subst h1; split <;> omega
    · have := mxU_ge f k j (by omega)
      split <;> omega
theorem mnU_lo {f : Nat → Int} {a : Int} (h0 : a ≤ f 0) : ∀ k, (∀ j, j < k → a ≤ f j) → a ≤ mnU f k
  | 0, _ => h0
  | k + 1, h => by
    have e : mnU f (k + 1) = bmin (mnU f k) (f k) := rfl
    have h1 := mnU_lo h0 k fun j hj => h j (by omega)
    have h2 := h k (by omega)
    rw [e]
    unfold bmin
    split <;> omega
theorem mxU_hi {f : Nat → Int} {a : Int} (h0 : f 0 ≤ a) : ∀ k, (∀ j, j < k → f j ≤ a) → mxU f k ≤ a
  | 0, _ => h0
  | k + 1, h => by
    have e : mxU f (k + 1) = bmax (mxU f k) (f k) := rfl
    have h1 := mxU_hi h0 k fun j hj => h j (by omega)
    have h2 := h k (by omega)
    rw [e]
    unfold bmax
    split <;> omega
theorem mn_mx (f : Nat → Int) : ∀ k, mnU f k ≤ mxU f k
  | 0 => Int.le_refl _
  | k + 1 => by
    have h := mn_mx f k
    show bmin _ _ ≤ bmax _ _
    unfold bmin bmax
    split <;> split <;> omega
def badV (f : Nat → Int) (n : Nat) : Bool := decide (mnU f n < 0 ∨ 100000000 < mxU f n)
def visC (f : Nat → Int) (n : Nat) : Int := if n = 0 then 1 else if badV f n = true then 3 else if mxU f n = 0 then 6 else 0
def visN (f : Nat → Int) (n : Nat) : Int := if visC f n = 0 then Fm.rN (mxU f n - mnU f n) (mxU f n + mnU f n) else 0
def visD (f : Nat → Int) (n : Nat) : Int := if visC f n = 0 then Fm.rD (mxU f n - mnU f n) (mxU f n + mnU f n) else 0
theorem vis_bad {f : Nat → Int} {n : Nat} (h0 : 0 < n) (h : mnU f n < 0 ∨ 100000000 < mxU f n) : visC f n = 3 := by
  unfold visC
  rw [if_neg (by omega), if_pos (by simp [badV, h])]
theorem vis_zero {f : Nat → Int} {n : Nat} (h0 : 0 < n) (h : ¬(mnU f n < 0 ∨ 100000000 < mxU f n)) (h2 : mxU f n = 0) : visC f n = 6 := by
  unfold visC
  rw [if_neg (by omega), if_neg (by simp [badV]; omega), if_pos h2]
theorem vis_ok {f : Nat → Int} {n : Nat} (h0 : 0 < n) (h : ¬(mnU f n < 0 ∨ 100000000 < mxU f n)) (h2 : mxU f n ≠ 0) : visC f n = 0 := by
  unfold visC
  rw [if_neg (by omega), if_neg (by simp [badV]; omega), if_neg h2]
theorem low_small {n d : Int} (h1 : 0 ≤ n) (h2 : n ≤ 200000000) (h3 : 1 ≤ d) (h4 : d ≤ 200000000) : lowB n d = true := by
  have a := Fm.rN_bd n d
  have b := Fm.rD_bd n d
  have c := Fm.rD_ge n d (by omega)
  unfold lowB inB
  rw [decide_eq_true_iff]
  omega
set_option maxHeartbeats 800000 in
theorem min_any (b off n cap : Nat) (f : Nat → Int) (w : World) (h0 : 0 < n) (hn : n ≤ 1100000) (hc : ∀ i, i < n → w.cell? ⟨b, off + i, none⟩ = some (.int .i64 (f i))) :
    Calls Try.prog 89 #[.slice (some ⟨b, off, none⟩) n cap] w fun e w' => e = .returned (.int .i64 (mnU f n)) ∧ w = w' := by
  have g0 := hc 0 h0
  rw [Nat.add_zero] at g0
  have HC : Hid (∀ i, i < n → w.cell? ⟨b, off + i, none⟩ = some (.int .i64 (f i))) := hc
  clear hc
  have hn1 : ¬((n : Int) < 1) := by omega
  go_enter Try.func89, Try.ntmps89
  go_wp2_with fail
  go_loopw [3, 4] (fun v i wr => wr = w ∧ ∃ k : Nat, 1 ≤ k ∧ k ≤ n ∧ i = .int .i64 k ∧ v = .int .i64 (mnU f k)) (fun _ i _ => n - (intOf i).toNat)
  case atStart => exact ⟨rfl, 1, by omega, by omega, rfl, by simp [mnU, bmin]⟩
  case round =>
    obtain ⟨rfl, k, hk1, hk, rfl, rfl⟩ := hrel
    by_cases hkn : k < n
    · have g1 := HC.out k hkn
      have HV : Hid (mnU f (k + 1) = bmin (mnU f k) (f k)) := rfl
      by_cases hl : mnU f k ≤ f k
      · go_wp2
        go_roundw
        case rel => exact ⟨by trivial, k + 1, by omega, by omega, by simp, by rw [HV.out]; simp [bmin]; omega⟩
        case measure => simp [intOf]; omega
      · go_wp2
        go_roundw
        case rel => exact ⟨by trivial, k + 1, by omega, by omega, by simp, by rw [HV.out]; simp [bmin]; omega⟩
        case measure => simp [intOf]; omega
    · obtain rfl : k = n := by omega
      go_wp2
      go_ret
      exact ⟨rfl, rfl⟩
set_option maxHeartbeats 800000 in
theorem max_any (b off n cap : Nat) (f : Nat → Int) (w : World) (h0 : 0 < n) (hn : n ≤ 1100000) (hc : ∀ i, i < n → w.cell? ⟨b, off + i, none⟩ = some (.int .i64 (f i))) :
    Calls Try.prog 90 #[.slice (some ⟨b, off, none⟩) n cap] w fun e w' => e = .returned (.int .i64 (mxU f n)) ∧ w = w' := by
  have g0 := hc 0 h0
  rw [Nat.add_zero] at g0
  have HC : Hid (∀ i, i < n → w.cell? ⟨b, off + i, none⟩ = some (.int .i64 (f i))) := hc
  clear hc
  have hn1 : ¬((n : Int) < 1) := by omega
  go_enter Try.func90, Try.ntmps90
  go_wp2_with fail
  go_loopw [3, 4] (fun v i wr => wr = w ∧ ∃ k : Nat, 1 ≤ k ∧ k ≤ n ∧ i = .int .i64 k ∧ v = .int .i64 (mxU f k)) (fun _ i _ => n - (intOf i).toNat)
  case atStart => exact ⟨rfl, 1, by omega, by omega, rfl, by simp [mxU, bmax]⟩
  case round =>
    obtain ⟨rfl, k, hk1, hk, rfl, rfl⟩ := hrel
    by_cases hkn : k < n
    · have g1 := HC.out k hkn
      have HV : Hid (mxU f (k + 1) = bmax (mxU f k) (f k)) := rfl
      by_cases hl : mxU f k ≤ f k
      · go_wp2
        go_roundw
        case rel => exact ⟨by trivial, k + 1, by omega, by omega, by simp, by rw [HV.out]; simp [bmax]; omega⟩
        case measure => simp [intOf]; omega
      · go_wp2
        go_roundw
        case rel => exact ⟨by trivial, k + 1, by omega, by omega, by simp, by rw [HV.out]; simp [bmax]; omega⟩
        case measure => simp [intOf]; omega
    · obtain rfl : k = n := by omega
      go_wp2
      go_ret
      exact ⟨rfl, rfl⟩
set_option maxHeartbeats 400000 in
theorem eqFrac_same (n d : Int) (w : World) :
    Calls Try.prog 92 #[.agg #[.int .i64 n, .int .i64 d], .agg #[.int .i64 n, .int .i64 d]] w fun e w' => e = .returned (.bool true) ∧ Below w.heap.size w w' := by
  go_enter Try.func92, Try.ntmps92
  go_wp2
  go_ret
  refine ⟨rfl, ?_⟩
  go_grown
set_option maxHeartbeats 400000 in
theorem eqVis_same (c n d : Int) (w : World) :
    Calls Try.prog 60 #[.agg #[.int .i64 c, .int .i64 n, .int .i64 d], .agg #[.int .i64 c, .int .i64 n, .int .i64 d]] w fun e w' => e = .returned (.bool true) ∧ Below w.heap.size w w' := by
  go_enter Try.func60, Try.ntmps60
  go_wp2_with fail
  refine (eqFrac_same n d _).mono ?_
  rintro e w1 ⟨rfl, hb1⟩
  have H1 : Below w.heap.size w w1 := by refine box_step ?_ hb1 (by simp); go_grown
  clear hb1
  go_wp2
  go_ret
  exact ⟨rfl, H1⟩
theorem fields86s : Try.prog.underlying 86 = some (.struct (Try.prog.fieldsOf 86)) := by kernel_rfl
theorem part86_1 (k a b : Int) (w : World) : (part 61 #[.int .i64 k, .int .i64 a, .int .i64 b] 1).run Try.prog w = .ok (.agg #[.int .i64 a, .int .i64 b]) w := by
  simp [part, isAgg, run_underlying Try.underlying61]
theorem field86_1 (k a b : Int) (w : World) : (Instr.field 86 (.agg #[.int .i64 k, .int .i64 a, .int .i64 b]) 1).run Try.prog w = .ok (.agg #[.int .i64 a, .int .i64 b]) w := by
  have h : ((Try.prog.fieldsOf 86)[1]?).map (fun f => (f.type, f.offset)) = some (61, 1) := by kernel_rfl
  obtain ⟨f, hf, e⟩ := Option.map_eq_some_iff.1 h
  simp only [Prod.mk.injEq] at e
  obtain ⟨h1, h2⟩ := e
  have hh : (Try.prog.fieldsOf 86)[1]? = some f := hf
  simp [Instr.field, run_underlying fields86s, hh, h1, h2, asAgg, part86_1]
/-- The result's block, as it was made. -/
def V3 (w : World) (b : Nat) : Prop := w.heap[b]? = some (.cells #[.int .i64 0, .int .i64 0, .int .i64 0] 63 (0, 0))
theorem V3.c0 {w : World} {b : Nat} (h : V3 w b) : w.cell? ⟨b, 0, none⟩ = some (.int .i64 0) ∧ w.cell? ⟨b, 1, none⟩ = some (.int .i64 0) ∧ w.cell? ⟨b, 2, none⟩ = some (.int .i64 0) ∧ ∀ j, w.frozen? ⟨b, j, none⟩ = false := by
  unfold V3 at h
  simp [World.cell?, World.frozen?, h]
theorem V3.later {w w' : World} {b : Nat} (h : V3 w b) (hb : Below w.heap.size w w') : V3 w' b := (hb.block b (Array.getElem?_eq_some_iff.1 h).1).trans h
theorem below3 {w W : World} {x y z : Value} (h : Below w.heap.size w W) : Below w.heap.size w (((W.setCell ⟨w.heap.size, 0, none⟩ x).setCell ⟨w.heap.size, 1, none⟩ y).setCell ⟨w.heap.size, 2, none⟩ z) :=
  ((h.setCell (p := ⟨w.heap.size, 0, none⟩) (Nat.le_refl _) _).setCell (p := ⟨w.heap.size, 1, none⟩) (Nat.le_refl _) _).setCell (p := ⟨w.heap.size, 2, none⟩) (Nat.le_refl _) _
set_option maxHeartbeats 1600000 in
theorem iVis_any {v : Value} {n : Nat} {f : Nat → Int} {w : World} (h : RdRow w v n f) (hn : n ≤ 1100000) :
    Calls Try.prog 59 #[v] w fun e w' => e = .returned (.agg #[.int .i64 (visC f n), .int .i64 (visN f n), .int .i64 (visD f n)]) ∧ Below w.heap.size w w' := by
  have HN : Hid (visC f n ≠ 0 → visN f n = 0 ∧ visD f n = 0) := fun h => ⟨by unfold visN; rw [if_neg h], by unfold visD; rw [if_neg h]⟩
  by_cases hz : n = 0
  · have hv : visC f n = 1 := by rw [hz]; rfl
    obtain ⟨e1, e2⟩ := HN.out (by rw [hv]; omega)
    rw [hv, e1, e2]
    obtain ⟨ao, cap, rfl⟩ := h.shape
    subst hz
    clear h HN hv e1 e2
    go_enter Try.func59, Try.ntmps59
    go_wp2
    refine bodyPost_ret (v := .agg #[.int .i64 1, .int .i64 0, .int .i64 0]) (by simp [results, Try.results59, go_sem]) rfl ⟨rfl, ?_⟩
    go_grown
  obtain ⟨b, off, cap, rfl, hc⟩ : ∃ b off cap, v = .slice (some ⟨b, off, none⟩) n cap ∧ ∀ i, i < n → w.cell? ⟨b, off + i, none⟩ = some (.int .i64 (f i)) := by
    rcases h with ⟨_, _, _, rfl⟩ | ⟨b, off, cap, e, hc⟩
    · exact absurd rfl hz
    · exact ⟨b, off, cap, e, hc⟩
  have h0 : 0 < n := by omega
  have hz0 : ((n : Int) == 0) = false := by rw [beq_eq_false_iff_ne]; omega
  obtain ⟨X, hX⟩ : ∃ X, X = w.alloc (.cells #[.int .i64 0, .int .i64 0, .int .i64 0] 63) := ⟨_, rfl⟩
  have HX : Hid (Below w.heap.size w X) := by show Below _ _ X; rw [hX]; exact (Below.refl _ _).alloc (Nat.le_refl _) _
  have VX : Hid (V3 X w.heap.size) := by show V3 X _; rw [hX]; exact heap_alloc_new _ _
  have HC : Hid (∀ i, i < n → X.cell? ⟨b, off + i, none⟩ = some (.int .i64 (f i))) := fun i hi => by show X.cell? _ = _; rw [HX.out.cell (World.block_lt_of_cell? _ _ (hc i hi))]; exact hc i hi
  clear h hc hz
  go_enter Try.func59, Try.ntmps59
  go_wp2_with fail
  rw [← hX]
  clear hX
  refine (min_any _ _ _ _ f _ h0 hn HC.out).mono ?_
  rintro e w1 ⟨rfl, rfl⟩
  go_wp2_with fail
  refine (max_any _ _ _ _ f _ h0 hn HC.out).mono ?_
  rintro e w1 ⟨rfl, rfl⟩
  obtain ⟨c0, c1, c2, cf⟩ := VX.out.c0
  have hmm := mn_mx f n
  have W1 : Hid (¬(mnU f n < 0 ∨ 100000000 < mxU f n) → mxU f n ≠ 0 → visC f n = 0) := fun a b => vis_ok h0 a b
  have W2 : Hid (¬(mnU f n < 0 ∨ 100000000 < mxU f n) → mxU f n = 0 → visC f n = 6) := fun a b => vis_zero h0 a b
  have W3 : Hid ((mnU f n < 0 ∨ 100000000 < mxU f n) → visC f n = 3) := fun a => vis_bad h0 a
  have W4 : Hid (visC f n = 0 → visN f n = Fm.rN (mxU f n - mnU f n) (mxU f n + mnU f n) ∧ visD f n = Fm.rD (mxU f n - mnU f n) (mxU f n + mnU f n)) := fun h => ⟨by unfold visN; rw [if_pos h], by unfold visD; rw [if_pos h]⟩
  generalize mnU f n = lw at *
  generalize mxU f n = hg at *
  by_cases h1 : lw < 0
  · have hv := W3.out (Or.inl h1)
    obtain ⟨e1, e2⟩ := HN.out (by rw [hv]; omega)
    have HV : Hid (visC f n = 3 ∧ visN f n = 0 ∧ visD f n = 0) := ⟨hv, e1, e2⟩
    clear e1 e2 hv
    go_wp2
    refine bodyPost_ret (v := .agg #[.int .i64 3, .int .i64 0, .int .i64 0]) (by simp [results, Try.results59, go_sem, c0, c1, c2]) rfl ⟨by rw [HV.out.1, HV.out.2.1, HV.out.2.2], below3 HX.out⟩
  · by_cases h2 : 100000000 < hg
    · have hv := W3.out (Or.inr h2)
      obtain ⟨e1, e2⟩ := HN.out (by rw [hv]; omega)
      have HV : Hid (visC f n = 3 ∧ visN f n = 0 ∧ visD f n = 0) := ⟨hv, e1, e2⟩
      clear e1 e2 hv
      go_wp2
      refine bodyPost_ret (v := .agg #[.int .i64 3, .int .i64 0, .int .i64 0]) (by simp [results, Try.results59, go_sem, c0, c1, c2]) rfl ⟨by rw [HV.out.1, HV.out.2.1, HV.out.2.2], below3 HX.out⟩
    · by_cases h3 : hg = 0
      · have hv := W2.out (by omega) h3
        have h30 : (hg == 0) = true := by rw [beq_iff_eq]; exact h3
        obtain ⟨e1, e2⟩ := HN.out (by rw [hv]; omega)
        have HV : Hid (visC f n = 6 ∧ visN f n = 0 ∧ visD f n = 0) := ⟨hv, e1, e2⟩
        clear e1 e2 hv
        go_wp2
        refine bodyPost_ret (v := .agg #[.int .i64 6, .int .i64 0, .int .i64 0]) (by simp [results, Try.results59, go_sem, c0, c1, c2]) rfl ⟨by rw [HV.out.1, HV.out.2.1, HV.out.2.2], below3 HX.out⟩
      · have hv := W1.out (by omega) h3
        have h30 : (hg == 0) = false := by rw [beq_eq_false_iff_ne]; exact h3
        obtain ⟨e1, e2⟩ := W4.out hv
        have HV : Hid (visC f n = 0 ∧ visN f n = Fm.rN (hg - lw) (hg + lw) ∧ visD f n = Fm.rD (hg - lw) (hg + lw)) := ⟨hv, e1, e2⟩
        clear e1 e2 hv W1 W2 W3 W4 c0 c1 c2 cf
        go_wp2_with fail
        refine (lowest_pos _ _ _ (by omega) (by omega) (by omega) (by omega)).mono ?_
        rintro e w2 ⟨rfl, hb2⟩
        have V2 := VX.out.later hb2
        have H2 : Hid (Below w.heap.size w w2) := HX.out.trans (hb2.mono HX.out.size)
        obtain ⟨c0, c1, c2, cf⟩ := V2.c0
        clear hb2 V2
        go_wp2
        refine bodyPost_ret (v := .agg #[.int .i64 0, .int .i64 (Fm.rN (hg - lw) (hg + lw)), .int .i64 (Fm.rD (hg - lw) (hg + lw))]) (by simp [results, Try.results59, go_sem, c0, c1, c2]) rfl ⟨by rw [HV.out.1, HV.out.2.1, HV.out.2.2], below3 H2.out⟩
set_option maxHeartbeats 1600000 in
set_option maxRecDepth 20000 in
theorem sVis_any {v : Value} {n : Nat} {f : Nat → Int} {w : World} (h : RdRow w v n f) (hn : n ≤ 1100000) :
    Calls Try.prog 58 #[v] w fun e w' => e = .returned (.agg #[.int .i64 (visC f n), .int .i64 (visN f n), .int .i64 (visD f n)]) ∧ Below w.heap.size w w' := by
  have HN : Hid (visC f n ≠ 0 → visN f n = 0 ∧ visD f n = 0) := fun h => ⟨by unfold visN; rw [if_neg h], by unfold visD; rw [if_neg h]⟩
  by_cases hz : n = 0
  · have hv : visC f n = 1 := by rw [hz]; rfl
    obtain ⟨e1, e2⟩ := HN.out (by rw [hv]; omega)
    rw [hv, e1, e2]
    obtain ⟨ao, cap, rfl⟩ := h.shape
    subst hz
    clear h HN hv e1 e2
    go_enter Try.func58, Try.ntmps58
    go_wp2
    refine bodyPost_ret (v := .agg #[.int .i64 1, .int .i64 0, .int .i64 0]) (by simp [results, Try.results58, go_sem]) rfl ⟨rfl, ?_⟩
    go_grown
  obtain ⟨b, off, cap, rfl, hc⟩ : ∃ b off cap, v = .slice (some ⟨b, off, none⟩) n cap ∧ ∀ i, i < n → w.cell? ⟨b, off + i, none⟩ = some (.int .i64 (f i)) := by
    rcases h with ⟨_, _, _, rfl⟩ | ⟨b, off, cap, e, hc⟩
    · exact absurd rfl hz
    · exact ⟨b, off, cap, e, hc⟩
  have h0 : 0 < n := by omega
  have hz0 : ((n : Int) == 0) = false := by rw [beq_eq_false_iff_ne]; omega
  obtain ⟨X, hX⟩ : ∃ X, X = w.alloc (.cells #[.int .i64 0, .int .i64 0, .int .i64 0] 63) := ⟨_, rfl⟩
  have HX : Hid (Below w.heap.size w X) := by show Below _ _ X; rw [hX]; exact (Below.refl _ _).alloc (Nat.le_refl _) _
  have VX : Hid (V3 X w.heap.size) := by show V3 X _; rw [hX]; exact heap_alloc_new _ _
  have HC : Hid (∀ i, i < n → X.cell? ⟨b, off + i, none⟩ = some (.int .i64 (f i))) := fun i hi => by show X.cell? _ = _; rw [HX.out.cell (World.block_lt_of_cell? _ _ (hc i hi))]; exact hc i hi
  clear h hc hz
  go_enter Try.func58, Try.ntmps58
  have g0 := HC.out 0 h0
  rw [Nat.add_zero] at g0
  go_upto_region 3 with fail
  rw [← hX]
  clear hX
  go_wp2_with fail
  go_loopw [3, 4, 5] (fun lv hv i wr => wr = X ∧ ∃ k : Nat, k ≤ n ∧ i = .int .i64 k ∧ lv = .int .i64 (mnU f k) ∧ hv = .int .i64 (mxU f k) ∧ Hid (∀ j, j < k → 0 ≤ f j ∧ f j ≤ 100000000)) (fun _ _ i _ => n - (intOf i).toNat)
  case atStart => exact ⟨rfl, 0, Nat.zero_le _, rfl, rfl, rfl, fun j hj => absurd hj (Nat.not_lt_zero _)⟩
  case round =>
    obtain ⟨rfl, k, hk, rfl, rfl, rfl, HJ⟩ := hrel
    obtain ⟨c0, c1, c2, cf⟩ := VX.out.c0
    have hmm := mn_mx f k
    by_cases hkn : k < n
    · have g1 := HC.out k hkn
      have L1 : Hid (mnU f (k + 1) = bmin (mnU f k) (f k)) := rfl
      have L2 : Hid (mxU f (k + 1) = bmax (mxU f k) (f k)) := rfl
      have L3 : Hid (f k < 0 → visC f n = 3) := fun h => vis_bad h0 (Or.inl (by have := mnU_le f n k hkn; omega))
      have L4 : Hid (100000000 < f k → visC f n = 3) := fun h => vis_bad h0 (Or.inr (by have := mxU_ge f n k hkn; omega))
      have L5 : Hid (¬f k < 0 → ¬100000000 < f k → ∀ j, j < k + 1 → 0 ≤ f j ∧ f j ≤ 100000000) := fun h1 h2 j hj => by
        by_cases e : j = k
        · subst e; omega
        · exact HJ.out j (by omega)
      by_cases h1 : f k < 0
      · have hv := L3.out h1
        obtain ⟨e1, e2⟩ := HN.out (by rw [hv]; omega)
        have HV : Hid (visC f n = 3 ∧ visN f n = 0 ∧ visD f n = 0) := ⟨hv, e1, e2⟩
        clear e1 e2 hv
        go_wp2
        refine bodyPost_ret (v := .agg #[.int .i64 3, .int .i64 0, .int .i64 0]) (by simp [results, Try.results58, go_sem, c0, c1, c2]) rfl ⟨by rw [HV.out.1, HV.out.2.1, HV.out.2.2], below3 HX.out⟩
      · by_cases h2 : 100000000 < f k
        · have hv := L4.out h2
          obtain ⟨e1, e2⟩ := HN.out (by rw [hv]; omega)
          have HV : Hid (visC f n = 3 ∧ visN f n = 0 ∧ visD f n = 0) := ⟨hv, e1, e2⟩
          clear e1 e2 hv
          go_wp2
          refine bodyPost_ret (v := .agg #[.int .i64 3, .int .i64 0, .int .i64 0]) (by simp [results, Try.results58, go_sem, c0, c1, c2]) rfl ⟨by rw [HV.out.1, HV.out.2.1, HV.out.2.2], below3 HX.out⟩
        · have HK : Hid (∀ j, j < k + 1 → 0 ≤ f j ∧ f j ≤ 100000000) := L5.out h1 h2
          clear L3 L4 L5
          by_cases h3 : f k < mnU f k
          · by_cases h4 : mxU f k < f k
            · omega
            · go_wp2
              go_roundw
              case rel => exact ⟨by trivial, k + 1, by omega, by simp, by rw [L1.out]; simp [bmin]; omega, by rw [L2.out]; simp [bmax]; omega, HK⟩
              case measure => simp [intOf]; omega
          · by_cases h4 : mxU f k < f k
            · go_wp2
              go_roundw
              case rel => exact ⟨by trivial, k + 1, by omega, by simp, by rw [L1.out]; simp [bmin]; omega, by rw [L2.out]; simp [bmax]; omega, HK⟩
              case measure => simp [intOf]; omega
            · go_wp2
              go_roundw
              case rel => exact ⟨by trivial, k + 1, by omega, by simp, by rw [L1.out]; simp [bmin]; omega, by rw [L2.out]; simp [bmax]; omega, HK⟩
              case measure => simp [intOf]; omega
    · obtain rfl : k = n := by omega
      have hlo : 0 ≤ mnU f k := mnU_lo (HJ.out 0 h0).1 k fun j hj => (HJ.out j hj).1
      have hhi : mxU f k ≤ 100000000 := mxU_hi (HJ.out 0 h0).2 k fun j hj => (HJ.out j hj).2
      have W1 : Hid (mxU f k ≠ 0 → visC f k = 0) := fun b => vis_ok h0 (by omega) b
      have W2 : Hid (mxU f k = 0 → visC f k = 6) := fun b => vis_zero h0 (by omega) b
      have W4 : Hid (visC f k = 0 → visN f k = Fm.rN (mxU f k - mnU f k) (mxU f k + mnU f k) ∧ visD f k = Fm.rD (mxU f k - mnU f k) (mxU f k + mnU f k)) := fun h => ⟨by unfold visN; rw [if_pos h], by unfold visD; rw [if_pos h]⟩
      generalize mnU f k = lw at *
      generalize mxU f k = hg at *
      by_cases h3 : hg = 0
      · have hv := W2.out h3
        have h30 : (hg == 0) = true := by rw [beq_iff_eq]; exact h3
        obtain ⟨e1, e2⟩ := HN.out (by rw [hv]; omega)
        have HV : Hid (visC f k = 6 ∧ visN f k = 0 ∧ visD f k = 0) := ⟨hv, e1, e2⟩
        clear e1 e2 hv
        go_wp2
        refine bodyPost_ret (v := .agg #[.int .i64 6, .int .i64 0, .int .i64 0]) (by simp [results, Try.results58, go_sem, c0, c1, c2]) rfl ⟨by rw [HV.out.1, HV.out.2.1, HV.out.2.2], below3 HX.out⟩
      · have hv := W1.out h3
        have h30 : (hg == 0) = false := by rw [beq_eq_false_iff_ne]; exact h3
        obtain ⟨e1, e2⟩ := W4.out hv
        have hlow := low_small (n := hg - lw) (d := hg + lw) (by omega) (by omega) (by omega) (by omega)
        have HV : Hid (visC f k = 0 ∧ visN f k = Fm.rN (hg - lw) (hg + lw) ∧ visD f k = Fm.rD (hg - lw) (hg + lw)) := ⟨hv, e1, e2⟩
        have RV : Hid (resN (hg - lw) (hg + lw) = Fm.rN (hg - lw) (hg + lw) ∧ resD (hg - lw) (hg + lw) = Fm.rD (hg - lw) (hg + lw)) := ⟨by simp [resN, hlow], by simp [resD, hlow]⟩
        clear e1 e2 hv W1 W2 W4 c0 c1 c2 cf
        go_wp2_with fail
        refine (slow_pos_yes _ _ _ (by omega) (by omega) (by omega) (by omega) hlow).mono ?_
        rintro e w2 ⟨rfl, hb2⟩
        rw [RV.out.1, RV.out.2]
        have V2 := VX.out.later hb2
        have H2 : Hid (Below w.heap.size w w2) := HX.out.trans (hb2.mono HX.out.size)
        obtain ⟨c0, c1, c2, cf⟩ := V2.c0
        have hfl := field86_1
        clear hb2 V2 hlow
        go_wp2
        refine bodyPost_ret (v := .agg #[.int .i64 0, .int .i64 (Fm.rN (hg - lw) (hg + lw)), .int .i64 (Fm.rD (hg - lw) (hg + lw))]) (by simp [results, Try.results58, go_sem, c0, c1, c2]) rfl ⟨by rw [HV.out.1, HV.out.2.1, HV.out.2.2], below3 H2.out⟩
end Go.Proofs.Ytbagaicbochmnaa
