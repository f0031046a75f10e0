/- Lists of fields: copied, counted, compared, marked, opened. -/
import Derived.Test.YtgidoceflkdklaaPh
import Derived.Test.YtgidoceflkdklaaOpenZs
import Derived.Deep.Matrix
namespace Go.Proofs.Ytgidoceflkdklaa
open Go.ChangeShapes Go.WideShapes Go.ChangeAt Go.RowKit Go.Joins Go.Deep Fl
set_option linter.unusedVariables false
set_option linter.unusedSimpArgs false
def RdZZ (w : World) (v : Value) (n : Nat) (L : Nat → Nat) (F : Nat → Nat → Nat → Nat) : Prop :=
  (∃ ao cap, v = .slice ao 0 cap ∧ n = 0) ∨ ∃ (b off cap : Nat) (R : Nat → Value), v = .slice (some ⟨b, off, none⟩) n cap ∧ ∀ i, i < n → w.cell? ⟨b, off + i, none⟩ = some (R i) ∧ RdM w (R i) (L i) 2 (F i)
theorem RdZZ.later {w w' : World} {v : Value} {n : Nat} {L : Nat → Nat} {F : Nat → Nat → Nat → Nat} (h : RdZZ w v n L F) (hb : Below w.heap.size w w') : RdZZ w' v n L F := by
  rcases h with h | ⟨b, off, cap, R, rfl, hc⟩
  · exact Or.inl h
  · exact Or.inr ⟨b, off, cap, R, rfl, fun i hi => ⟨(hb.cell (World.block_lt_of_cell? _ _ (hc i hi).1)).trans (hc i hi).1, (hc i hi).2.later hb⟩⟩
theorem RdZZ.form {w : World} {v : Value} {n : Nat} {L : Nat → Nat} {F : Nat → Nat → Nat → Nat} (h : RdZZ w v n L F) : ∃ ao cap, v = .slice ao n cap := by
  rcases h with ⟨ao, cap, rfl, rfl⟩ | ⟨b, off, cap, R, rfl, _⟩
  · exact ⟨_, _, rfl⟩
  · exact ⟨_, _, rfl⟩
structure MatZ (lo hi : Nat) (w : World) (b : Nat) (bs : Nat → Nat) (n : Nat) (L : Nat → Nat) (F : Nat → Nat → Nat → Nat) : Prop where
  top : Seg w b 34 0 n (fun i => .slice (some ⟨bs i, 0, none⟩) (L i) (L i))
  row : ∀ i, i < n → SegM w (bs i) 75 (L i) 2 (F i)
  blo : lo ≤ b
  bhi : b < hi
  rlo : ∀ i, i < n → lo ≤ bs i
  rhi : ∀ i, i < n → bs i < hi
  bne : ∀ i, i < n → b ≠ bs i
  apart : ∀ i j, i < n → j < n → bs i = bs j → i = j
theorem MatZ.rd {lo hi : Nat} {w : World} {b : Nat} {bs : Nat → Nat} {n : Nat} {L : Nat → Nat} {F : Nat → Nat → Nat → Nat} (h : MatZ lo hi w b bs n L F) (cap : Nat) : RdZZ w (.slice (some ⟨b, 0, none⟩) n cap) n L F :=
  Or.inr ⟨b, 0, cap, _, rfl, fun i hi => ⟨h.top.cell hi, Or.inr ⟨bs i, 0, L i, rfl, fun k hk j hj => by rw [Nat.zero_add]; exact (h.row i hi).cell hk hj⟩⟩⟩
/-- v is such a list, somewhere between lo and hi. -/
def OwM (lo hi : Nat) (w : World) (v : Value) (n : Nat) (L : Nat → Nat) (F : Nat → Nat → Nat → Nat) : Prop := ∃ b bs, v = .slice (some ⟨b, 0, none⟩) n n ∧ MatZ lo hi w b bs n L F
theorem OwM.later {lo hi : Nat} {w w' : World} {v : Value} {n : Nat} {L : Nat → Nat} {F : Nat → Nat → Nat → Nat} (h : OwM lo hi w v n L F) (k : Below w.heap.size w w') : OwM lo hi w' v n L F := by
  obtain ⟨b, bs, e, h⟩ := h
  exact ⟨b, bs, e, h.top.of_block (k.block _ h.top.lt), fun i hi => (h.row i hi).below k, h.blo, h.bhi, h.rlo, h.rhi, h.bne, h.apart⟩
theorem OwM.rd {lo hi : Nat} {w : World} {v : Value} {n : Nat} {L : Nat → Nat} {F : Nat → Nat → Nat → Nat} (h : OwM lo hi w v n L F) : RdZZ w v n L F := by
  obtain ⟨b, bs, rfl, h⟩ := h
  exact h.rd n
theorem info34 : (Try.prog.info? 34).map (fun i => (i.zero, i.size, i.bytes)) = some (some (.slice none 0 0), 1, 24) := by kernel_rfl
structure Lay2 (B : Nat) (w : World) (bs : Nat → Nat) (n k : Nat) (L : Nat → Nat) (F : Nat → Nat → Nat → Nat) : Prop where
  top : Seg w B 34 0 n (fun i => if i < k then .slice (some ⟨bs i, 0, none⟩) (L i) (L i) else .slice none 0 0)
  row : ∀ i, i < k → SegM w (bs i) 75 (L i) 2 (F i)
  lo : ∀ i, i < k → B < bs i
  hi : ∀ i, i < k → bs i < w.heap.size
  apart : ∀ i j, i < k → j < k → bs i = bs j → i = j
  lt : B < w.heap.size
theorem Lay2.step {B : Nat} {w w' : World} {bs : Nat → Nat} {n k : Nat} {L : Nat → Nat} {F : Nat → Nat → Nat → Nat} (h : Lay2 B w bs n k L F) (hk : k < n) (hb : Below w.heap.size w w') (hr : SegM w' w.heap.size 75 (L k) 2 (F k)) :
    Lay2 B (w'.setCell ⟨B, k, none⟩ (.slice (some ⟨w.heap.size, 0, none⟩) (L k) (L k))) (fun i => if i = k then w.heap.size else bs i) n (k + 1) L F := by
  have ht := h.top.of_block (hb.block _ h.lt)
  refine ⟨?_, fun i hi => ?_, fun i hi => ?_, fun i hi => ?_, fun i j hi hj e => ?_, ?_⟩
  · have := ht.set k hk (.slice (some ⟨w.heap.size, 0, none⟩) (L k) (L k))
    rw [Nat.zero_add] at this
    refine this.congr fun j _ => ?_
    by_cases e : j = k
    · subst e; simp
    · by_cases e2 : j < k
      · simp [e, e2, Nat.lt_succ_of_lt e2]
      · simp [e, e2]; omega
  · by_cases e : i = k
    · subst e
      simp only [if_true]
      exact hr.setOther (by have := h.lt; omega) _
    · simp only [e, if_false]
      exact ((h.row i (by omega)).below hb).setOther (by have := h.lo i (by omega); omega) _
  · by_cases e : i = k
    · simp [e]; exact h.lt
    · simp only [e, if_false]; exact h.lo i (by omega)
  · have := hr.lt
    by_cases e : i = k
    · simpa [e] using this
    · simp only [e, if_false]
      have := h.hi i (by omega)
      simp only [World.size_setCell]
      omega
  · by_cases e1 : i = k
    · by_cases e2 : j = k
      · omega
      · simp only [e1, e2, if_true, if_false] at e
        have := h.hi j (by omega)
        omega
    · by_cases e2 : j = k
      · simp only [e1, e2, if_true, if_false] at e
        have := h.hi i (by omega)
        omega
      · simp only [e1, e2, if_false] at e
        exact h.apart i j (by omega) (by omega) e
  · simp only [World.size_setCell]
    have := hb.size
    have := h.lt
    omega
set_option maxHeartbeats 1600000 in
theorem toZZ_some (b off n cap : Nat) (R : Nat → Value) (L : Nat → Nat) (F : Nat → Nat → Nat → Nat) (w : World) (hn : n ≤ 1000000000000) (hL : ∀ i, i < n → L i ≤ 1000000000000)
    (hc : ∀ i, i < n → w.cell? ⟨b, off + i, none⟩ = some (R i) ∧ RdM w (R i) (L i) 2 (F i)) :
    Calls Try.prog 50 #[.slice (some ⟨b, off, none⟩) n cap] w fun e w' => ∃ v, e = .returned v ∧ OwM w.heap.size w'.heap.size w' v n L F ∧ Below w.heap.size w w' := by
  have hmk := run_make_row' (P := Try.prog) 62 34 (.slice none 0 0) 24 Try.underlying62 info34 rfl .i64 .i64 n (by omega) (by omega)
  go_enter Try.func50, Try.ntmps50
  go_wp2_with fail
  clear hmk
  go_loopw [4] (fun i wr => ∃ (k : Nat) (bs : Nat → Nat), k ≤ n ∧ i = .int .i64 k ∧ Lay2 w.heap.size wr bs n k L F ∧ Below w.heap.size w wr) (fun i _ => n - (intOf i).toNat)
  case atStart => exact ⟨0, fun _ => 0, Nat.zero_le _, rfl, ⟨(seg_made w _ n 34).congr (fun j _ => by simp), fun i hi => by omega, fun i hi => by omega, fun i hi => by omega, fun i j hi => by omega, by simp⟩, (Below.refl _ _).alloc (Nat.le_refl _) _⟩
  case round =>
    obtain ⟨k, bs, hk, rfl, hs, hb⟩ := hrel
    by_cases hkn : k < n
    · have g1 : wr.cell? ⟨b, off + k, none⟩ = some (R k) := (hb.cell (World.block_lt_of_cell? _ _ (hc k hkn).1)).trans (hc k hkn).1
      have gr : RdM wr (R k) (L k) 2 (F k) := (hc k hkn).2.later hb
      have hLk := hL k hkn
      have HS : Hid (Lay2 w.heap.size wr bs n k L F ∧ Below w.heap.size w wr) := ⟨hs, hb⟩
      clear hs hb hc hL
      go_wp2_with fail
      refine (to28_any gr hLk).mono ?_
      rintro e w1 ⟨rfl, hr, hb1⟩
      have hT1 := HS.out.1.top.of_block (hb1.block _ HS.out.1.lt)
      have g2 : w1.cell? ⟨w.heap.size, k, none⟩ = some (.slice none 0 0) := by simpa using hT1.cell hkn
      have g3 : w1.frozen? ⟨w.heap.size, k, none⟩ = false := hT1.frozen k
      have HR : Hid (Lay2 w.heap.size (w1.setCell ⟨w.heap.size, k, none⟩ (.slice (some ⟨wr.heap.size, 0, none⟩) (L k) (L k))) (fun i => if i = k then wr.heap.size else bs i) n (k + 1) L F ∧ Below w.heap.size w (w1.setCell ⟨w.heap.size, k, none⟩ (.slice (some ⟨wr.heap.size, 0, none⟩) (L k) (L k)))) :=
        ⟨HS.out.1.step hkn hb1 hr, (HS.out.2.trans (hb1.mono (by have := HS.out.1.lt; omega))).setCell (Nat.le_refl _) _⟩
      clear hT1 hr hb1 HS gr g1 hLk
      go_wp2
      go_roundw
      case rel => exact ⟨k + 1, _, by omega, by simp, HR.out.1, HR.out.2⟩
      case measure => simp [intOf]; omega
    · obtain rfl : k = n := by omega
      clear hc hL
      go_wp2
      go_ret
      exact ⟨_, rfl, ⟨_, bs, rfl, hs.top.congr fun i hi => by simp [hi], hs.row, Nat.le_refl _, hs.lt, fun i hi => by have := hs.lo i hi; omega, hs.hi, fun i hi => by have := hs.lo i hi; omega, hs.apart⟩, hb⟩
theorem toZZ_none (ao : Option Addr) (cap : Nat) (L : Nat → Nat) (F : Nat → Nat → Nat → Nat) (w : World) :
    Calls Try.prog 50 #[.slice ao 0 cap] w fun e w' => ∃ v, e = .returned v ∧ OwM w.heap.size w'.heap.size w' v 0 L F ∧ Below w.heap.size w w' := by
  have hmk := run_make_row' (P := Try.prog) 62 34 (.slice none 0 0) 24 Try.underlying62 info34 rfl .i64 .i64 0 (by omega) (by omega)
  rw [show ((0 : Nat) : Int) = 0 from rfl] at hmk
  have hS := seg_made w (.slice none 0 0) 0 34
  have hB : Below w.heap.size w (w.alloc (.cells (madeCells #[.slice none 0 0] 0) 34)) := (Below.refl _ _).alloc (Nat.le_refl _) _
  go_enter Try.func50, Try.ntmps50
  go_wp2_with fail
  refine wp_loop_rounds 1 ?_
  rw [rounds_succ]
  go_wp2
  go_ret
  exact ⟨_, rfl, ⟨_, fun _ => 0, rfl, hS.congr fun i hi => by omega, fun i hi => by omega, Nat.le_refl _, by simp, fun i hi => by omega, fun i hi => by omega, fun i hi => by omega, fun i j hi => by omega⟩, hB⟩
theorem toZZ_any {w : World} {v : Value} {n : Nat} {L : Nat → Nat} {F : Nat → Nat → Nat → Nat} (h : RdZZ w v n L F) (hn : n ≤ 1000000000000) (hL : ∀ i, i < n → L i ≤ 1000000000000) :
    Calls Try.prog 50 #[v] w fun e w' => ∃ v, e = .returned v ∧ OwM w.heap.size w'.heap.size w' v n L F ∧ Below w.heap.size w w' := by
  rcases h with ⟨ao, cap, rfl, rfl⟩ | ⟨b, off, cap, R, rfl, hc⟩
  · exact toZZ_none ao cap L F w
  · exact toZZ_some b off n cap R L F w hn hL hc
/-- So many numbers are in the first k fields. -/
def Sm (L : Nat → Nat) : Nat → Nat | 0 => 0 | k + 1 => Sm L k + L k
theorem Sm_mono (L : Nat → Nat) (k : Nat) : ∀ m, Sm L k ≤ Sm L (k + m)
  | 0 => Nat.le_refl _
  | m + 1 => by have := Sm_mono L k m; rw [← Nat.add_assoc, Sm]; omega
theorem Sm_le {L : Nat → Nat} {k n : Nat} (h : k ≤ n) : Sm L k ≤ Sm L n := by
  have := Sm_mono L k (n - k)
  rwa [Nat.add_sub_cancel' h] at this
theorem le_Sm {L : Nat → Nat} {i n : Nat} (h : i < n) : L i ≤ Sm L n := by
  have := Sm_le (L := L) (show i + 1 ≤ n by omega)
  rw [Sm] at this
  omega
theorem szZ_left (ao : Option Addr) (n cap : Nat) (left : Int) (w : World) (h0 : 0 ≤ left) (h1 : left ≤ 1048576) (hn : n ≤ 9223372036854775807) :
    Calls Try.prog 19 #[.slice ao n cap, .int .i64 left] w fun e w' => e = .returned (.int .i64 (if left - n < 0 then -1 else left - n)) ∧ w = w' := by
  by_cases h : left - n < 0
  · rw [if_pos h]
    go_enter Try.func19, Try.ntmps19
    go_wp2
    go_ret
    exact ⟨rfl, rfl⟩
  · rw [if_neg h]
    go_enter Try.func19, Try.ntmps19
    go_wp2
    go_ret
    exact ⟨rfl, rfl⟩
theorem szZZ_short (ao : Option Addr) (n cap : Nat) (left : Int) (w : World) (h0 : 0 ≤ left) (h1 : left ≤ 1048576) (hn : n ≤ 9223372036854775807) (h : left - n < 0) :
    Calls Try.prog 48 #[.slice ao n cap, .int .i64 left] w fun e w' => e = .returned (.int .i64 (-1)) ∧ w = w' := by
  go_enter Try.func48, Try.ntmps48
  go_wp2
  go_ret
  exact ⟨rfl, rfl⟩
/-- What a look at the sizes tells: too many, or how many are left. -/
def Told (n : Nat) (L : Nat → Nat) (left r : Int) : Prop := r = -1 ∨ (0 ≤ r ∧ r + n + Sm L n = left)
set_option maxHeartbeats 1600000 in
theorem szZZ_some (b off n cap : Nat) (R : Nat → Value) (L : Nat → Nat) (left : Int) (w : World) (h0 : 0 ≤ left) (h1 : left ≤ 1048576) (h : 0 ≤ left - n)
    (hc : ∀ i, i < n → w.cell? ⟨b, off + i, none⟩ = some (R i) ∧ L i ≤ 9223372036854775807 ∧ ∃ ao c, R i = .slice ao (L i) c) :
    Calls Try.prog 48 #[.slice (some ⟨b, off, none⟩) n cap, .int .i64 left] w fun e w' => ∃ r, e = .returned (.int .i64 r) ∧ w = w' ∧ Told n L left r := by
  go_enter Try.func48, Try.ntmps48
  go_wp2_with fail
  go_loopw [1, 5] (fun l i wr => wr = w ∧ ∃ (k : Nat) (r : Int), k ≤ n ∧ i = .int .i64 k ∧ l = .int .i64 r ∧ 0 ≤ r ∧ r + n + Sm L k = left) (fun _ i _ => n - (intOf i).toNat)
  case atStart => exact ⟨rfl, 0, left - n, Nat.zero_le _, rfl, rfl, h, by simp [Sm]⟩
  case round =>
    obtain ⟨rfl, k, r, hk, rfl, rfl, hr0, hr⟩ := hrel
    by_cases hkn : k < n
    · obtain ⟨g1, gL, ao, c, gv⟩ := hc k hkn
      rw [gv] at g1
      clear hc gv
      by_cases hs : r - (L k : Int) < 0
      · go_wp2_with fail
        refine (szZ_left _ _ _ _ _ (by omega) (by omega) gL).mono ?_
        rintro e w1 ⟨rfl, rfl⟩
        rw [if_pos hs]
        go_wp2
        go_ret
        exact ⟨-1, rfl, rfl, Or.inl rfl⟩
      · go_wp2_with fail
        refine (szZ_left _ _ _ _ _ (by omega) (by omega) gL).mono ?_
        rintro e w1 ⟨rfl, rfl⟩
        rw [if_neg (by omega)]
        go_wp2
        go_roundw
        case rel => exact ⟨by trivial, k + 1, r - L k, by omega, by simp, rfl, by omega, by simp only [Sm]; omega⟩
        case measure => simp [intOf]; omega
    · obtain rfl : k = n := by omega
      clear hc
      go_wp2
      go_ret
      exact ⟨r, rfl, rfl, Or.inr ⟨hr0, hr⟩⟩
theorem szZZ_none (ao : Option Addr) (cap : Nat) (left : Int) (L : Nat → Nat) (w : World) (h0 : 0 ≤ left) (h1 : left ≤ 1048576) :
    Calls Try.prog 48 #[.slice ao 0 cap, .int .i64 left] w fun e w' => ∃ r, e = .returned (.int .i64 r) ∧ w = w' ∧ Told 0 L left r := by
  go_enter Try.func48, Try.ntmps48
  go_wp2_with fail
  refine wp_loop_rounds 1 ?_
  rw [rounds_succ]
  go_wp2
  go_ret
  exact ⟨left, rfl, rfl, Or.inr ⟨h0, by simp [Sm]⟩⟩
theorem szZZ_any {w : World} {v : Value} {n : Nat} {L : Nat → Nat} {F : Nat → Nat → Nat → Nat} (h : RdZZ w v n L F) (left : Int) (h0 : 0 ≤ left) (h1 : left ≤ 1048576) (hn : n ≤ 9223372036854775807) (hL : ∀ i, i < n → L i ≤ 9223372036854775807) :
    Calls Try.prog 48 #[v, .int .i64 left] w fun e w' => ∃ r, e = .returned (.int .i64 r) ∧ w = w' ∧ Told n L left r := by
  rcases h with ⟨ao, cap, rfl, rfl⟩ | ⟨b, off, cap, R, rfl, hc⟩
  · exact szZZ_none ao cap left L w h0 h1
  · by_cases hl : left - n < 0
    · exact (szZZ_short _ _ _ _ _ h0 h1 hn hl).mono fun e w' ⟨he, hw⟩ => ⟨-1, he, hw, Or.inl rfl⟩
    · exact szZZ_some b off n cap R L left w h0 h1 (by omega) fun i hi => ⟨(hc i hi).1, hL i hi, (hc i hi).2.form⟩
set_option maxHeartbeats 1600000 in
theorem eqZZ_some (b off cap b' off' cap' n : Nat) (R R' : Nat → Value) (L : Nat → Nat) (F : Nat → Nat → Nat → Nat) (o : Nat → Nat → Option Nat × Option Nat) (w : World) (hn : n ≤ 1000000000000) (hL : ∀ i, i < n → L i ≤ 1000000000000) (hs : ∀ i, i < n → w.cell? ⟨b, off + i, none⟩ = some (R i) ∧ RdM w (R i) (L i) 2 (F i))
    (ht : ∀ i, i < n → w.cell? ⟨b', off' + i, none⟩ = some (R' i) ∧ RdM w (R' i) (L i) 2 (F i)) (hf : ∀ i, i < n → ∀ j, j < L i → Zc (F i j 0) (F i j 1) (o i j)) :
    Calls Try.prog 52 #[.slice (some ⟨b, off, none⟩) n cap, .slice (some ⟨b', off', none⟩) n cap'] w fun e w' => e = .returned (.bool true) ∧ Below w.heap.size w w' := by
  have later : ∀ (wr : World) (p : Addr) {v : Value}, w.cell? p = some v → Below w.heap.size w wr → wr.cell? p = some v := fun wr p v h hb => (hb.cell (World.block_lt_of_cell? _ _ h)).trans h
  have HF : Hid (∀ i, i < n → ∀ j, j < L i → Zc (F i j 0) (F i j 1) (o i j)) := hf
  clear hf
  go_enter Try.func52, Try.ntmps52
  go_wp2_with fail
  go_loopw [5] (fun i wr => ∃ k : Nat, k ≤ n ∧ i = .int .i64 k ∧ Below w.heap.size w wr) (fun i _ => n - (intOf i).toNat)
  case atStart => exact ⟨0, Nat.zero_le _, rfl, Below.refl _ _⟩
  case round =>
    obtain ⟨k, hk, rfl, hb⟩ := hrel
    by_cases hkn : k < n
    · have p0 : ∀ W, Below w.heap.size w W → W.cell? ⟨b, off + k, none⟩ = some (R k) := fun W h => later W _ (hs k hkn).1 h
      have q0 : ∀ W, Below w.heap.size w W → W.cell? ⟨b', off' + k, none⟩ = some (R' k) := fun W h => later W _ (ht k hkn).1 h
      have CQ : Hid (∀ W, Below w.heap.size w W → Calls Try.prog 24 #[R k, R' k] W fun e w' => e = .returned (.bool true) ∧ Below W.heap.size W w') := fun W h => eqZS_any (o := o k) ((hs k hkn).2.later h) ((ht k hkn).2.later h) (hL k hkn) (HF.out k hkn) (HF.out k hkn)
      clear hs ht later HF hL
      go_wp2_with fail
      go_region_held (fun W => Below w.heap.size w W) (first | assumption | exact Below.drew ‹_›)
        (first | (go_at_call 24; refine (CQ.out _ (by first | assumption | exact Below.drew ‹_›)).mono ?_; rintro e w1 ⟨rfl, hb1⟩; have hR1 := box_step (Below.drew hb) hb1 (Nat.le_refl _)))
      have HB : Hid (Below w.heap.size w w1) := hR1
      clear hR1 hb1 p0 q0 CQ
      go_wp2
      go_roundw
      case rel => exact ⟨k + 1, by omega, by simp, HB.out⟩
      case measure => simp [intOf]; omega
    · obtain rfl : k = n := by omega
      clear hs ht later HF hL
      go_wp2
      go_ret
      exact ⟨rfl, hb⟩
theorem eqZZ_none (ao ao' : Option Addr) (cap cap' : Nat) (w : World) :
    Calls Try.prog 52 #[.slice ao 0 cap, .slice ao' 0 cap'] w fun e w' => e = .returned (.bool true) ∧ Below w.heap.size w w' := by
  go_enter Try.func52, Try.ntmps52
  go_wp2_with fail
  refine wp_loop_rounds 1 ?_
  rw [rounds_succ]
  go_wp2
  go_ret
  exact ⟨rfl, Below.refl _ _⟩
theorem eqZZ_any {w : World} {v v' : Value} {n : Nat} {L : Nat → Nat} {F : Nat → Nat → Nat → Nat} {o : Nat → Nat → Option Nat × Option Nat} (h : RdZZ w v n L F) (h' : RdZZ w v' n L F) (hn : n ≤ 1000000000000) (hL : ∀ i, i < n → L i ≤ 1000000000000) (hf : ∀ i, i < n → ∀ j, j < L i → Zc (F i j 0) (F i j 1) (o i j)) :
    Calls Try.prog 52 #[v, v'] w fun e w' => e = .returned (.bool true) ∧ Below w.heap.size w w' := by
  rcases h with ⟨ao, cap, rfl, rfl⟩ | ⟨b, off, cap, R, rfl, hc⟩
  · obtain ⟨ao', cap', rfl⟩ := h'.form
    exact eqZZ_none _ _ _ _ w
  · rcases h' with ⟨ao', cap', rfl, rfl⟩ | ⟨b', off', cap', R', rfl, hc'⟩
    · exact eqZZ_none _ _ _ _ w
    · exact eqZZ_some b off cap b' off' cap' n R R' L F o w hn hL hc hc' hf
theorem MatZ.anew {lo hi : Nat} {w w1 : World} {b : Nat} {bs : Nat → Nat} {n : Nat} {L : Nat → Nat} {F : Nat → Nat → Nat → Nat} (h : MatZ lo hi w b bs n L F) {k : Nat} (hk : k < n) {G : Nat → Nat → Nat} (hw : Within (bs k) (bs k + 1) w w1)
    (hs : SegM w1 (bs k) 75 (L k) 2 G) : MatZ lo hi w1 b bs n L (fun i => if i = k then G else F i) := by
  have key : ∀ c, c ≠ bs k → c < w.heap.size → w1.heap[c]? = w.heap[c]? := fun c h1 h2 => by
    by_cases e : c < bs k
    · exact hw.below.block c e
    · exact hw.above c (by omega) h2
  refine ⟨h.top.of_block (key _ (h.bne k hk) h.top.lt), fun r hr => ?_, h.blo, h.bhi, h.rlo, h.rhi, h.bne, h.apart⟩
  by_cases e : r = k
  · subst e
    simp only [if_true]
    exact hs
  · simp only [e, if_false]
    exact (h.row r hr).of_block (key _ (fun c => e (h.apart r k hr hk c)) (h.row r hr).lt)
set_option maxHeartbeats 1600000 in
theorem markZZ_own {lo hi : Nat} {w : World} {v : Value} {n : Nat} {L : Nat → Nat} {F : Nat → Nat → Nat → Nat} (h : OwM lo hi w v n L F) (k0 : Int) (h0 : 0 ≤ k0) (h1 : k0 + n + 2 * Sm L n ≤ 100000000000) :
    Calls Try.prog 53 #[v, .int .i64 k0] w fun e w' => e = .returned (.int .i64 (k0 + 2 * Sm L n)) ∧ True ∧ Within lo hi w w' ∧ w'.heap.size = w.heap.size := by
  obtain ⟨b, bs, rfl, h⟩ := h
  go_enter Try.func53, Try.ntmps53
  go_wp2_with fail
  go_loopw [1, 5] (fun q i wr => ∃ (k : Nat) (G : Nat → Nat → Nat → Nat), k ≤ n ∧ i = .int .i64 k ∧ q = .int .i64 (k0 + 2 * Sm L k) ∧ MatZ lo hi wr b bs n L G ∧ Within lo hi w wr ∧ wr.heap.size = w.heap.size) (fun _ i _ => n - (intOf i).toNat)
  case atStart => exact ⟨0, F, Nat.zero_le _, rfl, by simp [Sm], h, Within.refl _ _ _, rfl⟩
  case round =>
    obtain ⟨k, G, hk, rfl, rfl, hm, hb, hz⟩ := hrel
    clear h
    by_cases hkn : k < n
    · have g1 : wr.cell? ⟨b, k, none⟩ = some (.slice (some ⟨bs k, 0, none⟩) (L k) (L k)) := by simpa using hm.top.cell hkn
      have hS1 := Sm_le (L := L) (show k + 1 ≤ n by omega)
      have hS2 : Sm L (k + 1) = Sm L k + L k := rfl
      have CM : Hid (Calls Try.prog 25 #[.slice (some ⟨bs k, 0, none⟩) (L k) (L k), .int .i64 (k0 + 2 * Sm L k)] wr fun e w' => e = .returned (.int .i64 (k0 + 2 * Sm L (k + 1))) ∧ (MatZ lo hi w' b bs n L (fun i => if i = k then mz (k0 + 2 * Sm L k) else G i) ∧ Within lo hi w w' ∧ w'.heap.size = w.heap.size)) := by
        refine (markZS_some (bs k) (L k) (L k) (G k) (k0 + 2 * Sm L k) wr (by omega) (by omega) (hm.row k hkn)).mono ?_
        rintro e w' ⟨rfl, a, c, z⟩
        refine ⟨?_, hm.anew hkn c a, hb.trans (c.mono (hm.rlo k hkn) (by have := hm.rhi k hkn; omega)), by omega⟩
        congr 2
        omega
      clear hm hb hz hS1 hS2
      go_wp2_with fail
      refine CM.out.mono ?_
      rintro e w1 ⟨rfl, h9⟩
      replace h9 : Hid _ := h9
      clear CM g1
      go_wp2
      go_roundw
      case rel => exact ⟨k + 1, _, by omega, by simp, rfl, h9.out.1, h9.out.2.1, h9.out.2.2⟩
      case measure => simp [intOf]; omega
    · obtain rfl : k = n := by omega
      go_wp2
      go_ret
      exact ⟨rfl, trivial, hb, hz⟩
theorem cells32 : Try.prog.cellsOf 32 = 1 := by kernel_rfl
set_option maxRecDepth 100000 in
theorem zrow_trod {H : Type} {enc : TypeId × Value → H} {W : World} {base : Nat} {spare : Nat → Bool} {held : Bool} {fuel : Nat} {c : Value} {x : DataW H × List MemPlace} (hf : DataW.trod enc Try.prog W base spare held fuel 32 [c] = some x) :
    ∃ (n : Nat) (f : Nat → Nat → Nat), RdM W c n 2 f ∧ n ≤ 9223372036854775807 ∧ ∀ i, i < n → Zc (f i 0) (f i 1) (clZ f i) := by
  rcases DataW.trod_slice Try.underlying32 hf with ⟨hcs0, _⟩ | ⟨a, len', cap', elems, rest, n, _, hcs0, _, _, hl, hm, hlen, hel, _, _⟩
  · simp at hcs0
    subst hcs0
    exact ⟨0, fun _ _ => 0, Or.inl ⟨_, _, rfl, rfl⟩, by omega, fun i hi => by omega⟩
  simp at hcs0
  subst hcs0
  rw [maxLen_eq] at hm
  by_cases h0 : len' = 0
  · subst h0
    exact ⟨0, fun _ _ => 0, Or.inl ⟨_, _, rfl, rfl⟩, by omega, fun i hi => by omega⟩
  obtain ⟨f, h1, h2⟩ := rdm_of (W := W) (a := a) (len := len') (cap := cap') (m := 2) (by omega) (by omega) (by
    intro i hi
    have h1 := hel i hi
    rw [cells31] at h1
    obtain ⟨y, hy⟩ : ∃ y, elems[i]? = some y := ⟨elems[i]'(by omega), List.getElem?_eq_getElem (by omega)⟩
    rw [hy, Option.bind_eq_some_iff] at h1
    obtain ⟨cs', hcs, hy'⟩ := h1
    obtain ⟨_, hcl, hce⟩ := World.cells?_some hcs
    match cs', hcl with
    | [c0, c1], _ =>
      obtain ⟨u, v, rfl, rfl, hu, hv⟩ := trod_z hy'
      refine ⟨fun j => if j = 0 then u else v, fun j hj => ?_⟩
      match j, hj with
      | 0, _ => exact ⟨hce 0 (by omega), hu⟩
      | 1, _ => exact ⟨hce 1 (by omega), hv⟩)
  exact ⟨len', f, h1, by omega, fun i hi => ⟨h2 i hi 0 (by omega), h2 i hi 1 (by omega), rfl⟩⟩
set_option maxRecDepth 100000 in
theorem open_zmat {H : Type} {enc : TypeId × Value → H} {W : World} {base : Nat} {v : Value} {d : DataW H} {p : List MemPlace} (hv : Value.okWide Try.prog W .any base 59 v)
    (h : DataW.Trod enc Try.prog W 0 (fun _ => true) true 59 v d p) : ∃ (n : Nat) (LF : (Nat → Nat) × (Nat → Nat → Nat → Nat)), RdZZ W v n LF.1 LF.2 ∧ n ≤ 9223372036854775807 ∧ ∀ i, i < n → LF.1 i ≤ 9223372036854775807 ∧ ∀ j, j < LF.1 i → Zc (LF.2 i j 0) (LF.2 i j 1) (clZ (LF.2 i) j) := by
  obtain ⟨a0, len, cap, rfl⟩ := okWide_slice Try.underlying59 hv
  obtain ⟨fuel, hf⟩ := h
  rcases DataW.trod_slice Try.underlying59 hf with ⟨hcs0, _⟩ | ⟨a, len', cap', elems, rest, n, _, hcs0, _, _, hl, hm, hlen, hel, _, _⟩
  · simp [Value.cells] at hcs0
    obtain ⟨rfl, rfl, rfl⟩ := hcs0
    exact ⟨0, (fun _ => 0, fun _ _ _ => 0), Or.inl ⟨_, _, rfl, rfl⟩, by omega, fun i hi => by omega⟩
  simp [Value.cells] at hcs0
  obtain ⟨rfl, rfl, rfl⟩ := hcs0
  rw [maxLen_eq] at hm
  by_cases h0 : len = 0
  · subst h0
    exact ⟨0, (fun _ => 0, fun _ _ _ => 0), Or.inl ⟨_, _, rfl, rfl⟩, by omega, fun i hi => by omega⟩
  have each : ∀ i, i < len → ∃ (q : Value × Nat × (Nat → Nat → Nat)), W.cell? (a.add i) = some q.1 ∧ RdM W q.1 q.2.1 2 q.2.2 ∧ q.2.1 ≤ 9223372036854775807 ∧ ∀ j, j < q.2.1 → Zc (q.2.2 j 0) (q.2.2 j 1) (clZ q.2.2 j) := by
    intro i hi
    have h1 := hel i hi
    rw [cells32] at h1
    obtain ⟨y, hy⟩ : ∃ y, elems[i]? = some y := ⟨elems[i]'(by omega), List.getElem?_eq_getElem (by omega)⟩
    rw [hy, Option.bind_eq_some_iff] at h1
    obtain ⟨cs', hcs, hy'⟩ := h1
    obtain ⟨_, hcl, hce⟩ := World.cells?_some hcs
    match cs', hcl with
    | [c0], _ =>
      obtain ⟨m, f, r1, r2, r3⟩ := zrow_trod hy'
      refine ⟨(c0, m, f), ?_, r1, r2, r3⟩
      have := hce 0 (by omega)
      rw [Nat.mul_one] at this
      obtain ⟨b, o, spot⟩ := a
      simpa [Addr.add] using this
  obtain ⟨b, o, spot⟩ := a
  have hspot : spot = none := by
    obtain ⟨q, hq, _⟩ := each 0 (by omega)
    simpa [Addr.add] using World.cell?_spot hq
  subst hspot
  have each2 : ∀ i, i < len → ∃ (q : Value × Nat × (Nat → Nat → Nat)), W.cell? ⟨b, o + i, none⟩ = some q.1 ∧ RdM W q.1 q.2.1 2 q.2.2 ∧ q.2.1 ≤ 9223372036854775807 ∧ ∀ j, j < q.2.1 → Zc (q.2.2 j 0) (q.2.2 j 1) (clZ q.2.2 j) := by
    intro i hi
    obtain ⟨q, h1, h2⟩ := each i hi
    rw [add_plain] at h1
    exact ⟨q, h1, h2⟩
  let Q : Nat → Value × Nat × (Nat → Nat → Nat) := fun i => if hi : i < len then (each2 i hi).choose else (.slice none 0 0, 0, fun _ _ => 0)
  have hQ : ∀ i, i < len → W.cell? ⟨b, o + i, none⟩ = some (Q i).1 ∧ RdM W (Q i).1 (Q i).2.1 2 (Q i).2.2 ∧ (Q i).2.1 ≤ 9223372036854775807 ∧ ∀ j, j < (Q i).2.1 → Zc ((Q i).2.2 j 0) ((Q i).2.2 j 1) (clZ (Q i).2.2 j) := by
    intro i hi
    have e : Q i = (each2 i hi).choose := by simp only [Q, hi, dif_pos]
    rw [e]
    exact (each2 i hi).choose_spec
  exact ⟨len, (fun i => (Q i).2.1, fun i => (Q i).2.2), Or.inr ⟨b, o, cap, fun i => (Q i).1, rfl, fun i hi => ⟨(hQ i hi).1, (hQ i hi).2.1⟩⟩, by omega, fun i hi => (hQ i hi).2.2⟩
end Go.Proofs.Ytgidoceflkdklaa
