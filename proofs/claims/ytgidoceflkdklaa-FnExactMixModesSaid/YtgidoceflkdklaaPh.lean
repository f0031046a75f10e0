/- A field's numbers turned one by one: both packages. -/
import Derived.Test.YtgidoceflkdklaaWf
import Derived.Test.YtgidoceflkdklaaIt
import Derived.Test.YtgidoceflkdklaaPw
import Derived.Deep.RegionHeld3
import Derived.Handy
namespace Go.Proofs.Ytgidoceflkdklaa
open Go.RowKit Fl
set_option linter.unusedVariables false
set_option linter.unusedSimpArgs false
/-- The code: the field's own, else that of unlike lengths. -/
def phf (n m : Nat) : Int := if Wv.wf n = 0 then (if n = m then 0 else 1) else Wv.wf n
def phC (o : Nat → Option Nat × Option Nat) (p : Nat → Int) (i : Nat) : Option Nat × Option Nat := mulC (o i) (turnC (p i))
def zrow (F : Nat → Nat → Nat) (i : Nat) : List Value := [.float .f64 (F i 0), .float .f64 (F i 1)]
theorem zrow_congr {F G : Nat → Nat → Nat} : ∀ n, (∀ i, i < n → ∀ j, j < 2 → F i j = G i j) → flat (zrow F) n = flat (zrow G) n
  | 0, _ => rfl
  | n + 1, h => by rw [flat_succ, flat_succ, zrow_congr n fun i hi => h i (by omega), zrow, zrow, h n (by omega) 0 (by omega), h n (by omega) 1 (by omega)]
theorem owned_zs {w : World} {base n : Nat} {v : Value} {F : Nat → Nat → Nat} (h : w.ownsRow base 75 2 v n (flat (zrow F) n)) : OwZ base w.heap.size w v n F := by
  obtain ⟨hl, h | ⟨g, cap, cur, hv, hg, hh, h1, h2, h3, h4⟩⟩ := h
  · refine Or.inl ⟨h.1, ?_⟩
    have := flat_len (F := zrow F) (m := 2) (fun i => rfl) n
    rw [h.2] at this
    simp at this
    omega
  · refine Or.inr ⟨g, cap, hv, hg, (Array.getElem?_eq_some_iff.1 hh).1, cur, hh, fun i hi j hj => ?_⟩
    have h5 := flat_at (F := zrow F) (m := 2) (fun i => rfl) (n := n) hi hj
    rw [← h4, List.getElem?_take_of_lt (by omega), Array.getElem?_toList] at h5
    rw [h5]
    match j, hj with
    | 0, _ => rfl
    | 1, _ => rfl
def upd (F : Nat → Nat → Nat) (k x y : Nat) : Nat → Nat → Nat := fun i j => if i = k then (if j = 0 then x else y) else F i j
theorem upd_zc {F : Nat → Nat → Nat} {O : Nat → Option Nat × Option Nat} {k x y : Nat} (h : ∀ i, i < k → Zc (F i 0) (F i 1) (O i)) (z : Zc x y (O k)) : ∀ i, i < k + 1 → Zc (upd F k x y i 0) (upd F k x y i 1) (O i) := by
  intro i hi
  unfold upd
  by_cases e : i = k
  · subst e; simpa using z
  · simpa [e] using h i (by omega)
theorem upd_push (F : Nat → Nat → Nat) (k x y : Nat) : flat (zrow F) k ++ [.float .f64 x, .float .f64 y] = flat (zrow (upd F k x y)) (k + 1) := by
  rw [flat_succ, zrow_congr k (F := F) (G := upd F k x y) fun i hi j hj => by simp [upd, show i ≠ k by omega]]
  simp [zrow, upd]
theorem SegM.upd {w : World} {b n : Nat} {F : Nat → Nat → Nat} (h : SegM w b 75 n 2 F) {k : Nat} (hk : k < n) (x y : Nat) : SegM ((w.setCell ⟨b, k * 2, none⟩ (.float .f64 x)).setCell ⟨b, k * 2 + 1, none⟩ (.float .f64 y)) b 75 n 2 (upd F k x y) := by
  have := (h.set hk (show 0 < 2 by omega) x).set hk (show 1 < 2 by omega) y
  rw [Nat.add_zero] at this
  refine this.congr fun i hi j hj => ?_
  unfold Go.Proofs.Ytgidoceflkdklaa.upd
  match j, hj with
  | 0, _ => by_cases e : i = k <;> simp [e]
  | 1, _ => by_cases e : i = k <;> simp [e]
theorem SegM.setOther {w : World} {b c o n : Nat} {F : Nat → Nat → Nat} (h : SegM w b 75 n 2 F) (hne : b ≠ c) (x : Value) : SegM (w.setCell ⟨c, o, none⟩ x) b 75 n 2 F := h.of_block (Below.heap_setCell _ _ _ _ hne)
theorem info75 : (Try.prog.info? 75).map (fun i => (i.zero, i.size, i.bytes)) = some (some (Zv 0 0), 2, 16) := by kernel_rfl
structure Pk (w wr : World) (v : Value) (O : Nat → Option Nat × Option Nat) (F : Nat → Nat → Nat) (k : Nat) : Prop where
  own : wr.ownsRow (w.heap.size + 1) 75 2 v k (flat (zrow F) k)
  cls : ∀ i, i < k → Zc (F i 0) (F i 1) (O i)
  res : Blk wr w.heap.size #[.int .i64 0, .slice none 0 0] 36
  below : Below w.heap.size w wr
  lt : w.heap.size + 1 ≤ wr.heap.size
theorem Pk.told {w W : World} {v : Value} {O : Nat → Option Nat × Option Nat} {F : Nat → Nat → Nat} {k : Nat} (h : Pk w W v O F k) (x y : Value) : OwZ w.heap.size ((W.setCell ⟨w.heap.size, 0, none⟩ x).setCell ⟨w.heap.size, 1, none⟩ y).heap.size ((W.setCell ⟨w.heap.size, 0, none⟩ x).setCell ⟨w.heap.size, 1, none⟩ y) v k F ∧ (∀ i, i < k → Zc (F i 0) (F i 1) (O i)) ∧ Below w.heap.size w ((W.setCell ⟨w.heap.size, 0, none⟩ x).setCell ⟨w.heap.size, 1, none⟩ y) := by
  refine ⟨?_, h.cls, (h.below.setCell (Nat.le_refl _) _).setCell (Nat.le_refl _) _⟩
  rcases owned_zs h.own with ⟨e1, e2⟩ | ⟨g, cp, e1, h1, h2, h3⟩
  · exact Or.inl ⟨e1, e2⟩
  · exact Or.inr ⟨g, cp, e1, by omega, by simpa using h2, (h3.setOther (by omega) _).setOther (by omega) _⟩
set_option maxRecDepth 20000 in
set_option maxHeartbeats 3200000 in
theorem sPhase_bad (ao bo : Option Addr) (n m cap cap' : Nat) (hn : n ≤ 1000000000000) (hm : m ≤ 1000000000000) (h : phf n m ≠ 0) (w : World) : ZX 30 #[.slice ao n cap, .slice bo m cap'] w (phf n m) 0 (fun _ => (none, none)) := by
  unfold ZX
  have A : Hid (∀ w, Calls Try.prog 58 #[.slice ao n cap] w fun e w' => e = .returned (.int .i64 (Wv.wf n)) ∧ w = w') := fun w => sFault_any ao n cap w
  by_cases hw : Wv.wf n = 0
  · have hne : n ≠ m := fun e => h (by unfold phf; rw [if_pos hw, if_pos e])
    rw [show phf n m = 1 by unfold phf; rw [if_pos hw, if_neg hne]]
    rw [hw] at A
    have hneI : (m : Int) ≠ (n : Int) := by omega
    have hneB : ((m : Int) != (n : Int)) = true := by simpa using hneI
    clear h hw
    go_enter Try.func30, Try.ntmps30
    go_wp2_with (first | (go_at_call 58; refine (A.out _).mono ?_; rintro e w1 ⟨rfl, rfl⟩))
    refine bodyPost_ret (v := Zl 1 (.slice none 0 0)) (by simp [results, Try.results30, go_sem]) rfl ⟨_, fun _ _ => 0, rfl, Or.inl ⟨rfl, rfl⟩, fun i hi => by omega, ?_⟩
    go_grown
  · rw [show phf n m = Wv.wf n by unfold phf; rw [if_neg hw]]
    clear h
    generalize Wv.wf n = c at *
    have hc : (c != 0) = true := by rw [bne_iff_ne]; exact hw
    clear hw
    go_enter Try.func30, Try.ntmps30
    go_wp2_with (first | (go_at_call 58; refine (A.out _).mono ?_; rintro e w1 ⟨rfl, rfl⟩))
    refine bodyPost_ret (v := Zl c (.slice none 0 0)) (by simp [results, Try.results30, go_sem]) rfl ⟨_, fun _ _ => 0, rfl, Or.inl ⟨rfl, rfl⟩, fun i hi => by omega, ?_⟩
    go_grown
set_option maxRecDepth 20000 in
set_option maxHeartbeats 3200000 in
theorem iPhase_bad (ao bo : Option Addr) (n m cap cap' : Nat) (hn : n ≤ 1000000000000) (hm : m ≤ 1000000000000) (h : phf n m ≠ 0) (w : World) : ZX 32 #[.slice ao n cap, .slice bo m cap'] w (phf n m) 0 (fun _ => (none, none)) := by
  unfold ZX
  have A : Hid (∀ w, Calls Try.prog 61 #[.slice ao n cap] w fun e w' => e = .returned (.int .i64 (Wv.wf n)) ∧ w = w') := fun w => iFault_any ao n cap w
  by_cases hw : Wv.wf n = 0
  · have hne : n ≠ m := fun e => h (by unfold phf; rw [if_pos hw, if_pos e])
    rw [show phf n m = 1 by unfold phf; rw [if_pos hw, if_neg hne]]
    rw [hw] at A
    have hneI : (m : Int) ≠ (n : Int) := by omega
    have hneB : ((m : Int) != (n : Int)) = true := by simpa using hneI
    clear h hw
    go_enter Try.func32, Try.ntmps32
    go_wp2_with (first | (go_at_call 61; refine (A.out _).mono ?_; rintro e w1 ⟨rfl, rfl⟩))
    refine bodyPost_ret (v := Zl 1 (.slice none 0 0)) (by simp [results, Try.results32, go_sem]) rfl ⟨_, fun _ _ => 0, rfl, Or.inl ⟨rfl, rfl⟩, fun i hi => by omega, ?_⟩
    go_grown
  · rw [show phf n m = Wv.wf n by unfold phf; rw [if_neg hw]]
    clear h
    generalize Wv.wf n = c at *
    have hc : (c != 0) = true := by rw [bne_iff_ne]; exact hw
    clear hw
    go_enter Try.func32, Try.ntmps32
    go_wp2_with (first | (go_at_call 61; refine (A.out _).mono ?_; rintro e w1 ⟨rfl, rfl⟩))
    refine bodyPost_ret (v := Zl c (.slice none 0 0)) (by simp [results, Try.results32, go_sem]) rfl ⟨_, fun _ _ => 0, rfl, Or.inl ⟨rfl, rfl⟩, fun i hi => by omega, ?_⟩
    go_grown
set_option maxRecDepth 20000 in
set_option maxHeartbeats 6400000 in
theorem sPhase_good (b off cap b' off' cap' n : Nat) (f : Nat → Nat → Nat) (o : Nat → Option Nat × Option Nat) (p : Nat → Int) (w : World) (hw : Wv.wf n = 0)
    (hc : ∀ i, i < n → ∀ j, j < 2 → w.cell? ⟨b, off + i * 2 + j, none⟩ = some (.float .f64 (f i j))) (hf : ∀ i, i < n → Zc (f i 0) (f i 1) (o i)) (hp : ∀ i, i < n → w.cell? ⟨b', off' + i, none⟩ = some (.int .i64 (p i))) :
    ZX 30 #[.slice (some ⟨b, off, none⟩) n cap, .slice (some ⟨b', off', none⟩) n cap'] w 0 n (phC o p) := by
  unfold ZX
  have hle := Wv.wf_le hw
  have A : Hid (∀ w, Calls Try.prog 58 #[.slice (some ⟨b, off, none⟩) n cap] w fun e w' => e = .returned (.int .i64 0) ∧ w = w') := fun w => by have := sFault_any (some ⟨b, off, none⟩) n cap w; rw [hw] at this; exact this
  have HC : Hid (∀ i, i < n → ∀ j, j < 2 → w.cell? ⟨b, off + i * 2 + j, none⟩ = some (.float .f64 (f i j))) := hc
  have HF : Hid (∀ i, i < n → Zc (f i 0) (f i 1) (o i)) := hf
  have HP : Hid (∀ i, i < n → w.cell? ⟨b', off' + i, none⟩ = some (.int .i64 (p i))) := hp
  clear hw hc hf hp
  go_enter Try.func30, Try.ntmps30
  go_wp2_with (first | (go_at_call 58; refine (A.out _).mono ?_; rintro e w1 ⟨rfl, rfl⟩))
  clear A
  go_loopw [6, 7] (fun v i wr => ∃ (k : Nat) (F : Nat → Nat → Nat), k ≤ n ∧ i = .int .i64 k ∧ Hid (Pk w wr v (phC o p) F k)) (fun _ i _ => n - (intOf i).toNat)
  case atStart =>
    refine ⟨0, fun _ _ => 0, Nat.zero_le _, rfl, ⟨?_, fun i hi => by omega, (Blk.new rfl).alloc _, ((Below.refl _ _).alloc (Nat.le_refl _) _).alloc (by simp) _, by simp⟩⟩
    have h := owns_empty (w.alloc (.cells #[.int .i64 0, .slice none 0 0] 36)) 75 2
    rw [show (w.alloc (.cells #[.int .i64 0, .slice none 0 0] 36)).heap.size = w.heap.size + 1 by simp] at h
    exact h
  case round =>
    obtain ⟨k, F, hk, rfl, HB⟩ := hrel
    by_cases hkn : k < n
    · have HZ := HF.out k hkn
      have k0 : ∀ W, Below w.heap.size w W → W.cell? ⟨b, off + k * 2, none⟩ = some (.float .f64 (f k 0)) := fun W hb => (hb.cell (World.block_lt_of_cell? _ _ (HC.out k hkn 0 (by omega)))).trans (HC.out k hkn 0 (by omega))
      have k1 : ∀ W, Below w.heap.size w W → W.cell? ⟨b, off + k * 2 + 1, none⟩ = some (.float .f64 (f k 1)) := fun W hb => (hb.cell (World.block_lt_of_cell? _ _ (HC.out k hkn 1 (by omega)))).trans (HC.out k hkn 1 (by omega))
      have k2 : ∀ W, Below w.heap.size w W → W.cell? ⟨b', off' + k, none⟩ = some (.int .i64 (p k)) := fun W hb => (hb.cell (World.block_lt_of_cell? _ _ (HP.out k hkn))).trans (HP.out k hkn)
      have hb0 : Below w.heap.size w wr := HB.out.below
      have hz0 : w.heap.size ≤ wr.heap.size := hb0.size
      have hk9 : k ≤ 1000000000 := by omega
      clear HC HF HP
      go_wp2_with fail
      go_region_held3 (fun W => Below w.heap.size w W) (go_grown) (first
        | (go_at_call 67; refine (sTurn_any _ _).mono ?_; rintro e w1 ⟨x1, y1, rfl, z1, hb1⟩; have B1 : Below w.heap.size w w1 := box_step (Below.drew hb0) hb1 (Nat.le_refl _))
        | (go_at_call 66; refine (sMul_any HZ z1 _).mono ?_; rintro e w2 ⟨x2, y2, rfl, z2, hb2⟩; have B2 : Below w.heap.size w w2 := box_step B1 hb2 (Nat.le_refl _); have O2 : Hid (w2.ownsRow (w.heap.size + 1) 75 2 u6 k (flat (zrow F) k)) := owns_later (owns_later (owns_later HB.out.own ((Below.refl _ _).drew)) hb1) hb2; have Z2 : Hid (w.heap.size + 1 ≤ w2.heap.size) := Nat.le_trans HB.out.lt (Nat.le_trans hb1.size hb2.size); have z2' : w.heap.size ≤ w2.heap.size := B2.size; have BL2 : Hid (Blk w2 w.heap.size #[.int .i64 0, .slice none 0 0] 36) := ((HB.out.res.drew).old hb1).old hb2)
        | (refine step_push (by rfl) (.tmp 27) (.tmp 38) 34 (by rfl) 75 (Zv 0 0) 2 16 Try.underlying34 info75 rfl (by decide) (by decide) w2 [.float .f64 x2, .float .f64 y2] rfl (by intro u hu; simp at hu; rcases hu with rfl | rfl <;> rfl) (w.heap.size + 1) u6 k _ (by rfl) O2.out 1 (by rfl) hk9 Z2.out ?_; rintro v1 w3 own3 grow3 ⟨g, cp, rfl⟩; have b3 : Below (w.heap.size + 1) w2 w3 := push_below O2.out grow3 (Below.refl _ _) Z2.out; have B3 : Below w.heap.size w w3 := B2.trans (b3.mono (by omega)); have HN : Hid (Pk w w3 (.slice (some ⟨g, 0, none⟩) (k + 1) cp) (phC o p) (upd F k x2 y2) (k + 1)) := ⟨by rw [← upd_push]; exact own3, upd_zc HB.out.cls z2, (b3.block _ (by omega)).trans BL2.out, B3, Nat.le_trans Z2.out b3.size⟩; clear own3 grow3))
      clear k0 k1 k2 HB O2 Z2 BL2
      go_wp2
      go_roundw
      case rel => exact ⟨k + 1, _, by omega, by simp, HN⟩
      case measure => simp [intOf]; omega
    · obtain rfl : k = n := by omega
      have c0 := HB.out.res.cell (j := 0) (v := .int .i64 0) rfl
      have c1 := HB.out.res.cell (j := 1) (v := .slice none 0 0) rfl
      have f0 := HB.out.res.frozen 0
      have f1 := HB.out.res.frozen 1
      obtain ⟨ao, cp, rfl⟩ := (owned_zs HB.out.own).form
      clear HC HF HP
      go_wp2
      refine bodyPost_ret (v := Zl 0 (.slice ao k cp)) (by simp [results, Try.results30, go_sem, c0, c1]) rfl ⟨_, F, rfl, HB.out.told _ _⟩
end Go.Proofs.Ytgidoceflkdklaa
