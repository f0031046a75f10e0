/- A list that a function builds beside its answer's own block. -/
import Derived.Test.YtdknclkecbdpgaaDoorAn
import Derived.Test.YtdknclkecbdpgaaDoorCk
namespace Go.Proofs.YtdknclkecbdpgaaDoor
open Go.RowKit
set_option linter.unusedVariables false
set_option linter.unusedSimpArgs false
/-- wr: the list v of n values F, owned from base on; the answer's block is untouched; all that was there is as it was. -/
structure Ls (w wr : World) (base : Nat) (t : TypeId) (v : Value) (n : Nat) (F : Nat → Value) (cs : Array Value) (T : TypeId) : Prop where
  own : wr.ownsRow base t 1 v n (vl F n)
  box : Blk wr w.heap.size cs T
  below : Below w.heap.size w wr
  lb : w.heap.size + 1 ≤ base
  lt : base ≤ wr.heap.size
namespace Ls
variable {w wr w3 : World} {base : Nat} {t T : TypeId} {v v1 : Value} {n : Nat} {F : Nat → Value} {cs : Array Value}
theorem push (h : Ls w wr base t v n F cs T) {o : Obj} (own3 : w3.ownsRow base t 1 v1 (n + 1) (vl F n ++ [F n])) (grow3 : (wr.alloc o).grownBy w3 v.ownBlock) : Ls w w3 base t v1 (n + 1) F cs T := by
  have b3 : Below base wr w3 := push_below h.own grow3 (Below.refl _ _) h.lt
  refine ⟨by rw [← vl_push]; exact own3, (b3.block _ (by have := h.lb; omega)).trans h.box, h.below.trans (b3.mono (by have := h.lb; omega)), h.lb, Nat.le_trans h.lt b3.size⟩
theorem push' (h : Ls w wr base t v n F cs T) {o : Obj} {us : List Value} (own3 : w3.ownsRow base t 1 v1 (n + 1) us) (hus : us = vl F n ++ [F n]) (grow3 : (wr.alloc o).grownBy w3 v.ownBlock) : Ls w w3 base t v1 (n + 1) F cs T := by
  subst hus
  exact h.push own3 grow3
theorem later (h : Ls w wr base t v n F cs T) (b : Below wr.heap.size wr w3) : Ls w w3 base t v n F cs T :=
  ⟨owns_later h.own b, h.box.later b, h.below.trans (b.mono h.below.size), h.lb, Nat.le_trans h.lt b.size⟩
theorem drew (h : Ls w wr base t v n F cs T) : Ls w wr.drew base t v n F cs T := ⟨h.own, h.box, h.below.drew, h.lb, h.lt⟩
theorem form (h : Ls w wr base t v n F cs T) : ∃ ao cap, v = .slice ao n cap := (owned_vl h.own).form
/-- The answer's two cells are stored. -/
theorem told (h : Ls w wr base t v n F cs T) (x y : Value) : OwS t w.heap.size ((wr.setCell ⟨w.heap.size, 0, none⟩ x).setCell ⟨w.heap.size, 1, none⟩ y).heap.size ((wr.setCell ⟨w.heap.size, 0, none⟩ x).setCell ⟨w.heap.size, 1, none⟩ y) v n F ∧ Below w.heap.size w ((wr.setCell ⟨w.heap.size, 0, none⟩ x).setCell ⟨w.heap.size, 1, none⟩ y) := by
  refine ⟨?_, (h.below.setCell (by simp) _).setCell (by simp) _⟩
  rcases owned_vl h.own with ⟨e1, e2⟩ | ⟨g, cp, e1, h1, h2, h3⟩
  · exact Or.inl ⟨e1, e2⟩
  · have := h.lb
    exact Or.inr ⟨g, cp, e1, by omega, by simpa using h2, (h3.setOther (by simp; omega) _).setOther (by simp; omega) _⟩
theorem start (w : World) (w1 : World) (b : Below w.heap.size w w1) (hb : Blk w1 w.heap.size cs T) (F : Nat → Value) : Ls w (w1.alloc (.cells #[] t)) w1.heap.size t (.slice (some ⟨w1.heap.size, 0, none⟩) 0 0) 0 F cs T :=
  ⟨owns_empty _ _ _, hb.alloc _, b.alloc b.size _, hb.lt, by simp⟩
end Ls
theorem owns_one (w : World) (t : TypeId) (x : Value) (hx : x.oneCell' = true) : (w.alloc (.cells #[x] t)).ownsRow w.heap.size t 1 (.slice (some ⟨w.heap.size, 0, none⟩) 1 1) 1 [x] :=
  ⟨by simp, Or.inr ⟨w.heap.size, 1, #[x], rfl, Nat.le_refl _, heap_alloc_new _ _, Nat.le_refl _, by decide, by simp, by simp⟩⟩
/-! ### Symbols -/
def okS (F : Nat → Int) : Nat → Bool
  | 0 => true
  | k + 1 => okS F k && (decide (0 ≤ F k) && decide (F k < 4))
theorem okS_at {F : Nat → Int} : ∀ {n : Nat}, okS F n = true → ∀ i, i < n → 0 ≤ F i ∧ F i < 4
  | 0, _, i, hi => by omega
  | n + 1, h, i, hi => by
    simp [okS] at h
    by_cases e : i = n
    · subst e; exact h.2
    · exact okS_at h.1 i (by omega)
theorem okS_no {F : Nat → Int} {n k : Nat} (hk : k < n) (h : F k < 0 ∨ 4 ≤ F k) : okS F n = false := by
  cases hb : okS F n
  · rfl
  · have := okS_at hb k hk; omega
def symc (F : Nat → Int) (n : Nat) : Int := if 10000 < n then 2 else if okS F n = true then 0 else 3
theorem symc_many {F : Nat → Int} {n : Nat} (h : 10000 < n) : symc F n = 2 := by unfold symc; rw [if_pos h]
theorem symc_bad {F : Nat → Int} {n k : Nat} (hn : ¬ 10000 < n) (hk : k < n) (h : F k < 0 ∨ 4 ≤ F k) : symc F n = 3 := by unfold symc; rw [if_neg hn, okS_no hk h]; simp
theorem symc_ok {F : Nat → Int} {n : Nat} (hn : ¬ 10000 < n) (h : okS F n = true) : symc F n = 0 := by unfold symc; rw [if_neg hn, if_pos h]
theorem symc_0 {F : Nat → Int} {n : Nat} (h : symc F n = 0) : n ≤ 10000 ∧ okS F n = true := by
  unfold symc at h
  split at h
  · omega
  · split at h
    · rename_i h1 h2; exact ⟨by omega, h2⟩
    · omega
abbrev RdI (w : World) (v : Value) (n : Nat) (F : Nat → Int) : Prop := RdG w v n (fun i => .int .i64 (F i))
set_option maxHeartbeats 1600000 in
theorem iSym_any {w : World} {v : Value} {n : Nat} {F : Nat → Int} (h : RdI w v n F) (hm : n ≤ 1000000000000) :
    Calls Tryd.prog 111 #[v] w fun e w' => e = .returned (er (symc F n)) ∧ w' = w := by
  by_cases hn : (10000 : Int) < n
  · obtain ⟨ao, cap, rfl⟩ := h.form
    rw [symc_many (by omega), er_c (by decide)]
    clear h
    go_enter Tryd.func111, Tryd.ntmps111
    go_wp2
    go_ret
    exact ⟨rfl, rfl⟩
  have hn' : ¬ 10000 < n := by omega
  rcases h with ⟨ao, cap, rfl, rfl⟩ | ⟨b, off, cap, rfl, hc⟩
  · rw [symc_ok hn' rfl, er_0]
    go_enter Tryd.func111, Tryd.ntmps111
    go_wp2_with fail
    refine wp_loop_rounds 1 ?_
    rw [rounds_succ]
    go_wp2
    go_ret
    exact ⟨rfl, rfl⟩
  have HC : Hid (∀ i, i < n → w.cell? ⟨b, off + i, none⟩ = some (.int .i64 (F i))) := hc
  clear hc
  go_enter Tryd.func111, Tryd.ntmps111
  go_wp2_with fail
  go_loopw [12] (fun i wr => ∃ k : Nat, k ≤ n ∧ i = .int .i64 k ∧ okS F k = true ∧ wr = w) (fun i _ => n - (intOf i).toNat)
  case atStart => exact ⟨0, Nat.zero_le _, rfl, rfl, rfl⟩
  case round =>
    obtain ⟨k, hk, rfl, hok, rfl⟩ := hrel
    by_cases hkn : k < n
    · have g1 := HC.out k hkn
      by_cases h0 : F k < 0
      · have HS : Hid (symc F n = 3) := symc_bad hn' hkn (Or.inl h0)
        go_wp2
        go_ret
        exact ⟨by rw [HS.out, er_c (by decide)]; rfl, rfl⟩
      by_cases h1 : 4 ≤ F k
      · have HS : Hid (symc F n = 3) := symc_bad hn' hkn (Or.inr h1)
        go_wp2
        go_ret
        exact ⟨by rw [HS.out, er_c (by decide)]; rfl, rfl⟩
      have HK : Hid (okS F (k + 1) = true) := by show _ = _; simp [okS, hok]; omega
      clear hok
      go_wp2
      go_roundw
      case rel => exact ⟨k + 1, by omega, by simp, HK.out, by first | rfl | trivial⟩
      case measure => simp [intOf]; omega
    · obtain rfl : k = n := by omega
      have HS : Hid (symc F k = 0) := symc_ok hn' hok
      clear hok
      go_wp2
      go_ret
      exact ⟨by rw [HS.out, er_0]; rfl, rfl⟩
set_option maxHeartbeats 1600000 in
theorem sSym_any {w : World} {v : Value} {n : Nat} {F : Nat → Int} (h : RdI w v n F) (hm : n ≤ 1000000000000) :
    Calls Tryd.prog 110 #[v] w fun e w' => e = .returned (.int .i64 (symc F n)) ∧ w' = w := by
  by_cases hn : (10000 : Int) < n
  · obtain ⟨ao, cap, rfl⟩ := h.form
    rw [symc_many (by omega)]
    clear h
    go_enter Tryd.func110, Tryd.ntmps110
    go_wp2
    go_ret
    exact ⟨rfl, rfl⟩
  have hn' : ¬ 10000 < n := by omega
  rcases h with ⟨ao, cap, rfl, rfl⟩ | ⟨b, off, cap, rfl, hc⟩
  · rw [symc_ok hn' rfl]
    go_enter Tryd.func110, Tryd.ntmps110
    go_wp2_with fail
    refine wp_loop_rounds 1 ?_
    rw [rounds_succ]
    go_wp2
    go_ret
    exact ⟨rfl, rfl⟩
  have HC : Hid (∀ i, i < n → w.cell? ⟨b, off + i, none⟩ = some (.int .i64 (F i))) := hc
  clear hc
  go_enter Tryd.func110, Tryd.ntmps110
  go_wp2_with fail
  go_loopw [3] (fun i wr => ∃ k : Nat, k ≤ n ∧ i = .int .i64 k ∧ okS F k = true ∧ wr = w) (fun i _ => n - (intOf i).toNat)
  case atStart => exact ⟨0, Nat.zero_le _, rfl, rfl, rfl⟩
  case round =>
    obtain ⟨k, hk, rfl, hok, rfl⟩ := hrel
    by_cases hkn : k < n
    · have g1 := HC.out k hkn
      by_cases h0 : F k < 0
      · have HS : Hid (symc F n = 3) := symc_bad hn' hkn (Or.inl h0)
        go_wp2
        go_ret
        exact ⟨by rw [HS.out]; rfl, rfl⟩
      by_cases h1 : 4 ≤ F k
      · have HS : Hid (symc F n = 3) := symc_bad hn' hkn (Or.inr h1)
        go_wp2
        go_ret
        exact ⟨by rw [HS.out]; rfl, rfl⟩
      have HK : Hid (okS F (k + 1) = true) := by show _ = _; simp [okS, hok]; omega
      clear hok
      go_wp2
      go_roundw
      case rel => exact ⟨k + 1, by omega, by simp, HK.out, by first | rfl | trivial⟩
      case measure => simp [intOf]; omega
    · obtain rfl : k = n := by omega
      have HS : Hid (symc F k = 0) := symc_ok hn' hok
      clear hok
      go_wp2
      go_ret
      exact ⟨by rw [HS.out]; rfl, rfl⟩
end Go.Proofs.YtdknclkecbdpgaaDoor
