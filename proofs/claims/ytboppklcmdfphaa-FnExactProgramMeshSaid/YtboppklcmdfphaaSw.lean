/- SwapGuides of both packages: contracts. -/
import Derived.Test.YtboppklcmdfphaaRp
import Derived.Test.YtboppklcmdfphaaMq
import Derived.Test.YtboppklcmdfphaaSmul
namespace Go.Proofs.Ytboppklcmdfphaa
open Go.RowKit
set_option linter.unusedVariables false
set_option linter.unusedSimpArgs false
/-- What SwapGuides answers: its code; how wide, how many cells. -/
def swok (s i j : Int) : Bool := decide (1 ≤ s) && decide (s ≤ 24) && Rm.isG i s && Rm.isG j s
def swc (s i j : Int) : Int := if swok s i j = true then 0 else 1
def swsd (s i j : Int) : Int := if swok s i j = true then s else 0
def swnp (s i j : Int) : Nat := if swok s i j = true then s.toNat else 0
def swnc (s i j : Int) : Nat := if swok s i j = true ∧ i ≠ j then 1 else 0
theorem meO_four {lo : Nat} {W : World} {v0 v1 : Value} {np nc : Nat} {ph : Nat → Int} {C : Nat → Ce} {r : Nat} {a b c d : Value} (h : MeO lo W.heap.size W v0 v1 np ph nc C) (hr : r < lo) :
    MeO lo ((((W.setCell ⟨r, 0, none⟩ a).setCell ⟨r, 1, none⟩ b).setCell ⟨r, 2, none⟩ c).setCell ⟨r, 3, none⟩ d).heap.size ((((W.setCell ⟨r, 0, none⟩ a).setCell ⟨r, 1, none⟩ b).setCell ⟨r, 2, none⟩ c).setCell ⟨r, 3, none⟩ d) v0 v1 np ph nc C := by
  have := h.keep (w' := ((((W.setCell ⟨r, 0, none⟩ a).setCell ⟨r, 1, none⟩ b).setCell ⟨r, 2, none⟩ c).setCell ⟨r, 3, none⟩ d)) (fun k h1 _ => by
    rw [Below.heap_setCell _ _ _ _ (by show k ≠ r; omega), Below.heap_setCell _ _ _ _ (by show k ≠ r; omega), Below.heap_setCell _ _ _ _ (by show k ≠ r; omega), Below.heap_setCell _ _ _ _ (by show k ≠ r; omega)])
  simpa using this
theorem one_cell {W : World} {b : Nat} {g : Ce} (h : Blk W b #[.int .i64 g.i, .int .i64 g.j, .int .i64 g.a, .int .i64 g.b, .int .i64 g.c, .int .i64 g.d] 77) : SegV W b 77 1 6 (fun _ q => ccell g q) := by
  refine ⟨_, h, fun i hi q hq => ?_⟩
  obtain rfl : i = 0 := by omega
  match q, hq with
  | 0, _ => rfl
  | 1, _ => rfl
  | 2, _ => rfl
  | 3, _ => rfl
  | 4, _ => rfl
  | 5, _ => rfl
set_option maxRecDepth 20000 in
set_option maxHeartbeats 1600000 in
theorem iSw_bad (s i j : Int) (w : World) (h : swok s i j = false) : Calls Try.prog 51 #[.int .i64 s, .int .i64 i, .int .i64 j] w fun e w' => ∃ v0 v1, e = .returned (.agg #[.int .i64 (swc s i j), .int .i64 (swsd s i j), v0, v1]) ∧ MeO w.heap.size w'.heap.size w' v0 v1 (swnp s i j) (fun _ => 1) (swnc s i j) (fun _ => Rm.swapC i j) ∧ Below w.heap.size w w' := by
  have e1 : swc s i j = 1 := by simp [swc, h]
  have e2 : swsd s i j = 0 := by simp [swsd, h]
  have e3 : swnp s i j = 0 := by simp [swnp, h]
  have e4 : swnc s i j = 0 := by simp [swnc, h]
  rw [e1, e2, e3, e4]
  clear e1 e2 e3 e4
  have HB : Hid (Below w.heap.size w (w.alloc (.cells #[.int .i64 1, .int .i64 0, .slice none 0 0, .slice none 0 0] 61))) := (Below.refl _ _).alloc (Nat.le_refl _) _
  by_cases h1 : s < 1
  · clear h
    go_enter Try.func51, Try.ntmps51
    go_wp2_with (first | (go_at_call 88; refine (isG_any _ _ _).mono ?_; rintro e w1 ⟨rfl, rfl⟩))
    refine bodyPost_ret (v := .agg #[.int .i64 1, .int .i64 0, .slice none 0 0, .slice none 0 0]) (by simp [results, Try.results51, go_sem]) rfl ⟨_, _, rfl, MeO.nil _ _ _ _ _, HB.out⟩
  · by_cases h2 : 24 < s
    · clear h
      go_enter Try.func51, Try.ntmps51
      go_wp2_with (first | (go_at_call 88; refine (isG_any _ _ _).mono ?_; rintro e w1 ⟨rfl, rfl⟩))
      refine bodyPost_ret (v := .agg #[.int .i64 1, .int .i64 0, .slice none 0 0, .slice none 0 0]) (by simp [results, Try.results51, go_sem]) rfl ⟨_, _, rfl, MeO.nil _ _ _ _ _, HB.out⟩
    · cases h3 : Rm.isG i s with
      | false =>
        clear h
        go_enter Try.func51, Try.ntmps51
        go_wp2_with (first | (go_at_call 88; refine (isG_any _ _ _).mono ?_; rintro e w1 ⟨rfl, rfl⟩))
        refine bodyPost_ret (v := .agg #[.int .i64 1, .int .i64 0, .slice none 0 0, .slice none 0 0]) (by simp [results, Try.results51, go_sem]) rfl ⟨_, _, rfl, MeO.nil _ _ _ _ _, HB.out⟩
      | true =>
        have h4 : Rm.isG j s = false := by
          unfold swok at h
          rw [h3, decide_eq_true (show 1 ≤ s by omega), decide_eq_true (show s ≤ 24 by omega)] at h
          simpa using h
        clear h
        go_enter Try.func51, Try.ntmps51
        go_wp2_with (first | (go_at_call 88; refine (isG_any _ _ _).mono ?_; rintro e w1 ⟨rfl, rfl⟩))
        refine bodyPost_ret (v := .agg #[.int .i64 1, .int .i64 0, .slice none 0 0, .slice none 0 0]) (by simp [results, Try.results51, go_sem]) rfl ⟨_, _, rfl, MeO.nil _ _ _ _ _, HB.out⟩
set_option maxRecDepth 20000 in
set_option maxHeartbeats 1600000 in
theorem sSw_bad (s i j : Int) (w : World) (h : swok s i j = false) : Calls Try.prog 50 #[.int .i64 s, .int .i64 i, .int .i64 j] w fun e w' => ∃ v0 v1, e = .returned (.agg #[.int .i64 (swc s i j), .int .i64 (swsd s i j), v0, v1]) ∧ MeO w.heap.size w'.heap.size w' v0 v1 (swnp s i j) (fun _ => 1) (swnc s i j) (fun _ => Rm.swapC i j) ∧ Below w.heap.size w w' := by
  have e1 : swc s i j = 1 := by simp [swc, h]
  have e2 : swsd s i j = 0 := by simp [swsd, h]
  have e3 : swnp s i j = 0 := by simp [swnp, h]
  have e4 : swnc s i j = 0 := by simp [swnc, h]
  rw [e1, e2, e3, e4]
  clear e1 e2 e3 e4
  have HB : Hid (Below w.heap.size w (w.alloc (.cells #[.int .i64 1, .int .i64 0, .slice none 0 0, .slice none 0 0] 61))) := (Below.refl _ _).alloc (Nat.le_refl _) _
  by_cases h1 : s < 1
  · clear h
    go_enter Try.func50, Try.ntmps50
    go_wp2
    refine bodyPost_ret (v := .agg #[.int .i64 1, .int .i64 0, .slice none 0 0, .slice none 0 0]) (by simp [results, Try.results50, go_sem]) rfl ⟨_, _, rfl, MeO.nil _ _ _ _ _, HB.out⟩
  · by_cases h2 : 24 < s
    · clear h
      go_enter Try.func50, Try.ntmps50
      go_wp2
      refine bodyPost_ret (v := .agg #[.int .i64 1, .int .i64 0, .slice none 0 0, .slice none 0 0]) (by simp [results, Try.results50, go_sem]) rfl ⟨_, _, rfl, MeO.nil _ _ _ _ _, HB.out⟩
    · by_cases h3 : i < 0
      · clear h
        go_enter Try.func50, Try.ntmps50
        go_wp2
        refine bodyPost_ret (v := .agg #[.int .i64 1, .int .i64 0, .slice none 0 0, .slice none 0 0]) (by simp [results, Try.results50, go_sem]) rfl ⟨_, _, rfl, MeO.nil _ _ _ _ _, HB.out⟩
      · by_cases h4 : s ≤ i
        · clear h
          go_enter Try.func50, Try.ntmps50
          go_wp2
          refine bodyPost_ret (v := .agg #[.int .i64 1, .int .i64 0, .slice none 0 0, .slice none 0 0]) (by simp [results, Try.results50, go_sem]) rfl ⟨_, _, rfl, MeO.nil _ _ _ _ _, HB.out⟩
        · by_cases h5 : j < 0
          · clear h
            go_enter Try.func50, Try.ntmps50
            go_wp2
            refine bodyPost_ret (v := .agg #[.int .i64 1, .int .i64 0, .slice none 0 0, .slice none 0 0]) (by simp [results, Try.results50, go_sem]) rfl ⟨_, _, rfl, MeO.nil _ _ _ _ _, HB.out⟩
          · have h6 : s ≤ j := by
              unfold swok Rm.isG at h
              rw [decide_eq_true (show 1 ≤ s by omega), decide_eq_true (show s ≤ 24 by omega), decide_eq_true (show 0 ≤ i by omega), decide_eq_true (show i < s by omega), decide_eq_true (show 0 ≤ j by omega)] at h
              simp at h
              exact h
            clear h
            go_enter Try.func50, Try.ntmps50
            go_wp2
            refine bodyPost_ret (v := .agg #[.int .i64 1, .int .i64 0, .slice none 0 0, .slice none 0 0]) (by simp [results, Try.results50, go_sem]) rfl ⟨_, _, rfl, MeO.nil _ _ _ _ _, HB.out⟩
set_option maxRecDepth 20000 in
set_option maxHeartbeats 3200000 in
theorem iSw_any (s i j : Int) (w : World) : Calls Try.prog 51 #[.int .i64 s, .int .i64 i, .int .i64 j] w fun e w' => ∃ v0 v1, e = .returned (.agg #[.int .i64 (swc s i j), .int .i64 (swsd s i j), v0, v1]) ∧ MeO w.heap.size w'.heap.size w' v0 v1 (swnp s i j) (fun _ => 1) (swnc s i j) (fun _ => Rm.swapC i j) ∧ Below w.heap.size w w' := by
  cases h : swok s i j with
  | false => exact iSw_bad s i j w h
  | true =>
    have e1 : swc s i j = 0 := by simp [swc, h]
    have e2 : swsd s i j = s := by simp [swsd, h]
    have e3 : swnp s i j = s.toNat := by simp [swnp, h]
    have hw : 1 ≤ s ∧ s ≤ 24 ∧ Rm.isG i s = true ∧ Rm.isG j s = true := by
      unfold swok at h
      simp only [Bool.and_eq_true, decide_eq_true_eq] at h
      exact ⟨h.1.1.1, h.1.1.2, h.1.2, h.2⟩
    obtain ⟨h1, h2, h3, h4⟩ := hw
    obtain ⟨n, hn⟩ : ∃ n : Nat, (n : Int) = s := ⟨s.toNat, by omega⟩
    have e4 : swnc s i j = if i = j then 0 else 1 := by
      unfold swnc
      by_cases q : i = j
      · simp [q]
      · simp [h, q]
    rw [e1, e2, e3, e4, show s.toNat = n by omega]
    clear e1 e2 e3 e4 h
    rw [← hn] at h3 h4 ⊢
    have hn0 : 0 < n := by omega
    have hn24 : n ≤ 24 := by omega
    clear h1 h2 hn
    obtain ⟨X, hX⟩ : ∃ X, X = w.alloc (.cells #[.int .i64 0, .int .i64 0, .slice none 0 0, .slice none 0 0] 61) := ⟨_, rfl⟩
    have HX : Hid (Blk X w.heap.size #[.int .i64 0, .int .i64 0, .slice none 0 0, .slice none 0 0] 61 ∧ Below w.heap.size w X ∧ X.heap.size = w.heap.size + 1) := by rw [hX]; exact ⟨Blk.new rfl, (Below.refl _ _).alloc (Nat.le_refl _) _, by simp⟩
    by_cases hij : i = j
    · have hne : (i != j) = false := by simp [hij]
      rw [if_pos hij]
      clear hij
      go_enter Try.func51, Try.ntmps51
      go_wp2_with (first | (go_at_call 88; refine (isG_any _ _ _).mono ?_; rintro e w1 ⟨rfl, rfl⟩))
      rw [← hX]
      clear hX
      refine (clearM_any n _ hn0 hn24).mono ?_
      rintro e w1 ⟨g, rfl, hg, hs, hb⟩
      have zX := HX.out.2.2
      have H1 : Hid (Seg w1 g 2 0 n (fun _ => .int .i64 1) ∧ X.heap.size ≤ g ∧ Blk w1 w.heap.size #[.int .i64 0, .int .i64 0, .slice none 0 0, .slice none 0 0] 61 ∧ Below w.heap.size w w1) := ⟨hs, hg, HX.out.1.old hb, HX.out.2.1.trans (hb.mono (by omega))⟩
      have hgl : g < w1.heap.size := hs.lt
      have z1 : X.heap.size ≤ w1.heap.size := hb.size
      have hrl := H1.out.2.2.1.lt
      clear hs hb
      have r0 := H1.out.2.2.1.cell (j := 0) rfl
      have r1 := H1.out.2.2.1.cell (j := 1) rfl
      have r2 := H1.out.2.2.1.cell (j := 2) rfl
      have r3 := H1.out.2.2.1.cell (j := 3) rfl
      have rf := H1.out.2.2.1.frozen
      go_wp2
      refine bodyPost_ret (res_of (cs := #[.int .i64 0, .int .i64 (n : Int), .slice (some ⟨g, 0, none⟩) n n, .slice none 0 0]) Try.results51 rfl (((((H1.out.2.2.1.set 0 _ rfl).set 1 _ rfl).set 2 _ rfl).set 3 _ rfl).alloc _) Try.underlying61 (by kernel_rfl)) rfl ⟨_, _, rfl, ?_, ?_⟩
      · refine ⟨Or.inr ⟨g, n, rfl, by have := H1.out.2.1; omega, by simp; omega, ?_⟩, Or.inl ⟨_, _, rfl, rfl⟩⟩
        exact ((((H1.out.1.setOther (by have := H1.out.2.1; simp; omega) _).setOther (by have := H1.out.2.1; simp; omega) _).setOther (by have := H1.out.2.1; simp; omega) _).setOther (by have := H1.out.2.1; simp; omega) _).alloc _
      · have h1 := H1.out.2.2.2
        repeat (first | exact h1 | (refine Below.setCell ?_ (by simp) _) | (refine Below.alloc ?_ (by simp <;> omega) _))
    · have hne : (i != j) = true := by simp [hij]
      rw [if_neg hij]
      clear hij
      go_enter Try.func51, Try.ntmps51
      go_wp2_with (first | (go_at_call 88; refine (isG_any _ _ _).mono ?_; rintro e w1 ⟨rfl, rfl⟩))
      rw [← hX]
      clear hX
      refine (clearM_any n _ hn0 hn24).mono ?_
      rintro e w1 ⟨g, rfl, hg, hs, hb⟩
      have zX := HX.out.2.2
      have H1 : Hid (Seg w1 g 2 0 n (fun _ => .int .i64 1) ∧ X.heap.size ≤ g ∧ Blk w1 w.heap.size #[.int .i64 0, .int .i64 0, .slice none 0 0, .slice none 0 0] 61 ∧ Below w.heap.size w w1) := ⟨hs, hg, HX.out.1.old hb, HX.out.2.1.trans (hb.mono (by omega))⟩
      have hgl : g < w1.heap.size := hs.lt
      have z1 : X.heap.size ≤ w1.heap.size := hb.size
      have hrl := H1.out.2.2.1.lt
      clear hs hb
      go_wp2_with fail
      obtain ⟨Y, hY⟩ : ∃ Y, Y = w1.alloc (.cells #[.int .i64 (n : Int), .slice (some ⟨g, 0, none⟩) n n, .slice none 0 0] 49) := ⟨_, rfl⟩
      have HY : Hid (Blk Y w1.heap.size #[.int .i64 (n : Int), .slice (some ⟨g, 0, none⟩) n n, .slice none 0 0] 49 ∧ Seg Y g 2 0 n (fun _ => .int .i64 1) ∧ Blk Y w.heap.size #[.int .i64 0, .int .i64 0, .slice none 0 0, .slice none 0 0] 61 ∧ Below w.heap.size w Y ∧ w1.heap.size < Y.heap.size) := by
        rw [hY]; exact ⟨Blk.new rfl, H1.out.1.alloc _, H1.out.2.2.1.alloc _, H1.out.2.2.2.alloc (by omega) _, by simp⟩
      rw [← hY]
      clear hY
      refine (swap_any _ _ _).mono ?_
      rintro e w2 ⟨rfl, hb2⟩
      have H2 : Hid (Blk w2 w1.heap.size #[.int .i64 (n : Int), .slice (some ⟨g, 0, none⟩) n n, .slice none 0 0] 49 ∧ Seg w2 g 2 0 n (fun _ => .int .i64 1) ∧ Blk w2 w.heap.size #[.int .i64 0, .int .i64 0, .slice none 0 0, .slice none 0 0] 61 ∧ Below w.heap.size w w2 ∧ X.heap.size ≤ g) := by
        have z := HY.out.2.2.2.1.size
        exact ⟨HY.out.1.old hb2, HY.out.2.1.of_block (hb2.block g HY.out.2.1.lt), HY.out.2.2.1.old hb2, HY.out.2.2.2.1.trans (hb2.mono z), H1.out.2.1⟩
      have z2 : w1.heap.size < w2.heap.size := by have := hb2.size; have := HY.out.2.2.2.2; omega
      clear hb2 HY H1
      have r0 := H2.out.2.2.1.cell (j := 0) rfl
      have r1 := H2.out.2.2.1.cell (j := 1) rfl
      have r2 := H2.out.2.2.1.cell (j := 2) rfl
      have r3 := H2.out.2.2.1.cell (j := 3) rfl
      have rf := H2.out.2.2.1.frozen
      have b0 := H2.out.1.cell (j := 0) rfl
      have b1 := H2.out.1.cell (j := 1) rfl
      have b2 := H2.out.1.cell (j := 2) rfl
      have bf := H2.out.1.frozen
      have hwz : w.heap.size < w1.heap.size := by omega
      have hwl : w.heap.size < w2.heap.size := by omega
      go_wp2
      have hg := H2.out.2.2.2.2
      refine bodyPost_ret (res_of (cs := #[.int .i64 0, .int .i64 (n : Int), .slice (some ⟨g, 0, none⟩) n n, .slice (some ⟨w2.heap.size, 0, none⟩) 1 1]) Try.results51 rfl ((((((H2.out.2.2.1.setOther (by simp; omega) _).set 0 _ rfl).set 1 _ rfl).set 2 _ rfl).set 3 _ rfl).alloc _) Try.underlying61 (by kernel_rfl)) rfl ⟨_, _, rfl, ?_, ?_⟩
      · refine ⟨Or.inr ⟨g, n, rfl, by omega, by simp; omega, ?_⟩, Or.inr ⟨w2.heap.size, 1, rfl, by omega, by simp, one_cell (Blk.new (by simp))⟩⟩
        exact (((((H2.out.2.1.setOther (by simp; omega) _).setOther (by simp; omega) _).setOther (by simp; omega) _).setOther (by simp; omega) _).setOther (by simp; omega) _).alloc _
      · have h1 := H2.out.2.2.2.1
        repeat (first | exact h1 | (refine Below.setCell ?_ (by simp <;> omega) _) | (refine Below.alloc ?_ (by simp <;> omega) _))
end Go.Proofs.Ytboppklcmdfphaa
